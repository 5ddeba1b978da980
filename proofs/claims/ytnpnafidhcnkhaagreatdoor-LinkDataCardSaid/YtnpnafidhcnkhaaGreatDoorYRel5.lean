/- Package relax: tooFar: contract. -/
import Derived.Test.YtnpnafidhcnkhaaGreatDoorYRel1
import Derived.BigGuardPart
import Derived.Test.YtnpnafidhcnkhaaGreatDoorYLnk8
import Derived.Test.YtnpnafidhcnkhaaGreatDoorYLnkR
import Derived.Deep.AppendLies
namespace Go.Proofs.YtnpnafidhcnkhaaGreatDoor
open Go.RowKit
theorem info_intR : ∃ i : TypeInfo, Tryz.prog.info? 3 = some i ∧ i.zero = some (.int .i64 0) ∧ i.size = 1 ∧ i.bytes = 8 := info_parts (P := Tryz.prog) (e := 3) (z := .int .i64 0) (size := 1) (bytes := 8) (by kernel_rfl)
/-- the places lie in block g -/
structure SmAt (w : World) (g N : Nat) (L : List RIt) (B : List Bool) : Prop where
  lt : g < w.heap.size
  c0 : ∀ j, j < N → w.cell? ⟨g, j * 2, none⟩ = some (.int .u64 (smH (plR L B j)))
  c1 : ∀ j, j < N → w.cell? ⟨g, j * 2 + 1, none⟩ = some (.int .u64 (smL (plR L B j)))
theorem SmAt.kept {w w1 : World} {g N : Nat} {L : List RIt} {B : List Bool} {r : Option Nat} (h : SmAt w g N L B) (hg : w.grownBy w1 r) (hr : some g ≠ r) : SmAt w1 g N L B :=
  ⟨Nat.lt_of_lt_of_le h.lt hg.size, fun j hj => (grown_cell hg h.lt hr).trans (h.c0 j hj), fun j hj => (grown_cell hg h.lt hr).trans (h.c1 j hj)⟩
theorem SmAt.kept0 {w w1 : World} {g N : Nat} {L : List RIt} {B : List Bool} (h : SmAt w g N L B) (hg : w.grownBy w1 none) : SmAt w1 g N L B := h.kept hg (by simp)
theorem SmAt.own {w : World} {b g N : Nat} {L : List RIt} {B : List Bool} (h : w.ownsRow b 156 2 (.slice (some ⟨g, 0, none⟩) N N) N (smsC (plsR L B N))) : SmAt w g N L B :=
  ⟨(h.lt g rfl).2, fun j hj => by rw [h.cellAt (j * 2) (by omega)]; exact smsC_get0 _ _ _ (plsR_get hj), fun j hj => by rw [h.cellAt (j * 2 + 1) (by omega)]; exact smsC_get1 _ _ _ (plsR_get hj)⟩
structure TfW (W w : World) (g N : Nat) (L : List RIt) (B : List Bool) (v : Value) (k : Nat) : Prop where
  gr : W.grownBy w none
  sm : SmAt w g N L B
  own : w.ownsRow W.heap.size 3 1 v (farR L B k).length ((farR L B k).map (Value.int .i64))
  ne : v.ownBlock ≠ some g
theorem TfW.kept0 {W w w1 : World} {g N : Nat} {L : List RIt} {B : List Bool} {v : Value} {k : Nat} (h : TfW W w g N L B v k) (hg : w.grownBy w1 none) : TfW W w1 g N L B v k :=
  ⟨grown_trans h.gr hg, h.sm.kept0 hg, h.own.kept hg (by cases v.ownBlock <;> simp), h.ne⟩
theorem TfW.skip {W w : World} {g N : Nat} {L : List RIt} {B : List Bool} {v : Value} {k : Nat} (h : TfW W w g N L B v k) (hf : tooB L B k = false) : TfW W w g N L B v (k + 1) :=
  ⟨h.gr, h.sm, by rw [farR_succ_no hf]; exact h.own, h.ne⟩
set_option maxRecDepth 100000 in
set_option maxHeartbeats 8000000 in
theorem tooFar_rel {W : World} {v vb : Value} {L : List RIt} {B : List Bool} (h : RiAt W v L) (hb : BlAt W vb B) (hB : B.length = L.length) (hok : okR L = true) (hL : L.length ≤ 5000) :
    Calls Tryz.prog 70 #[v, vb] W fun e w' => ∃ u, e = .returned u ∧ w'.ownsRow W.heap.size 3 1 u (farR L B L.length).length ((farR L B L.length).map (Value.int .i64)) ∧ W.grownBy w' none := by
  obtain ⟨p, c, hv⟩ := h.len
  subst hv
  have HBl := hid hb
  obtain ⟨pb, cb, hvb⟩ := hb.len
  subst hvb
  have HBg := hid (begins_rel h hb hB hok hL)
  rw [hB] at HBg ⊢
  have HBle := hid hB
  have HA := hid h
  have HK := hid hok
  obtain ⟨n, hn⟩ : ∃ n, L.length = n := ⟨_, rfl⟩
  have HNe := hid hn
  rw [hn] at hL HBg ⊢
  obtain ⟨N, hN⟩ : ∃ N, n + 1 = N := ⟨_, rfl⟩
  have HN := hid hN
  rw [hN] at HBg
  have n0 : (0 : Int) ≤ (n : Int) := by omega
  have n1 : (n : Int) ≤ 5000 := by omega
  have nN : (n : Int) + 1 = (N : Int) := by omega
  have N1 : (N : Int) ≤ 5001 := by omega
  have HN1 := hid (show N ≤ 5001 by omega)
  clear h hb hB hok hL hn hN
  go_enter Tryz.func70, Tryz.ntmps70
  go_wp2_with fail
  refine (HBg.out).mono ?_
  rintro e w1 ⟨g, rfl, hown, hg⟩
  have HP : Hid (TfW W w1 g N L B (.slice none 0 0) 0) := hid ⟨hg, SmAt.own hown, World.ownsRow_nil _ _ _ _, by simp [Value.ownBlock]⟩
  clear hown hg HBg
  go_wp2
  go_loopw [6, 14] (fun v i wr => ∃ k : Nat, k ≤ n ∧ i = .int .i64 k ∧ Hid (TfW W wr g N L B v k)) (fun _ i _ => n - (intOf i).toNat)
  case atStart => exact ⟨0, Nat.zero_le _, rfl, HP⟩
  case round =>
    obtain ⟨k, hk, rfl, HR⟩ := hrel
    clear HP
    have k0 : (0 : Int) ≤ (k : Int) := by omega
    obtain ⟨up, uc, rfl⟩ := own_slice HR.out.own
    obtain ⟨M, hM⟩ : ∃ M, (farR L B k).length = M := ⟨_, rfl⟩
    have HM := hid hM
    have HMb : Hid (M ≤ 5000) := hid (by have := farR_length (L := L) (B := B) k; have := HN1.out; have := HN.out; omega)
    rw [hM] at HR ⊢
    clear hM
    by_cases hlt : k < n
    · have kn : (k : Int) < (n : Int) := by omega
      have kN : (k : Int) < (N : Int) := by omega
      have Hlt := hid hlt
      have HkN : Hid (k < N) := hid (by have := HN.out; omega)
      obtain ⟨r, hr⟩ : ∃ r, L[k]? = some r := ⟨_, List.getElem?_eq_getElem (by have := HNe.out; omega)⟩
      have hfar : tooB L B k = (r.b && !(B.getD k false) && !(nearR (plR L B r.t.toNat - plR L B k))) := by unfold tooB; rw [hr]
      have hrt : r.b = true → 0 ≤ r.t ∧ r.t ≤ (n : Int) := fun hb => by
        have := List.all_eq_true.1 HK.out r (List.mem_of_getElem? hr)
        simp only [okRI, Bool.and_eq_true, Bool.or_eq_true, Bool.not_eq_true', hb, decide_eq_true_eq, HNe.out] at this
        simpa using this.2
      obtain ⟨b, o, c', hv, hb, c0, c1, c2⟩ := RiAt.item (HA.out.kept0 HR.out.gr) hr
      simp only [Value.slice.injEq] at hv
      obtain ⟨rfl, -, -⟩ := hv
      obtain ⟨bb, ob, cb', hvb, hbb, cB⟩ := BlAt.item (HBl.out.kept0 HR.out.gr) (by rw [HBle.out, HNe.out]; exact hlt)
      simp only [Value.slice.injEq] at hvb
      obtain ⟨rfl, -, -⟩ := hvb
      obtain ⟨s, t, br⟩ := r
      simp only at c0 c1 c2 hfar hrt
      obtain ⟨bk, hbk⟩ : ∃ bk, B.getD k false = bk := ⟨_, rfl⟩
      rw [hbk] at cB hfar
      have HX := hid (RwAt.new wr 150 #[.int .i64 s, .int .i64 t, .bool br])
      have al := World.grownBy_alloc wr (.cells #[.int .i64 s, .int .i64 t, .bool br] 150) none
      have HQ := hid (HR.out.kept0 al)
      have HcB2 := hid (And.intro (Nat.lt_of_lt_of_le hbb al.size) ((grown_cell (p := ⟨bb, ob + k, none⟩) al hbb (by simp)).trans cB))
      have Hfar := hid hfar
      have Hrt := hid hrt
      clear hr hlt hb hk hbb cB HR hfar hrt hbk al
      go_upto_region 6 with (fail)
      obtain ⟨X, hX⟩ : ∃ X, wr.heap.size = X := ⟨_, rfl⟩
      rw [hX] at HX ⊢
      clear hX c0 c1 c2
      generalize wr.alloc (.cells #[.int .i64 s, .int .i64 t, .bool br] 150) = w2 at HX HQ HcB2 ⊢
      have HXl := hid HX.out.lt
      cases br
      · have HF : Hid (tooB L B k = false) := hid (by rw [Hfar.out]; simp)
        have x2 := HX.out.cell 2 (v := .bool false) rfl
        go_quiet (fail)
        go_wp2
        go_roundw
        case rel => exact ⟨k + 1, Hlt.out, by go_num, hid ((HQ.out.skip HF.out).kept0 (grown_drewN (grown_refl _ _) _))⟩
        case measure => simp [intOf]; have := Hlt.out; omega
      · cases bk
        · obtain ⟨T, rfl⟩ := Int.eq_ofNat_of_zero_le (Hrt.out rfl).1
          have hT := (Hrt.out rfl).2
          have HTN : Hid (T < N) := hid (by have := HN.out; omega)
          have TN : (T : Int) < (N : Int) := by omega
          have T0 : (0 : Int) ≤ (T : Int) := by omega
          obtain ⟨P, hP⟩ : ∃ P, plR L B k = P := ⟨_, rfl⟩
          obtain ⟨Q, hQ⟩ : ∃ Q, plR L B T = Q := ⟨_, rfl⟩
          have hPb := plR_bd HK.out k (B := B)
          have hQb := plR_bd HK.out T (B := B)
          obtain ⟨ff, hff⟩ : ∃ ff, nearR (Q - P) = ff := ⟨_, rfl⟩
          have HF := Hfar.out
          rw [Int.toNat_natCast, hP, hQ, hff] at HF
          have HF := hid HF
          rw [hP] at hPb
          rw [hQ] at hQb
          have Hnear := fun w => near_any (a := P) (b := Q) (by omega) (by have := HN1.out; have := HkN.out; omega) (by omega) (by have := HN1.out; have := HTN.out; omega) w
          rw [hff] at Hnear
          have Hnear := hid Hnear
          have hpl := fun w => hasPlace_any (p := some ⟨b, o, none⟩) (n := n) (c := c) (t := (T : Int)) (by omega) w
          rw [show decide (0 ≤ (T : Int) ∧ (T : Int) ≤ (n : Int)) = true by simp; omega] at hpl
          have Hpl := hid hpl
          have HKp : Hid (∀ W', w2.drew.grownBy W' none → (W'.cell? ⟨X, 1, none⟩ = some (.int .i64 (T : Int)) ∧ W'.cell? ⟨X, 2, none⟩ = some (.bool true) ∧ W'.cell? ⟨bb, ob + k, none⟩ = some (.bool false) ∧ W'.cell? ⟨g, k * 2, none⟩ = some (.int .u64 (smH P)) ∧ W'.cell? ⟨g, k * 2 + 1, none⟩ = some (.int .u64 (smL P)) ∧ W'.cell? ⟨g, T * 2, none⟩ = some (.int .u64 (smH Q)) ∧ W'.cell? ⟨g, T * 2 + 1, none⟩ = some (.int .u64 (smL Q)) ∧ w2.drew.grownBy W' none)) := hid (fun W' hg => by
            have hg' := grown_trans (grown_drew (grown_refl w2 none)) hg
            have hs := HQ.out.sm.kept0 hg'
            refine ⟨(HX.out.kept0 hg').cell 1 rfl, (HX.out.kept0 hg').cell 2 rfl, (grown_cell hg' HcB2.out.1 (by simp)).trans HcB2.out.2, ?_, ?_, ?_, ?_, hg⟩
            · rw [hs.c0 k HkN.out, hP]
            · rw [hs.c1 k HkN.out, hP]
            · rw [hs.c0 T HTN.out, hQ]
            · rw [hs.c1 T HTN.out, hQ])
          clear hP hQ hPb hQb hff hpl hT HX HcB2 Hfar Hrt
          go_region_held3 (fun W' => W'.cell? ⟨X, 1, none⟩ = some (.int .i64 (T : Int)) ∧ W'.cell? ⟨X, 2, none⟩ = some (.bool true) ∧ W'.cell? ⟨bb, ob + k, none⟩ = some (.bool false) ∧ W'.cell? ⟨g, k * 2, none⟩ = some (.int .u64 (smH P)) ∧ W'.cell? ⟨g, k * 2 + 1, none⟩ = some (.int .u64 (smL P)) ∧ W'.cell? ⟨g, T * 2, none⟩ = some (.int .u64 (smH Q)) ∧ W'.cell? ⟨g, T * 2 + 1, none⟩ = some (.int .u64 (smL Q)) ∧ w2.drew.grownBy W' none)
            (first | (with_reducible exact HKp.out _ (grown_refl _ _)) | (go_split_ands; exact HKp.out _ (grown_trans (by assumption) hcb)))
            (first
              | (go_split_ands; go_at_call 87; (with_reducible refine (Hpl.out _).mono ?_); rintro e w' ⟨rfl, hcb⟩)
              | (go_split_ands; go_at_call 88; (with_reducible refine (Hnear.out _).mono ?_); rintro e w' ⟨rfl, hcb⟩))
          go_split_ands
          rename_i hh
          have HQ2 := hid (HQ.out.kept0 (grown_trans (grown_drew (grown_refl w2 none)) hh))
          clear hh HQ HKp Hnear Hpl
          cases ff
          · have HF2 : Hid (tooB L B k = true) := hid (by rw [HF.out]; rfl)
            obtain ⟨i, hi, hz0, hz1, hz2⟩ := info_intR
            have Hi := hid hi
            have Hz0 := hid hz0
            have Hz1 := hid hz1
            have Hz2 := hid hz2
            have HRa := hid (HQ2.out.kept0 (World.grownBy_alloc w' (.cells #[.int .i64 k] 3) none))
            have HOw := HRa.out.own
            rw [HM.out] at HOw
            have HOw := hid HOw
            have HNw : Hid (∀ j u, [Value.int .i64 (k : Int)][j]? = some u → (w'.alloc (.cells #[.int .i64 k] 3)).cell? ((⟨w'.heap.size, 0, none⟩ : Addr).add j) = some u) := hid (World.news_of_block (heap_alloc_new w' _))
            clear hi hz0 hz1 hz2 HQ2 HF
            go_wp2_with (first
              | (refine wpList_append_lies _ rfl _ _ 43 rfl W.heap.size 3 i _ 1 8 Tryz.underlying43 Hi.out Hz0.out Hz1.out Hz2.out rfl (by decide) _ M _ rfl HOw.out ⟨w'.heap.size, 0, none⟩ 1 1 _ rfl rfl HNw.out (by simp [Value.oneCell']) (by decide) (by have := HMb.out; unfold maxLen; omega) (by have := HMb.out; omega) HRa.out.gr.size _ rfl ?_
                 intro g5 cap w5 hown hgrow hat hlt2
                 have HO := hid hown
                 have hgrow0 : (w'.alloc (.cells #[.int .i64 k] 3)).grownBy w5 (Value.slice up M uc).ownBlock := hgrow
                 have hat0 : (Value.slice up M uc).ownBlock = some g5 ∨ g5 = (w'.alloc (.cells #[.int .i64 k] 3)).heap.size := hat
                 have HG5 := hid hgrow0
                 have HAt := hid hat0
                 clear hown hgrow hat hlt2 hgrow0 hat0)
              | fail)
            go_roundw
            case rel =>
              refine ⟨k + 1, Hlt.out, by go_num, hid ⟨?_, ?_, ?_, ?_⟩⟩
              · exact grown_new' (grown_trans (grown_none HRa.out.gr) HG5.out) (fun j hj => (HOw.out.lt j hj).1)
              · exact HRa.out.sm.kept HG5.out (fun e => HRa.out.ne e.symm)
              · rw [farR_succ_yes HF2.out, List.length_append, HM.out, List.map_append]
                exact HO.out
              · rcases HAt.out with e | e
                · exact fun h => HRa.out.ne (e.trans h)
                · have h1 := HRa.out.sm.lt
                  simp only [Value.ownBlock, ne_eq, Option.some.injEq]
                  omega
            case measure => simp [intOf]; have := Hlt.out; omega
          · have HF2 : Hid (tooB L B k = false) := hid (by rw [HF.out]; rfl)
            go_wp2
            go_roundw
            case rel => exact ⟨k + 1, Hlt.out, by go_num, hid (HQ2.out.skip HF2.out)⟩
            case measure => simp [intOf]; have := Hlt.out; omega
        · have HF : Hid (tooB L B k = false) := hid (by rw [Hfar.out]; simp)
          have x2 := HX.out.cell 2 (v := .bool true) rfl
          have cB := HcB2.out.2
          go_quiet (fail)
          go_wp2
          go_roundw
          case rel => exact ⟨k + 1, Hlt.out, by go_num, hid ((HQ.out.skip HF.out).kept0 (grown_drewN (grown_refl _ _) _))⟩
          case measure => simp [intOf]; have := Hlt.out; omega
    · obtain rfl : k = n := by omega
      clear hlt
      have kn : ¬ ((k : Int) < (k : Int)) := by omega
      go_wp2
      go_ret
      have h1 := HR.out.own
      rw [HM.out] at h1
      exact ⟨_, rfl, by rw [HM.out]; exact h1, HR.out.gr⟩
end Go.Proofs.YtnpnafidhcnkhaaGreatDoor
namespace Go.Proofs.YtnpnafidhcnkhaaGreatDoor
open Go.RowKit
/-- the places ahead of j, behind them nothing yet -/
def pfI (L : List RIt) (B : List Bool) (j N : Nat) : List Int := (List.range N).map fun k => if k < j then plR L B k else 0
theorem pfI_length (L : List RIt) (B : List Bool) (j N : Nat) : (pfI L B j N).length = N := by simp [pfI]
theorem pfI_get {L : List RIt} {B : List Bool} {j N k : Nat} (h : k < N) : (pfI L B j N)[k]? = some (if k < j then plR L B k else 0) := by simp [pfI, h]
theorem pfI_zero (L : List RIt) (B : List Bool) (N : Nat) : pfI L B 0 N = List.replicate N 0 := by
  apply List.ext_getElem?
  intro k
  by_cases h : k < N
  · rw [pfI_get h, List.getElem?_replicate, if_pos h, if_neg (by omega)]
  · rw [List.getElem?_eq_none (by rw [pfI_length]; omega), List.getElem?_eq_none (by rw [List.length_replicate]; omega)]
theorem pfI_set {L : List RIt} {B : List Bool} {j N : Nat} : (pfI L B j N).set j (plR L B j) = pfI L B (j + 1) N := by
  apply List.ext_getElem?
  intro k
  by_cases h : k < N
  · rw [List.getElem?_set, pfI_get h, pfI_get h, pfI_length]
    by_cases e : j = k
    · subst e
      rw [if_pos rfl, if_pos h, if_pos (Nat.lt_succ_self _)]
    · rw [if_neg e]
      congr 1
      by_cases e2 : k < j
      · rw [if_pos e2, if_pos (by omega)]
      · rw [if_neg e2, if_neg (by omega)]
  · rw [List.getElem?_eq_none (by rw [List.length_set, pfI_length]; omega), List.getElem?_eq_none (by rw [pfI_length]; omega)]
theorem pfI_all {L : List RIt} {B : List Bool} {N : Nat} : pfI L B N N = plsR L B N := by
  unfold pfI plsR
  refine List.map_congr_left fun k hk => ?_
  rw [if_pos (List.mem_range.1 hk)]
structure PsW (W w : World) (g gs : Nat) (L : List RIt) (B : List Bool) (N j : Nat) : Prop where
  gr : W.grownBy w none
  own : w.ownsRow W.heap.size 3 1 (.slice (some ⟨g, 0, none⟩) N N) N ((pfI L B j N).map (Value.int .i64))
  sm : SmAt w gs N L B
  ne : gs ≠ g
  ge : W.heap.size ≤ g
theorem PsW.kept0 {W w w1 : World} {g gs : Nat} {L : List RIt} {B : List Bool} {N j : Nat} (h : PsW W w g gs L B N j) (hg : w.grownBy w1 none) : PsW W w1 g gs L B N j :=
  ⟨grown_trans h.gr hg, h.own.kept hg (by simp [Value.ownBlock]), h.sm.kept0 hg, h.ne, h.ge⟩
theorem PsW.step {W w : World} {g gs : Nat} {L : List RIt} {B : List Bool} {N j : Nat} (h : PsW W w g gs L B N j) : PsW W (w.setCell ⟨g, j, none⟩ (.int .i64 (plR L B j))) g gs L B N (j + 1) := by
  obtain ⟨h1, h2⟩ := h.own.stored j (.int .i64 (plR L B j))
  rw [← List.map_set, pfI_set] at h1
  exact ⟨grown_new' (grown_trans (grown_none h.gr) h2) (fun k hk => by obtain rfl := Option.some.inj hk; exact h.ge), h1, h.sm.kept h2 (by simpa using h.ne), h.ne, h.ge⟩
set_option maxRecDepth 100000 in
set_option maxHeartbeats 8000000 in
theorem places_rel {W : World} {v vb : Value} {L : List RIt} {B : List Bool} (h : RiAt W v L) (hb : BlAt W vb B) (hB : B.length = L.length) (hok : okR L = true) (hL : L.length ≤ 5000) :
    Calls Tryz.prog 53 #[v, vb] W fun e w' => ∃ g, e = .returned (.slice (some ⟨g, 0, none⟩) (L.length + 1) (L.length + 1)) ∧ w'.ownsRow W.heap.size 3 1 (.slice (some ⟨g, 0, none⟩) (L.length + 1) (L.length + 1)) (L.length + 1) ((plsR L B (L.length + 1)).map (Value.int .i64)) ∧ W.grownBy w' none := by
  have HBg := hid (fun (w : World) (hg : W.grownBy w none) => begins_rel (h.kept0 hg) (hb.kept0 hg) hB hok hL)
  have HK := hid hok
  obtain ⟨p, c, hv⟩ := h.len
  subst hv
  obtain ⟨pb, cb, hvb⟩ := hb.len
  subst hvb
  rw [hB] at HBg ⊢
  obtain ⟨n, hn⟩ : ∃ n, L.length = n := ⟨_, rfl⟩
  rw [hn] at hL HBg ⊢
  obtain ⟨N, hN⟩ : ∃ N, n + 1 = N := ⟨_, rfl⟩
  have HN := hid hN
  rw [hN] at HBg ⊢
  have n0 : (0 : Int) ≤ (n : Int) := by omega
  have n1 : (n : Int) ≤ 5000 := by omega
  have nN : (n : Int) + 1 = (N : Int) := by omega
  have nNw : IntKind.i64.wrap ((n : Int) + 1) = (N : Int) := by rw [IntKind.wrap_i64]; omega
  have N0 : (0 : Int) ≤ (N : Int) := by omega
  have N1 : (N : Int) ≤ 5001 := by omega
  have HN1 := hid (show N ≤ 5001 by omega)
  obtain ⟨i, hi, hz0, hz1, hz2⟩ := info_intR
  have Hi := hid hi
  have Hz0 := hid hz0
  have Hz1 := hid hz1
  have Hz2 := hid hz2
  clear h hb hB hok hL hn hN hi hz0 hz1 hz2
  go_enter Tryz.func53, Tryz.ntmps53
  go_wp2_with (first
    | (refine wpList_make_full _ rfl _ _ 43 rfl W.heap.size 3 i _ 1 Tryz.underlying43 Hi.out Hz0.out Hz1.out .i64 .i64 _ _ N rfl rfl (by first | rfl | omega) (by first | rfl | omega) (by rw [Hz2.out]; have := HN1.out; omega) (by have := HN1.out; unfold maxLen; omega) (Nat.le_refl _) ?_
       intro w3 hmk hgr
       rw [show (Value.int .i64 0).cells = Array.replicate 1 (.int .i64 0) from rfl, toList_madeZero _ _ 1 (by omega), Array.toList_replicate, Nat.mul_one] at hmk
       have Hmk := hid hmk
       have HG3 := hid hgr
       clear hmk hgr)
    | fail)
  obtain ⟨g, hg⟩ : ∃ g, W.heap.size = g := ⟨_, rfl⟩
  have Hge := hid (Nat.le_of_eq hg)
  rw [hg] at Hmk ⊢
  refine (HBg.out _ HG3.out).mono ?_
  rintro e w4 ⟨gs, rfl, hown, hg4⟩
  have HP : Hid (PsW W w4 g gs L B N 0) := hid ⟨grown_trans HG3.out hg4, by
    rw [pfI_zero, List.map_replicate, hg]; exact Hmk.out.kept hg4 (by simp [Value.ownBlock]), SmAt.own hown, by
    have h1 := (hown.lt gs rfl).1
    have h2 := (Hmk.out.lt g rfl).2
    omega, Hge.out⟩
  clear hown hg hg4 HG3 Hmk HBg
  go_wp2
  go_loopw [21] (fun i wr => ∃ k : Nat, k ≤ N ∧ i = .int .i64 k ∧ Hid (PsW W wr g gs L B N k)) (fun i _ => N - (intOf i).toNat)
  case atStart => exact ⟨0, Nat.zero_le _, rfl, HP⟩
  case round =>
    obtain ⟨k, hk, rfl, HR⟩ := hrel
    clear HP
    have k0 : (0 : Int) ≤ (k : Int) := by omega
    by_cases hlt : k < N
    · have kN : (k : Int) < (N : Int) := by omega
      have Hlt := hid hlt
      obtain ⟨P, hP⟩ : ∃ P, plR L B k = P := ⟨_, rfl⟩
      have hPb := plR_bd HK.out k (B := B)
      rw [hP] at hPb
      have HPb : Hid (0 ≤ P ∧ P ≤ 10300000) := hid (by have := HN1.out; omega)
      have hS := HR.out.step
      rw [hP] at hS
      have c0 := HR.out.sm.c0 k hlt
      have c1 := HR.out.sm.c1 k hlt
      rw [hP] at c0 c1
      have HX := hid (RwAt.new wr 156 #[.int .u64 (smH P), .int .u64 (smL P)])
      have HQ := hid (HR.out.kept0 (World.grownBy_alloc wr (.cells #[.int .u64 (smH P), .int .u64 (smL P)] 156) none))
      clear hS hPb hlt hk
      go_upto_region 7 with (fail)
      obtain ⟨X, hX⟩ : ∃ X, wr.heap.size = X := ⟨_, rfl⟩
      rw [hX] at HX ⊢
      clear hX c0 c1 HR
      generalize wr.alloc (.cells #[.int .u64 (smH P), .int .u64 (smL P)] 156) = w2 at HX HQ ⊢
      have x0 := HX.out.cell 0 (v := .int .u64 (smH P)) rfl
      have x1 := HX.out.cell 1 (v := .int .u64 (smL P)) rfl
      go_wp2_with fail
      refine (cut_any (z := P) HPb.out.1 (by have := HPb.out; omega) _).mono ?_
      rintro e w5 ⟨rfl, hg⟩
      have HQ5 := hid (HQ.out.kept0 hg)
      have hS := HQ5.out.step
      rw [hP] at hS
      have HS := hid hS
      have e0 := HQ5.out.own.cellAt k (by have := Hlt.out; omega)
      rw [List.getElem?_map, pfI_get Hlt.out, if_neg (by omega)] at e0
      have f0 := HQ5.out.own.frozenAt k
      clear hg hS x0 x1 HX HQ hP
      go_wp2
      go_roundw
      case rel => exact ⟨k + 1, Hlt.out, by go_num, HS⟩
      case measure => simp [intOf]; have := Hlt.out; omega
    · obtain rfl : k = N := by omega
      clear hlt
      have kN : ¬ ((k : Int) < (k : Int)) := by omega
      go_wp2
      refine bodyPost_ret (v := .slice (some ⟨g, 0, none⟩) k k) (by simp [results, Tryz.results53, go_sem]) rfl ?_
      have h1 := HR.out.own
      rw [pfI_all] at h1
      exact ⟨g, rfl, h1, HR.out.gr⟩
end Go.Proofs.YtnpnafidhcnkhaaGreatDoor
namespace Go.Proofs.YtnpnafidhcnkhaaGreatDoor
open Go.RowKit
theorem mod_set {l : List RIt} {k : Nat} {r : RIt} (f : RIt → RIt) (h : l[k]? = some r) : l.modify k f = l.set k (f r) := by
  have hk := (List.getElem?_eq_some_iff.1 h).1
  apply List.ext_getElem?
  intro i
  rw [List.getElem?_modify, List.getElem?_set]
  by_cases e : k = i
  · subst e
    obtain rfl : l[k] = r := by rw [List.getElem?_eq_getElem hk] at h; exact Option.some.inj h
    simp [hk]
  · simp [e]
theorem itW_sz {K : List Int} : ∀ n, ∀ r ∈ itW K n, 0 ≤ r.s ∧ r.s ≤ n
  | 0, r, h => by simp [itW] at h
  | n + 1, r, h => by
    have ih := itW_sz (K := K) n
    unfold itW at h
    by_cases e : K.getD n 0 = 0
    · rw [if_pos e] at h
      obtain ⟨i, hi⟩ := List.getElem?_of_mem h
      cases hx : (itW K n)[i]? with
      | none => rw [List.getElem?_modify, hx] at hi; split at hi <;> cases hi
      | some x =>
        have hb := ih x (List.mem_of_getElem? hx)
        rw [List.getElem?_modify, hx] at hi
        split at hi
        · cases hi; simp only; omega
        · cases hi; simp only; omega
    · rw [if_neg e] at h
      rcases List.mem_append.1 h with h1 | h1
      · have hb := ih r h1; omega
      · obtain rfl := List.mem_singleton.1 h1; simp only; omega
theorem itsC_put0 : ∀ (l : List RIt) (k : Nat) (r : RIt) (s : Int), l[k]? = some r → (itsC l).set (k * 3) (.int .i64 s) = itsC (l.set k ⟨s, r.t, r.b⟩)
  | [], _, _, _, h => by simp at h
  | x :: l, 0, r, s, h => by
    obtain rfl : x = r := by simpa using h
    rfl
  | x :: l, k + 1, r, s, h => by
    rw [List.set_cons_succ, itsC, itsC, ← itsC_put0 l k r s (by simpa using h), show (k + 1) * 3 = k * 3 + 1 + 1 + 1 by omega]
    rfl
theorem itsC_put12 : ∀ (l : List RIt) (k : Nat) (r : RIt) (T : Int), l[k]? = some r → ((itsC l).set (k * 3 + 2) (.bool true)).set (k * 3 + 1) (.int .i64 T) = itsC (l.set k ⟨r.s, T, true⟩)
  | [], _, _, _, h => by simp at h
  | x :: l, 0, r, T, h => by
    obtain rfl : x = r := by simpa using h
    rfl
  | x :: l, k + 1, r, T, h => by
    rw [List.set_cons_succ, itsC, itsC, ← itsC_put12 l k r T (by simpa using h), show (k + 1) * 3 + 2 = k * 3 + 2 + 1 + 1 + 1 by omega, show (k + 1) * 3 + 1 = k * 3 + 1 + 1 + 1 + 1 by omega]
    rfl
theorem own_baseL {w : World} {B B' : Nat} {e : TypeId} {size : Nat} {v : Value} {n : Nat} {l : List Value} (h : w.ownsRow B' e size v n l) (hB : B ≤ B') : w.ownsRow B e size v n l :=
  ⟨h.1, h.2.imp id (fun ⟨g, cap, cur, a, b, rest⟩ => ⟨g, cap, cur, a, Nat.le_trans hB b, rest⟩)⟩
/-- the cells of repair k -/
theorem fx_item {w : World} {v : Value} {l : List Fx} {k : Nat} {r : Fx} (h : CsAt w v l.length (fxsL l)) (hr : l[k]? = some r) :
    ∃ b o c, v = .slice (some ⟨b, o, none⟩) l.length c ∧ b < w.heap.size ∧ w.cell? ⟨b, o + k * 5, none⟩ = some (.int .i64 r.a) ∧ w.cell? ⟨b, o + k * 5 + 1, none⟩ = some (.int .i64 r.k) ∧ w.cell? ⟨b, o + k * 5 + 2, none⟩ = some (.int .i64 r.t.i) ∧ w.cell? ⟨b, o + k * 5 + 3, none⟩ = some (.int .i64 r.t.a) ∧ w.cell? ⟨b, o + k * 5 + 4, none⟩ = some (.int .i64 r.d) := by
  obtain ⟨b, o, c, rfl, _, hb, hc⟩ := h.at_ (by have := (List.getElem?_eq_some_iff.1 hr).1; omega)
  have hg : ∀ j u, j < 5 → (fxL r)[j]? = some u → (fxsL l)[k * 5 + j]? = some u := fun j u hj hu => (csL_get fxL_length l k j r hr hj).trans hu
  refine ⟨b, o, c, rfl, hb, ?_, ?_, ?_, ?_, ?_⟩
  · exact hc (k * 5 + 0) _ (hg 0 _ (by decide) rfl)
  · rw [Nat.add_assoc]; exact hc (k * 5 + 1) _ (hg 1 _ (by decide) rfl)
  · rw [Nat.add_assoc]; exact hc (k * 5 + 2) _ (hg 2 _ (by decide) rfl)
  · rw [Nat.add_assoc]; exact hc (k * 5 + 3) _ (hg 3 _ (by decide) rfl)
  · rw [Nat.add_assoc]; exact hc (k * 5 + 4) _ (hg 4 _ (by decide) rfl)
theorem info_itemL : ∃ i : TypeInfo, Tryz.prog.info? 150 = some i ∧ i.zero = some (.agg #[.int .i64 0, .int .i64 0, .bool false]) ∧ i.size = 3 ∧ i.bytes = 24 := info_parts (P := Tryz.prog) (e := 150) (z := .agg #[.int .i64 0, .int .i64 0, .bool false]) (size := 3) (bytes := 24) (by kernel_rfl)
theorem info_intL : ∃ i : TypeInfo, Tryz.prog.info? 3 = some i ∧ i.zero = some (.int .i64 0) ∧ i.size = 1 ∧ i.bytes = 8 := info_parts (P := Tryz.prog) (e := 3) (z := .int .i64 0) (size := 1) (bytes := 8) (by kernel_rfl)
theorem build_itemL (w : World) : (Instr.build 150 #[]).run Tryz.prog w = .ok (.agg #[.int .i64 0, .int .i64 0, .bool false]) w := by kernel_rfl
/-- where the loop over the marks stands: the items so far, and which item each word is of -/
structure ItU (W w : World) (b g n : Nat) (cs : Array Value) (vi : Value) (I : List RIt) (j : Nat) (F : List Int) : Prop where
  gr : W.grownBy w none
  bx : RwAt w b 75 cs
  it : w.ownsRow (b + 1) 150 3 vi j (itsC I)
  of : w.ownsRow (b + 1) 3 1 (.slice (some ⟨g, 0, none⟩) n n) n (F.map (Value.int .i64))
  ne : vi.ownBlock ≠ some g
  lt : W.heap.size ≤ b
section
variable {W w w1 : World} {b g n j : Nat} {cs : Array Value} {vi : Value} {I : List RIt} {F : List Int}
theorem ItU.kept0 (h : ItU W w b g n cs vi I j F) (hg : w.grownBy w1 none) : ItU W w1 b g n cs vi I j F :=
  ⟨grown_trans h.gr hg, h.bx.kept0 hg, h.it.kept hg (by cases vi.ownBlock <;> simp), h.of.kept hg (.inr (fun e => by cases e)), h.ne, h.lt⟩
theorem ItU.app {g' j' cap : Nat} {I' : List RIt} (h : ItU W w b g n cs vi I j F) (ho : w1.ownsRow (b + 1) 150 3 (.slice (some ⟨g', 0, none⟩) j' cap) j' (itsC I')) (hg : w.grownBy w1 vi.ownBlock) (hat : vi.ownBlock = some g' ∨ g' = w.heap.size) :
    ItU W w1 b g n cs (.slice (some ⟨g', 0, none⟩) j' cap) I' j' F := by
  have hge : ∀ k, vi.ownBlock = some k → W.heap.size ≤ k := fun k hk => by have := (h.it.lt k hk).1; have := h.lt; omega
  refine ⟨grown_new' (grown_trans (grown_none h.gr) hg) hge, y_keep h.bx h.it (by decide) hg, ho, h.of.kept hg (.inr (fun e => h.ne e.symm)), ?_, h.lt⟩
  intro e
  have e1 : g' = g := Option.some.inj e
  rcases hat with e2 | e2
  · exact h.ne (e2.trans e)
  · have := (h.of.lt g rfl).2; omega
theorem ItU.setOf (h : ItU W w b g n cs vi I j F) (k : Nat) (v : Int) : ItU W (w.setCell ⟨g, k, none⟩ (.int .i64 v)) b g n cs vi I j (F.set k v) := by
  have hs := h.of.stored k (.int .i64 v)
  have hge : ∀ k, some g = some k → W.heap.size ≤ k := fun k hk => by have := (h.of.lt k hk).1; have := h.lt; omega
  refine ⟨grown_new' (grown_trans (grown_none h.gr) hs.2) hge, y_keep (v := .slice (some ⟨g, 0, none⟩) n n) h.bx h.of (by decide) hs.2, h.it.kept hs.2 (.inr h.ne), ?_, h.ne, h.lt⟩
  rw [List.map_set]
  exact hs.1
theorem ItU.setIt {g' cap k : Nat} {r : RIt} (h : ItU W w b g n cs (.slice (some ⟨g', 0, none⟩) j cap) I j F) (hr : I[k]? = some r) (s : Int) : ItU W (w.setCell ⟨g', k * 3, none⟩ (.int .i64 s)) b g n cs (.slice (some ⟨g', 0, none⟩) j cap) (I.set k ⟨s, r.t, r.b⟩) j F := by
  have hs := h.it.stored (k * 3) (.int .i64 s)
  have hge : ∀ k, some g' = some k → W.heap.size ≤ k := fun k hk => by have := (h.it.lt k hk).1; have := h.lt; omega
  refine ⟨grown_new' (grown_trans (grown_none h.gr) hs.2) hge, y_keep (v := .slice (some ⟨g', 0, none⟩) j cap) h.bx h.it (by decide) hs.2, ?_, h.of.kept hs.2 (.inr (fun e => h.ne e.symm)), h.ne, h.lt⟩
  rw [← itsC_put0 I k r s hr]
  exact hs.1
theorem ItU.setBr {g' cap k : Nat} {r : RIt} (h : ItU W w b g n cs (.slice (some ⟨g', 0, none⟩) j cap) I j F) (hr : I[k]? = some r) (T : Int) : ItU W ((w.setCell ⟨g', k * 3 + 2, none⟩ (.bool true)).setCell ⟨g', k * 3 + 1, none⟩ (.int .i64 T)) b g n cs (.slice (some ⟨g', 0, none⟩) j cap) (I.set k ⟨r.s, T, true⟩) j F := by
  have h1 := h.it.stored (k * 3 + 2) (.bool true)
  have h2 := h1.1.stored (k * 3 + 1) (.int .i64 T)
  have hs := And.intro h2.1 (grown_trans h1.2 h2.2)
  have hge : ∀ k, some g' = some k → W.heap.size ≤ k := fun k hk => by have := (h.it.lt k hk).1; have := h.lt; omega
  refine ⟨grown_new' (grown_trans (grown_none h.gr) hs.2) hge, y_keep (v := .slice (some ⟨g', 0, none⟩) j cap) h.bx h.it (by decide) hs.2, ?_, h.of.kept hs.2 (.inr (fun e => h.ne e.symm)), h.ne, h.lt⟩
  rw [← itsC_put12 I k r T hr]
  exact hs.1
end
set_option maxRecDepth 100000 in
set_option maxHeartbeats 16000000 in
theorem items_any (W : World) (v1 v2 v3 v4 v5 : Value) (X : Wh) (hC : ∃ p c, v2 = .slice p X.C.length c) (hK : SlAt W .u8 v3 X.K) (hQ : CsAt W v5 X.Q.length (fxsL X.Q)) (hl : X.K.length = X.C.length) (hn : X.C.length ≤ 1000000) (hqn : X.Q.length ≤ 1000000) (h0 : X.K[0]? ≠ some 0)
    (hbr : ∀ r ∈ X.Q, r.k = 2 → ∃ a c : Nat, r.a = a ∧ a < X.C.length ∧ r.t.a = c ∧ c < X.C.length) :
    Calls Tryz.prog 51 #[.agg #[v1, v2, v3, v4, v5]] W fun e w' => ∃ vi vo : Value, e = .returned (.tuple #[vi, vo]) ∧ w'.ownsRow W.heap.size 150 3 vi (itsP X).length (itsC (itsP X)) ∧ w'.ownsRow W.heap.size 3 1 vo X.C.length ((ofL X.K X.C.length X.C.length).map (Value.int .i64)) ∧ W.grownBy w' none := by
  obtain ⟨p2, c2, rfl⟩ := hC
  obtain ⟨n, hnn⟩ : ∃ n, X.C.length = n := ⟨_, rfl⟩
  obtain ⟨p3, c3, h3⟩ := hK.len'
  rw [hl, hnn] at h3
  subst h3
  obtain ⟨q, hq⟩ : ∃ q, X.Q.length = q := ⟨_, rfl⟩
  obtain ⟨p5, c5, h5⟩ := hQ.len
  rw [hq] at h5
  subst h5
  have HQ := hid hQ
  have HQl := hid hq
  have HBr := hid hbr
  have HN := hid hnn
  have qq0 : (0 : Int) ≤ (q : Int) := by omega
  have qq1 : (q : Int) ≤ 1000000 := by omega
  have HKl : Hid (X.K.length = n) := hid (by rw [hl, hnn])
  have HK := hid hK
  have H0 := hid h0
  have n0 : (0 : Int) ≤ (n : Int) := by omega
  have n1 : (n : Int) ≤ 1000000 := by omega
  have Hnb : Hid (n ≤ 1000000) := hid (by omega)
  obtain ⟨i, hi, hz0, hz1, hz2⟩ := info_itemL
  have Hi := hid hi
  have Hz0 := hid hz0
  have Hz1 := hid hz1
  have Hz2 := hid hz2
  obtain ⟨i', hi', hy0, hy1, hy2⟩ := info_intL
  have Hi' := hid hi'
  have Hy0 := hid hy0
  have Hy1 := hid hy1
  have Hy2 := hid hy2
  have HB := hid (RwAt.new W 75 #[v1, .slice p2 n c2, .slice p3 n c3, v4, .slice p5 q c5])
  have HG := hid (World.grownBy_alloc W (.cells #[v1, .slice p2 n c2, .slice p3 n c3, v4, .slice p5 q c5] 75) none)
  have HS : Hid ((W.alloc (.cells #[v1, .slice p2 n c2, .slice p3 n c3, v4, .slice p5 q c5] 75)).heap.size = W.heap.size + 1) := hid (by simp)
  rw [hnn] at HBr ⊢
  clear hK hl hn h0 hnn hQ hq hqn hbr hi hz0 hz1 hz2 hi' hy0 hy1 hy2
  go_enter Tryz.func51, Tryz.ntmps51
  go_upto_region 1 with (fail)
  obtain ⟨b, hbb⟩ : ∃ b, W.heap.size = b := ⟨_, rfl⟩
  have HBe := hid hbb
  rw [hbb] at HB HS ⊢
  clear hbb
  generalize W.alloc (.cells #[v1, .slice p2 n c2, .slice p3 n c3, v4, .slice p5 q c5] 75) = w1 at HB HG HS ⊢
  have q1 := HB.out.cell 1 (v := .slice p2 n c2) rfl
  go_upto_region 3 with (first
    | (refine wpList_make_full _ rfl _ _ 43 rfl (b + 1) 3 i' _ 1 Tryz.underlying43 Hi'.out Hy0.out Hy1.out .i64 .i64 _ _ n rfl rfl (by first | rfl | omega) (by first | rfl | omega) (by rw [Hy2.out]; have := Hnb.out; omega) (by have := Hnb.out; unfold maxLen; omega) (Nat.le_of_eq HS.out.symm) ?_
       intro w3 hmk hgr
       rw [show (Value.int .i64 0).cells = Array.replicate 1 (.int .i64 0) from rfl, toList_madeZero _ _ 1 (by omega), Array.toList_replicate, Nat.mul_one] at hmk
       have HU0 : Hid (ItU W w3 b w1.heap.size n #[v1, .slice p2 n c2, .slice p3 n c3, v4, .slice p5 q c5] (.slice none 0 0) (itW X.K 0) (itN X.K 0) (ofL X.K n 0)) := hid ⟨grown_trans HG.out hgr, HB.out.kept0 hgr, by rw [itN_zero]; exact World.ownsRow_nil _ _ _ _, by rw [ofL_zero, List.map_replicate]; exact hmk, (fun e => by cases e), Nat.le_of_eq HBe.out⟩
       clear hmk hgr)
    | fail)
  obtain ⟨g, hg⟩ : ∃ g, w1.heap.size = g := ⟨_, rfl⟩
  rw [hg] at HU0 ⊢
  clear hg q1
  have q2 := HU0.out.bx.cell 2 (v := .slice p3 n c3) rfl
  go_upto_region 4 with (fail)
  clear q2
  go_loopw [4, 18] (fun v i wr => ∃ k : Nat, k ≤ n ∧ i = .int .i64 k ∧ Hid (ItU W wr b g n #[v1, .slice p2 n c2, .slice p3 n c3, v4, .slice p5 q c5] v (itW X.K k) (itN X.K k) (ofL X.K n k))) (fun _ i _ => n - (intOf i).toNat)
  case atStart => exact ⟨0, Nat.zero_le _, rfl, HU0⟩
  case round =>
    obtain ⟨k, hk, rfl, HR⟩ := hrel
    clear HU0 HB HG HS
    have k0 : (0 : Int) ≤ (k : Int) := by omega
    by_cases hlt : k < n
    · have kn : (k : Int) < (n : Int) := by omega
      have Hlt := hid hlt
      obtain ⟨m, hm⟩ : ∃ m, X.K[k]? = some m := ⟨_, List.getElem?_eq_getElem (by rw [HKl.out]; exact hlt)⟩
      have Hm := hid hm
      obtain ⟨bm, om, mc, hv, hbm, hcm⟩ := (HK.out.kept0 HR.out.gr).at_ (by rw [HKl.out]; omega)
      rw [HKl.out] at hv
      simp only [Value.slice.injEq, true_and] at hv
      obtain ⟨rfl, rfl⟩ := hv
      have em := hcm k m hm
      obtain ⟨J, hJ⟩ : ∃ J, itN X.K k = J := ⟨_, rfl⟩
      have HJ : Hid (itN X.K k = J ∧ J ≤ k ∧ (itW X.K k).length = J) := hid ⟨hJ, by rw [← hJ]; exact itN_le _ _, by rw [← hJ]; exact itW_length (by rw [HKl.out]; omega)⟩
      have J0 : (0 : Int) ≤ (J : Int) := by omega
      have J1 : (J : Int) ≤ 1000000 := by have := HJ.out.2.1; omega
      rw [hJ] at HR
      obtain ⟨vp, vc, rfl⟩ := own_slice HR.out.it
      clear hm hcm hbm hJ hlt hk
      by_cases hm0 : m = 0
      · subst hm0
        have Hk1 : Hid (1 ≤ k) := hid (by
          rcases Nat.eq_zero_or_pos k with rfl | h
          · exact absurd Hm.out H0.out
          · exact h)
        obtain ⟨R, hR⟩ : ∃ R, R + 1 = J := ⟨J - 1, by
          have h := itN_pos H0.out (n := k - 1) (by have := Hk1.out; have := Hlt.out; have := HKl.out; omega)
          rw [show k - 1 + 1 = k by have := Hk1.out; omega, HJ.out.1] at h
          omega⟩
        have HRJ := hid hR
        have hRi : (J : Int) - 1 = (R : Int) := by omega
        have R0 : (0 : Int) ≤ (R : Int) := by omega
        have rj : (R : Int) < (J : Int) := by omega
        obtain ⟨gI, rfl⟩ : ∃ gI, vp = some ⟨gI, 0, none⟩ := by
          rcases HR.out.it.2 with ⟨h1, h2⟩ | ⟨g', cap, cur, h1, _⟩
          · simp only [Value.slice.injEq] at h1; omega
          · simp only [Value.slice.injEq] at h1; exact ⟨g', h1.1⟩
        obtain ⟨⟨s, tt, bb⟩, hr⟩ : ∃ r, (itW X.K k)[R]? = some r := ⟨_, List.getElem?_eq_getElem (by rw [HJ.out.2.2]; omega)⟩
        have Hr := hid hr
        have hs := itW_sz (K := X.K) k _ (List.mem_of_getElem? hr)
        simp only at hs
        obtain ⟨s0, s1⟩ := hs
        have s2 : s ≤ 1000000 := by have := Hlt.out; omega
        have hq : itOf X.K k = R := by rw [itOf_more Hm.out, HJ.out.1]; omega
        have Hq := hid hq
        have e0 := HR.out.of.cellAt k (by have := Hlt.out; omega)
        rw [List.getElem?_map, ofL_get Hlt.out] at e0
        have f0 := HR.out.of.frozenAt k
        have HS1 := hid (HR.out.setOf k (R : Int))
        rw [show ((R : Int)) = ((itOf X.K k : Nat) : Int) by rw [hq], ofL_set, hq] at HS1
        clear hR hr s1 hq
        go_upto_region 9 with (fail)
        clear e0 f0 hRi em
        generalize wr.setCell ⟨g, k, none⟩ (.int .i64 (R : Int)) = wC at HS1 ⊢
        have e1 := HS1.out.of.cellAt k (by have := Hlt.out; omega)
        rw [List.getElem?_map, ofL_get Hlt.out, if_pos (Nat.lt_succ_self k), Hq.out] at e1
        have e2 : wC.cell? ⟨gI, R * 3, none⟩ = some (.int .i64 s) := (HS1.out.it.cellAt (R * 3) (by have := HRJ.out; omega)).trans (by rw [← Nat.add_zero (R * 3), itsC_get _ R 0 _ Hr.out (by decide)]; rfl)
        have f2 := HS1.out.it.frozenAt (R * 3)
        have HS2 := hid (HS1.out.setIt Hr.out (s + 1))
        simp only [Option.map_some] at e1
        clear HR
        go_wp2
        have HS3 : Hid (ItU W (wC.setCell ⟨gI, R * 3, none⟩ (.int .i64 (s + 1))) b g n #[v1, .slice p2 n c2, .slice (some ⟨bm, om, none⟩) n c3, v4, .slice p5 q c5] (.slice (some ⟨gI, 0, none⟩) J vc) (itW X.K (k + 1)) (itN X.K (k + 1)) (ofL X.K n (k + 1))) := hid (by
          have h := HS2.out
          rw [itW_more Hm.out, itN_succ Hm.out, if_pos rfl, HJ.out.1, Hq.out, mod_set _ Hr.out, Nat.add_zero]
          exact h)
        go_roundw
        case rel => exact ⟨k + 1, Hlt.out, by go_num, HS3⟩
        case measure => simp [intOf]; have := Hlt.out; omega
      · have hmb : (m != 0) = true := by simpa using hm0
        have Hm0 := hid hm0
        clear hm0
        have al := World.grownBy_alloc wr (.cells #[.int .i64 0, .int .i64 0, .bool false] 150) none
        have HQB := hid (HR.out.kept0 al)
        have HNwB : Hid (∀ j u, [Value.int .i64 0, .int .i64 0, .bool false][j]? = some u → (wr.alloc (.cells #[.int .i64 0, .int .i64 0, .bool false] 150)).cell? ((⟨wr.heap.size, 0, none⟩ : Addr).add j) = some u) := hid (World.news_of_block (heap_alloc_new wr _))
        have hbld := fun w => build_itemL w
        clear al
        go_upto_region 8 with (first
          | (refine wpList_append_lies _ rfl _ _ 124 rfl (b + 1) 150 i _ 3 24 Tryz.underlying124 Hi.out Hz0.out Hz1.out Hz2.out rfl (by decide) _ J _ rfl HQB.out.it ⟨wr.heap.size, 0, none⟩ 1 1 _ rfl rfl HNwB.out (by simp [Value.oneCell']) (by decide) (by have := HJ.out.2.1; have := Hlt.out; have := Hnb.out; unfold maxLen; omega) (by have := HJ.out.2.1; have := Hlt.out; have := Hnb.out; omega) HQB.out.bx.lt _ rfl ?_
             intro gB capB wB hown hgrow hat hlt2
             have HOB : Hid (ItU W wB b g n #[v1, .slice p2 n c2, .slice (some ⟨bm, om, none⟩) n c3, v4, .slice p5 q c5] (.slice (some ⟨gB, 0, none⟩) (J + 1) capB) (itW X.K k ++ [⟨0, 0, false⟩]) (J + 1) (ofL X.K n k)) := hid (HQB.out.app (by rw [itsC_append]; exact hown) hgrow hat)
             clear hown hgrow hat hlt2)
          | fail)
        clear HQB HNwB HR hbld
        obtain ⟨M, hM⟩ : ∃ M, J + 1 = M := ⟨_, rfl⟩
        have HM := hid hM
        have hMi : (M : Int) - 1 = (J : Int) := by omega
        have M0 : (1 : Int) ≤ (M : Int) := by omega
        have M1 : (M : Int) ≤ 1000001 := by omega
        rw [hM] at HOB ⊢
        clear hM
        have e0 := HOB.out.of.cellAt k (by have := Hlt.out; omega)
        rw [List.getElem?_map, ofL_get Hlt.out] at e0
        have f0 := HOB.out.of.frozenAt k
        have HS1 := hid (HOB.out.setOf k (J : Int))
        rw [show ((J : Int)) = ((itOf X.K k : Nat) : Int) by rw [itOf_new Hm.out Hm0.out, HJ.out.1], ofL_set, itOf_new Hm.out Hm0.out, HJ.out.1] at HS1
        go_upto_region 9 with (fail)
        clear e0 f0 M0 hMi
        generalize wB.setCell ⟨g, k, none⟩ (.int .i64 (J : Int)) = wC at HS1 ⊢
        have hr : (itW X.K k ++ [⟨0, 0, false⟩] : List RIt)[J]? = some ⟨0, 0, false⟩ := by rw [List.getElem?_append_right (by rw [HJ.out.2.2]; exact Nat.le_refl _), HJ.out.2.2, Nat.sub_self]; rfl
        have e1 := HS1.out.of.cellAt k (by have := Hlt.out; omega)
        rw [List.getElem?_map, ofL_get Hlt.out, if_pos (Nat.lt_succ_self k), itOf_new Hm.out Hm0.out, HJ.out.1] at e1
        have e2 : wC.cell? ⟨gB, J * 3, none⟩ = some (.int .i64 0) := (HS1.out.it.cellAt (J * 3) (by have := HM.out; omega)).trans (by rw [← Nat.add_zero (J * 3), itsC_get _ J 0 _ hr (by decide)]; rfl)
        have f2 := HS1.out.it.frozenAt (J * 3)
        have jm : (J : Int) < (M : Int) := by have := HM.out; omega
        have HS2 := hid (HS1.out.setIt hr 1)
        simp only [Option.map_some] at e1
        clear hr HOB
        go_wp2
        have HS3 : Hid (ItU W (wC.setCell ⟨gB, J * 3, none⟩ (.int .i64 1)) b g n #[v1, .slice p2 n c2, .slice (some ⟨bm, om, none⟩) n c3, v4, .slice p5 q c5] (.slice (some ⟨gB, 0, none⟩) M capB) (itW X.K (k + 1)) (itN X.K (k + 1)) (ofL X.K n (k + 1))) := hid (by
          have h := HS2.out
          rw [List.set_append_right _ _ (by rw [HJ.out.2.2]; exact Nat.le_refl _), HJ.out.2.2, Nat.sub_self] at h
          rw [itW_new Hm.out Hm0.out, itN_succ Hm.out, if_neg Hm0.out, HJ.out.1, HM.out]
          exact h)
        go_roundw
        case rel => exact ⟨k + 1, Hlt.out, by go_num, HS3⟩
        case measure => simp [intOf]; have := Hlt.out; omega
    · obtain rfl : k = n := by omega
      have kn : ¬ ((k : Int) < (k : Int)) := by omega
      clear hlt hk
      obtain ⟨J, hJ⟩ : ∃ J, itN X.K k = J := ⟨_, rfl⟩
      have HJ : Hid (itN X.K k = J) := hid hJ
      have J0 : (0 : Int) ≤ (J : Int) := by omega
      have J1 : (J : Int) ≤ 1000000 := by have := itN_le X.K k; omega
      rw [hJ] at HR
      obtain ⟨vp, vc, rfl⟩ := own_slice HR.out.it
      have HR2 : Hid (ItU W wr b g k #[v1, .slice p2 k c2, .slice p3 k c3, v4, .slice p5 q c5] (.slice vp J vc) (itB X 0) J (ofL X.K k k)) := hid (by rw [itB_zero, HN.out]; exact HR.out)
      clear hJ HR
      have q4 := HR2.out.bx.cell 4 (v := .slice p5 q c5) rfl
      go_upto_region 12 with (fail)
      clear q4
      go_loopw [50] (fun i wr => ∃ j : Nat, j ≤ q ∧ i = .int .i64 j ∧ Hid (ItU W wr b g k #[v1, .slice p2 k c2, .slice p3 k c3, v4, .slice p5 q c5] (.slice vp J vc) (itB X j) J (ofL X.K k k))) (fun i _ => q - (intOf i).toNat)
      case atStart => exact ⟨0, Nat.zero_le _, rfl, HR2⟩
      case round =>
        obtain ⟨j, hj, rfl, HR⟩ := hrel
        clear HR2
        have j0 : (0 : Int) ≤ (j : Int) := by omega
        by_cases hlt : j < q
        · have jq : (j : Int) < (q : Int) := by omega
          have Hlt := hid hlt
          obtain ⟨⟨ra, rk, ⟨ti, ta⟩, rd⟩, hr⟩ : ∃ r, X.Q[j]? = some r := ⟨_, List.getElem?_eq_getElem (by rw [HQl.out]; exact hlt)⟩
          have Hr := hid hr
          obtain ⟨bq, oq, cq, hv, hbq, g0, g1, g2, g3, g4⟩ := fx_item (HQ.out.kept0 HR.out.gr) hr
          rw [HQl.out] at hv
          simp only [Value.slice.injEq, true_and] at hv
          obtain ⟨rfl, rfl⟩ := hv
          have hal := World.grownBy_alloc wr (.cells #[.int .i64 ra, .int .i64 rk, .int .i64 ti, .int .i64 ta, .int .i64 rd] 106) none
          have HR6 := hid (HR.out.kept0 hal)
          have HX := hid (RwAt.new wr 106 #[.int .i64 ra, .int .i64 rk, .int .i64 ti, .int .i64 ta, .int .i64 rd])
          simp only at g0 g1 g2 g3 g4
          clear hal hr hbq hlt hj
          go_upto_region 14 with (fail)
          clear g0 g1 g2 g3 g4 HR
          obtain ⟨Z, hZ⟩ : ∃ Z, wr.heap.size = Z := ⟨_, rfl⟩
          rw [hZ] at HX ⊢
          clear hZ
          generalize wr.alloc (.cells #[.int .i64 ra, .int .i64 rk, .int .i64 ti, .int .i64 ta, .int .i64 rd] 106) = w6 at HR6 HX ⊢
          have x0 := HX.out.cell 0 (v := .int .i64 ra) rfl
          have x1 := HX.out.cell 1 (v := .int .i64 rk) rfl
          have x3 := HX.out.cell 3 (v := .int .i64 ta) rfl
          by_cases hk2 : rk = 2
          · subst hk2
            obtain ⟨a, c, ha, han, hc, hcn⟩ := HBr.out _ (List.mem_of_getElem? Hr.out) rfl
            simp only at ha hc
            subst ha
            subst hc
            obtain ⟨P, hP⟩ : ∃ P, itOf X.K a = P := ⟨_, rfl⟩
            obtain ⟨T, hT⟩ : ∃ T, itOf X.K c = T := ⟨_, rfl⟩
            have hPJ : P < J := by have h := itOf_lt H0.out (n := a) (by rw [HKl.out]; exact han); rw [HKl.out, HJ.out, hP] at h; exact h
            have HP := hid hP
            have HT := hid hT
            obtain ⟨gI, rfl⟩ : ∃ gI, vp = some ⟨gI, 0, none⟩ := by
              rcases HR6.out.it.2 with ⟨h1, h2⟩ | ⟨g', cap, cur, h1, _⟩
              · simp only [Value.slice.injEq] at h1; omega
              · simp only [Value.slice.injEq] at h1; exact ⟨g', h1.1⟩
            have hlen : (itB X j).length = J := by rw [itB_length (by rw [HKl.out, HN.out]; exact Nat.le_refl _), HN.out, HJ.out]
            obtain ⟨⟨s, tt, bb⟩, hr'⟩ : ∃ r, (itB X j)[P]? = some r := ⟨_, List.getElem?_eq_getElem (by rw [hlen]; exact hPJ)⟩
            have Hr' := hid hr'
            have e1 := HR6.out.of.cellAt a (by omega)
            rw [List.getElem?_map, ofL_get han, if_pos han, hP] at e1
            have e2 := HR6.out.of.cellAt c (by omega)
            rw [List.getElem?_map, ofL_get hcn, if_pos hcn, hT] at e2
            simp only [Option.map_some] at e1 e2
            have u2 : w6.cell? ⟨gI, P * 3 + 2, none⟩ = some (.bool bb) := (HR6.out.it.cellAt (P * 3 + 2) (by omega)).trans (by rw [itsC_get _ P 2 _ hr' (by decide)]; rfl)
            have u1 : w6.cell? ⟨gI, P * 3 + 1, none⟩ = some (.int .i64 tt) := (HR6.out.it.cellAt (P * 3 + 1) (by omega)).trans (by rw [itsC_get _ P 1 _ hr' (by decide)]; rfl)
            have f2 := HR6.out.it.frozenAt (P * 3 + 2)
            have f1 := HR6.out.it.frozenAt (P * 3 + 1)
            have a0 : (0 : Int) ≤ (a : Int) := by omega
            have ak : (a : Int) < (k : Int) := by omega
            have c0 : (0 : Int) ≤ (c : Int) := by omega
            have ck : (c : Int) < (k : Int) := by omega
            have P0 : (0 : Int) ≤ (P : Int) := by omega
            have pj : (P : Int) < (J : Int) := by omega
            have HS2 := hid (HR6.out.setBr hr' (T : Int))
            clear hP hT hPJ hlen hr' han hcn
            go_wp2
            have HS3 : Hid (ItU W ((w6.setCell ⟨gI, P * 3 + 2, none⟩ (.bool true)).setCell ⟨gI, P * 3 + 1, none⟩ (.int .i64 (T : Int))) b g k #[v1, .slice p2 k c2, .slice p3 k c3, v4, .slice (some ⟨bq, oq, none⟩) q c5] (.slice (some ⟨gI, 0, none⟩) J vc) (itB X (j + 1)) J (ofL X.K k k)) := hid (by
              rw [itB_succ Hr.out, itBr, if_pos rfl]
              simp only [Int.toNat_natCast]
              rw [HP.out, HT.out, mod_set _ Hr'.out]
              exact HS2.out)
            go_roundw
            case rel => exact ⟨j + 1, Hlt.out, by go_num, HS3⟩
            case measure => simp [intOf]; have := Hlt.out; omega
          · have hb : (rk == 2) = false := by simpa using hk2
            have HS3 : Hid (ItU W w6 b g k #[v1, .slice p2 k c2, .slice p3 k c3, v4, .slice (some ⟨bq, oq, none⟩) q c5] (.slice vp J vc) (itB X (j + 1)) J (ofL X.K k k)) := hid (by
              rw [itB_succ Hr.out, itBr, if_neg hk2]
              exact HR6.out)
            clear hk2
            go_wp2
            go_roundw
            case rel => exact ⟨j + 1, Hlt.out, by go_num, HS3⟩
            case measure => simp [intOf]; have := Hlt.out; omega
        · obtain rfl : j = q := by omega
          have jq : ¬ ((j : Int) < (j : Int)) := by omega
          clear hlt hj
          go_wp2
          go_ret2
          have hI : (itsP X).length = J := by rw [← itB_all, itB_length (by rw [HKl.out, HN.out]; exact Nat.le_refl _), HN.out, HJ.out]
          refine ⟨.slice vp J vc, .slice (some ⟨g, 0, none⟩) k k, rfl, ?_, own_baseL HR.out.of (by have := HR.out.lt; omega), HR.out.gr⟩
          rw [hI, ← itB_all, HQl.out]
          exact own_baseL HR.out.it (by have := HR.out.lt; omega)
end Go.Proofs.YtnpnafidhcnkhaaGreatDoor
namespace Go.Proofs.YtnpnafidhcnkhaaGreatDoor
open Go.RowKit
/-- these made long -/
def stR (B : List Bool) : List Int → List Bool
  | [] => B
  | x :: l => stR (B.set x.toNat true) l
theorem stR_length : ∀ (l : List Int) (B : List Bool), (stR B l).length = B.length
  | [], _ => rfl
  | x :: l, B => by rw [stR, stR_length l, List.length_set]
theorem stR_snoc : ∀ (l : List Int) (B : List Bool) (x : Int), stR B (l ++ [x]) = (stR B l).set x.toNat true
  | [], _, _ => rfl
  | y :: l, B, x => by rw [List.cons_append, stR, stR, stR_snoc l]
theorem stR_get : ∀ (l : List Int) (B : List Bool) (k : Nat), k < B.length → (∀ x ∈ l, 0 ≤ x) → (stR B l).getD k false = (B.getD k false || decide ((k : Int) ∈ l))
  | [], B, k, _, _ => by simp [stR]
  | x :: l, B, k, hk, hl => by
    rw [stR, stR_get l _ k (by rw [List.length_set]; exact hk) (fun y hy => hl y (List.mem_cons_of_mem _ hy))]
    have hx := hl x (List.mem_cons_self ..)
    obtain ⟨m, rfl⟩ := Int.eq_ofNat_of_zero_le hx
    by_cases e : k = m
    · subst e
      simp [List.getD_eq_getElem?_getD, hk]
    · have e2 : ¬ ((k : Int) = (m : Int)) := by omega
      simp [List.getD_eq_getElem?_getD, Ne.symm e, e2]
theorem stR_next {L : List RIt} {B : List Bool} (hB : B.length = L.length) : stR B (farR L B L.length) = nextR L B := by
  apply List.ext_getElem?
  intro k
  by_cases hk : k < L.length
  · have h1 := stR_get (farR L B L.length) B k (by omega) (fun x hx => by obtain ⟨j, _, rfl, _⟩ := farR_mem.1 hx; omega)
    have h2 := nextR_getD hk (B := B)
    have h3 : decide ((k : Int) ∈ farR L B L.length) = tooB L B k := by
      cases e : tooB L B k with
      | true => rw [decide_eq_true_eq]; exact farR_mem.2 ⟨k, hk, rfl, e⟩
      | false =>
        rw [decide_eq_false_iff_not]
        intro h
        obtain ⟨j, _, h5, h6⟩ := farR_mem.1 h
        obtain rfl : k = j := by omega
        rw [e] at h6; cases h6
    rw [h3, ← h2, List.getD_eq_getElem?_getD, List.getD_eq_getElem?_getD] at h1
    rw [List.getElem?_eq_getElem (by rw [stR_length]; omega), List.getElem?_eq_getElem (by rw [nextR_length]; exact hk)] at h1 ⊢
    simpa using h1
  · rw [List.getElem?_eq_none (by rw [stR_length]; omega), List.getElem?_eq_none (by rw [nextR_length]; omega)]
theorem info_boolR : ∃ i : TypeInfo, Tryz.prog.info? 4 = some i ∧ i.zero = some (.bool false) ∧ i.size = 1 ∧ i.bytes = 1 := info_parts (P := Tryz.prog) (e := 4) (z := .bool false) (size := 1) (bytes := 1) (by kernel_rfl)
structure DoW (W w : World) (g n : Nat) (B : List Bool) (fv : Value) (F : List Int) : Prop where
  gr : W.grownBy w none
  own : w.ownsRow W.heap.size 4 1 (.slice (some ⟨g, 0, none⟩) n n) n (B.map Value.bool)
  far : SlAt w .i64 fv F
  ne : fv.ownBlock ≠ some g
  ge : W.heap.size ≤ g
theorem DoW.bl {W w : World} {g n : Nat} {B : List Bool} {fv : Value} {F : List Int} (h : DoW W w g n B fv F) (hB : B.length = n) : BlAt w (.slice (some ⟨g, 0, none⟩) n n) B := by
  unfold BlAt; rw [hB]; exact CsAt.own h.own
theorem DoW.set {W w : World} {g n : Nat} {B : List Bool} {fv : Value} {F : List Int} (h : DoW W w g n B fv F) (k : Nat) : DoW W (w.setCell ⟨g, k, none⟩ (.bool true)) g n (B.set k true) fv F := by
  obtain ⟨h1, h2⟩ := h.own.stored k (.bool true)
  refine ⟨grown_new' (grown_trans (grown_none h.gr) h2) (fun j hj => by obtain rfl := Option.some.inj hj; exact h.ge), ?_, h.far.kept h2 (.inr h.ne), h.ne, h.ge⟩
  rw [List.map_set]
  exact h1
theorem DoW.next {W w w1 : World} {g n : Nat} {B : List Bool} {fv u : Value} {F F' : List Int} (h : DoW W w g n B fv F) (ho : w1.ownsRow w.heap.size 3 1 u F'.length (F'.map (Value.int .i64))) (hg : w.grownBy w1 none) : DoW W w1 g n B u F' := by
  refine ⟨grown_trans h.gr hg, h.own.kept hg (by simp [Value.ownBlock]), SlAt.own ho, fun e => ?_, h.ge⟩
  have h1 := (ho.lt g e).1
  have h2 := (h.own.lt g rfl).2
  omega
set_option maxRecDepth 100000 in
set_option maxHeartbeats 8000000 in
theorem do_yesR {W : World} {v : Value} {L : List RIt} {K : Nat} (h : RiAt W v L) (hv : validR L = true) (hK : RndR L K) :
    Calls Tryz.prog 52 #[v] W fun e w' => ∃ g, e = .returned (.tuple #[.slice (some ⟨g, 0, none⟩) L.length L.length, .int .i64 K, .bool true]) ∧ w'.ownsRow W.heap.size 4 1 (.slice (some ⟨g, 0, none⟩) L.length L.length) L.length ((itR L K).map Value.bool) ∧ W.grownBy w' none := by
  have hv2 := hv
  unfold validR at hv2
  rw [Bool.and_eq_true, decide_eq_true_eq] at hv2
  have hL := hv2.1
  have HO := hid hv2.2
  obtain ⟨p, c, hvv⟩ := h.len
  subst hvv
  have hmay := may_any h (by omega)
  rw [hv] at hmay
  have HMay := hid hmay
  have HA := hid h
  have HK := hid hK
  have HKb := hid (rnd_bound hK)
  obtain ⟨n, hn⟩ : ∃ n, L.length = n := ⟨_, rfl⟩
  have HNe := hid hn
  rw [hn] at hL HMay ⊢
  have n0 : (0 : Int) ≤ (n : Int) := by omega
  have n1 : (n : Int) ≤ 4096 := by omega
  have Hn1 := hid hL
  have HTf : Hid (∀ (w : World) (vb : Value) (B : List Bool), W.grownBy w none → BlAt w vb B → B.length = n → Calls Tryz.prog 70 #[.slice p n c, vb] w fun e w' => ∃ u, e = .returned u ∧ w'.ownsRow w.heap.size 3 1 u (farR L B n).length ((farR L B n).map (Value.int .i64)) ∧ w.grownBy w' none) := hid (fun w vb B hg hb hB => by
    have := tooFar_rel (HA.out.kept0 hg) hb (by rw [HNe.out]; exact hB) HO.out (by rw [HNe.out]; omega)
    rw [HNe.out] at this
    exact this)
  obtain ⟨i, hi, hz0, hz1, hz2⟩ := info_boolR
  have Hi := hid hi
  have Hz0 := hid hz0
  have Hz1 := hid hz1
  have Hz2 := hid hz2
  clear h hv hv2 hK hmay hL hn hi hz0 hz1 hz2
  go_enter Tryz.func52, Tryz.ntmps52
  go_wp2_with fail
  refine HMay.out.mono ?_
  rintro e w1 ⟨rfl, hg⟩
  have HG := hid hg
  clear hg HMay
  go_wp2_with (first
    | (refine wpList_make_full _ rfl _ _ 127 rfl W.heap.size 4 i _ 1 Tryz.underlying127 Hi.out Hz0.out Hz1.out .i64 .i64 _ _ n rfl rfl (by first | rfl | omega) (by first | rfl | omega) (by rw [Hz2.out]; have := Hn1.out; omega) (by have := Hn1.out; unfold maxLen; omega) HG.out.size ?_
       intro w3 hmk hgr
       rw [show (Value.bool false).cells = Array.replicate 1 (.bool false) from rfl, toList_madeZero _ _ 1 (by omega), Array.toList_replicate, Nat.mul_one] at hmk
       have HD : Hid (DoW W w3 w1.heap.size n (itR L 0) (.slice none 0 0) []) := hid ⟨grown_trans HG.out hgr, by
         unfold itR; rw [List.map_replicate, HNe.out]; exact hmk, .inl ⟨⟨_, _, rfl⟩, rfl⟩, by simp [Value.ownBlock], HG.out.size⟩
       clear hmk hgr)
    | fail)
  obtain ⟨g, hg⟩ : ∃ g, w1.heap.size = g := ⟨_, rfl⟩
  rw [hg] at HD ⊢
  clear hg HG
  refine (HTf.out _ _ _ HD.out.gr (HD.out.bl (by rw [itR_length, HNe.out])) (by rw [itR_length, HNe.out])).mono ?_
  rintro e w4 ⟨u, rfl, ho, hg⟩
  have HP := hid (HD.out.next ho hg)
  clear ho hg HD
  go_wp2
  go_loopw [6, 7] (fun r fv wr => ∃ j : Nat, j ≤ K ∧ r = .int .i64 j ∧ Hid (DoW W wr g n (itR L j) fv (farR L (itR L j) n))) (fun r _ _ => K - (intOf r).toNat)
  case atStart => exact ⟨0, Nat.zero_le _, rfl, HP⟩
  case round =>
    obtain ⟨j, hj, rfl, HR⟩ := hrel
    clear HP
    have j0 : (0 : Int) ≤ (j : Int) := by omega
    have j1 : (j : Int) ≤ 4096 := by have := HKb.out; have := HNe.out; omega
    obtain ⟨M, hM⟩ : ∃ M, (farR L (itR L j) n).length = M := ⟨_, rfl⟩
    obtain ⟨fp, fc, hfv⟩ := HR.out.far.len'
    subst hfv
    have HM := hid hM
    have HMb : Hid (M ≤ 4096) := hid (by have := farR_length (L := L) (B := itR L j) n; have := Hn1.out; omega)
    rw [hM] at HR ⊢
    by_cases hlt : j < K
    · have Hlt := hid hlt
      have hne := HK.out.2 j hlt
      have HMp : Hid (0 < M) := hid (by
        rw [HNe.out] at hne
        rw [← hM]
        exact List.length_pos_iff.2 hne)
      have M0 : (0 : Int) < (M : Int) := by have := HMp.out; omega
      have M1 : (M : Int) ≤ 4096 := by have := HMb.out; omega
      have HD0 : Hid (DoW W wr g n (stR (itR L j) ((farR L (itR L j) n).take 0)) (.slice fp M fc) (farR L (itR L j) n)) := hid HR.out
      clear hM hlt hne hj
      go_wp2
      go_loopw [27] (fun i w2 => ∃ m : Nat, m ≤ M ∧ i = .int .i64 m ∧ Hid (DoW W w2 g n (stR (itR L j) ((farR L (itR L j) n).take m)) (.slice fp M fc) (farR L (itR L j) n))) (fun i _ => M - (intOf i).toNat)
      case atStart => exact ⟨0, Nat.zero_le _, rfl, HD0⟩
      case round =>
        obtain ⟨m, hm, rfl, HI⟩ := hrel
        clear HD0 HR
        have m0 : (0 : Int) ≤ (m : Int) := by omega
        by_cases hml : m < M
        · have mM : (m : Int) < (M : Int) := by omega
          obtain ⟨x, hx⟩ : ∃ x, (farR L (itR L j) n)[m]? = some x := ⟨_, List.getElem?_eq_getElem (by have := HM.out; omega)⟩
          obtain ⟨k, hk, rfl, _⟩ := farR_mem.1 (List.mem_of_getElem? hx)
          obtain ⟨b, o, c', hvv, hb, hc⟩ := HI.out.far.at_ (by have := HM.out; have := HMp.out; omega)
          simp only [Value.slice.injEq] at hvv
          obtain ⟨rfl, -, -⟩ := hvv
          have ex := hc m _ hx
          have k0 : (0 : Int) ≤ (k : Int) := by omega
          have kn : (k : Int) < (n : Int) := by omega
          have HI2 := hid (HI.out.set k)
          obtain ⟨cc, ec⟩ : ∃ cc, _ = some (Value.bool cc) := ⟨_, (HI.out.own.cellAt k (by omega)).trans (by rw [List.getElem?_map, List.getElem?_eq_getElem (by rw [stR_length, itR_length, HNe.out]; exact hk), Option.map_some])⟩
          have fz := HI.out.own.frozenAt k
          have Hx := hid hx
          have Hml := hid hml
          clear hx hk hb hc hml HI hm
          go_wp2
          go_roundw
          case rel =>
            refine ⟨m + 1, Hml.out, by go_num, hid ?_⟩
            rw [List.take_add_one, Hx.out, Option.toList_some, stR_snoc, Int.toNat_natCast]
            exact HI2.out
          case measure => simp [intOf]; have := Hml.out; omega
        · obtain rfl : m = M := by omega
          have mM : ¬ ((m : Int) < (m : Int)) := by omega
          have HI2 := HI.out
          rw [List.take_of_length_le (by rw [HM.out]; exact Nat.le_refl _), show farR L (itR L j) n = farR L (itR L j) L.length by rw [HNe.out], stR_next (itR_length j)] at HI2
          have HI3 : Hid (DoW W _ g n (itR L (j + 1)) (.slice fp m fc) (farR L (itR L j) L.length)) := hid HI2
          clear HI2 HI hml hm
          go_wp2_with fail
          refine (HTf.out _ _ _ HI3.out.gr (HI3.out.bl (by rw [itR_length, HNe.out])) (by rw [itR_length, HNe.out])).mono ?_
          rintro e w4 ⟨u, rfl, ho, hg⟩
          have HP := hid (HI3.out.next ho hg)
          clear ho hg
          go_wp2
          go_roundw
          case rel => exact ⟨j + 1, Hlt.out, by go_num, HP⟩
          case measure => simp [intOf]; have := Hlt.out; omega
    · obtain rfl : j = K := by omega
      have h1 := HK.out.1
      rw [HNe.out] at h1
      rw [h1] at hM
      obtain rfl : M = 0 := by rw [← hM]; rfl
      clear hlt hM
      go_wp2
      refine bodyPost_ret (v := .tuple #[.slice (some ⟨g, 0, none⟩) n n, .int .i64 j, .bool true]) (by simp [results, Tryz.results52, go_sem]) rfl ?_
      exact ⟨g, rfl, HR.out.own, HR.out.gr⟩
set_option maxRecDepth 100000 in
theorem do_noR {W : World} {v : Value} {L : List RIt} (h : RiAt W v L) (hL : L.length ≤ 1000000) (hv : validR L = false) :
    Calls Tryz.prog 52 #[v] W fun e w' => e = .returned (.tuple #[.slice none 0 0, .int .i64 0, .bool false]) ∧ W.grownBy w' none := by
  have hmay := may_any h hL
  rw [hv] at hmay
  have HMay := hid hmay
  obtain ⟨p, c, hvv⟩ := h.len
  subst hvv
  clear h hmay hv
  go_enter Tryz.func52, Tryz.ntmps52
  go_wp2_with fail
  refine HMay.out.mono ?_
  rintro e w1 ⟨rfl, hg⟩
  have HG := hid hg
  clear hg
  go_wp2
  refine bodyPost_ret (v := .tuple #[.slice none 0 0, .int .i64 0, .bool false]) (by simp [results, Tryz.results52, go_sem]) rfl ?_
  exact ⟨rfl, HG.out⟩
end Go.Proofs.YtnpnafidhcnkhaaGreatDoor

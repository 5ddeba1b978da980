/- Package relax: tooFar: contract. -/
import Derived.Test.YtmhkghkfpkekbaaRel4
import Derived.BigGuardPart
namespace Go.Proofs.Ytmhkghkfpkekbaa
open Go.RowKit
theorem info_intR : ∃ i : TypeInfo, Try.prog.info? 3 = some i ∧ i.zero = some (.int .i64 0) ∧ i.size = 1 ∧ i.bytes = 8 := info_parts (P := Try.prog) (e := 3) (z := .int .i64 0) (size := 1) (bytes := 8) (by kernel_rfl)
/-- the places lie in block g -/
structure SmAt (w : World) (g N : Nat) (L : List RIt) (B : List Bool) : Prop where
  lt : g < w.heap.size
  c0 : ∀ j, j < N → w.cell? ⟨g, j * 2, none⟩ = some (.int .u64 (smH (plR L B j)))
  c1 : ∀ j, j < N → w.cell? ⟨g, j * 2 + 1, none⟩ = some (.int .u64 (smL (plR L B j)))
theorem SmAt.kept {w w1 : World} {g N : Nat} {L : List RIt} {B : List Bool} {r : Option Nat} (h : SmAt w g N L B) (hg : w.grownBy w1 r) (hr : some g ≠ r) : SmAt w1 g N L B :=
  ⟨Nat.lt_of_lt_of_le h.lt hg.size, fun j hj => (grown_cell hg h.lt hr).trans (h.c0 j hj), fun j hj => (grown_cell hg h.lt hr).trans (h.c1 j hj)⟩
theorem SmAt.kept0 {w w1 : World} {g N : Nat} {L : List RIt} {B : List Bool} (h : SmAt w g N L B) (hg : w.grownBy w1 none) : SmAt w1 g N L B := h.kept hg (by simp)
theorem SmAt.own {w : World} {b g N : Nat} {L : List RIt} {B : List Bool} (h : w.ownsRow b 50 2 (.slice (some ⟨g, 0, none⟩) N N) N (smsC (plsR L B N))) : SmAt w g N L B :=
  ⟨(h.lt g rfl).2, fun j hj => by rw [h.cellAt (j * 2) (by omega)]; exact smsC_get0 _ _ _ (plsR_get hj), fun j hj => by rw [h.cellAt (j * 2 + 1) (by omega)]; exact smsC_get1 _ _ _ (plsR_get hj)⟩
structure TfW (W w : World) (g N : Nat) (L : List RIt) (B : List Bool) (v : Value) (k : Nat) : Prop where
  gr : W.grownBy w none
  sm : SmAt w g N L B
  own : w.ownsRow W.heap.size 3 1 v (farR L B k).length ((farR L B k).map (Value.int .i64))
  ne : v.ownBlock ≠ some g
theorem TfW.kept0 {W w w1 : World} {g N : Nat} {L : List RIt} {B : List Bool} {v : Value} {k : Nat} (h : TfW W w g N L B v k) (hg : w.grownBy w1 none) : TfW W w1 g N L B v k :=
  ⟨grown_trans h.gr hg, h.sm.kept0 hg, h.own.kept hg (by cases v.ownBlock <;> simp), h.ne⟩
theorem TfW.skip {W w : World} {g N : Nat} {L : List RIt} {B : List Bool} {v : Value} {k : Nat} (h : TfW W w g N L B v k) (hf : tooB L B k = false) : TfW W w g N L B v (k + 1) :=
  ⟨h.gr, h.sm, by rw [farR_succ_no hf]; exact h.own, h.ne⟩
set_option maxRecDepth 100000 in
set_option maxHeartbeats 8000000 in
theorem tooFar_rel {W : World} {v vb : Value} {L : List RIt} {B : List Bool} (h : RiAt W v L) (hb : BlAt W vb B) (hB : B.length = L.length) (hok : okR L = true) (hL : L.length ≤ 5000) :
    Calls Try.prog 22 #[v, vb] W fun e w' => ∃ u, e = .returned u ∧ w'.ownsRow W.heap.size 3 1 u (farR L B L.length).length ((farR L B L.length).map (Value.int .i64)) ∧ W.grownBy w' none := by
  obtain ⟨p, c, hv⟩ := h.len
  subst hv
  have HBl := hid hb
  obtain ⟨pb, cb, hvb⟩ := hb.len
  subst hvb
  have HBg := hid (begins_rel h hb hB hok hL)
  rw [hB] at HBg ⊢
  have HBle := hid hB
  have HA := hid h
  have HK := hid hok
  obtain ⟨n, hn⟩ : ∃ n, L.length = n := ⟨_, rfl⟩
  have HNe := hid hn
  rw [hn] at hL HBg ⊢
  obtain ⟨N, hN⟩ : ∃ N, n + 1 = N := ⟨_, rfl⟩
  have HN := hid hN
  rw [hN] at HBg
  have n0 : (0 : Int) ≤ (n : Int) := by omega
  have n1 : (n : Int) ≤ 5000 := by omega
  have nN : (n : Int) + 1 = (N : Int) := by omega
  have N1 : (N : Int) ≤ 5001 := by omega
  have HN1 := hid (show N ≤ 5001 by omega)
  clear h hb hB hok hL hn hN
  go_enter Try.func22, Try.ntmps22
  go_wp2_with fail
  refine (HBg.out).mono ?_
  rintro e w1 ⟨g, rfl, hown, hg⟩
  have HP : Hid (TfW W w1 g N L B (.slice none 0 0) 0) := hid ⟨hg, SmAt.own hown, World.ownsRow_nil _ _ _ _, by simp [Value.ownBlock]⟩
  clear hown hg HBg
  go_wp2
  go_loopw [6, 14] (fun v i wr => ∃ k : Nat, k ≤ n ∧ i = .int .i64 k ∧ Hid (TfW W wr g N L B v k)) (fun _ i _ => n - (intOf i).toNat)
  case atStart => exact ⟨0, Nat.zero_le _, rfl, HP⟩
  case round =>
    obtain ⟨k, hk, rfl, HR⟩ := hrel
    clear HP
    have k0 : (0 : Int) ≤ (k : Int) := by omega
    obtain ⟨up, uc, rfl⟩ := own_slice HR.out.own
    obtain ⟨M, hM⟩ : ∃ M, (farR L B k).length = M := ⟨_, rfl⟩
    have HM := hid hM
    have HMb : Hid (M ≤ 5000) := hid (by have := farR_length (L := L) (B := B) k; have := HN1.out; have := HN.out; omega)
    rw [hM] at HR ⊢
    clear hM
    by_cases hlt : k < n
    · have kn : (k : Int) < (n : Int) := by omega
      have kN : (k : Int) < (N : Int) := by omega
      have Hlt := hid hlt
      have HkN : Hid (k < N) := hid (by have := HN.out; omega)
      obtain ⟨r, hr⟩ : ∃ r, L[k]? = some r := ⟨_, List.getElem?_eq_getElem (by have := HNe.out; omega)⟩
      have hfar : tooB L B k = (r.b && !(B.getD k false) && !(nearR (plR L B r.t.toNat - plR L B k))) := by unfold tooB; rw [hr]
      have hrt : r.b = true → 0 ≤ r.t ∧ r.t ≤ (n : Int) := fun hb => by
        have := List.all_eq_true.1 HK.out r (List.mem_of_getElem? hr)
        simp only [okRI, Bool.and_eq_true, Bool.or_eq_true, Bool.not_eq_true', hb, decide_eq_true_eq, HNe.out] at this
        simpa using this.2
      obtain ⟨b, o, c', hv, hb, c0, c1, c2⟩ := RiAt.item (HA.out.kept0 HR.out.gr) hr
      simp only [Value.slice.injEq] at hv
      obtain ⟨rfl, -, -⟩ := hv
      obtain ⟨bb, ob, cb', hvb, hbb, cB⟩ := BlAt.item (HBl.out.kept0 HR.out.gr) (by rw [HBle.out, HNe.out]; exact hlt)
      simp only [Value.slice.injEq] at hvb
      obtain ⟨rfl, -, -⟩ := hvb
      obtain ⟨s, t, br⟩ := r
      simp only at c0 c1 c2 hfar hrt
      obtain ⟨bk, hbk⟩ : ∃ bk, B.getD k false = bk := ⟨_, rfl⟩
      rw [hbk] at cB hfar
      have HX := hid (RwAt.new wr 29 #[.int .i64 s, .int .i64 t, .bool br])
      have al := World.grownBy_alloc wr (.cells #[.int .i64 s, .int .i64 t, .bool br] 29) none
      have HQ := hid (HR.out.kept0 al)
      have HcB2 := hid (And.intro (Nat.lt_of_lt_of_le hbb al.size) ((grown_cell (p := ⟨bb, ob + k, none⟩) al hbb (by simp)).trans cB))
      have Hfar := hid hfar
      have Hrt := hid hrt
      clear hr hlt hb hk hbb cB HR hfar hrt hbk al
      go_upto_region 6 with (fail)
      obtain ⟨X, hX⟩ : ∃ X, wr.heap.size = X := ⟨_, rfl⟩
      rw [hX] at HX ⊢
      clear hX c0 c1 c2
      generalize wr.alloc (.cells #[.int .i64 s, .int .i64 t, .bool br] 29) = w2 at HX HQ HcB2 ⊢
      have HXl := hid HX.out.lt
      cases br
      · have HF : Hid (tooB L B k = false) := hid (by rw [Hfar.out]; simp)
        have x2 := HX.out.cell 2 (v := .bool false) rfl
        go_quiet (fail)
        go_wp2
        go_roundw
        case rel => exact ⟨k + 1, Hlt.out, by go_num, hid ((HQ.out.skip HF.out).kept0 (grown_drewN (grown_refl _ _) _))⟩
        case measure => simp [intOf]; have := Hlt.out; omega
      · cases bk
        · obtain ⟨T, rfl⟩ := Int.eq_ofNat_of_zero_le (Hrt.out rfl).1
          have hT := (Hrt.out rfl).2
          have HTN : Hid (T < N) := hid (by have := HN.out; omega)
          have TN : (T : Int) < (N : Int) := by omega
          have T0 : (0 : Int) ≤ (T : Int) := by omega
          obtain ⟨P, hP⟩ : ∃ P, plR L B k = P := ⟨_, rfl⟩
          obtain ⟨Q, hQ⟩ : ∃ Q, plR L B T = Q := ⟨_, rfl⟩
          have hPb := plR_bd HK.out k (B := B)
          have hQb := plR_bd HK.out T (B := B)
          obtain ⟨ff, hff⟩ : ∃ ff, nearR (Q - P) = ff := ⟨_, rfl⟩
          have HF := Hfar.out
          rw [Int.toNat_natCast, hP, hQ, hff] at HF
          have HF := hid HF
          rw [hP] at hPb
          rw [hQ] at hQb
          have Hnear := fun w => near_any (a := P) (b := Q) (by omega) (by have := HN1.out; have := HkN.out; omega) (by omega) (by have := HN1.out; have := HTN.out; omega) w
          rw [hff] at Hnear
          have Hnear := hid Hnear
          have hpl := fun w => hasPlace_any (p := some ⟨b, o, none⟩) (n := n) (c := c) (t := (T : Int)) (by omega) w
          rw [show decide (0 ≤ (T : Int) ∧ (T : Int) ≤ (n : Int)) = true by simp; omega] at hpl
          have Hpl := hid hpl
          have HKp : Hid (∀ W', w2.drew.grownBy W' none → (W'.cell? ⟨X, 1, none⟩ = some (.int .i64 (T : Int)) ∧ W'.cell? ⟨X, 2, none⟩ = some (.bool true) ∧ W'.cell? ⟨bb, ob + k, none⟩ = some (.bool false) ∧ W'.cell? ⟨g, k * 2, none⟩ = some (.int .u64 (smH P)) ∧ W'.cell? ⟨g, k * 2 + 1, none⟩ = some (.int .u64 (smL P)) ∧ W'.cell? ⟨g, T * 2, none⟩ = some (.int .u64 (smH Q)) ∧ W'.cell? ⟨g, T * 2 + 1, none⟩ = some (.int .u64 (smL Q)) ∧ w2.drew.grownBy W' none)) := hid (fun W' hg => by
            have hg' := grown_trans (grown_drew (grown_refl w2 none)) hg
            have hs := HQ.out.sm.kept0 hg'
            refine ⟨(HX.out.kept0 hg').cell 1 rfl, (HX.out.kept0 hg').cell 2 rfl, (grown_cell hg' HcB2.out.1 (by simp)).trans HcB2.out.2, ?_, ?_, ?_, ?_, hg⟩
            · rw [hs.c0 k HkN.out, hP]
            · rw [hs.c1 k HkN.out, hP]
            · rw [hs.c0 T HTN.out, hQ]
            · rw [hs.c1 T HTN.out, hQ])
          clear hP hQ hPb hQb hff hpl hT HX HcB2 Hfar Hrt
          go_region_held3 (fun W' => W'.cell? ⟨X, 1, none⟩ = some (.int .i64 (T : Int)) ∧ W'.cell? ⟨X, 2, none⟩ = some (.bool true) ∧ W'.cell? ⟨bb, ob + k, none⟩ = some (.bool false) ∧ W'.cell? ⟨g, k * 2, none⟩ = some (.int .u64 (smH P)) ∧ W'.cell? ⟨g, k * 2 + 1, none⟩ = some (.int .u64 (smL P)) ∧ W'.cell? ⟨g, T * 2, none⟩ = some (.int .u64 (smH Q)) ∧ W'.cell? ⟨g, T * 2 + 1, none⟩ = some (.int .u64 (smL Q)) ∧ w2.drew.grownBy W' none)
            (first | (with_reducible exact HKp.out _ (grown_refl _ _)) | (go_split_ands; exact HKp.out _ (grown_trans (by assumption) hcb)))
            (first
              | (go_split_ands; go_at_call 26; (with_reducible refine (Hpl.out _).mono ?_); rintro e w' ⟨rfl, hcb⟩)
              | (go_split_ands; go_at_call 27; (with_reducible refine (Hnear.out _).mono ?_); rintro e w' ⟨rfl, hcb⟩))
          go_split_ands
          rename_i hh
          have HQ2 := hid (HQ.out.kept0 (grown_trans (grown_drew (grown_refl w2 none)) hh))
          clear hh HQ HKp Hnear Hpl
          cases ff
          · have HF2 : Hid (tooB L B k = true) := hid (by rw [HF.out]; rfl)
            obtain ⟨i, hi, hz0, hz1, hz2⟩ := info_intR
            have Hi := hid hi
            have Hz0 := hid hz0
            have Hz1 := hid hz1
            have Hz2 := hid hz2
            have HRa := hid (HQ2.out.kept0 (World.grownBy_alloc w' (.cells #[.int .i64 k] 3) none))
            have HOw := HRa.out.own
            rw [HM.out] at HOw
            have HOw := hid HOw
            have HNw : Hid (∀ j u, [Value.int .i64 (k : Int)][j]? = some u → (w'.alloc (.cells #[.int .i64 k] 3)).cell? ((⟨w'.heap.size, 0, none⟩ : Addr).add j) = some u) := hid (World.news_of_block (heap_alloc_new w' _))
            clear hi hz0 hz1 hz2 HQ2 HF
            go_wp2_with (first
              | (refine wpList_append_lies _ rfl _ _ 30 rfl W.heap.size 3 i _ 1 8 Try.underlying30 Hi.out Hz0.out Hz1.out Hz2.out rfl (by decide) _ M _ rfl HOw.out ⟨w'.heap.size, 0, none⟩ 1 1 _ rfl rfl HNw.out (by simp [Value.oneCell']) (by decide) (by have := HMb.out; unfold maxLen; omega) (by have := HMb.out; omega) HRa.out.gr.size _ rfl ?_
                 intro g5 cap w5 hown hgrow hat hlt2
                 have HO := hid hown
                 have hgrow0 : (w'.alloc (.cells #[.int .i64 k] 3)).grownBy w5 (Value.slice up M uc).ownBlock := hgrow
                 have hat0 : (Value.slice up M uc).ownBlock = some g5 ∨ g5 = (w'.alloc (.cells #[.int .i64 k] 3)).heap.size := hat
                 have HG5 := hid hgrow0
                 have HAt := hid hat0
                 clear hown hgrow hat hlt2 hgrow0 hat0)
              | fail)
            go_roundw
            case rel =>
              refine ⟨k + 1, Hlt.out, by go_num, hid ⟨?_, ?_, ?_, ?_⟩⟩
              · exact grown_new' (grown_trans (grown_none HRa.out.gr) HG5.out) (fun j hj => (HOw.out.lt j hj).1)
              · exact HRa.out.sm.kept HG5.out (fun e => HRa.out.ne e.symm)
              · rw [farR_succ_yes HF2.out, List.length_append, HM.out, List.map_append]
                exact HO.out
              · rcases HAt.out with e | e
                · exact fun h => HRa.out.ne (e.trans h)
                · have h1 := HRa.out.sm.lt
                  simp only [Value.ownBlock, ne_eq, Option.some.injEq]
                  omega
            case measure => simp [intOf]; have := Hlt.out; omega
          · have HF2 : Hid (tooB L B k = false) := hid (by rw [HF.out]; rfl)
            go_wp2
            go_roundw
            case rel => exact ⟨k + 1, Hlt.out, by go_num, hid (HQ2.out.skip HF2.out)⟩
            case measure => simp [intOf]; have := Hlt.out; omega
        · have HF : Hid (tooB L B k = false) := hid (by rw [Hfar.out]; simp)
          have x2 := HX.out.cell 2 (v := .bool true) rfl
          have cB := HcB2.out.2
          go_quiet (fail)
          go_wp2
          go_roundw
          case rel => exact ⟨k + 1, Hlt.out, by go_num, hid ((HQ.out.skip HF.out).kept0 (grown_drewN (grown_refl _ _) _))⟩
          case measure => simp [intOf]; have := Hlt.out; omega
    · obtain rfl : k = n := by omega
      clear hlt
      have kn : ¬ ((k : Int) < (k : Int)) := by omega
      go_wp2
      go_ret
      have h1 := HR.out.own
      rw [HM.out] at h1
      exact ⟨_, rfl, by rw [HM.out]; exact h1, HR.out.gr⟩
end Go.Proofs.Ytmhkghkfpkekbaa

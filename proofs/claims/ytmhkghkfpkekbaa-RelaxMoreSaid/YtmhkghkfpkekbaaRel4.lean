/- Package relax: begins: contract. -/
import Derived.Test.YtmhkghkfpkekbaaRel3
import Derived.Laws.OwnMore
import Derived.OwnWalk
import Derived.Deep.CutBlock
import Derived.Deep.CutRange
namespace Go.Proofs.Ytmhkghkfpkekbaa
open Go.RowKit
def smsC : List Int → List Value
  | [] => []
  | z :: l => [Value.int .u64 (smH z), .int .u64 (smL z)] ++ smsC l
theorem smsC_length : ∀ l : List Int, (smsC l).length = l.length * 2
  | [] => rfl
  | r :: l => by
    have := smsC_length l
    simp only [smsC, List.length_append, List.length_cons, List.length_nil, this]
    omega
theorem smsC_get0 : ∀ (l : List Int) (k : Nat) (z : Int), l[k]? = some z → (smsC l)[k * 2]? = some (.int .u64 (smH z))
  | [], _, _, h => by simp at h
  | x :: l, 0, z, h => by
    obtain rfl : x = z := by simpa using h
    rfl
  | x :: l, k + 1, z, h => by
    rw [smsC, List.getElem?_append_right (by simp; omega), ← smsC_get0 l k z (by simpa using h)]
    congr 1
    simp
    omega
theorem smsC_get1 : ∀ (l : List Int) (k : Nat) (z : Int), l[k]? = some z → (smsC l)[k * 2 + 1]? = some (.int .u64 (smL z))
  | [], _, _, h => by simp at h
  | x :: l, 0, z, h => by
    obtain rfl : x = z := by simpa using h
    rfl
  | x :: l, k + 1, z, h => by
    rw [smsC, List.getElem?_append_right (by simp; omega), ← smsC_get1 l k z (by simpa using h)]
    congr 1
    simp
    omega
theorem smsC_set : ∀ (l : List Int) (k : Nat) (z : Int), ((smsC l).set (k * 2) (.int .u64 (smH z))).set (k * 2 + 1) (.int .u64 (smL z)) = smsC (l.set k z)
  | [], _, _ => rfl
  | x :: l, 0, z => rfl
  | x :: l, k + 1, z => by
    rw [List.set_cons_succ, smsC, smsC, ← smsC_set l k z, show (k + 1) * 2 = k * 2 + 1 + 1 by omega]
    rfl
theorem smsC_rep : ∀ N : Nat, smsC (List.replicate N 0) = List.replicate (N * 2) (.int .u64 0)
  | 0 => rfl
  | N + 1 => by
    rw [List.replicate_succ, smsC, smsC_rep N, show (N + 1) * 2 = N * 2 + 1 + 1 by omega, List.replicate_succ, List.replicate_succ]
    rfl
/-- the places as far as j, behind them nothing yet -/
def bgI (L : List RIt) (B : List Bool) (j N : Nat) : List Int := (List.range N).map fun k => if k ≤ j then plR L B k else 0
theorem bgI_length (L : List RIt) (B : List Bool) (j N : Nat) : (bgI L B j N).length = N := by simp [bgI]
theorem bgI_get {L : List RIt} {B : List Bool} {j N k : Nat} (h : k < N) : (bgI L B j N)[k]? = some (if k ≤ j then plR L B k else 0) := by simp [bgI, h]
theorem bgI_zero (L : List RIt) (B : List Bool) (N : Nat) : bgI L B 0 N = List.replicate N 0 := by
  apply List.ext_getElem?
  intro k
  by_cases h : k < N
  · rw [bgI_get h, List.getElem?_replicate, if_pos h]
    split
    · obtain rfl : k = 0 := by omega
      rfl
    · rfl
  · rw [List.getElem?_eq_none (by rw [bgI_length]; omega), List.getElem?_eq_none (by rw [List.length_replicate]; omega)]
theorem bgI_set {L : List RIt} {B : List Bool} {j N : Nat} : (bgI L B j N).set (j + 1) (plR L B (j + 1)) = bgI L B (j + 1) N := by
  apply List.ext_getElem?
  intro k
  by_cases h : k < N
  · rw [List.getElem?_set, bgI_get h, bgI_get h, bgI_length]
    by_cases e : j + 1 = k
    · subst e
      rw [if_pos rfl, if_pos h, if_pos (Nat.le_refl _)]
    · rw [if_neg e]
      congr 1
      by_cases e2 : k ≤ j
      · rw [if_pos e2, if_pos (by omega)]
      · rw [if_neg e2, if_neg (by omega)]
  · rw [List.getElem?_eq_none (by rw [List.length_set, bgI_length]; omega), List.getElem?_eq_none (by rw [bgI_length]; omega)]
theorem bgI_all {L : List RIt} {B : List Bool} {j N : Nat} (h : N ≤ j + 1) : bgI L B j N = plsR L B N := by
  unfold bgI plsR
  refine List.map_congr_left fun k hk => ?_
  rw [if_pos (by have := List.mem_range.1 hk; omega)]
theorem info_sm2 : ∃ i : TypeInfo, Try.prog.info? 50 = some i ∧ i.zero = some (.agg #[.int .u64 0, .int .u64 0]) ∧ i.size = 2 ∧ i.bytes = 16 := info_parts (P := Try.prog) (e := 50) (z := .agg #[.int .u64 0, .int .u64 0]) (size := 2) (bytes := 16) (by kernel_rfl)
abbrev BlAt (w : World) (v : Value) (B : List Bool) : Prop := CsAt w v B.length (B.map Value.bool)
theorem BlAt.item {w : World} {v : Value} {B : List Bool} {k : Nat} (h : BlAt w v B) (hk : k < B.length) :
    ∃ b o c, v = .slice (some ⟨b, o, none⟩) B.length c ∧ b < w.heap.size ∧ w.cell? ⟨b, o + k, none⟩ = some (.bool (B.getD k false)) := by
  obtain ⟨b, o, c, rfl, _, hb, hc⟩ := h.at_ (by omega)
  refine ⟨b, o, c, rfl, hb, hc k _ ?_⟩
  rw [List.getElem?_map, List.getD_eq_getElem?_getD, List.getElem?_eq_getElem hk]
  rfl
/-- where the loop stands -/
structure BgW (W w : World) (g : Nat) (L : List RIt) (B : List Bool) (N j : Nat) : Prop where
  gr : W.grownBy w none
  own : w.ownsRow W.heap.size 50 2 (.slice (some ⟨g, 0, none⟩) N N) N (smsC (bgI L B j N))
  ge : W.heap.size ≤ g
theorem BgW.kept0 {W w w1 : World} {g : Nat} {L : List RIt} {B : List Bool} {N j : Nat} (h : BgW W w g L B N j) (hg : w.grownBy w1 none) : BgW W w1 g L B N j := ⟨grown_trans h.gr hg, h.own.kept hg (by simp [Value.ownBlock]), h.ge⟩
theorem BgW.c0 {W w : World} {g : Nat} {L : List RIt} {B : List Bool} {N j : Nat} (h : BgW W w g L B N j) (hj : j < N) : w.cell? ⟨g, j * 2, none⟩ = some (.int .u64 (smH (plR L B j))) := by
  rw [h.own.cellAt (j * 2) (by omega)]
  exact smsC_get0 _ _ _ (by rw [bgI_get hj, if_pos (Nat.le_refl _)])
theorem BgW.c1 {W w : World} {g : Nat} {L : List RIt} {B : List Bool} {N j : Nat} (h : BgW W w g L B N j) (hj : j < N) : w.cell? ⟨g, j * 2 + 1, none⟩ = some (.int .u64 (smL (plR L B j))) := by
  rw [h.own.cellAt (j * 2 + 1) (by omega)]
  exact smsC_get1 _ _ _ (by rw [bgI_get hj, if_pos (Nat.le_refl _)])
theorem BgW.n0 {W w : World} {g : Nat} {L : List RIt} {B : List Bool} {N j : Nat} (h : BgW W w g L B N j) (hj : j + 1 < N) : w.cell? ⟨g, (j + 1) * 2, none⟩ = some (.int .u64 0) := by
  rw [h.own.cellAt ((j + 1) * 2) (by omega), smsC_get0 _ (j + 1) 0 (by rw [bgI_get hj, if_neg (by omega)])]
  rfl
theorem BgW.n1 {W w : World} {g : Nat} {L : List RIt} {B : List Bool} {N j : Nat} (h : BgW W w g L B N j) (hj : j + 1 < N) : w.cell? ⟨g, (j + 1) * 2 + 1, none⟩ = some (.int .u64 0) := by
  rw [h.own.cellAt ((j + 1) * 2 + 1) (by omega), smsC_get1 _ (j + 1) 0 (by rw [bgI_get hj, if_neg (by omega)])]
  rfl
theorem BgW.step {W w : World} {g : Nat} {L : List RIt} {B : List Bool} {N j : Nat} (h : BgW W w g L B N j) {z : Int} (hz : z = plR L B (j + 1)) :
    BgW W ((w.setCell ⟨g, (j + 1) * 2, none⟩ (.int .u64 (smH z))).setCell ⟨g, (j + 1) * 2 + 1, none⟩ (.int .u64 (smL z))) g L B N (j + 1) := by
  obtain ⟨h1, h2⟩ := h.own.stored ((j + 1) * 2) (.int .u64 (smH z))
  obtain ⟨h3, h4⟩ := h1.stored ((j + 1) * 2 + 1) (.int .u64 (smL z))
  rw [smsC_set, hz, bgI_set] at h3
  subst hz
  exact ⟨grown_new' (grown_trans (grown_trans (grown_none h.gr) h2) h4) (fun k hk => by obtain rfl := Option.some.inj hk; exact h.ge), h3, h.ge⟩
theorem sm_set {W0 w : World} {X : Nat} (a b : Int) (hX : RwAt w X 50 #[.int .u64 0, .int .u64 0]) (hg : W0.grownBy w none) (hle : W0.heap.size ≤ X) :
    ∃ Y, Value.pointer (some ⟨X, 0, none⟩) = .pointer (some ⟨Y, 0, none⟩) ∧ Hid (RwAt ((w.setCell ⟨X, 0, none⟩ (.int .u64 a)).setCell ⟨X, 1, none⟩ (.int .u64 b)) Y 50 #[.int .u64 a, .int .u64 b] ∧ W0.grownBy ((w.setCell ⟨X, 0, none⟩ (.int .u64 a)).setCell ⟨X, 1, none⟩ (.int .u64 b)) none ∧ W0.heap.size ≤ Y) :=
  ⟨X, rfl, hid ⟨(hX.set 0 (.int .u64 a)).set 1 (.int .u64 b), grown_new' (grown_setCell (grown_setCell (grown_none hg) 0 _) 1 _) (fun k hk => by obtain rfl := Option.some.inj hk; exact hle), hle⟩⟩
theorem sm_new {W0 w : World} (a b : Int) (hg : W0.grownBy w none) :
    ∃ Y, Value.pointer (some ⟨w.heap.size, 0, none⟩) = .pointer (some ⟨Y, 0, none⟩) ∧ Hid (RwAt (w.alloc (.cells #[.int .u64 a, .int .u64 b] 50)) Y 50 #[.int .u64 a, .int .u64 b] ∧ W0.grownBy (w.alloc (.cells #[.int .u64 a, .int .u64 b] 50)) none ∧ W0.heap.size ≤ Y) :=
  ⟨_, rfl, hid ⟨RwAt.new _ _ _, grown_trans hg (World.grownBy_alloc _ _ _), hg.size⟩⟩
theorem BgW.row6 {W w : World} {g : Nat} {L : List RIt} {B : List Bool} {N j Y : Nat} {a b : Int} (h : BgW W w g L B N j) (hY : RwAt w Y 50 #[.int .u64 a, .int .u64 b]) {z : Int} (hn : g ≠ Y) (hle : W.heap.size ≤ Y) :
    BgW W ((w.setCell ⟨Y, 0, none⟩ (.int .u64 (smH z))).setCell ⟨Y, 1, none⟩ (.int .u64 (smL z))) g L B N j ∧ RwAt ((w.setCell ⟨Y, 0, none⟩ (.int .u64 (smH z))).setCell ⟨Y, 1, none⟩ (.int .u64 (smL z))) Y 50 #[.int .u64 (smH z), .int .u64 (smL z)] := by
  have hg : w.grownBy ((w.setCell ⟨Y, 0, none⟩ (.int .u64 (smH z))).setCell ⟨Y, 1, none⟩ (.int .u64 (smL z))) (some Y) := grown_setCell (grown_setCell (grown_refl _ _) 0 _) 1 _
  refine ⟨⟨grown_new' (grown_trans (grown_none h.gr) hg) (fun k hk => by obtain rfl := Option.some.inj hk; exact hle), h.own.kept hg (by simpa [Value.ownBlock] using hn), h.ge⟩, ?_⟩
  simpa using (hY.set 0 (.int .u64 (smH z))).set 1 (.int .u64 (smL z))
set_option maxRecDepth 100000 in
set_option maxHeartbeats 8000000 in
theorem begins_rel {W : World} {v vb : Value} {L : List RIt} {B : List Bool} (h : RiAt W v L) (hb : BlAt W vb B) (hB : B.length = L.length) (hok : okR L = true) (hL : L.length ≤ 5000) :
    Calls Try.prog 23 #[v, vb] W fun e w' => ∃ g, e = .returned (.slice (some ⟨g, 0, none⟩) (L.length + 1 : Nat) (L.length + 1 : Nat)) ∧ w'.ownsRow W.heap.size 50 2 (.slice (some ⟨g, 0, none⟩) (L.length + 1 : Nat) (L.length + 1 : Nat)) (L.length + 1) (smsC (plsR L B (L.length + 1))) ∧ W.grownBy w' none := by
  obtain ⟨p, c, hv⟩ := h.len
  subst hv
  have HBl := hid hb
  obtain ⟨pb, cb, hvb⟩ := hb.len
  subst hvb
  rw [hB]
  have HBle := hid hB
  have HA := hid h
  have HK := hid hok
  obtain ⟨n, hn⟩ : ∃ n, L.length = n := ⟨_, rfl⟩
  have HNe := hid hn
  rw [hn] at hL ⊢
  obtain ⟨N, hN⟩ : ∃ N, n + 1 = N := ⟨_, rfl⟩
  have HN := hid hN
  rw [hN]
  have n0 : (0 : Int) ≤ (n : Int) := by omega
  have n1 : (n : Int) ≤ 5000 := by omega
  have nN : (n : Int) + 1 = (N : Int) := by omega
  have nNw : IntKind.i64.wrap ((n : Int) + 1) = (N : Int) := by rw [IntKind.wrap_i64]; omega
  have N1 : (N : Int) ≤ 5001 := by omega
  obtain ⟨i, hi, hz0, hz1, hz2⟩ := info_sm2
  have Hi := hid hi
  have Hz0 := hid hz0
  have Hz1 := hid hz1
  have Hz2 := hid hz2
  have HN1 := hid (show N ≤ 5001 by omega)
  clear h hb hB hok hL hn hN hi hz0 hz1 hz2
  go_enter Try.func23, Try.ntmps23
  go_wp2_with (first
    | (refine wpList_make_full _ rfl _ _ 46 rfl W.heap.size 50 i _ 2 Try.underlying46 Hi.out Hz0.out Hz1.out .i64 .i64 _ _ N rfl rfl (by first | rfl | omega) (by first | rfl | omega) (by rw [Hz2.out]; have := HN1.out; omega) (by have := HN1.out; unfold maxLen; omega) (Nat.le_refl _) ?_
       intro w3 hmk hgr
       rw [show (Value.agg #[Value.int .u64 0, .int .u64 0]).cells = Array.replicate 2 (.int .u64 0) from rfl, toList_madeZero _ _ 2 (by omega), Array.toList_replicate, ← smsC_rep, ← bgI_zero L B] at hmk
       have HP : Hid (BgW W w3 W.heap.size L B N 0) := hid ⟨hgr, hmk, Nat.le_refl _⟩
       clear hmk hgr)
    | fail)
  obtain ⟨g, hg⟩ : ∃ g, W.heap.size = g := ⟨_, rfl⟩
  rw [hg] at HP ⊢
  clear hg
  have HIp : Hid (∀ (a b : Int) (w : World), 0 ≤ a → a ≤ 20000000 → 0 ≤ b → b ≤ 20000000 → Calls Try.prog 28 #[smV a, .int .i64 b] w fun e w' => e = .returned (smV (a + b)) ∧ w.grownBy w' none) := hid (fun a b w h0 h1 h2 h3 => plus_any (by omega) (by omega) (by omega) (by omega) w)
  go_wp2
  go_loopw [15] (fun i wr => ∃ k : Nat, k ≤ n ∧ i = .int .i64 k ∧ Hid (BgW W wr g L B N k)) (fun i _ => n - (intOf i).toNat)
  case atStart => exact ⟨0, Nat.zero_le _, rfl, HP⟩
  case round =>
    obtain ⟨k, hk, rfl, HR⟩ := hrel
    clear HP
    have k0 : (0 : Int) ≤ (k : Int) := by omega
    by_cases hlt : k < n
    · have kn : (k : Int) < (n : Int) := by omega
      have kN : (k : Int) < (N : Int) := by omega
      have kN1 : (k : Int) + 1 < (N : Int) := by omega
      have hkN : k < N := by have := HN.out; omega
      have hkN1 : k + 1 < N := by have := HN.out; omega
      have Hlt := hid hlt
      have HkN := hid hkN
      have HkN1 := hid hkN1
      obtain ⟨r, hr⟩ : ∃ r, L[k]? = some r := ⟨_, List.getElem?_eq_getElem (by have := HNe.out; omega)⟩
      have hsz : szR L B k = r.s + (if B.getD k false = true then 1 else 0) := by unfold szR sR; rw [hr]
      have hrs : 0 ≤ r.s ∧ r.s ≤ 2048 := by
        have := List.all_eq_true.1 HK.out r (List.mem_of_getElem? hr)
        simp only [okRI, Bool.and_eq_true, decide_eq_true_eq] at this
        exact this.1
      obtain ⟨b, o, c', hv, hb, c0, c1, c2⟩ := RiAt.item (HA.out.kept0 HR.out.gr) hr
      simp only [Value.slice.injEq] at hv
      obtain ⟨rfl, -, -⟩ := hv
      obtain ⟨bb, ob, cb', hvb, hbb, cB⟩ := BlAt.item (HBl.out.kept0 HR.out.gr) (by rw [HBle.out, HNe.out]; exact hlt)
      simp only [Value.slice.injEq] at hvb
      obtain ⟨rfl, -, -⟩ := hvb
      obtain ⟨s, t, br⟩ := r
      simp only at c0 c1 c2 hsz hrs
      obtain ⟨P, hP⟩ : ∃ P, plR L B k = P := ⟨_, rfl⟩
      have hPb := plR_bd HK.out k (B := B)
      have hP1 := plR_succ k (L := L) (B := B)
      rw [hP] at hPb hP1
      have HPb : Hid (0 ≤ P ∧ P ≤ 10300000) := hid (by omega)
      rw [hsz] at hP1
      have HP1 := hid hP1
      have Hrs := hid hrs
      have HcB := hid (And.intro hbb cB)
      have HX := hid (RwAt.new wr 29 #[.int .i64 s, .int .i64 t, .bool br])
      have HQ := hid (HR.out.kept0 (World.grownBy_alloc wr (.cells #[.int .i64 s, .int .i64 t, .bool br] 29) none))
      have HcB2 : Hid (bb < (wr.alloc (.cells #[.int .i64 s, .int .i64 t, .bool br] 29)).heap.size ∧ (wr.alloc (.cells #[.int .i64 s, .int .i64 t, .bool br] 29)).cell? ⟨bb, ob + k, none⟩ = some (.bool (B.getD k false))) := hid ⟨Nat.lt_of_lt_of_le hbb (World.grownBy_alloc wr _ none).size, (grown_cell (World.grownBy_alloc wr _ none) hbb (by simp)).trans cB⟩
      clear hr hlt hb hk hsz hrs hPb hP1 hbb cB HcB HR hkN hkN1
      go_upto_region 5 with (fail)
      obtain ⟨X, hX⟩ : ∃ X, wr.heap.size = X := ⟨_, rfl⟩
      rw [hX] at HX ⊢
      clear hX c0 c1 c2
      generalize wr.alloc (.cells #[.int .i64 s, .int .i64 t, .bool br] 29) = w2 at HX HQ HcB2 ⊢
      go_cut [8] from 20 to 27 (fun u8 wz => ∃ Y, u8 = .pointer (some ⟨Y, 0, none⟩) ∧ Hid (RwAt wz Y 50 #[.int .u64 (smH (P + s)), .int .u64 (smL (P + s))] ∧ w2.drew.grownBy wz none ∧ w2.heap.size ≤ Y))
      case first =>
        rename_i hJ0 hJ
        have dr := grown_drew (grown_refl w2 none)
        have al := World.grownBy_alloc w2 (.cells #[.int .u64 0, .int .u64 0] 50) none
        have p0 := (HQ.out.kept0 dr).c0 HkN.out
        have p1 := (HQ.out.kept0 dr).c1 HkN.out
        have q0 := (HQ.out.kept0 al).c0 HkN.out
        have q1 := (HQ.out.kept0 al).c1 HkN.out
        rw [hP] at p0 p1 q0 q1
        have x0 := (HX.out.kept0 dr).cell 0 (v := .int .i64 s) rfl
        have y0 := (HX.out.kept0 al).cell 0 (v := .int .i64 s) rfl
        have HZr := hid (RwAt.new w2.drew 50 #[.int .u64 0, .int .u64 0])
        have Hpl := hid (fun w => HIp.out P s w HPb.out.1 (by have := HPb.out.2; omega) Hrs.out.1 (by have := Hrs.out.2; omega))
        clear dr al HIp HPb Hrs
        go_region_law (first
          | (go_simp
             go_at_call 28
             refine (Hpl.out _).mono ?_
             rintro e w5 ⟨rfl, hg⟩
             have hg2 : w2.drew.grownBy w5 none := by first | exact hg | exact grown_trans (World.grownBy_alloc _ _ none) hg
             have HG5 := hid hg2
             try have HX5 : Hid (RwAt w5 w2.heap.size 50 #[.int .u64 0, .int .u64 0]) := hid ((RwAt.new w2.drew 50 #[.int .u64 0, .int .u64 0]).kept0 hg)
             try have HX5 : Hid (RwAt w5 w2.heap.size 50 #[.int .u64 0, .int .u64 0]) := hid (HZr.out.kept0 hg)
             try have z0 := HX5.out.cell 0 (v := .int .u64 0) rfl
             try have z1 := HX5.out.cell 1 (v := .int .u64 0) rfl
             try have f0 := HX5.out.free 0
             try have f1 := HX5.out.free 1
             clear hg hg2)
          | fail)
        all_goals
          go_simp
          refine hJ _ _ (Met.intro (hJ0 _ _ ?_))
          (repeat apply Exists.intro)
          refine ⟨?_, rfl⟩
          first
            | exact sm_set _ _ HX5.out HG5.out (Nat.le_refl _)
            | exact sm_new _ _ HG5.out
      case rest =>
        obtain ⟨Y, rfl, HYY⟩ := hcut
        have hgz := grown_trans (grown_drew (grown_refl w2 none)) HYY.out.2.1
        have HYg : Hid (g ≠ Y ∧ W.heap.size ≤ Y) := hid ⟨fun e => by have := HYY.out.2.2; have := (HQ.out.own.lt g rfl).2; omega, Nat.le_trans HQ.out.gr.size HYY.out.2.2⟩
        have HY := hid HYY.out.1
        have HQz := hid (HQ.out.kept0 hgz)
        have cB := (grown_cell (p := ⟨bb, ob + k, none⟩) hgz HcB2.out.1 (by simp)).trans HcB2.out.2
        clear hgz HYY HQ HX HcB2
        have y0 := HY.out.cell 0 (v := .int .u64 (smH (P + s))) rfl
        have y1 := HY.out.cell 1 (v := .int .u64 (smL (P + s))) rfl
        cases hbk : B.getD k false
        · rw [hbk] at cB HP1
          have HS := hid (HQz.out.step (z := P + s) (by rw [HP1.out]; simp))
          have n0' := HQz.out.n0 HkN1.out
          have n1' := HQz.out.n1 HkN1.out
          have f0 := HQz.out.own.frozenAt ((k + 1) * 2)
          have f1 := HQz.out.own.frozenAt ((k + 1) * 2 + 1)
          clear hbk
          go_wp2
          go_roundw
          case rel => exact ⟨k + 1, Hlt.out, by go_num, HS⟩
          case measure => simp [intOf]; have := Hlt.out; omega
        · rw [hbk] at cB HP1
          clear hbk
          go_wp2_with fail
          refine (HIp.out (P + s) 1 _ (by have := HPb.out; have := Hrs.out; omega) (by have := HPb.out; have := Hrs.out; omega) (by decide) (by decide)).mono ?_
          rintro e w6 ⟨rfl, hg⟩
          have HY6 := hid (HY.out.kept0 hg)
          have HQ6 := hid (HQz.out.kept0 hg)
          have HS6 := hid (HQ6.out.row6 HY6.out (z := P + s + 1) HYg.out.1 HYg.out.2)
          have y0 := HY6.out.cell 0 (v := .int .u64 (smH (P + s))) rfl
          have y1 := HY6.out.cell 1 (v := .int .u64 (smL (P + s))) rfl
          have g0 := HY6.out.free 0
          have g1 := HY6.out.free 1
          clear hg cB HY HQz
          go_upto_region 8 with (fail)
          generalize (w6.setCell ⟨Y, 0, none⟩ (.int .u64 (smH (P + s + 1)))).setCell ⟨Y, 1, none⟩ (.int .u64 (smL (P + s + 1))) = w7 at HS6 ⊢
          clear y0 y1 g0 g1 HY6 HQ6
          have y0 := HS6.out.2.cell 0 (v := .int .u64 (smH (P + s + 1))) rfl
          have y1 := HS6.out.2.cell 1 (v := .int .u64 (smL (P + s + 1))) rfl
          have HS := hid (HS6.out.1.step (z := P + s + 1) (by rw [HP1.out]; simp; omega))
          have n0' := HS6.out.1.n0 HkN1.out
          have n1' := HS6.out.1.n1 HkN1.out
          have f0 := HS6.out.1.own.frozenAt ((k + 1) * 2)
          have f1 := HS6.out.1.own.frozenAt ((k + 1) * 2 + 1)
          go_wp2
          go_roundw
          case rel => exact ⟨k + 1, Hlt.out, by go_num, HS⟩
          case measure => simp [intOf]; have := Hlt.out; omega
    · obtain rfl : k = n := by omega
      clear hlt
      have kn : ¬ ((k : Int) < (k : Int)) := by omega
      go_wp2
      refine bodyPost_ret (v := .slice (some ⟨g, 0, none⟩) N N) (by simp [results, Try.results23, go_sem]) rfl ?_
      have h1 := HR.out.own
      rw [bgI_all (by have := HN.out; omega)] at h1
      exact ⟨g, rfl, h1, HR.out.gr⟩
end Go.Proofs.Ytmhkghkfpkekbaa

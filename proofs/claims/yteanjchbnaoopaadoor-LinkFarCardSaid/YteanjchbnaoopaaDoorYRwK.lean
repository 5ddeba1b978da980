/- Package rewrite: Back: contract. -/
import Derived.Test.YteanjchbnaoopaaDoorYObj13
import Derived.Test.YteanjchbnaoopaaDoorYLnkM
import Derived.Deep.RegionHeld3
import Derived.Test.YteanjchbnaoopaaDoorYRewP
import Derived.Laws.OwnMore
import Derived.OwnWalk
import Derived.Deep.Cut
import Derived.StillTailTactics
import Derived.Laws.MakeOwn
import Derived.Deep.RegionLaw
import Derived.Deep.CutRange
namespace Go.Proofs.YteanjchbnaoopaaDoor
open Go.RowKit
theorem of_is (x imm : Int) (w : World) (h0 : 0 ≤ x) (h1 : x < 4294967296) : Calls Tryd.prog 50 #[.int .u32 x, .int .u32 imm] w fun e w' => e = .returned (ofV x imm) ∧ w.grownBy w' none := by
  cases h : insB (x / 16777216) (x / 65536 % 256) (x / 256 % 256) (x % 256) (wantImm (x / 16777216) imm)
  · exact (of_no x imm w h0 h1 h).mono fun e w' he => ⟨by rw [he.1]; unfold ofV; rw [h]; rfl, below_is_grown he.2⟩
  · exact (of_yes x imm w h0 h1 h).mono fun e w' he => ⟨by rw [he.1]; unfold ofV; rw [if_pos h], below_is_grown he.2⟩
theorem of_no_zero {x imm a b c d i : Int} {t : Bool} (h : ofV x imm = .tuple #[.agg #[.int .i64 a, .int .i64 b, .int .i64 c, .int .i64 d, .int .u32 i], .bool t]) (ht : t = false) : a = 0 := by
  subst ht
  unfold ofV at h
  split at h
  · simp only [Value.tuple.injEq, Array.mk.injEq, List.cons.injEq, Value.bool.injEq, and_true] at h
    exact absurd h.2 (by decide)
  · simp only [Value.tuple.injEq, Array.mk.injEq, List.cons.injEq, Value.agg.injEq, Value.int.injEq, and_true, true_and] at h
    exact h.1.symm
set_option maxRecDepth 100000 in
set_option maxHeartbeats 4000000 in
theorem wback_is (y : Int) (W : World) (h0 : 0 ≤ y) (h1 : y < 4294967296) : Calls Tryd.prog 91 #[.int .u32 y] W fun e w' => e = .returned (backV y) ∧ W.grownBy w' none := by
  have HR0 := hid (RwAt.new W 36 #[.int .i64 0, .int .i64 0, .int .i64 0, .int .i64 0, .int .u32 0])
  have HG0 := hid (World.grownBy_alloc W (.cells #[.int .i64 0, .int .i64 0, .int .i64 0, .int .i64 0, .int .u32 0] 36) none)
  have Hz := zero_ins9
  have Hb := build_ins0
  have hand := andM h0 h1
  have HY := hid (And.intro h0 h1)
  go_enter Tryd.func91, Tryd.ntmps91
  go_upto_region 1 with (fail)
  obtain ⟨R, hR⟩ : ∃ R, W.heap.size = R := ⟨_, rfl⟩
  have HRe := hid hR
  rw [hR] at HR0 ⊢
  clear hR
  generalize W.alloc (.cells #[.int .i64 0, .int .i64 0, .int .i64 0, .int .i64 0, .int .u32 0] 36) = w1 at HR0 HG0 ⊢
  by_cases hm : y < 2147483648
  · rw [if_pos hm] at hand
    have HM := hid hm
    have E := hid (HR0.out.row #[.int .i64 0, .int .i64 0, .int .i64 0, .int .i64 0, .int .u32 0])
    have EG := hid (grown_setRow HG0.out (Nat.le_of_eq HRe.out) #[.int .i64 0, .int .i64 0, .int .i64 0, .int .i64 0, .int .u32 0])
    have k0 := E.out.cell 0 (v := .int .i64 0) rfl
    have k1 := E.out.cell 1 (v := .int .i64 0) rfl
    have k2 := E.out.cell 2 (v := .int .i64 0) rfl
    have k3 := E.out.cell 3 (v := .int .i64 0) rfl
    have k4 := E.out.cell 4 (v := .int .u32 0) rfl
    go_wp2_with (first
      | (refine wpList_store_rw rfl 36 _ _ rfl rfl rfl HR0.out info_ins9 rfl (by simp [Value.oneCell']) ?_)
      | fail)
    refine bodyPost_ret (v := .tuple #[.agg #[.int .i64 0, .int .i64 0, .int .i64 0, .int .i64 0, .int .u32 0], .bool false]) (by simp [results, Tryd.results91, k0, k1, k2, k3, k4, go_sem]) rfl ?_
    exact ⟨by rw [back_low HM.out]; rfl, EG.out⟩
  · rw [if_neg hm] at hand
    have hm2 : 2147483648 ≤ y := by omega
    have hsub : 0 ≤ y - 2147483648 ∧ y - 2147483648 < 4294967296 := by omega
    have hnot := andnotM hm2 h1
    have HS := hid hsub
    obtain ⟨z, hz⟩ : ∃ z, y - 2147483648 = z := ⟨_, rfl⟩
    rw [hz] at HS hnot
    have z0 := HS.out.1
    have z1 := HS.out.2
    go_wp2_with fail
    refine (of_is z 0 _ z0 z1).mono ?_
    rintro e w2 ⟨rfl, hg⟩
    obtain ⟨a, b, c, d, i, t, hv⟩ := ofV_parts z 0
    have HBv := hid (back_leaf hz hm2 hv)
    have HV0 := hid hv
    rw [hv]
    have HR2 := hid (HR0.out.kept0 hg)
    have HG2 := hid (grown_trans HG0.out hg)
    have al := World.grownBy_alloc w2 (.cells #[.int .i64 a, .int .i64 b, .int .i64 c, .int .i64 d, .int .u32 i] 36) none
    have HX3 := hid (RwAt.new w2 36 #[.int .i64 a, .int .i64 b, .int .i64 c, .int .i64 d, .int .u32 i])
    have HR3 := hid (HR2.out.kept0 al)
    have HG3 := hid (grown_trans HG2.out al)
    clear hg hv al HR0 HG0 HR2 HG2
    go_upto_region 4 with (fail)
    obtain ⟨X, hX⟩ : ∃ X, w2.heap.size = X := ⟨_, rfl⟩
    rw [hX] at HX3 ⊢
    clear hX
    generalize w2.alloc (.cells #[.int .i64 a, .int .i64 b, .int .i64 c, .int .i64 d, .int .u32 i] 36) = w3 at HX3 HR3 HG3 ⊢
    have dr := grown_drew (grown_refl w3 none)
    have HR4 := hid (HR3.out.kept0 dr)
    have HG4 := hid (grown_trans HG3.out dr)
    have HX4 := hid (HX3.out.kept0 dr)
    have c0 := HX4.out.cell 0 (v := .int .i64 a) rfl
    have HQ1 : Hid (∀ W' : World, Calls Tryd.prog 54 #[] W' fun e w' => e = .returned (.agg #[]) ∧ W'.grownBy w' none) := hid (fun W' => (tables_any W').mono fun e w' h => ⟨h.1, h.2 ▸ World.grownBy_alloc W' _ none⟩)
    have HQ2 : Hid (∀ W' : World, Calls Tryd.prog 77 #[.agg #[], .int .i64 a] W' fun e w' => e = .returned (.int .i64 (clsI a)) ∧ W'.grownBy w' none) := hid (fun W' => (class_any a W').mono fun e w' h => ⟨h.1, h.2 ▸ World.grownBy_alloc W' _ none⟩)
    obtain ⟨cl, hcl⟩ : ∃ cl, clsI a = cl := ⟨_, rfl⟩
    rw [hcl] at HQ2 HBv
    clear dr HR3 HG3 HX3
    have HCl := hid hcl
    clear hcl
    go_region_held3 (fun W' => W'.cell? ⟨X, 0, none⟩ = some (.int .i64 a) ∧ w3.drew.grownBy W' none)
      (first | (with_reducible exact ⟨c0, grown_refl _ _⟩) | (go_split_ands; have hgr := grown_trans (w := w3.drew) (r := none) (by assumption) hcb; exact ⟨(HX4.out.kept0 hgr).cell 0 rfl, hgr⟩))
      (first
        | (go_split_ands; go_at_call 54; (with_reducible refine (HQ1.out _).mono ?_); rintro e w' ⟨rfl, hcb⟩)
        | (go_split_ands; go_at_call 77; (with_reducible refine (HQ2.out _).mono ?_); rintro e w' ⟨rfl, hcb⟩))
    go_split_ands
    rename_i hx0 hg8
    clear hcb
    have HR8 := hid (HR4.out.kept0 hg8)
    have HG8 := hid (grown_trans HG4.out hg8)
    have HX8 := hid (HX4.out.kept0 hg8)
    clear hx0 hg8 c0 HQ1 HQ2 HR4 HG4 HX4
    -- of what is no instruction the class is 0
    by_cases h2 : t = true ∧ cl = 2
    · obtain ⟨rfl, rfl⟩ := h2
      have E := hid (HR8.out.row #[.int .i64 a, .int .i64 b, .int .i64 c, .int .i64 d, .int .u32 i])
      have EG := hid (grown_setRow HG8.out (Nat.le_of_eq HRe.out) #[.int .i64 a, .int .i64 b, .int .i64 c, .int .i64 d, .int .u32 i])
      have k0 := E.out.cell 0 (v := .int .i64 a) rfl
      have k1 := E.out.cell 1 (v := .int .i64 b) rfl
      have k2 := E.out.cell 2 (v := .int .i64 c) rfl
      have k3 := E.out.cell 3 (v := .int .i64 d) rfl
      have k4 := E.out.cell 4 (v := .int .u32 i) rfl
      go_wp2_with (first
        | (refine wpList_load_rw rfl 36 _ rfl rfl HX8.out rfl Tryd.underlying36 info_ins9 ?_)
        | (refine wpList_store_rw rfl 36 _ _ rfl rfl rfl HR8.out info_ins9 rfl (by simp [Value.oneCell']) ?_)
        | fail)
      refine bodyPost_ret (v := .tuple #[.agg #[.int .i64 a, .int .i64 b, .int .i64 c, .int .i64 d, .int .u32 i], .bool true]) (by simp [results, Tryd.results91, k0, k1, k2, k3, k4, go_sem]) rfl ?_
      exact ⟨by rw [HBv.out]; rfl, EG.out⟩
    · by_cases h3 : t = true ∧ cl = 3
      · obtain ⟨rfl, rfl⟩ := h3
        have E := hid (HR8.out.row #[.int .i64 a, .int .i64 b, .int .i64 c, .int .i64 d, .int .u32 i])
        have EG := hid (grown_setRow HG8.out (Nat.le_of_eq HRe.out) #[.int .i64 a, .int .i64 b, .int .i64 c, .int .i64 d, .int .u32 i])
        have k0 := E.out.cell 0 (v := .int .i64 a) rfl
        have k1 := E.out.cell 1 (v := .int .i64 b) rfl
        have k2 := E.out.cell 2 (v := .int .i64 c) rfl
        have k3 := E.out.cell 3 (v := .int .i64 d) rfl
        have k4 := E.out.cell 4 (v := .int .u32 i) rfl
        go_wp2_with (first
          | (refine wpList_load_rw rfl 36 _ rfl rfl HX8.out rfl Tryd.underlying36 info_ins9 ?_)
          | (refine wpList_store_rw rfl 36 _ _ rfl rfl rfl HR8.out info_ins9 rfl (by simp [Value.oneCell']) ?_)
          | fail)
        refine bodyPost_ret (v := .tuple #[.agg #[.int .i64 a, .int .i64 b, .int .i64 c, .int .i64 d, .int .u32 i], .bool true]) (by simp [results, Tryd.results91, k0, k1, k2, k3, k4, go_sem]) rfl ?_
        exact ⟨by rw [HBv.out]; rfl, EG.out⟩
      · have hcl0 : t = false → cl = 0 := fun ht => by
          rw [← HCl.out, of_no_zero HV0.out ht]; rfl
        have hc2 : (cl == 2) = false := by
          simp only [beq_eq_false_iff_ne]
          intro e
          cases t with
          | true => exact h2 ⟨rfl, e⟩
          | false => have := hcl0 rfl; omega
        have hc3 : (cl == 3) = false := by
          simp only [beq_eq_false_iff_ne]
          intro e
          cases t with
          | true => exact h3 ⟨rfl, e⟩
          | false => have := hcl0 rfl; omega
        have HN : Hid (backL t cl a b c d i = noneV) := hid (by
          unfold backL
          rw [if_neg]
          simp only [beq_eq_false_iff_ne] at hc2 hc3
          simp [hc2, hc3])
        clear h2 h3 hcl0
        have E := hid (HR8.out.row #[.int .i64 0, .int .i64 0, .int .i64 0, .int .i64 0, .int .u32 0])
        have EG := hid (grown_setRow HG8.out (Nat.le_of_eq HRe.out) #[.int .i64 0, .int .i64 0, .int .i64 0, .int .i64 0, .int .u32 0])
        have k0 := E.out.cell 0 (v := .int .i64 0) rfl
        have k1 := E.out.cell 1 (v := .int .i64 0) rfl
        have k2 := E.out.cell 2 (v := .int .i64 0) rfl
        have k3 := E.out.cell 3 (v := .int .i64 0) rfl
        have k4 := E.out.cell 4 (v := .int .u32 0) rfl
        go_wp2_with (first
          | (refine wpList_store_rw rfl 36 _ _ rfl rfl rfl HR8.out info_ins9 rfl (by simp [Value.oneCell']) ?_)
          | fail)
        refine bodyPost_ret (v := .tuple #[.agg #[.int .i64 0, .int .i64 0, .int .i64 0, .int .i64 0, .int .u32 0], .bool false]) (by simp [results, Tryd.results91, k0, k1, k2, k3, k4, go_sem]) rfl ?_
        exact ⟨by rw [HBv.out, HN.out]; rfl, EG.out⟩
end Go.Proofs.YteanjchbnaoopaaDoor
namespace Go.Proofs.YteanjchbnaoopaaDoor
open Go.RowKit
theorem calI_neg {x : PO} {k : Int} (h : k < 0) : calI x k = false := by unfold calI; simp; omega
theorem calI_nat (x : PO) (k : Nat) : calI x (k : Int) = calB x k := by unfold calI; simp
theorem calB_far {x : PO} {k : Nat} (h : ¬ k + 1 < min x.C.length x.M.length) : calB x k = false := by unfold calB; rw [decide_eq_false h]; rfl
theorem calB_m1 {x : PO} {k : Nat} {y : Int} (hy : x.M[k]? = some y) (h : y ≠ 1) : calB x k = false := by
  unfold calB; rw [List.getD_eq_getElem?_getD, hy]; simp [h]
theorem calB_m2 {x : PO} {k : Nat} {y : Int} (hy : x.M[k + 1]? = some y) (h : y ≠ 0) : calB x k = false := by
  unfold calB; rw [List.getD_eq_getElem?_getD (i := k + 1), hy]; simp [h]
theorem calB_yes {x : PO} {k : Nat} {u v : Int} (hr : k + 1 < min x.C.length x.M.length) (h1 : x.M[k]? = some 1) (h2 : x.M[k + 1]? = some 0) (hu : x.C[k]? = some u) (hv : x.C[k + 1]? = some v) : calB x k = (bkB v && decide (opW u = 96)) := by
  unfold calB
  rw [decide_eq_true hr]
  simp [List.getD_eq_getElem?_getD, h1, h2, hu, hv]
theorem back_tuple (y : Int) : ∃ a b c d i : Int, backV y = .tuple #[.agg #[.int .i64 a, .int .i64 b, .int .i64 c, .int .i64 d, .int .u32 i], .bool (bkB y)] := by
  unfold backV
  cases h : bkB y
  · exact ⟨0, 0, 0, 0, 0, by rw [if_neg (by simp)]; rfl⟩
  · exact ⟨_, _, _, _, _, by rw [if_pos rfl]; rfl⟩
section
variable {w : World} {V : OV} {x : PO}
theorem iscall_neg (h : OAt w V x) (k : Int) (hk : k < 0) : Calls Tryd.prog 71 #[V.agg, .int .i64 k] w fun e w' => e = .returned (.bool false) ∧ w.grownBy w' none := by
  obtain ⟨d, c, m, r, q, s⟩ := V
  have HG := hid (World.grownBy_alloc w (.cells #[d, c, m, r, q, s] 52) none)
  clear h
  go_enter Tryd.func71, Tryd.ntmps71
  go_wp2
  go_ret
  exact ⟨rfl, HG.out⟩
set_option maxRecDepth 100000 in
theorem iscall_far (h : OAt w V x) (hf : OFit x) (k : Nat) (hk : ¬ k + 1 < min x.C.length x.M.length) : Calls Tryd.prog 71 #[V.agg, .int .i64 k] w fun e w' => e = .returned (.bool false) ∧ w.grownBy w' none := by
  obtain ⟨d, c, m, r, q, s⟩ := V
  have hlc : x.C.length ≤ 9223372036854775807 := hf.l.2.1
  have hlm : x.M.length ≤ 9223372036854775807 := hf.l.2.2.1
  have HG := hid (World.grownBy_alloc w (.cells #[d, c, m, r, q, s] 52) none)
  have HB := hid (RwAt.new w 52 #[d, c, m, r, q, s])
  have H := hid (h.kept0 HG.out)
  obtain ⟨cp, cc, hcv⟩ := h.c.len'
  obtain ⟨mp, mc, hmv⟩ := h.m.len'
  simp only at hcv hmv
  obtain ⟨n, hn⟩ : ∃ n, x.C.length = n := ⟨_, rfl⟩
  obtain ⟨l, hl⟩ : ∃ l, x.M.length = l := ⟨_, rfl⟩
  rw [hn] at hcv
  rw [hl] at hmv
  rw [hn, hl] at hk
  rw [hn] at hlc
  rw [hl] at hlm
  subst hcv; subst hmv
  obtain ⟨N, hN⟩ : ∃ N : Nat, min n l = N := ⟨_, rfl⟩
  have hmin : (if (l : Int) < (n : Int) then (l : Int) else (n : Int)) = (N : Int) := by split <;> omega
  have hmin2 : (if l < n then (l : Int) else (n : Int)) = (N : Int) := by split <;> omega
  obtain ⟨P, hP⟩ : ∃ P : Int, (N : Int) - 1 = P := ⟨_, rfl⟩
  have hP2 : wrap64 ((N : Int) - 1) = P := by rw [IntWalk.wrap64_in _ (by omega)]; exact hP
  have k0 : (0 : Int) ≤ (k : Int) := by omega
  have k1 : P ≤ (k : Int) := by omega
  clear h hk hN hP hlc hlm hn hl
  go_enter Tryd.func71, Tryd.ntmps71
  go_upto_region 1 with (fail)
  generalize w.alloc (.cells #[d, .slice cp n cc, .slice mp l mc, r, q, s] 52) = w1 at HG HB H ⊢
  have e1 := HB.out.cell 1 (v := .slice cp n cc) rfl
  have e2 := HB.out.cell 2 (v := .slice mp l mc) rfl
  go_wp2
  go_ret
  exact ⟨rfl, HG.out⟩
set_option maxRecDepth 100000 in
theorem iscall_m1 (h : OAt w V x) (hf : OFit x) (k : Nat) (hk : k + 1 < min x.C.length x.M.length) {y : Int} (hy : x.M[k]? = some y) (h1 : y ≠ 1) : Calls Tryd.prog 71 #[V.agg, .int .i64 k] w fun e w' => e = .returned (.bool false) ∧ w.grownBy w' none := by
  obtain ⟨d, c, m, r, q, s⟩ := V
  have hlc : x.C.length ≤ 9223372036854775807 := hf.l.2.1
  have hlm : x.M.length ≤ 9223372036854775807 := hf.l.2.2.1
  have HG := hid (World.grownBy_alloc w (.cells #[d, c, m, r, q, s] 52) none)
  have HB := hid (RwAt.new w 52 #[d, c, m, r, q, s])
  have H := hid (h.kept0 HG.out)
  obtain ⟨cp, cc, hcv⟩ := h.c.len'
  obtain ⟨b, o, mc, hmv, _, hcm⟩ := H.out.m.at_ (by omega)
  simp only at hcv hmv
  obtain ⟨n, hn⟩ : ∃ n, x.C.length = n := ⟨_, rfl⟩
  obtain ⟨l, hl⟩ : ∃ l, x.M.length = l := ⟨_, rfl⟩
  rw [hn] at hcv
  rw [hl] at hmv
  rw [hn, hl] at hk
  rw [hn] at hlc
  rw [hl] at hlm
  subst hcv; subst hmv
  obtain ⟨N, hN⟩ : ∃ N : Nat, min n l = N := ⟨_, rfl⟩
  have hmin : (if (l : Int) < (n : Int) then (l : Int) else (n : Int)) = (N : Int) := by split <;> omega
  have hmin2 : (if l < n then (l : Int) else (n : Int)) = (N : Int) := by split <;> omega
  obtain ⟨P, hP⟩ : ∃ P : Int, (N : Int) - 1 = P := ⟨_, rfl⟩
  have hP2 : wrap64 ((N : Int) - 1) = P := by rw [IntWalk.wrap64_in _ (by omega)]; exact hP
  have k0 : (0 : Int) ≤ (k : Int) := by omega
  have ek := hcm k y hy
  have hz : (y != 1) = true := by simpa using h1
  have k1 : (k : Int) < P := by omega
  have k2 : (k : Int) < (l : Int) := by omega
  clear h hk hN hP hlc hlm hn hl hcm hy h1
  go_enter Tryd.func71, Tryd.ntmps71
  go_upto_region 1 with (fail)
  generalize w.alloc (.cells #[d, .slice cp n cc, .slice (some ⟨b, o, none⟩) l mc, r, q, s] 52) = w1 at HG HB H ek ⊢
  have e1 := HB.out.cell 1 (v := .slice cp n cc) rfl
  have e2 := HB.out.cell 2 (v := .slice (some ⟨b, o, none⟩) l mc) rfl
  go_wp2
  go_ret
  exact ⟨rfl, HG.out⟩
set_option maxRecDepth 100000 in
theorem iscall_m2 (h : OAt w V x) (hf : OFit x) (k : Nat) (hk : k + 1 < min x.C.length x.M.length) {y : Int} (hy1 : x.M[k]? = some 1) (hy : x.M[k + 1]? = some y) (h1 : y ≠ 0) : Calls Tryd.prog 71 #[V.agg, .int .i64 k] w fun e w' => e = .returned (.bool false) ∧ w.grownBy w' none := by
  obtain ⟨d, c, m, r, q, s⟩ := V
  have hlc : x.C.length ≤ 9223372036854775807 := hf.l.2.1
  have hlm : x.M.length ≤ 9223372036854775807 := hf.l.2.2.1
  have HG := hid (World.grownBy_alloc w (.cells #[d, c, m, r, q, s] 52) none)
  have HB := hid (RwAt.new w 52 #[d, c, m, r, q, s])
  have H := hid (h.kept0 HG.out)
  obtain ⟨cp, cc, hcv⟩ := h.c.len'
  obtain ⟨b, o, mc, hmv, _, hcm⟩ := H.out.m.at_ (by omega)
  simp only at hcv hmv
  obtain ⟨n, hn⟩ : ∃ n, x.C.length = n := ⟨_, rfl⟩
  obtain ⟨l, hl⟩ : ∃ l, x.M.length = l := ⟨_, rfl⟩
  rw [hn] at hcv
  rw [hl] at hmv
  rw [hn, hl] at hk
  rw [hn] at hlc
  rw [hl] at hlm
  subst hcv; subst hmv
  obtain ⟨N, hN⟩ : ∃ N : Nat, min n l = N := ⟨_, rfl⟩
  have hmin : (if (l : Int) < (n : Int) then (l : Int) else (n : Int)) = (N : Int) := by split <;> omega
  have hmin2 : (if l < n then (l : Int) else (n : Int)) = (N : Int) := by split <;> omega
  obtain ⟨P, hP⟩ : ∃ P : Int, (N : Int) - 1 = P := ⟨_, rfl⟩
  have hP2 : wrap64 ((N : Int) - 1) = P := by rw [IntWalk.wrap64_in _ (by omega)]; exact hP
  have k0 : (0 : Int) ≤ (k : Int) := by omega
  obtain ⟨j, hj⟩ : ∃ j, k + 1 = j := ⟨_, rfl⟩
  have kj : (k : Int) + 1 = (j : Int) := by omega
  have j1 : (j : Int) ≤ 9223372036854775807 := by omega
  have j0 : (0 : Int) ≤ (j : Int) := by omega
  have j2 : (j : Int) < (l : Int) := by omega
  have k1 : (k : Int) < P := by omega
  have k2 : (k : Int) < (l : Int) := by omega
  rw [hj] at hy
  have ek := hcm k 1 hy1
  have ej := hcm j y hy
  have hz : (y != 0) = true := by simpa using h1
  clear h hk hN hP hlc hlm hn hl hcm hy hy1 h1 hj
  go_enter Tryd.func71, Tryd.ntmps71
  go_upto_region 1 with (fail)
  generalize w.alloc (.cells #[d, .slice cp n cc, .slice (some ⟨b, o, none⟩) l mc, r, q, s] 52) = w1 at HG HB H ek ej ⊢
  have e1 := HB.out.cell 1 (v := .slice cp n cc) rfl
  have e2 := HB.out.cell 2 (v := .slice (some ⟨b, o, none⟩) l mc) rfl
  go_wp2
  go_ret
  exact ⟨rfl, HG.out⟩
set_option maxRecDepth 100000 in
set_option maxHeartbeats 1000000 in
theorem iscall_in (h : OAt w V x) (hf : OFit x) (k : Nat) (hk : k + 1 < min x.C.length x.M.length) (hy1 : x.M[k]? = some 1) (hy2 : x.M[k + 1]? = some 0) : Calls Tryd.prog 71 #[V.agg, .int .i64 k] w fun e w' => e = .returned (.bool (calB x k)) ∧ w.grownBy w' none := by
  obtain ⟨d, c, m, r, q, s⟩ := V
  have hlc : x.C.length ≤ 9223372036854775807 := hf.l.2.1
  have hlm : x.M.length ≤ 9223372036854775807 := hf.l.2.2.1
  have HG := hid (World.grownBy_alloc w (.cells #[d, c, m, r, q, s] 52) none)
  have HB := hid (RwAt.new w 52 #[d, c, m, r, q, s])
  have H := hid (h.kept0 HG.out)
  obtain ⟨u, hu⟩ : ∃ u, x.C[k]? = some u := ⟨_, List.getElem?_eq_getElem (by omega)⟩
  obtain ⟨v, hv⟩ : ∃ v, x.C[k + 1]? = some v := ⟨_, List.getElem?_eq_getElem (by omega)⟩
  rw [calB_yes hk hy1 hy2 hu hv]
  have HU := hid (hf.c u (List.mem_of_getElem? hu))
  have HV := hid (hf.c v (List.mem_of_getElem? hv))
  obtain ⟨b, o, mc, hmv, _, hcm⟩ := H.out.m.at_ (by omega)
  obtain ⟨b2, o2, cc, hcv, hb2, hcc⟩ := H.out.c.at_ (by omega)
  simp only at hcv hmv
  obtain ⟨n, hn⟩ : ∃ n, x.C.length = n := ⟨_, rfl⟩
  obtain ⟨l, hl⟩ : ∃ l, x.M.length = l := ⟨_, rfl⟩
  rw [hn] at hcv
  rw [hl] at hmv
  rw [hn, hl] at hk
  rw [hn] at hlc
  rw [hl] at hlm
  subst hcv; subst hmv
  obtain ⟨N, hN⟩ : ∃ N : Nat, min n l = N := ⟨_, rfl⟩
  have hmin : (if (l : Int) < (n : Int) then (l : Int) else (n : Int)) = (N : Int) := by split <;> omega
  have hmin2 : (if l < n then (l : Int) else (n : Int)) = (N : Int) := by split <;> omega
  obtain ⟨P, hP⟩ : ∃ P : Int, (N : Int) - 1 = P := ⟨_, rfl⟩
  have hP2 : wrap64 ((N : Int) - 1) = P := by rw [IntWalk.wrap64_in _ (by omega)]; exact hP
  have k0 : (0 : Int) ≤ (k : Int) := by omega
  obtain ⟨j, hj⟩ : ∃ j, k + 1 = j := ⟨_, rfl⟩
  have kj : (k : Int) + 1 = (j : Int) := by omega
  have j1 : (j : Int) ≤ 9223372036854775807 := by omega
  have j0 : (0 : Int) ≤ (j : Int) := by omega
  have j2 : (j : Int) < (l : Int) := by omega
  have k1 : (k : Int) < P := by omega
  have k2 : (k : Int) < (l : Int) := by omega
  rw [hj] at hy2 hv
  have ek := hcm k 1 hy1
  have ej := hcm j 0 hy2
  have eu := hcc k u hu
  have ev := hcc j v hv
  have j3 : (j : Int) < (n : Int) := by omega
  have k3 : (k : Int) < (n : Int) := by omega
  have HEv := hid (And.intro hb2 ev)
  clear h hk hN hP hlc hlm hn hl hcm hcc hy2 hy1 hj hu hv ev hb2
  go_enter Tryd.func71, Tryd.ntmps71
  go_upto_region 1 with (fail)
  generalize w.alloc (.cells #[d, .slice (some ⟨b2, o2, none⟩) n cc, .slice (some ⟨b, o, none⟩) l mc, r, q, s] 52) = w1 at HG HB H ek ej eu HEv ⊢
  have e1 := HB.out.cell 1 (v := .slice (some ⟨b2, o2, none⟩) n cc) rfl
  have e2 := HB.out.cell 2 (v := .slice (some ⟨b, o, none⟩) l mc) rfl
  go_wp2_with fail
  refine (of_op u w1 HU.out).mono ?_
  rintro e w2 ⟨a', b', c', d', t', rfl, hg⟩
  have HG2 := hid (grown_trans HG.out hg)
  have HB2 := hid (HB.out.kept0 hg)
  have HEv2 : Hid (b2 < w2.heap.size ∧ w2.cell? ⟨b2, o2 + j, none⟩ = some (.int .u32 v)) := hid ⟨Nat.lt_of_lt_of_le HEv.out.1 hg.size, (grown_cell hg HEv.out.1 (by simp)).trans HEv.out.2⟩
  clear hg ek ej eu e1 e2 HB HG HEv H
  obtain ⟨p, Hp⟩ : ∃ p, Hid (opW u = p) := ⟨_, hid rfl⟩
  rw [Hp.out]
  have HI := hid (RwAt.new w2 36 (inC p a' b' c' d'))
  have hal := World.grownBy_alloc w2 (.cells (inC p a' b' c' d') 36) none
  have HB3 := hid (HB2.out.kept0 hal)
  have HG3 := hid (grown_trans HG2.out hal)
  have HEv3 : Hid (b2 < (w2.alloc (.cells (inC p a' b' c' d') 36)).heap.size ∧ (w2.alloc (.cells (inC p a' b' c' d') 36)).cell? ⟨b2, o2 + j, none⟩ = some (.int .u32 v)) := hid ⟨Nat.lt_of_lt_of_le HEv2.out.1 hal.size, (grown_cell hal HEv2.out.1 (by simp)).trans HEv2.out.2⟩
  clear hal
  have Hzi := zero_ins9
  go_upto_region 4 with (fail)
  unfold inC at HI HB3 HG3 HEv3
  obtain ⟨X, hX⟩ : ∃ X, w2.heap.size = X := ⟨_, rfl⟩
  rw [hX] at HI ⊢
  clear hX Hzi
  generalize w2.alloc (.cells #[.int .i64 p, .int .i64 a', .int .i64 b', .int .i64 c', .int .u32 d'] 36) = w3 at HI HB3 HG3 HEv3 ⊢
  have e1 := HB3.out.cell 1 (v := .slice (some ⟨b2, o2, none⟩) n cc) rfl
  have ev := HEv3.out.2
  go_wp2_with fail
  refine (wback_is v w3 HV.out.1 HV.out.2).mono ?_
  rintro e w4 ⟨rfl, hg⟩
  have HG4 := hid (grown_trans HG3.out hg)
  have HI4 := hid (HI.out.kept0 hg)
  clear hg e1 ev
  obtain ⟨a2, b22, c2, d2, i2, hbk⟩ := back_tuple v
  rw [hbk]
  clear hbk
  obtain ⟨bb, Hbb⟩ : ∃ bb, Hid (bkB v = bb) := ⟨_, hid rfl⟩
  rw [Hbb.out]
  have HG5 := hid (grown_trans HG4.out (World.grownBy_alloc w4 (.cells #[.int .i64 a2, .int .i64 b22, .int .i64 c2, .int .i64 d2, .int .u32 i2] 36) none))
  have HI5 := hid (HI4.out.alloc (.cells #[.int .i64 a2, .int .i64 b22, .int .i64 c2, .int .i64 d2, .int .u32 i2] 36))
  have Hzi := zero_ins9
  go_upto_region 5 with (fail)
  clear Hzi
  generalize w4.alloc (.cells #[.int .i64 a2, .int .i64 b22, .int .i64 c2, .int .i64 d2, .int .u32 i2] 36) = w5 at HG5 HI5 ⊢
  have x0 := HI5.out.cell 0 (v := .int .i64 p) rfl
  cases bb with
  | false =>
    go_wp2
    go_ret
    exact ⟨ret_b (by rw [Hbb.out]; rfl), HG5.out⟩
  | true =>
    go_wp2
    go_ret
    exact ⟨ret_b (by rw [Hbb.out, Hp.out, Bool.true_and, Bool.eq_iff_iff]; simp), HG5.out⟩
theorem iscall_any (h : OAt w V x) (hf : OFit x) (k : Int) : Calls Tryd.prog 71 #[V.agg, .int .i64 k] w fun e w' => e = .returned (.bool (calI x k)) ∧ w.grownBy w' none := by
  by_cases h0 : k < 0
  · rw [calI_neg h0]; exact iscall_neg h k h0
  · obtain ⟨n, rfl⟩ := Int.eq_ofNat_of_zero_le (by omega : (0 : Int) ≤ k)
    rw [calI_nat]
    by_cases h1 : n + 1 < min x.C.length x.M.length
    · obtain ⟨y, hy⟩ : ∃ y, x.M[n]? = some y := ⟨_, List.getElem?_eq_getElem (by omega)⟩
      obtain ⟨z, hz⟩ : ∃ z, x.M[n + 1]? = some z := ⟨_, List.getElem?_eq_getElem (by omega)⟩
      by_cases h2 : y = 1
      · subst h2
        by_cases h3 : z = 0
        · subst h3
          exact iscall_in h hf n h1 hy hz
        · rw [calB_m2 hz h3]; exact iscall_m2 h hf n h1 hy hz h3
      · rw [calB_m1 hy h2]; exact iscall_m1 h hf n h1 hy h2
    · rw [calB_far h1]; exact iscall_far h hf n h1
end
end Go.Proofs.YteanjchbnaoopaaDoor
namespace Go.Proofs.YteanjchbnaoopaaDoor
open Go.RowKit
theorem run_at_eq_nil (B : Nat) (w : World) : (binOp .eql 31 (atV B) .nilIface).run Tryd.prog w = .ok (.bool false) w := by
  have h : ∀ d : Nat, (Op.equalIn (d + 1) 31 (atV B) .nilIface).run Tryd.prog w = .ok false w := fun d => by simp [Op.equalIn, run_underlying Tryd.underlying31]
  simp only [binOp]
  simp [Op.equal, Op.maxDepth, h 9999]
theorem flt_is_e {A : Nat → Addr} {w : World} {v : Value} {y : Fl} (h : FltAt A w v y) (hy : y ≠ none) : ∃ t p, v = .iface t p ∧ (∀ W, (binOp .eql 31 (.iface t p) .nilIface).run Tryd.prog W = .ok (.bool false) W) ∧ ∀ W, (binOp .neq 31 (.iface t p) .nilIface).run Tryd.prog W = .ok (.bool true) W := by
  match y, h with
  | none, _ => exact absurd rfl hy
  | some (c, none), h => exact ⟨_, _, h, fun W => run_err_nil (A c) W, fun W => run_err_neq_nil (A c) W⟩
  | some (c, some p), ⟨B, hv, _⟩ => exact ⟨_, _, hv, fun W => run_at_eq_nil B W, fun W => run_at_neq_nil B W⟩
end Go.Proofs.YteanjchbnaoopaaDoor
namespace Go.Proofs.YteanjchbnaoopaaDoor
open Go.RowKit
/-- where the loop stands: the row of places in block g is filled in as far as j -/
structure PLw (W w : World) (gb : Nat) (x : PO) (sv : Value) (L N j : Nat) : Prop where
  g : W.grownBy w none
  st : CsAt w sv L (sisC x (siL x (stL x x.C.length)))
  own : w.ownsRow W.heap.size 3 1 (.slice (some ⟨gb, 0, none⟩) N N) N (fillP x N j)
  ne : sv.ownBlock = none ∨ sv.ownBlock ≠ some gb
  ge : W.heap.size ≤ gb
theorem PLw.step {W w : World} {g : Nat} {x : PO} {sv : Value} {L N j : Nat} (h : PLw W w g x sv L N j) (hj : j < N) : PLw W (w.setCell ⟨g, j, none⟩ (.int .i64 (plN x j : Int))) g x sv L N (j + 1) := by
  obtain ⟨h1, h2⟩ := h.own.stored j (.int .i64 (plN x j : Int))
  rw [fill_set x hj] at h1
  exact ⟨grown_new' (grown_trans (grown_none h.g) h2) (fun k hk => by obtain rfl := Option.some.inj hk; exact h.ge), h.st.kept h2 h.ne, h1, h.ne, h.ge⟩
end Go.Proofs.YteanjchbnaoopaaDoor
namespace Go.Proofs.YteanjchbnaoopaaDoor
open Go.RowKit
/-- two rows of the function's own: numbers, and bytes beside them -/
structure TwoR (W w : World) (vc : Value) (lc : List Int) (vm : Value) (lm : List Int) : Prop where
  c : w.ownsRow W.heap.size 25 1 vc lc.length (lc.map (Value.int .u32))
  m : w.ownsRow W.heap.size 5 1 vm lm.length (lm.map (Value.int .u8))
  g : W.grownBy w none
  ap : Ap vc vm
section
variable {W w w5 : World} {vc vm : Value} {lc lm : List Int}
theorem ap_other {u v : Value} (h : Ap u v) : v.ownBlock = none ∨ v.ownBlock ≠ u.ownBlock := by
  rcases h with h | h
  · rw [h]
    cases v.ownBlock with
    | none => exact .inl rfl
    | some k => exact .inr (by simp)
  · exact .inr (fun e => h e.symm)
theorem TwoR.kept0 (h : TwoR W w vc lc vm lm) (hg : w.grownBy w5 none) : TwoR W w5 vc lc vm lm := ⟨own_keep0 h.c hg, own_keep0 h.m hg, grown_trans h.g hg, h.ap⟩
theorem TwoR.base {W0 : World} (h : TwoR W w vc lc vm lm) (hg : W0.grownBy W none) : TwoR W0 w vc lc vm lm := ⟨own_base h.c hg.size, own_base h.m hg.size, grown_trans hg h.g, h.ap⟩
theorem TwoR.addC (h : TwoR W w vc lc vm lm) {g cap k : Nat} (ys : List Int) (hk : ys.length = k) (hg : w.grownBy w5 vc.ownBlock) (hat : vc.ownBlock = some g ∨ g = w.heap.size)
    (ho : w5.ownsRow W.heap.size 25 1 (.slice (some ⟨g, 0, none⟩) (lc.length + k) cap) (lc.length + k) (lc.map (Value.int .u32) ++ ys.map (Value.int .u32))) :
    TwoR W w5 (.slice (some ⟨g, 0, none⟩) (lc.length + k) cap) (lc ++ ys) vm lm := by
  subst hk
  refine ⟨?_, h.m.kept hg (ap_other h.ap), grown_new' (grown_trans (grown_none h.g) hg) (fun j hj => (h.c.lt j hj).1), ?_⟩
  · rw [List.length_append, List.map_append]; exact ho
  · right
    rcases hat with e | e
    · rcases h.ap with f | f
      · rw [f] at e; cases e
      · exact fun e2 => f (e.trans e2)
    · intro e2
      have := (h.m.lt g e2.symm).2
      omega
theorem TwoR.addM (h : TwoR W w vc lc vm lm) {g cap k : Nat} (ys : List Int) (hk : ys.length = k) (hg : w.grownBy w5 vm.ownBlock) (hat : vm.ownBlock = some g ∨ g = w.heap.size)
    (ho : w5.ownsRow W.heap.size 5 1 (.slice (some ⟨g, 0, none⟩) (lm.length + k) cap) (lm.length + k) (lm.map (Value.int .u8) ++ ys.map (Value.int .u8))) :
    TwoR W w5 vc lc (.slice (some ⟨g, 0, none⟩) (lm.length + k) cap) (lm ++ ys) := by
  subst hk
  have e0 : ∀ j, vc.ownBlock = some j → vc.ownBlock ≠ vm.ownBlock := fun j hj e => by rcases h.ap with f | f; (rw [hj] at f; cases f); exact f e
  refine ⟨h.c.kept hg h.ap, ?_, grown_new' (grown_trans (grown_none h.g) hg) (fun j hj => (h.m.lt j hj).1), ?_⟩
  · rw [List.length_append, List.map_append]; exact ho
  · cases hc : vc.ownBlock with
    | none => exact .inl hc
    | some j =>
      right
      rw [hc]
      rcases hat with e | e
      · intro e2
        exact e0 j hc (by rw [hc, e2, e]; rfl)
      · intro e2
        have := (h.c.lt j hc).2
        have e3 : j = g := Option.some.inj e2
        omega
end
end Go.Proofs.YteanjchbnaoopaaDoor
namespace Go.Proofs.YteanjchbnaoopaaDoor
open Go.RowKit
theorem word_li (w : World) : Calls Tryd.prog 51 #[.agg #[.int .i64 14, .int .i64 0, .int .i64 0, .int .i64 0, .int .u32 0]] w fun e w' => e = .returned (.tuple #[.int .u32 234881024, .bool true]) ∧ w.grownBy w' none :=
  (word_any 14 0 0 0 0 w).mono fun _e _w' h => ⟨h.1, below_is_grown h.2⟩
theorem build_li0 (w : World) : (Instr.build 36 #[(0, .int .i64 14)]).run Tryd.prog w = .ok (.agg #[.int .i64 14, .int .i64 0, .int .i64 0, .int .i64 0, .int .u32 0]) w := by kernel_rfl
theorem rlsC_setk : ∀ (l : List Rl) (k : Nat) (r : Rl) (z : Int), l[k]? = some r → (rlsC l).set (k * 4 + 1) (.int .i64 z) = rlsC (l.set k ⟨r.a, z, r.s, r.d⟩)
  | [], _, _, _, h => by simp at h
  | x :: l, 0, r, z, h => by
    obtain rfl : x = r := by simpa using h
    rfl
  | x :: l, k + 1, r, z, h => by
    have := rlsC_setk l k r z (by simpa using h)
    rw [List.set_cons_succ, rlsC, rlsC, ← this, show (k + 1) * 4 + 1 = (rlC x).length + (k * 4 + 1) by simp [rlC]; omega, List.set_append_right _ _ (Nat.le_add_right _ _), Nat.add_sub_cancel_left]
/-- the call's own: its argument's box, the object that it makes, its result's box -/
structure WoW (W w : World) (G R P : Nat) (V : OV) (x : PO) (vc vq : Value) (n m : Nat) : Prop where
  g : W.grownBy w none
  box : RwAt w G 52 #[V.d, V.c, V.m, V.r, V.q, V.s]
  res : RwAt w R 52 #[.slice none 0 0, .slice none 0 0, .slice none 0 0, .slice none 0 0, .slice none 0 0, .slice none 0 0]
  bp : RwAt w P 52 #[V.d, vc, V.m, V.r, vq, V.s]
  oc : w.ownsRow (P + 1) 25 1 vc x.C.length ((woCn x n).map (Value.int .u32))
  oq : w.ownsRow (P + 1) 76 4 vq x.Q.length (rlsC (woQn x m))
  lt : W.heap.size ≤ G ∧ G < R ∧ R < P
  ap : Ap vc vq
theorem WoW.kept0 {W w w1 : World} {G R P : Nat} {V : OV} {x : PO} {vc vq : Value} {n m : Nat} (h : WoW W w G R P V x vc vq n m) (hg : w.grownBy w1 none) : WoW W w1 G R P V x vc vq n m :=
  ⟨grown_trans h.g hg, h.box.kept0 hg, h.res.kept0 hg, h.bp.kept0 hg, own_keep0 h.oc hg, own_keep0 h.oq hg, h.lt, h.ap⟩
theorem WoW.setC {W w : World} {G R P g n c m k : Nat} {V : OV} {x : PO} {vq : Value} (h : WoW W w G R P V x (.slice (some ⟨g, 0, none⟩) n c) vq k m) (hn : n = x.C.length) : WoW W (w.setCell ⟨g, k, none⟩ (.int .u32 (woW x k))) G R P V x (.slice (some ⟨g, 0, none⟩) n c) vq (k + 1) m := by
  subst hn
  obtain ⟨h1, h2⟩ := h.oc.stored k (.int .u32 (woW x k))
  have hge := (h.oc.lt g rfl).1
  have hlt := h.lt
  refine ⟨grown_new' (grown_trans (grown_none h.g) h2) (fun j hj => by obtain rfl := Option.some.inj hj; omega), h.box.kept h2 (by simp; omega), h.res.kept h2 (by simp; omega), h.bp.kept h2 (by simp; omega), ?_, h.oq.kept h2 ?_, h.lt, h.ap⟩
  · rw [← woCn_set, List.map_set]; exact h1
  · rcases h.ap with e | e
    · cases e
    · exact .inr (fun e2 => e e2.symm)
theorem WoW.setQ {W w : World} {G R P g n c m k : Nat} {V : OV} {x : PO} {vc : Value} {r : Rl} (h : WoW W w G R P V x vc (.slice (some ⟨g, 0, none⟩) n c) k m) (hn : n = x.Q.length) (hr : x.Q[m]? = some r) (hw : woQ x r = ⟨r.a, 2, r.s, r.d⟩) : WoW W (w.setCell ⟨g, m * 4 + 1, none⟩ (.int .i64 2)) G R P V x vc (.slice (some ⟨g, 0, none⟩) n c) k (m + 1) := by
  subst hn
  obtain ⟨h1, h2⟩ := h.oq.stored (m * 4 + 1) (.int .i64 2)
  have hge := (h.oq.lt g rfl).1
  have hlt := h.lt
  refine ⟨grown_new' (grown_trans (grown_none h.g) h2) (fun j hj => by obtain rfl := Option.some.inj hj; omega), h.box.kept h2 (by simp; omega), h.res.kept h2 (by simp; omega), h.bp.kept h2 (by simp; omega), h.oc.kept h2 ?_, ?_, h.lt, h.ap⟩
  · rcases h.ap with e | e
    · exact .inl e
    · exact .inr e
  · rw [← woQn_set hr, hw, ← rlsC_setk (woQn x m) m r 2 (by rw [woQn_get hr, if_neg (Nat.lt_irrefl _)])]; exact h1
theorem woQ_yes {x : PO} {r : Rl} (h : r.k = 1) (hc : calI x (r.a - 1) = true) : woQ x r = ⟨r.a, 2, r.s, r.d⟩ := by unfold woQ; rw [if_pos ⟨h, hc⟩]
theorem woQ_no {x : PO} {r : Rl} (h : ¬ (r.k = 1 ∧ calI x (r.a - 1) = true)) : woQ x r = r := by unfold woQ; rw [if_neg h]
theorem calI_wrap {x : PO} {a : Int} (h : -9223372036854775808 ≤ a ∧ a ≤ 9223372036854775807) (hl : x.C.length ≤ 1000000) : calI x (wrap64 (a - 1)) = calI x (a - 1) := by
  by_cases e : a = -9223372036854775808
  · subst e
    rw [show wrap64 (-9223372036854775808 - 1) = ((9223372036854775807 : Nat) : Int) by unfold wrap64; decide, calI_nat, calB_far (by omega), calI_neg (by decide)]
  · rw [IntWalk.wrap64_in _ (by omega)]
/-- behind withoutCalls -/
def WoAt (W : World) (x : PO) (e : Ending) (w' : World) : Prop := ∃ V', e = .returned V'.agg ∧ OAt w' V' (woC x) ∧ W.grownBy w' none
set_option maxRecDepth 100000 in
set_option maxHeartbeats 16000000 in
theorem wo_any {W : World} {V : OV} {x : PO} (h : OAt W V x) (hf : OFit x) (hb : x.C.length ≤ 1000000 ∧ x.Q.length ≤ 1000000) (hq : ∀ r ∈ x.Q, -9223372036854775808 ≤ r.a ∧ r.a ≤ 9223372036854775807) :
    Calls Tryd.prog 53 #[V.agg] W (WoAt W x) := by
  obtain ⟨d, c, m, r, q, s⟩ := V
  have Hz := zero_obj
  have HA := hid ((RwAt.new W 52 #[d, c, m, r, q, s]).alloc (.cells #[.slice none 0 0, .slice none 0 0, .slice none 0 0, .slice none 0 0, .slice none 0 0, .slice none 0 0] 52))
  have HRA := hid (RwAt.new2 W (.cells #[d, c, m, r, q, s] 52) 52 #[.slice none 0 0, .slice none 0 0, .slice none 0 0, .slice none 0 0, .slice none 0 0, .slice none 0 0])
  have HG := hid (grown_trans (World.grownBy_alloc W (.cells #[d, c, m, r, q, s] 52) none) (World.grownBy_alloc _ (.cells #[.slice none 0 0, .slice none 0 0, .slice none 0 0, .slice none 0 0, .slice none 0 0, .slice none 0 0] 52) none))
  have Hs : Hid (((W.alloc (.cells #[d, c, m, r, q, s] 52)).alloc (.cells #[.slice none 0 0, .slice none 0 0, .slice none 0 0, .slice none 0 0, .slice none 0 0, .slice none 0 0] 52)).heap.size = W.heap.size + 2) := hid (by simp)
  have HO := hid h
  have HF := hid hf
  have HBd := hid hb
  have HQa := hid hq
  have Hone : Hid ((#[d, c, m, r, q, s]).all (·.oneCell') = true) := hid (by
    obtain ⟨p1, n1, c1, p2, n2, c2, p3, n3, c3, p4, n4, c4, p5, n5, c5, p6, n6, c6, hV⟩ := OAt.cells h
    simp only [OV.mk.injEq] at hV
    obtain ⟨rfl, rfl, rfl, rfl, rfl, rfl⟩ := hV
    simp [Value.oneCell'])
  clear h hf hb hq
  go_enter Tryd.func53, Tryd.ntmps53
  go_upto_region 1 with (fail)
  obtain ⟨G, hG⟩ : ∃ G, W.heap.size = G := ⟨_, rfl⟩
  rw [hG] at HA HRA Hs ⊢
  generalize (W.alloc (.cells #[d, c, m, r, q, s] 52)).alloc (.cells #[.slice none 0 0, .slice none 0 0, .slice none 0 0, .slice none 0 0, .slice none 0 0, .slice none 0 0] 52) = w1 at HA HRA HG Hs ⊢
  obtain ⟨R, hR⟩ : ∃ R, G + 1 = R := ⟨_, rfl⟩
  rw [hR] at HRA ⊢
  have hal := World.grownBy_alloc w1 (.cells #[d, c, m, r, q, s] 52) none
  have HA2 := hid (HA.out.kept0 hal)
  have HR2 := hid (HRA.out.kept0 hal)
  have HG2 := hid (grown_trans HG.out hal)
  have HP2 := hid (RwAt.new w1 52 #[d, c, m, r, q, s])
  have HPs : Hid ((w1.alloc (.cells #[d, c, m, r, q, s] 52)).heap.size = w1.heap.size + 1) := hid (by simp)
  have HGe := hid hG
  have HRe := hid hR
  clear hG hR hal
  go_upto_region 2 with (first
    | (refine wpList_load_rw rfl 52 _ rfl rfl HA.out rfl Tryd.underlying52 info_object ?_)
    | (refine wpList_store_rw rfl 52 _ _ rfl rfl rfl (RwAt.new w1 _ _) info_object rfl Hone.out ?_; rw [World.setRow_alloc_new])
    | fail)
  obtain ⟨PP, hP⟩ : ∃ PP, w1.heap.size = PP := ⟨_, rfl⟩
  rw [hP] at HP2 HPs Hs ⊢
  have Hlt : Hid (W.heap.size ≤ G ∧ G < R ∧ R < PP) := hid (by have := HGe.out; have := HRe.out; have := Hs.out; omega)
  clear hP HA HRA HG Hs HGe HRe Hz
  generalize w1.alloc (.cells #[d, c, m, r, q, s] 52) = w2 at HA2 HR2 HG2 HP2 HPs ⊢
  have H0 := hid (HA2.out.kept0 (grown_drew (grown_refl w2 none)))
  have HO0 : Hid (OAt w2.drew ⟨d, c, m, r, q, s⟩ x) := hid (HO.out.kept0 (grown_drew HG2.out))
  have Hne : Hid (G ≠ PP) := hid (by have := Hlt.out; omega)
  have k01 := H0.out.cell 1 (v := c) rfl
  have k04 := H0.out.cell 4 (v := q) rfl
  have HPd := hid (HP2.out.kept0 (grown_drew (grown_refl w2 none)))
  go_region_held3 (fun W => W.cell? ⟨G, 1, none⟩ = some c ∧ W.cell? ⟨G, 4, none⟩ = some q)
    (first | (with_reducible exact ⟨k01, k04⟩) | (with_reducible exact ⟨k11, k14⟩) | (with_reducible exact ⟨k21, k24⟩) | (with_reducible exact ⟨k31, k34⟩) | (with_reducible exact ⟨k41, k44⟩))
    (first
      | (go_at_call 69; refine (clone_u32 HO0.out.c HBd.out.1).mono ?_; rintro e w3 ⟨v0, rfl, ho, hg⟩; obtain ⟨p0, c0, rfl⟩ := own_slice ho; have HC0 := hid ho; have HG0 := hid hg; have H1 := hid (H0.out.kept0 hg); have HO1 := hid (HO0.out.kept0 hg); clear ho hg H0 HO0; have k11 := H1.out.cell 1 (v := c) rfl; have k14 := H1.out.cell 4 (v := q) rfl)
      | (go_at_call 70; refine (clone_rl HO1.out.q HBd.out.2).mono ?_; rintro e w4 ⟨v1, rfl, ho, hg⟩; obtain ⟨p1, c1, rfl⟩ := own_slice ho; have HC1 := hid ho; have HG1 := hid hg; have H2 := hid (H1.out.kept0 hg); have HO2 := hid (HO1.out.kept0 hg); clear ho hg H1 HO1; have k21 := H2.out.cell 1 (v := c) rfl; have k24 := H2.out.cell 4 (v := q) rfl; have HP4 := hid (HPd.out.kept0 (grown_trans HG0.out HG1.out)); have p4a := HP4.out.cell 1 (v := c) rfl; have p4b := HP4.out.cell 4 (v := q) rfl; have z4a := HP4.out.free 1; have z4b := HP4.out.free 4; have k31 := (H2.out.other PP 1 (.slice p0 x.C.length c0) Hne.out).cell 1 (v := c) rfl; have k34 := (H2.out.other PP 1 (.slice p0 x.C.length c0) Hne.out).cell 4 (v := q) rfl; have k41 := ((H2.out.other PP 1 (.slice p0 x.C.length c0) Hne.out).other PP 4 (.slice p1 x.Q.length c1) Hne.out).cell 1 (v := c) rfl; have k44 := ((H2.out.other PP 1 (.slice p0 x.C.length c0) Hne.out).other PP 4 (.slice p1 x.Q.length c1) Hne.out).cell 4 (v := q) rfl))
  go_split_ands
  have hgd : w2.grownBy w4 none := grown_trans (grown_drew (grown_refl w2 none)) (grown_trans HG0.out HG1.out)
  have Hap := hid (own_apart HC0.out HC1.out (Nat.le_refl _))
  have HWo : Hid (WoW W ((w4.setCell ⟨PP, 1, none⟩ (.slice p0 x.C.length c0)).setCell ⟨PP, 4, none⟩ (.slice p1 x.Q.length c1)) G R PP ⟨d, c, m, r, q, s⟩ x (.slice p0 x.C.length c0) (.slice p1 x.Q.length c1) 0 0) := hid (by
    have hs : w4.grownBy ((w4.setCell ⟨PP, 1, none⟩ (.slice p0 x.C.length c0)).setCell ⟨PP, 4, none⟩ (.slice p1 x.Q.length c1)) (some PP) := grown_setCell (grown_setCell (grown_refl w4 _) _ _) _ _
    have hl := Hlt.out
    have hsz : w2.drew.heap.size = PP + 1 := HPs.out
    have b0 := HC0.out
    rw [hsz] at b0
    have b1 := own_base HC1.out (show PP + 1 ≤ w3.heap.size by have := HG0.out.size; omega)
    refine ⟨grown_new' (grown_trans (grown_none (grown_trans HG2.out hgd)) hs) (fun j hj => by obtain rfl := Option.some.inj hj; omega), H2.out.kept hs (by simp; omega), (HR2.out.kept0 hgd).kept hs (by simp; omega), ?_, ?_, ?_, hl, Hap.out⟩
    · have := (HP4.out.set 1 (.slice p0 x.C.length c0)).set 4 (.slice p1 x.Q.length c1)
      simpa using this
    · rw [woCn_zero]
      exact (b0.kept (grown_none HG1.out) (Classical.em _)).kept hs (by
        cases hv : (Value.slice p0 x.C.length c0).ownBlock with
        | none => exact .inl rfl
        | some j => have := (b0.lt j hv).1; exact .inr (by simp; omega))
    · rw [woQn_zero]
      exact b1.kept hs (by
        cases hv : (Value.slice p1 x.Q.length c1).ownBlock with
        | none => exact .inl rfl
        | some j => have := (b1.lt j hv).1; exact .inr (by simp; omega)))
  go_upto_region 3 with (fail)
  clear hgd k01 k04 k11 k14 k21 k24 k31 k34 k41 k44 HPd Hne HP4 p4a p4b z4a z4b Hap HC0 HC1 HG0 HG1 H2 HO2 HA2 HR2 HG2 HP2 HPs
  generalize (w4.setCell ⟨PP, 1, none⟩ (.slice p0 x.C.length c0)).setCell ⟨PP, 4, none⟩ (.slice p1 x.Q.length c1) = w5 at HWo ⊢
  obtain ⟨n, hn⟩ : ∃ n, x.C.length = n := ⟨_, rfl⟩
  obtain ⟨nq, hnq⟩ : ∃ n, x.Q.length = n := ⟨_, rfl⟩
  have Hn := hid hn
  have Hnq := hid hnq
  rw [hn, hnq] at HWo ⊢
  have n0 : (0 : Int) ≤ (n : Int) := by omega
  have n1 : (n : Int) ≤ 1000000 := by have := HBd.out.1; omega
  have q0 : (0 : Int) ≤ (nq : Int) := by omega
  have q1 : (nq : Int) ≤ 1000000 := by have := HBd.out.2; omega
  clear hn hnq Hlt
  have e1 := HWo.out.bp.cell 1 (v := .slice p0 n c0) rfl
  go_wp2
  clear e1
  go_loopw [19, 4] (fun i a wr => ∃ k : Nat, k ≤ n ∧ i = .int .i64 k ∧ Hid (WoW W wr G R PP ⟨d, c, m, r, q, s⟩ x (.slice p0 n c0) (.slice p1 nq c1) k 0)) (fun i _ _ => n - (intOf i).toNat)
  case atStart => exact ⟨0, Nat.zero_le _, rfl, HWo⟩
  case round =>
    obtain ⟨k, hk, rfl, HR⟩ := hrel
    clear HWo
    have k0 : (0 : Int) ≤ (k : Int) := by omega
    by_cases hlt : k < n
    · have kn : (k : Int) < (n : Int) := by omega
      have Hlt := hid hlt
      clear hlt
      go_wp2_with (first
        | (refine wpList_load_rw rfl 52 _ rfl rfl HR.out.box rfl Tryd.underlying52 info_object ?_)
        | fail)
      refine (iscall_any (V := ⟨d, c, m, r, q, s⟩) (HO.out.kept0 HR.out.g) HF.out k).mono ?_
      rintro e w6 ⟨rfl, hg⟩
      rw [calI_nat]
      have HR6 := hid (HR.out.kept0 hg)
      clear hg HR
      cases hc : calB x k with
      | false =>
        have Hsm := hid (woCn_same hc)
        clear hc
        go_wp2
        go_roundw
        case rel => exact ⟨k + 1, Hlt.out, by go_num, hid ⟨HR6.out.g, HR6.out.box, HR6.out.res, HR6.out.bp, by rw [Hsm.out]; exact HR6.out.oc, HR6.out.oq, HR6.out.lt, HR6.out.ap⟩⟩
        case measure => simp [intOf]; have := Hlt.out; omega
      | true =>
        have Hwv : Hid (woW x k = 234881024) := hid (by unfold woW; rw [if_pos hc])
        clear hc
        obtain ⟨g, c0', hv, hgb, hgl⟩ := HR6.out.oc.form (by have := Hlt.out; have := Hn.out; omega)
        rw [Hn.out] at hv
        simp only [Value.slice.injEq, true_and] at hv
        obtain ⟨rfl, rfl⟩ := hv
        have HRd := hid (HR6.out.kept0 (grown_drew (grown_refl w6 none)))
        have Hcell : Hid (∀ W', w6.grownBy W' none → W'.cell? ⟨PP, 1, none⟩ = some (.slice (some ⟨g, 0, none⟩) n c0) ∧ (∃ y, W'.cell? ⟨g, k, none⟩ = some (.int .u32 y)) ∧ W'.frozen? ⟨g, k, none⟩ = false) := hid (fun W' hW => by
          have h := HR6.out.kept0 hW
          have hc := h.oc.cells (g := g) rfl k (.int .u32 (x.C.getD k 0)) (by rw [List.getElem?_map, woCn_get (by have := Hlt.out; have := Hn.out; omega), if_neg (Nat.lt_irrefl _)]; rfl)
          rw [Addr.add_mid, Nat.zero_add] at hc
          exact ⟨h.bp.cell 1 (v := .slice (some ⟨g, 0, none⟩) n c0) rfl, ⟨_, hc⟩, by have h2 := h.oc; rw [Hn.out] at h2; exact h2.frozenAt k⟩)
        clear hgb hgl
        have d1 := (Hcell.out _ (grown_drew (grown_refl w6 none))).1
        obtain ⟨y0, hy0⟩ := (Hcell.out _ (grown_drew (grown_refl w6 none))).2.1
        have hbl := build_li0
        go_wp2_with fail
        go_region_law (first
          | (go_simp
             go_at_call 51
             refine (word_li _).mono ?_
             rintro e w7 ⟨rfl, hg⟩
             have hg2 : w6.grownBy w7 none := grown_trans (grown_drew (grown_refl w6 none)) hg
             have HR7 := hid (HR6.out.kept0 hg2)
             have d2 := (Hcell.out _ hg2).1
             obtain ⟨y1, hy1⟩ := (Hcell.out _ hg2).2.1
             have hz1 := (Hcell.out _ hg2).2.2
             clear hg hg2))
        all_goals
          clear d1 hy0 d2 hy1 hz1 hbl
          go_wp2
          go_roundw
          case rel => exact ⟨k + 1, Hlt.out, by go_num, hid (by have h3 := HR7.out.setC (k := k) Hn.out.symm; rw [Hwv.out] at h3; exact h3)⟩
          case measure => simp [intOf]; have := Hlt.out; omega
    · obtain rfl : k = n := by omega
      have kn : ¬ ((k : Int) < (k : Int)) := by omega
      clear hlt
      have HR4 := hid HR.out
      have HC4 := hid (SlAt.own HR.out.oc)
      have e4 := HR.out.box.cell 4 (v := q) rfl
      obtain ⟨qp, qc, hqv⟩ := HO.out.q.len
      simp only at hqv
      rw [Hnq.out] at hqv
      subst hqv
      clear HR
      go_wp2
      clear e4
      go_loopw [38, 5] (fun i a wr => ∃ j : Nat, j ≤ nq ∧ i = .int .i64 j ∧ Hid (WoW W wr G R PP ⟨d, c, m, r, .slice qp nq qc, s⟩ x (.slice p0 k c0) (.slice p1 nq c1) k j)) (fun i _ _ => nq - (intOf i).toNat)
      case atStart => exact ⟨0, Nat.zero_le _, rfl, HR4⟩
      case round =>
        obtain ⟨j, hj, rfl, HQ⟩ := hrel
        clear HR4 HC4
        have j0 : (0 : Int) ≤ (j : Int) := by omega
        by_cases hlt : j < nq
        · have jn : (j : Int) < (nq : Int) := by omega
          have Hlt := hid hlt
          obtain ⟨rr, hr⟩ : ∃ rr, x.Q[j]? = some rr := ⟨_, List.getElem?_eq_getElem (by rw [Hnq.out]; exact hlt)⟩
          obtain ⟨ra, rk, rs, rd⟩ := rr
          have Hr := hid hr
          obtain ⟨bq, oq, qc2, hqv2, _, hbq, hcq⟩ := (HO.out.kept0 HQ.out.g).q.at_ (by rw [Hnq.out]; omega)
          simp only [Value.slice.injEq] at hqv2
          obtain ⟨rfl, -, rfl⟩ := hqv2
          have g0 := hcq (j * 4) (.int .i64 ra) (by rw [show j * 4 = j * 4 + 0 from rfl, rlsC_get x.Q j 0 _ hr (by decide)]; rfl)
          have g1 := hcq (j * 4 + 1) (.int .i64 rk) (by rw [rlsC_get x.Q j 1 _ hr (by decide)]; rfl)
          have g2 := hcq (j * 4 + 2) (.int .i64 rs) (by rw [rlsC_get x.Q j 2 _ hr (by decide)]; rfl)
          have g3 := hcq (j * 4 + 3) (.int .i64 rd) (by rw [rlsC_get x.Q j 3 _ hr (by decide)]; rfl)
          rw [← Nat.add_assoc] at g1 g2 g3
          have Hra := hid (HQa.out _ (List.mem_of_getElem? hr))
          have hal := World.grownBy_alloc wr (.cells #[.int .i64 ra, .int .i64 rk, .int .i64 rs, .int .i64 rd] 76) none
          have HQ2 := hid (HQ.out.kept0 hal)
          have HX := hid (RwAt.new wr 76 #[.int .i64 ra, .int .i64 rk, .int .i64 rs, .int .i64 rd])
          clear hal hbq hcq hlt hr
          go_upto_region 12 with (fail)
          clear g0 g1 g2 g3 HQ
          obtain ⟨X, hX⟩ : ∃ X, wr.heap.size = X := ⟨_, rfl⟩
          rw [hX] at HX ⊢
          clear hX
          generalize wr.alloc (.cells #[.int .i64 ra, .int .i64 rk, .int .i64 rs, .int .i64 rd] 76) = w6 at HQ2 HX ⊢
          have x1 := HX.out.cell 1 (v := .int .i64 rk) rfl
          have x0 := HX.out.cell 0 (v := .int .i64 ra) rfl
          by_cases h1 : rk = 1
          · subst h1
            have Hcw := hid (calI_wrap (x := x) Hra.out HBd.out.1)
            obtain ⟨z, hz⟩ : ∃ z, wrap64 (ra - 1) = z := ⟨_, rfl⟩
            have Hz2 := hid hz
            go_wp2_with (first
              | (refine wpList_load_rw_g (by kernel_rfl) 52 _ rfl rfl HQ2.out.box rfl Tryd.underlying52 info_object ?_)
              | fail)
            refine (iscall_any (V := ⟨d, c, m, r, .slice (some ⟨bq, oq, none⟩) nq qc, s⟩) (HO.out.kept0 HQ2.out.g) HF.out z).mono ?_
            rintro e w7 ⟨rfl, hg⟩
            rw [← Hz2.out, Hcw.out]
            have HQ7 := hid (HQ2.out.kept0 hg)
            clear hg HQ2 x0 x1 HX hz
            cases hc : calI x (ra - 1) with
            | false =>
              have Hsm := hid (woQn_same Hr.out (woQ_no (by rw [hc]; simp)))
              clear hc
              go_wp2
              go_roundw
              case rel => exact ⟨j + 1, Hlt.out, by go_num, hid ⟨HQ7.out.g, HQ7.out.box, HQ7.out.res, HQ7.out.bp, HQ7.out.oc, by rw [Hsm.out]; exact HQ7.out.oq, HQ7.out.lt, HQ7.out.ap⟩⟩
              case measure => simp [intOf]; have := Hlt.out; omega
            | true =>
              have Hyw := hid (woQ_yes (x := x) (r := ⟨ra, 1, rs, rd⟩) rfl hc)
              clear hc
              obtain ⟨g, c0', hv, hgb, hgl⟩ := HQ7.out.oq.form (by have := Hlt.out; have := Hnq.out; omega)
              rw [Hnq.out] at hv
              simp only [Value.slice.injEq, true_and] at hv
              obtain ⟨rfl, rfl⟩ := hv
              have hc := HQ7.out.oq.cells (g := g) rfl (j * 4 + 1) (.int .i64 1) (by rw [rlsC_get (woQn x j) j 1 ⟨ra, 1, rs, rd⟩ (by rw [woQn_get Hr.out, if_neg (Nat.lt_irrefl _)]) (by decide)]; rfl)
              rw [Addr.add_mid, Nat.zero_add] at hc
              have hz := HQ7.out.oq
              rw [Hnq.out] at hz
              have hz := hz.frozenAt (j * 4 + 1)
              have e4 := HQ7.out.bp.cell 4 (v := .slice (some ⟨g, 0, none⟩) nq c1) rfl
              clear hgb hgl
              go_wp2
              go_roundw
              case rel => exact ⟨j + 1, Hlt.out, by go_num, hid (HQ7.out.setQ Hnq.out.symm Hr.out Hyw.out)⟩
              case measure => simp [intOf]; have := Hlt.out; omega
          · have h1b : (rk == 1) = false := by simpa using h1
            have Hsm := hid (woQn_same Hr.out (woQ_no (x := x) (fun h => h1 h.1)))
            clear h1
            go_wp2
            go_roundw
            case rel => exact ⟨j + 1, Hlt.out, by go_num, hid ⟨HQ2.out.g, HQ2.out.box, HQ2.out.res, HQ2.out.bp, HQ2.out.oc, by rw [Hsm.out]; exact HQ2.out.oq, HQ2.out.lt, HQ2.out.ap⟩⟩
            case measure => simp [intOf]; have := Hlt.out; omega
        · obtain rfl : j = nq := by omega
          have jn : ¬ ((j : Int) < (j : Int)) := by omega
          clear hlt
          have Hone2 : Hid ((#[d, .slice p0 k c0, m, r, .slice p1 j c1, s]).all (·.oneCell') = true) := hid (by
            have h := Hone.out
            simp [Value.oneCell'] at h ⊢
            exact ⟨h.1, h.2.2.1, h.2.2.2.1, h.2.2.2.2⟩)
          go_wp2_with (first
            | (refine wpList_load_rw rfl 52 _ rfl rfl HQ.out.bp rfl Tryd.underlying52 info_object ?_)
            | (refine wpList_store_rw rfl 52 _ _ rfl rfl rfl HQ.out.res info_object rfl Hone2.out ?_)
            | fail)
          have hres := HQ.out.res.row #[d, .slice p0 k c0, m, r, .slice p1 j c1, s]
          refine bodyPost_ret (results_cell_row Tryd.results53 _ _ R _ _ _ _ rfl hres.blk Tryd.underlying52 rfl (by kernel_rfl)) rfl ?_
          have hgw := grown_setRow HQ.out.g (show W.heap.size ≤ R by have := HQ.out.lt; omega) #[d, .slice p0 k c0, m, r, .slice p1 j c1, s]
          have hgr : wr.grownBy (wr.setRow R #[d, .slice p0 k c0, m, r, .slice p1 j c1, s]) (some R) := ⟨rfl, rfl, rfl, by simp [World.setRow], fun i _ hi => setRow_other wr R i _ (fun e => hi (by rw [e]))⟩
          have oc := HQ.out.oc.kept hgr (by
            cases hv : (Value.slice p0 k c0).ownBlock with
            | none => exact .inl rfl
            | some i => have h1 := (HQ.out.oc.lt i hv).1; have h2 := HQ.out.lt; exact .inr (by simp; omega))
          have oq := HQ.out.oq.kept hgr (by
            cases hv : (Value.slice p1 j c1).ownBlock with
            | none => exact .inl rfl
            | some i => have h1 := (HQ.out.oq.lt i hv).1; have h2 := HQ.out.lt; exact .inr (by simp; omega))
          refine ⟨⟨d, .slice p0 k c0, m, r, .slice p1 j c1, s⟩, rfl, ⟨HO.out.d.kept0 hgw, ?_, HO.out.m.kept0 hgw, HO.out.r.kept0 hgw, ?_, HO.out.s.kept0 hgw⟩, hgw⟩
          · unfold woC; rw [Hn.out]; exact SlAt.own oc
          · unfold woC; rw [Hnq.out]; have h3 := CsAt.own oq; rw [← woQn_length x j] at h3; exact h3
theorem wo_fit {x : PO} (h : OFit x) : OFit (woC x) := by
  refine ⟨h.d, ?_, h.m, ?_⟩
  · intro n hn
    obtain ⟨k, hk⟩ := List.getElem?_of_mem hn
    have hk : (woCn x x.C.length)[k]? = some n := hk
    have hl := (List.getElem?_eq_some_iff.1 hk).1
    rw [woCn_length] at hl
    rw [woCn_get hl, if_pos hl] at hk
    obtain rfl := Option.some.inj hk
    unfold woW
    split
    · decide
    · rw [List.getD_eq_getElem?_getD, List.getElem?_eq_getElem hl]
      exact h.c _ (List.getElem_mem hl)
  · obtain ⟨a, b, c, d, e, f⟩ := h.l
    exact ⟨a, by rw [show (woC x).C = woCn x x.C.length from rfl, woCn_length]; exact b, c, d, by rw [show (woC x).Q = woQn x x.Q.length from rfl, woQn_length]; exact e, f⟩
/-- of an object: its numbers are numbers, its lists not too long -/
structure ObB (x : PO) : Prop where
  fit : OFit x
  len : x.D.length ≤ 1000000 ∧ x.C.length ≤ 1000000 ∧ x.M.length ≤ 1000000 ∧ x.R.length ≤ 1000000 ∧ x.Q.length ≤ 1000000 ∧ x.S.length ≤ 1000000
  q : ∀ r ∈ x.Q, -9223372036854775808 ≤ r.a ∧ r.a ≤ 9223372036854775807
set_option maxRecDepth 100000 in
theorem lvalid_any {W : World} {A : Nat → Addr} {V : OV} {x : PO} (h : OAt W V x) (he : ErrC W A) (hb : ObB x) :
    Calls Tryd.prog 42 #[V.agg] W (SaysAt W A (validP (woC x))) := by
  obtain ⟨d, c, m, r, q, s⟩ := V
  have HB0 := hid (RwAt.new W 52 #[d, c, m, r, q, s])
  have HG0 := hid (World.grownBy_alloc W (.cells #[d, c, m, r, q, s] 52) none)
  have HO := hid h
  have HE := hid he
  have HB := hid hb
  clear h he hb
  go_enter Tryd.func42, Tryd.ntmps42
  go_upto_region 1 with (fail)
  generalize W.alloc (.cells #[d, c, m, r, q, s] 52) = w1 at HB0 HG0 ⊢
  go_wp2_with (first
    | (refine wpList_load_rw rfl 52 _ rfl rfl HB0.out rfl Tryd.underlying52 info_object ?_)
    | fail)
  refine (wo_any (V := ⟨d, c, m, r, q, s⟩) (HO.out.kept0 HG0.out) HB.out.fit ⟨HB.out.len.2.1, HB.out.len.2.2.2.2.1⟩ HB.out.q).mono ?_
  rintro e w2 ⟨V', rfl, ho, hg⟩
  have HG2 := hid (grown_trans HG0.out hg)
  have HO2 := hid ho
  clear hg ho HB0 HG0
  go_wp2_with fail
  refine (valid_any (V := V') HO2.out (HE.out.kept0 HG2.out) (wo_fit HB.out.fit)).mono ?_
  rintro e w3 ⟨v, rfl, hv, hg⟩
  have HV := hid hv
  have HG3 := hid (grown_trans HG2.out hg)
  clear hv hg
  go_wp2
  go_ret
  exact ⟨_, rfl, HV.out, HG3.out⟩
end Go.Proofs.YteanjchbnaoopaaDoor

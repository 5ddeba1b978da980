/- Package rewrite: Back: contract. -/
import Derived.Test.YtgahbpfmiibpeaaDoorZGRv
import Derived.Test.YtgahbpfmiibpeaaDoorZGRwA
import Derived.Test.YtgahbpfmiibpeaaDoorZGSite
namespace Go.Proofs.YtgahbpfmiibpeaaDoor
open Go.RowKit
theorem of_is (x imm : Int) (w : World) (h0 : 0 ≤ x) (h1 : x < 4294967296) : Calls Tryd.prog 38 #[.int .u32 x, .int .u32 imm] w fun e w' => e = .returned (ofV x imm) ∧ w.grownBy w' none := by
  cases h : insB (x / 16777216) (x / 65536 % 256) (x / 256 % 256) (x % 256) (wantImm (x / 16777216) imm)
  · exact (of_no x imm w h0 h1 h).mono fun e w' he => ⟨by rw [he.1]; unfold ofV; rw [h]; rfl, below_is_grown he.2⟩
  · exact (of_yes x imm w h0 h1 h).mono fun e w' he => ⟨by rw [he.1]; unfold ofV; rw [if_pos h], below_is_grown he.2⟩
theorem of_no_zero {x imm a b c d i : Int} {t : Bool} (h : ofV x imm = .tuple #[.agg #[.int .i64 a, .int .i64 b, .int .i64 c, .int .i64 d, .int .u32 i], .bool t]) (ht : t = false) : a = 0 := by
  subst ht
  unfold ofV at h
  split at h
  · simp only [Value.tuple.injEq, Array.mk.injEq, List.cons.injEq, Value.bool.injEq, and_true] at h
    exact absurd h.2 (by decide)
  · simp only [Value.tuple.injEq, Array.mk.injEq, List.cons.injEq, Value.agg.injEq, Value.int.injEq, and_true, true_and] at h
    exact h.1.symm
set_option maxRecDepth 100000 in
set_option maxHeartbeats 4000000 in
theorem wback_is (y : Int) (W : World) (h0 : 0 ≤ y) (h1 : y < 4294967296) : Calls Tryd.prog 11 #[.int .u32 y] W fun e w' => e = .returned (backV y) ∧ W.grownBy w' none := by
  have HR0 := hid (RwAt.new W 43 #[.int .i64 0, .int .i64 0, .int .i64 0, .int .i64 0, .int .u32 0])
  have HG0 := hid (World.grownBy_alloc W (.cells #[.int .i64 0, .int .i64 0, .int .i64 0, .int .i64 0, .int .u32 0] 43) none)
  have Hz := zero_ins9
  have Hb := build_ins0
  have hand := andM h0 h1
  have HY := hid (And.intro h0 h1)
  go_enter Tryd.func11, Tryd.ntmps11
  go_upto_region 1 with (fail)
  obtain ⟨R, hR⟩ : ∃ R, W.heap.size = R := ⟨_, rfl⟩
  have HRe := hid hR
  rw [hR] at HR0 ⊢
  clear hR
  generalize W.alloc (.cells #[.int .i64 0, .int .i64 0, .int .i64 0, .int .i64 0, .int .u32 0] 43) = w1 at HR0 HG0 ⊢
  by_cases hm : y < 2147483648
  · rw [if_pos hm] at hand
    have HM := hid hm
    have E := hid (HR0.out.row #[.int .i64 0, .int .i64 0, .int .i64 0, .int .i64 0, .int .u32 0])
    have EG := hid (grown_setRow HG0.out (Nat.le_of_eq HRe.out) #[.int .i64 0, .int .i64 0, .int .i64 0, .int .i64 0, .int .u32 0])
    have k0 := E.out.cell 0 (v := .int .i64 0) rfl
    have k1 := E.out.cell 1 (v := .int .i64 0) rfl
    have k2 := E.out.cell 2 (v := .int .i64 0) rfl
    have k3 := E.out.cell 3 (v := .int .i64 0) rfl
    have k4 := E.out.cell 4 (v := .int .u32 0) rfl
    go_wp2_with (first
      | (refine wpList_store_rw rfl 43 _ _ rfl rfl rfl HR0.out info_ins9 rfl (by simp [Value.oneCell']) ?_)
      | fail)
    refine bodyPost_ret (v := .tuple #[.agg #[.int .i64 0, .int .i64 0, .int .i64 0, .int .i64 0, .int .u32 0], .bool false]) (by simp [results, Tryd.results11, k0, k1, k2, k3, k4, go_sem]) rfl ?_
    exact ⟨by rw [back_low HM.out]; rfl, EG.out⟩
  · rw [if_neg hm] at hand
    have hm2 : 2147483648 ≤ y := by omega
    have hsub : 0 ≤ y - 2147483648 ∧ y - 2147483648 < 4294967296 := by omega
    have hnot := andnotM hm2 h1
    have HS := hid hsub
    obtain ⟨z, hz⟩ : ∃ z, y - 2147483648 = z := ⟨_, rfl⟩
    rw [hz] at HS hnot
    have z0 := HS.out.1
    have z1 := HS.out.2
    go_wp2_with fail
    refine (of_is z 0 _ z0 z1).mono ?_
    rintro e w2 ⟨rfl, hg⟩
    obtain ⟨a, b, c, d, i, t, hv⟩ := ofV_parts z 0
    have HBv := hid (back_leaf hz hm2 hv)
    have HV0 := hid hv
    rw [hv]
    have HR2 := hid (HR0.out.kept0 hg)
    have HG2 := hid (grown_trans HG0.out hg)
    have al := World.grownBy_alloc w2 (.cells #[.int .i64 a, .int .i64 b, .int .i64 c, .int .i64 d, .int .u32 i] 43) none
    have HX3 := hid (RwAt.new w2 43 #[.int .i64 a, .int .i64 b, .int .i64 c, .int .i64 d, .int .u32 i])
    have HR3 := hid (HR2.out.kept0 al)
    have HG3 := hid (grown_trans HG2.out al)
    clear hg hv al HR0 HG0 HR2 HG2
    go_upto_region 4 with (fail)
    obtain ⟨X, hX⟩ : ∃ X, w2.heap.size = X := ⟨_, rfl⟩
    rw [hX] at HX3 ⊢
    clear hX
    generalize w2.alloc (.cells #[.int .i64 a, .int .i64 b, .int .i64 c, .int .i64 d, .int .u32 i] 43) = w3 at HX3 HR3 HG3 ⊢
    have dr := grown_drew (grown_refl w3 none)
    have HR4 := hid (HR3.out.kept0 dr)
    have HG4 := hid (grown_trans HG3.out dr)
    have HX4 := hid (HX3.out.kept0 dr)
    have c0 := HX4.out.cell 0 (v := .int .i64 a) rfl
    have HQ1 : Hid (∀ W' : World, Calls Tryd.prog 39 #[] W' fun e w' => e = .returned (.agg #[]) ∧ W'.grownBy w' none) := hid (fun W' => (tables_any W').mono fun e w' h => ⟨h.1, h.2 ▸ World.grownBy_alloc W' _ none⟩)
    have HQ2 : Hid (∀ W' : World, Calls Tryd.prog 40 #[.agg #[], .int .i64 a] W' fun e w' => e = .returned (.int .i64 (clsI a)) ∧ W'.grownBy w' none) := hid (fun W' => (class_any a W').mono fun e w' h => ⟨h.1, h.2 ▸ World.grownBy_alloc W' _ none⟩)
    obtain ⟨cl, hcl⟩ : ∃ cl, clsI a = cl := ⟨_, rfl⟩
    rw [hcl] at HQ2 HBv
    clear dr HR3 HG3 HX3
    have HCl := hid hcl
    clear hcl
    go_region_held3 (fun W' => W'.cell? ⟨X, 0, none⟩ = some (.int .i64 a) ∧ w3.drew.grownBy W' none)
      (first | (with_reducible exact ⟨c0, grown_refl _ _⟩) | (go_split_ands; have hgr := grown_trans (w := w3.drew) (r := none) (by assumption) hcb; exact ⟨(HX4.out.kept0 hgr).cell 0 rfl, hgr⟩))
      (first
        | (go_split_ands; go_at_call 39; (with_reducible refine (HQ1.out _).mono ?_); rintro e w' ⟨rfl, hcb⟩)
        | (go_split_ands; go_at_call 40; (with_reducible refine (HQ2.out _).mono ?_); rintro e w' ⟨rfl, hcb⟩))
    go_split_ands
    rename_i hx0 hg8
    clear hcb
    have HR8 := hid (HR4.out.kept0 hg8)
    have HG8 := hid (grown_trans HG4.out hg8)
    have HX8 := hid (HX4.out.kept0 hg8)
    clear hx0 hg8 c0 HQ1 HQ2 HR4 HG4 HX4
    -- of what is no instruction the class is 0
    by_cases h2 : t = true ∧ cl = 2
    · obtain ⟨rfl, rfl⟩ := h2
      have E := hid (HR8.out.row #[.int .i64 a, .int .i64 b, .int .i64 c, .int .i64 d, .int .u32 i])
      have EG := hid (grown_setRow HG8.out (Nat.le_of_eq HRe.out) #[.int .i64 a, .int .i64 b, .int .i64 c, .int .i64 d, .int .u32 i])
      have k0 := E.out.cell 0 (v := .int .i64 a) rfl
      have k1 := E.out.cell 1 (v := .int .i64 b) rfl
      have k2 := E.out.cell 2 (v := .int .i64 c) rfl
      have k3 := E.out.cell 3 (v := .int .i64 d) rfl
      have k4 := E.out.cell 4 (v := .int .u32 i) rfl
      go_wp2_with (first
        | (refine wpList_load_rw rfl 43 _ rfl rfl HX8.out rfl Tryd.underlying43 info_ins9 ?_)
        | (refine wpList_store_rw rfl 43 _ _ rfl rfl rfl HR8.out info_ins9 rfl (by simp [Value.oneCell']) ?_)
        | fail)
      refine bodyPost_ret (v := .tuple #[.agg #[.int .i64 a, .int .i64 b, .int .i64 c, .int .i64 d, .int .u32 i], .bool true]) (by simp [results, Tryd.results11, k0, k1, k2, k3, k4, go_sem]) rfl ?_
      exact ⟨by rw [HBv.out]; rfl, EG.out⟩
    · by_cases h3 : t = true ∧ cl = 3
      · obtain ⟨rfl, rfl⟩ := h3
        have E := hid (HR8.out.row #[.int .i64 a, .int .i64 b, .int .i64 c, .int .i64 d, .int .u32 i])
        have EG := hid (grown_setRow HG8.out (Nat.le_of_eq HRe.out) #[.int .i64 a, .int .i64 b, .int .i64 c, .int .i64 d, .int .u32 i])
        have k0 := E.out.cell 0 (v := .int .i64 a) rfl
        have k1 := E.out.cell 1 (v := .int .i64 b) rfl
        have k2 := E.out.cell 2 (v := .int .i64 c) rfl
        have k3 := E.out.cell 3 (v := .int .i64 d) rfl
        have k4 := E.out.cell 4 (v := .int .u32 i) rfl
        go_wp2_with (first
          | (refine wpList_load_rw rfl 43 _ rfl rfl HX8.out rfl Tryd.underlying43 info_ins9 ?_)
          | (refine wpList_store_rw rfl 43 _ _ rfl rfl rfl HR8.out info_ins9 rfl (by simp [Value.oneCell']) ?_)
          | fail)
        refine bodyPost_ret (v := .tuple #[.agg #[.int .i64 a, .int .i64 b, .int .i64 c, .int .i64 d, .int .u32 i], .bool true]) (by simp [results, Tryd.results11, k0, k1, k2, k3, k4, go_sem]) rfl ?_
        exact ⟨by rw [HBv.out]; rfl, EG.out⟩
      · have hcl0 : t = false → cl = 0 := fun ht => by
          rw [← HCl.out, of_no_zero HV0.out ht]; rfl
        have hc2 : (cl == 2) = false := by
          simp only [beq_eq_false_iff_ne]
          intro e
          cases t with
          | true => exact h2 ⟨rfl, e⟩
          | false => have := hcl0 rfl; omega
        have hc3 : (cl == 3) = false := by
          simp only [beq_eq_false_iff_ne]
          intro e
          cases t with
          | true => exact h3 ⟨rfl, e⟩
          | false => have := hcl0 rfl; omega
        have HN : Hid (backL t cl a b c d i = noneV) := hid (by
          unfold backL
          rw [if_neg]
          simp only [beq_eq_false_iff_ne] at hc2 hc3
          simp [hc2, hc3])
        clear h2 h3 hcl0
        have E := hid (HR8.out.row #[.int .i64 0, .int .i64 0, .int .i64 0, .int .i64 0, .int .u32 0])
        have EG := hid (grown_setRow HG8.out (Nat.le_of_eq HRe.out) #[.int .i64 0, .int .i64 0, .int .i64 0, .int .i64 0, .int .u32 0])
        have k0 := E.out.cell 0 (v := .int .i64 0) rfl
        have k1 := E.out.cell 1 (v := .int .i64 0) rfl
        have k2 := E.out.cell 2 (v := .int .i64 0) rfl
        have k3 := E.out.cell 3 (v := .int .i64 0) rfl
        have k4 := E.out.cell 4 (v := .int .u32 0) rfl
        go_wp2_with (first
          | (refine wpList_store_rw rfl 43 _ _ rfl rfl rfl HR8.out info_ins9 rfl (by simp [Value.oneCell']) ?_)
          | fail)
        refine bodyPost_ret (v := .tuple #[.agg #[.int .i64 0, .int .i64 0, .int .i64 0, .int .i64 0, .int .u32 0], .bool false]) (by simp [results, Tryd.results11, k0, k1, k2, k3, k4, go_sem]) rfl ?_
        exact ⟨by rw [HBv.out, HN.out]; rfl, EG.out⟩
end Go.Proofs.YtgahbpfmiibpeaaDoor

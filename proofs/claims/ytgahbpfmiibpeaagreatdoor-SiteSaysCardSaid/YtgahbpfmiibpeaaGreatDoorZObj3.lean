/- What is wrong with a word (package obj): contracts, the rest. -/
import Derived.Test.YtgahbpfmiibpeaaGreatDoorZGObjA
import Derived.Deep.RegionHeld3
import Derived.BigQuiet
namespace Go.Proofs.YtgahbpfmiibpeaaGreatDoor
open Go.RowKit
theorem Bx.six {w0 w : World} {B : Nat} {t : TypeId} {a0 a1 a2 a3 a4 a5 : Value} {V : OV} {x : PO} {A : Nat → Addr} (h : Bx w0 w B t #[a0, a1, a2, a3, a4, a5] V x A) :
    w.cell? ⟨B, 0, none⟩ = some a0 ∧ w.cell? ⟨B, 1, none⟩ = some a1 ∧ w.cell? ⟨B, 2, none⟩ = some a2 ∧ w.cell? ⟨B, 3, none⟩ = some a3 ∧ w.cell? ⟨B, 4, none⟩ = some a4 ∧ w.cell? ⟨B, 5, none⟩ = some a5 ∧ Hid (Bx w0 w B t #[a0, a1, a2, a3, a4, a5] V x A) :=
  ⟨h.box.cell 0 rfl, h.box.cell 1 rfl, h.box.cell 2 rfl, h.box.cell 3 rfl, h.box.cell 4 rfl, h.box.cell 5 rfl, hid h⟩
section
variable {w : World} {V : OV} {x : PO} {A : Nat → Addr}
set_option maxHeartbeats 1000000 in
theorem word_first (h : OAt w V x) (he : ErrC w A) (hf : OFit x) (hl : x.M.length = x.C.length) (k : Nat) (hk : k < x.C.length) (hy : x.M[k]? = some 1) (rr : Option Nat) (hr : firstF x k = rr) :
    Calls Tryz.prog 74 #[V.agg, .int .i64 k] w fun e w' => e = .returned (evV A rr) ∧ w.grownBy w' none := by
  obtain ⟨d, c, m, r, q, s⟩ := V
  have HX := hid (Bx.new h he 136 #[d, c, m, r, q, s])
  have HP := hid (And.intro hf (And.intro hl (And.intro hk hr)))
  have k0 : (0 : Int) ≤ (k : Int) := by omega
  have kn : (k : Int) < (x.M.length : Int) := by omega
  obtain ⟨b, o, cp, hmm, _, hc⟩ := HX.out.o.m.at_ (by omega)
  obtain rfl : m = _ := hmm
  have ek := hc k 1 hy
  clear h he hf hl hk hy hc hr
  go_enter Tryz.func74, Tryz.ntmps74
  go_upto_region 1 with (fail)
  generalize w.alloc (.cells #[d, c, .slice (some ⟨b, o, none⟩) x.M.length cp, r, q, s] 136) = w1 at HX ek ⊢
  have e2 := HX.out.box.cell 2 rfl
  go_wp2_with (first
    | (refine wpList_load_rw rfl 136 _ rfl rfl HX.out.box rfl Tryz.underlying136 info_object' ?_)
    | fail)
  have Hc := hid (first_any9 HX.out.o HX.out.e HP.out.1 HP.out.2.1 k HP.out.2.2.1)
  rw [HP.out.2.2.2] at Hc
  refine Hc.out.mono ?_
  rintro e w2 ⟨rfl, hg⟩
  have HX2 := hid (HX.out.kept0 hg)
  clear hg HX ek e2 Hc
  go_wp2
  go_ret
  exact ⟨rfl, HX2.out.g⟩
set_option maxHeartbeats 1000000 in
theorem word_more (h : OAt w V x) (he : ErrC w A) (k : Nat) {y : Int} (hy : x.M[k]? = some y) (h0 : y ≠ 0) (h1 : y ≠ 1) (rr : Option Nat) (hr : (if y = 2 then none else some 8) = rr) :
    Calls Tryz.prog 74 #[V.agg, .int .i64 k] w fun e w' => e = .returned (evV A rr) ∧ w.grownBy w' none := by
  obtain ⟨d, c, m, r, q, s⟩ := V
  have hk := (List.getElem?_eq_some_iff.1 hy).1
  have HX := hid (Bx.new h he 136 #[d, c, m, r, q, s])
  have k0 : (0 : Int) ≤ (k : Int) := by omega
  have kn : (k : Int) < (x.M.length : Int) := by omega
  obtain ⟨b, o, cp, hmm, _, hc⟩ := HX.out.o.m.at_ (by omega)
  obtain rfl : m = _ := hmm
  have ek := hc k y hy
  have z0 : (y == 0) = false := by simpa using h0
  have z1 : (y == 1) = false := by simpa using h1
  clear h he hc hy h0 h1
  by_cases h2 : y = 2
  · have z2 : (y == 2) = true := by simpa using h2
    rw [if_pos h2] at hr
    have HR := hid hr
    clear hr h2
    go_enter Tryz.func74, Tryz.ntmps74
    go_upto_region 1 with (fail)
    generalize w.alloc (.cells #[d, c, .slice (some ⟨b, o, none⟩) x.M.length cp, r, q, s] 136) = w1 at HX ek ⊢
    have e2 := HX.out.box.cell 2 rfl
    go_wp2
    go_ret
    exact ⟨by rw [← HR.out]; rfl, HX.out.g⟩
  · have z2 : (y == 2) = false := by simpa using h2
    rw [if_neg h2] at hr
    have HR := hid hr
    clear hr h2
    go_enter Tryz.func74, Tryz.ntmps74
    go_upto_region 1 with (fail)
    generalize w.alloc (.cells #[d, c, .slice (some ⟨b, o, none⟩) x.M.length cp, r, q, s] 136) = w1 at HX ek ⊢
    have e2 := HX.out.box.cell 2 rfl
    have e8 := HX.out.e.c8
    unfold errV at e8
    go_wp2
    go_ret
    exact ⟨by rw [← HR.out]; rfl, HX.out.g⟩
set_option maxRecDepth 100000 in
set_option maxHeartbeats 2000000 in
theorem word_second (h : OAt w V x) (he : ErrC w A) (hf : OFit x) (hl : x.M.length = x.C.length) (k : Nat) (hk : k < x.C.length) (hy : x.M[k]? = some 0) (rr : Option Nat) (hr : (if twoB (opB x k) = true then none else some 8) = rr) :
    Calls Tryz.prog 74 #[V.agg, .int .i64 k] w fun e w' => e = .returned (evV A rr) ∧ w.grownBy w' none := by
  obtain ⟨d, c, m, r, q, s⟩ := V
  have HX := hid (Bx.new h he 136 #[d, c, m, r, q, s])
  have HP := hid (And.intro hf (And.intro hl (Nat.le_of_lt hk)))
  have k0 : (0 : Int) ≤ (k : Int) := by omega
  have kn : (k : Int) < (x.M.length : Int) := by omega
  have kl : (x.M.length : Int) ≤ 9223372036854775807 := by have := hf.l.2.2.1; unfold maxLen at this; omega
  obtain ⟨b, o, cp, hmm, _, hc⟩ := HX.out.o.m.at_ (by omega)
  obtain rfl : m = _ := hmm
  have ek := hc k 0 hy
  obtain ⟨n, Hn⟩ : ∃ n, Hid (opB x k = n) := ⟨_, hid rfl⟩
  rw [Hn.out] at hr
  obtain ⟨T, Ht⟩ : ∃ T, Hid (twoB n = T) := ⟨_, hid rfl⟩
  rw [Ht.out] at hr
  have HR := hid hr
  clear h he hf hl hk hy hc hr
  go_enter Tryz.func74, Tryz.ntmps74
  go_upto_region 1 with (fail)
  generalize w.alloc (.cells #[d, c, .slice (some ⟨b, o, none⟩) x.M.length cp, r, q, s] 136) = w1 at HX ek ⊢
  have e2 := HX.out.box.cell 2 rfl
  go_upto_region 6 with (fail)
  have Hw := hid (wrap_i64_id (n := (k : Int) - 1) (by omega) (by omega))
  have Hw := hid (wrap_i64_id (n := (k : Int) - 1) (by omega) (by omega))
  clear e2 ek
  refine wp_region_held_drew (S := fun W => Bx w W w.heap.size 136 #[d, c, .slice (some ⟨b, o, none⟩) x.M.length cp, r, q, s] ⟨d, c, .slice (some ⟨b, o, none⟩) x.M.length cp, r, q, s⟩ x A) (by kernel_rfl) ?_ (fun hS0 => ?_)
  · exact HX.out.kept0 (grown_drew (grown_refl _ _))
  refine wpAnyH_take (i := 1) (v := .agg #[d, c, .slice (some ⟨b, o, none⟩) x.M.length cp, r, q, s]) rfl (by kernel_rfl) (by kernel_rfl) (by kernel_rfl) (fun _ _ _ h => h) (Or.inl ⟨by kernel_rfl, fun w hSw => run_load_row _ _ rfl rfl hSw.box.blk rfl Tryz.underlying136 info_object'⟩) (by assumption) ?_
  try simp only [Act.put, List.setIfInBounds_toArray, List.set_cons_zero, List.set_cons_succ, List.getElem_toArray, List.getElem_cons_succ, List.getElem_cons_zero]
  refine wpAnyH_take (i := 2) (v := ?_) rfl (by kernel_rfl) (by kernel_rfl) (by kernel_rfl) (fun _ _ _ h => h) (Or.inl ⟨by kernel_rfl, ?_⟩) (by assumption) ?_
  rotate_left
  · (intro w hSw; clear hSw; go_simp; try with_reducible rfl)
  try simp only [Act.put, List.setIfInBounds_toArray, List.set_cons_zero, List.set_cons_succ, List.getElem_toArray, List.getElem_cons_succ, List.getElem_cons_zero]
  refine wpAnyH_take (i := 3) (v := .int .i64 ((k : Int) - 1)) rfl (by kernel_rfl) (by kernel_rfl) (by kernel_rfl) (fun _ _ _ h => h) (Or.inl ⟨by kernel_rfl, ?_⟩) (by assumption) ?_
  · (intro w hSw; clear hSw; go_simp; first | done | rw [Hw.out] | simp only [Hw.out])
  try simp only [Act.put, List.setIfInBounds_toArray, List.set_cons_zero, List.set_cons_succ, List.getElem_toArray, List.getElem_cons_succ, List.getElem_cons_zero]
  refine wpAnyH_ready (rs := [0]) (by kernel_rfl) (by simp) ?_
  refine AllReadyH.cons rfl (fun KK hKK => ?_) AllReadyH.nil
  go_simp
  refine (tables_g _).mono ?_
  rintro e w' ⟨rfl, hcb⟩
  refine hKK.out _ _ ?_ (fun hHeld => ?_)
  · exact Bx.kept0 (by assumption) hcb
  clear hKK KK hcb
  try simp only [Act.put, List.setIfInBounds_toArray, List.set_cons_zero, List.set_cons_succ, List.getElem_toArray, List.getElem_cons_succ, List.getElem_cons_zero]
  refine wpAnyH_ready (rs := [4]) (by kernel_rfl) (by simp) ?_
  refine AllReadyH.cons rfl (fun KK hKK => ?_) AllReadyH.nil
  go_simp
  refine (opb_any hHeld.o HP.out.1 HP.out.2.1 k HP.out.2.2 _ rfl n Hn.out).mono ?_
  rintro e w' ⟨rfl, hcb⟩
  refine hKK.out _ _ ?_ (fun hHeld => ?_)
  · exact Bx.kept0 (by assumption) hcb
  clear hKK KK hcb
  try simp only [Act.put, List.setIfInBounds_toArray, List.set_cons_zero, List.set_cons_succ, List.getElem_toArray, List.getElem_cons_succ, List.getElem_cons_zero]
  refine wpAnyH_ready (rs := [5]) (by kernel_rfl) (by simp) ?_
  refine AllReadyH.cons rfl (fun KK hKK => ?_) AllReadyH.nil
  go_simp
  refine (two_g n T Ht.out _).mono ?_
  rintro e w' ⟨rfl, hcb⟩
  refine hKK.out _ _ ?_ (fun hHeld => ?_)
  · exact Bx.kept0 (by assumption) hcb
  clear hKK KK hcb
  try simp only [Act.put, List.setIfInBounds_toArray, List.set_cons_zero, List.set_cons_succ, List.getElem_toArray, List.getElem_cons_succ, List.getElem_cons_zero]
  refine wpAnyH_take (i := 6) (v := ?_) rfl (by kernel_rfl) (by kernel_rfl) (by kernel_rfl) (fun _ _ _ h => h) (Or.inl ⟨by kernel_rfl, ?_⟩) (by assumption) ?_
  rotate_left
  · (intro w hSw; clear hSw; go_simp; try with_reducible rfl)
  try simp only [Act.put, List.setIfInBounds_toArray, List.set_cons_zero, List.set_cons_succ, List.getElem_toArray, List.getElem_cons_succ, List.getElem_cons_zero]
  refine wpAnyH_done (by kernel_rfl) ?_ _
  have HX' := hid hHeld
  cases T
  · have e8 := HX'.out.e.c8
    unfold errV at e8
    go_wp2
    go_ret
    exact ⟨by rw [← HR.out]; rfl, HX'.out.g⟩
  · go_wp2
    go_ret
    exact ⟨by rw [← HR.out]; rfl, HX'.out.g⟩
theorem word_any9 (h : OAt w V x) (he : ErrC w A) (hf : OFit x) (hl : x.M.length = x.C.length) (k : Nat) (hk : k < x.C.length) :
    Calls Tryz.prog 74 #[V.agg, .int .i64 k] w fun e w' => e = .returned (evV A (wordF x k)) ∧ w.grownBy w' none := by
  obtain ⟨y, hy⟩ : ∃ y, x.M[k]? = some y := ⟨_, List.getElem?_eq_getElem (by omega)⟩
  have hm : mapN x k = y := by unfold mapN; rw [List.getD_eq_getElem?_getD, hy]; rfl
  by_cases h1 : y = 1
  · subst h1
    exact word_first h he hf hl k hk hy _ (by unfold wordF; rw [hm]; simp)
  · by_cases h0 : y = 0
    · subst h0
      exact word_second h he hf hl k hk hy _ (by unfold wordF; rw [hm]; simp)
    · exact word_more h he k hy h0 h1 _ (by unfold wordF; rw [hm, if_neg h1, if_neg h0])
end
end Go.Proofs.YtgahbpfmiibpeaaGreatDoor

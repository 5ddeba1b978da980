/- What is wrong with a word (package obj): contracts. -/
import Derived.Test.YteanjchbnaoopaaDoorYRewP
import Derived.Deep.RegionHeld3
import Derived.BigQuiet
import Derived.LoopTactic
import Derived.WideShapes
namespace Go.Proofs.YteanjchbnaoopaaDoor
open Go.RowKit
theorem tables_g (w : World) : Calls Tryd.prog 54 #[] w fun e w' => e = .returned (.agg #[]) ∧ w.grownBy w' none :=
  (tables_any w).mono fun _ _ ⟨he, hw⟩ => ⟨he, by rw [hw]; exact World.grownBy_alloc _ _ _⟩
theorem class_g (op n : Int) (hn : clsI op = n) (w : World) : Calls Tryd.prog 77 #[.agg #[], .int .i64 op] w fun e w' => e = .returned (.int .i64 n) ∧ w.grownBy w' none :=
  (class_any op w).mono fun _ _ ⟨he, hw⟩ => ⟨by rw [he, hn], by rw [hw]; exact World.grownBy_alloc _ _ _⟩
theorem two_g (op : Int) (t : Bool) (ht : twoB op = t) (w : World) : Calls Tryd.prog 60 #[.agg #[], .int .i64 op] w fun e w' => e = .returned (.bool t) ∧ w.grownBy w' none :=
  (two_any op w).mono fun _ _ ⟨he, hw⟩ => ⟨by rw [he, ht], by rw [hw]; exact World.grownBy_alloc _ _ _⟩
/-- an object in a block of the function's own, and all that is known beside it -/
structure Bx (w0 w : World) (B : Nat) (t : TypeId) (cs : Array Value) (V : OV) (x : PO) (A : Nat → Addr) : Prop where
  box : RwAt w B t cs
  o : OAt w V x
  e : ErrC w A
  g : w0.grownBy w none
section
variable {w0 w w1 : World} {B : Nat} {t : TypeId} {cs : Array Value} {V : OV} {x : PO} {A : Nat → Addr}
theorem Bx.kept0 (h : Bx w0 w B t cs V x A) (hg : w.grownBy w1 none) : Bx w0 w1 B t cs V x A := ⟨h.box.kept0 hg, h.o.kept0 hg, h.e.kept0 hg, grown_trans h.g hg⟩
theorem Bx.alloc (h : Bx w0 w B t cs V x A) (o : Obj) : Bx w0 (w.alloc o) B t cs V x A := h.kept0 (World.grownBy_alloc _ _ _)
theorem Bx.new (h : OAt w V x) (he : ErrC w A) (t : TypeId) (cs : Array Value) : Bx w (w.alloc (.cells cs t)) w.heap.size t cs V x A :=
  have hg := World.grownBy_alloc w (.cells cs t) none
  ⟨RwAt.new w t cs, h.kept0 hg, he.kept0 hg, hg⟩
end
section
variable {w : World} {V : OV} {x : PO} {A : Nat → Addr}
theorem op_any (h : OAt w V x) (hf : OFit x) (hl : x.M.length = x.C.length) (k : Nat) (hk : k < x.C.length) (n : Int) (hn : opN x k = n) :
    Calls Tryd.prog 81 #[V.agg, .int .i64 k] w fun e w' => e = .returned (.int .i64 n) ∧ w.grownBy w' none := by
  subst hn
  obtain ⟨y, hy⟩ : ∃ y, x.M[k]? = some y := ⟨_, List.getElem?_eq_getElem (by omega)⟩
  have hm : mapN x k = y := by unfold mapN; rw [List.getD_eq_getElem?_getD, hy]; rfl
  unfold opN
  rw [hm]
  by_cases h1 : y = 1
  · subst h1
    rw [if_pos rfl]
    exact op_yes h hf hl k hy
  · rw [if_neg h1]
    exact op_none h k hy h1
theorem opb_any (h : OAt w V x) (hf : OFit x) (hl : x.M.length = x.C.length) (k : Nat) (hk : k ≤ x.C.length) (j : Int) (hj : j = (k : Int) - 1) (n : Int) (hn : opB x k = n) :
    Calls Tryd.prog 81 #[V.agg, .int .i64 j] w fun e w' => e = .returned (.int .i64 n) ∧ w.grownBy w' none := by
  subst hn
  unfold opB
  by_cases h0 : k = 0
  · rw [if_pos h0]
    exact op_neg h j (by omega)
  · rw [if_neg h0]
    obtain ⟨i, rfl⟩ : ∃ i, k = i + 1 := ⟨k - 1, by omega⟩
    obtain rfl : j = (i : Int) := by omega
    exact op_any h hf hl i (by omega) _ rfl
set_option maxHeartbeats 1000000 in
theorem first_no (h : OAt w V x) (he : ErrC w A) (hf : OFit x) (hl : x.M.length = x.C.length) (k : Nat) (hk : k < x.C.length) (hn : opN x k = 0 ∨ clsI (opN x k) = 4) :
    Calls Tryd.prog 80 #[V.agg, .int .i64 k] w fun e w' => e = .returned (errV (A 4)) ∧ w.grownBy w' none := by
  obtain ⟨d, c, m, r, q, s⟩ := V
  have HX := hid (Bx.new h he 142 #[d, c, m, r, q, s])
  obtain ⟨n, Hn⟩ : ∃ n, Hid (opN x k = n) := ⟨_, hid rfl⟩
  obtain ⟨z, Hz⟩ : ∃ z, Hid (clsI n = z) := ⟨_, hid rfl⟩
  rw [Hn.out, Hz.out] at hn
  have HN := hid hn
  have HP := hid (And.intro hf (And.intro hl hk))
  clear h he hf hl hk hn
  go_enter Tryd.func80, Tryd.ntmps80
  go_upto_region 1 with (fail)
  generalize w.alloc (.cells #[d, c, m, r, q, s] 142) = w1 at HX ⊢
  go_wp2_with (first
    | (refine wpList_load_rw rfl 142 _ rfl rfl HX.out.box rfl Tryd.underlying142 info_object' ?_)
    | fail)
  refine (op_any HX.out.o HP.out.1 HP.out.2.1 k HP.out.2.2 n Hn.out).mono ?_
  rintro e w2 ⟨rfl, hg⟩
  have HX2 := hid (HX.out.kept0 hg)
  clear hg HX
  by_cases h0 : n = 0
  · have hz : (n == 0) = true := by simpa using h0
    have e4 := HX2.out.e.c4
    unfold errV at e4
    clear h0
    go_wp2
    go_ret
    exact ⟨rfl, HX2.out.g⟩
  · have hz : (n == 0) = false := by simpa using h0
    have h4 : (z == 4) = true := by rcases HN.out with h | h; exact absurd h h0; simpa using h
    clear h0
    go_wp2_with fail
    refine (tables_g _).mono ?_
    rintro e w3 ⟨rfl, hg⟩
    have HX3 := hid (HX2.out.kept0 hg)
    clear hg HX2
    go_wp2_with fail
    refine (class_g n z Hz.out _).mono ?_
    rintro e w4 ⟨rfl, hg⟩
    have HX4 := hid (HX3.out.kept0 hg)
    clear hg HX3
    have e4 := HX4.out.e.c4
    unfold errV at e4
    go_wp2
    go_ret
    exact ⟨rfl, HX4.out.g⟩
set_option maxHeartbeats 2000000 in
theorem first_any' (h : OAt w V x) (he : ErrC w A) (hf : OFit x) (hl : x.M.length = x.C.length) (k : Nat) (hk : k < x.C.length) (hn : ¬(opN x k = 0 ∨ clsI (opN x k) = 4)) (rr : Option Nat) (hr : firstF x k = rr) :
    Calls Tryd.prog 80 #[V.agg, .int .i64 k] w fun e w' => e = .returned (evV A rr) ∧ w.grownBy w' none := by
  obtain ⟨d, c, m, r, q, s⟩ := V
  have HX := hid (Bx.new h he 142 #[d, c, m, r, q, s])
  have hrr : rr = if twoB (opN x k) = true ∧ (k + 1 = x.C.length ∨ mapN x (k + 1) ≠ 0) then some 8 else none := by
    rw [← hr]; unfold firstF; rw [if_neg hn]
  obtain ⟨n, Hn⟩ : ∃ n, Hid (opN x k = n) := ⟨_, hid rfl⟩
  obtain ⟨z, Hz⟩ : ∃ z, Hid (clsI n = z) := ⟨_, hid rfl⟩
  rw [Hn.out] at hrr
  rw [Hn.out, Hz.out, not_or] at hn
  have hz : (n == 0) = false := by simpa using hn.1
  have h4 : (z == 4) = false := by simpa using hn.2
  have HP := hid (And.intro hf (And.intro hl hk))
  have HR := hid hrr
  have k0 : (0 : Int) ≤ (k : Int) := by omega
  have kn : (k : Int) + 1 ≤ (x.C.length : Int) := by omega
  have kl : (x.C.length : Int) ≤ 9223372036854775807 := by have := hf.l.2.1; unfold maxLen at this; omega
  clear h he hf hn hr hrr
  obtain ⟨pc, cc, hc⟩ : ∃ p cc, c = .slice p x.C.length cc := HX.out.o.c.len'
  obtain rfl := hc
  go_enter Tryd.func80, Tryd.ntmps80
  go_upto_region 1 with (fail)
  generalize w.alloc (.cells #[d, .slice pc x.C.length cc, m, r, q, s] 142) = w1 at HX ⊢
  go_wp2_with (first
    | (refine wpList_load_rw rfl 142 _ rfl rfl HX.out.box rfl Tryd.underlying142 info_object' ?_)
    | fail)
  refine (op_any HX.out.o HP.out.1 HP.out.2.1 k HP.out.2.2 n Hn.out).mono ?_
  rintro e w2 ⟨rfl, hg⟩
  have HX2 := hid (HX.out.kept0 hg)
  clear hg HX
  go_wp2_with fail
  refine (tables_g _).mono ?_
  rintro e w3 ⟨rfl, hg⟩
  have HX3 := hid (HX2.out.kept0 hg)
  clear hg HX2
  go_wp2_with fail
  refine (class_g n z Hz.out _).mono ?_
  rintro e w4 ⟨rfl, hg⟩
  have HX4 := hid (HX3.out.kept0 hg)
  clear hg HX3
  go_wp2_with fail
  refine (tables_g _).mono ?_
  rintro e w5 ⟨rfl, hg⟩
  have HX5 := hid (HX4.out.kept0 hg)
  clear hg HX4
  go_wp2_with fail
  cases ht : twoB n
  · have Ht := hid ht
    clear ht
    refine (two_g n false Ht.out _).mono ?_
    rintro e w6 ⟨rfl, hg⟩
    have HX6 := hid (HX5.out.kept0 hg)
    clear hg HX5
    have e1 := HX6.out.box.cell 1 rfl
    have e2 := HX6.out.box.cell 2 rfl
    go_wp2
    go_ret
    refine ⟨?_, HX6.out.g⟩
    rw [HR.out, if_neg (by rw [Ht.out]; simp)]
    rfl
  · have Ht := hid ht
    clear ht
    refine (two_g n true Ht.out _).mono ?_
    rintro e w6 ⟨rfl, hg⟩
    have HX6 := hid (HX5.out.kept0 hg)
    clear hg HX5
    have e1 := HX6.out.box.cell 1 rfl
    by_cases hlast : k + 1 = x.C.length
    · have hz1 : ((k : Int) + 1 == (x.C.length : Int)) = true := by simp; omega
      have e8 := HX6.out.e.c8
      have hr8 : evV A rr = errV (A 8) := by rw [HR.out, if_pos ⟨Ht.out, .inl hlast⟩]; rfl
      have H8 := hid hr8
      unfold errV at e8
      clear hr8 hlast kn
      go_wp2
      go_ret
      exact ⟨by rw [H8.out]; rfl, HX6.out.g⟩
    · have hz1 : ((k : Int) + 1 == (x.C.length : Int)) = false := by simp; omega
      obtain ⟨y, hy⟩ : ∃ y, x.M[k + 1]? = some y := ⟨_, List.getElem?_eq_getElem (by omega)⟩
      have hm : mapN x (k + 1) = y := by unfold mapN; rw [List.getD_eq_getElem?_getD, hy]; rfl
      obtain ⟨b, o, cp, hmm, _, hc⟩ := HX6.out.o.m.at_ (by omega)
      obtain rfl : m = _ := hmm
      have ek := hc (k + 1) y hy
      have e2 := HX6.out.box.cell 2 rfl
      have kn2 : (k : Int) + 1 < (x.M.length : Int) := by omega
      have kM : ((k + 1 : Nat) : Int) = (k : Int) + 1 := by omega
      have kN : ((k : Int) + 1).toNat = k + 1 := by omega
      have h48 : (x.M.length : Int) ≤ 9223372036854775807 := by rw [hl]; exact kl
      clear hc hl kM
      by_cases hy0 : y = 0
      · have hyz : (y != 0) = false := by simpa using hy0
        have hr8 : evV A rr = .nilIface := by rw [HR.out, if_neg (by rw [hm]; intro h; rcases h.2 with h | h; exact hlast h; exact h hy0)]; rfl
        have H8 := hid hr8
        clear hr8 hm hy hy0 hlast
        go_wp2
        go_ret
        exact ⟨by rw [H8.out]; rfl, HX6.out.g⟩
      · have hyz : (y != 0) = true := by simpa using hy0
        have e8 := HX6.out.e.c8
        have hr8 : evV A rr = errV (A 8) := by rw [HR.out, if_pos ⟨Ht.out, .inr (by rw [hm]; exact hy0)⟩]; rfl
        have H8 := hid hr8
        unfold errV at e8
        clear hr8 hm hy hy0 hlast
        go_wp2
        go_ret
        exact ⟨by rw [H8.out]; rfl, HX6.out.g⟩
theorem first_any9 (h : OAt w V x) (he : ErrC w A) (hf : OFit x) (hl : x.M.length = x.C.length) (k : Nat) (hk : k < x.C.length) :
    Calls Tryd.prog 80 #[V.agg, .int .i64 k] w fun e w' => e = .returned (evV A (firstF x k)) ∧ w.grownBy w' none := by
  by_cases hn : opN x k = 0 ∨ clsI (opN x k) = 4
  · have : firstF x k = some 4 := by unfold firstF; rw [if_pos hn]
    rw [this]
    exact first_no h he hf hl k hk hn
  · exact first_any' h he hf hl k hk hn _ rfl
end
end Go.Proofs.YteanjchbnaoopaaDoor
namespace Go.Proofs.YteanjchbnaoopaaDoor
open Go.RowKit
theorem Bx.six {w0 w : World} {B : Nat} {t : TypeId} {a0 a1 a2 a3 a4 a5 : Value} {V : OV} {x : PO} {A : Nat → Addr} (h : Bx w0 w B t #[a0, a1, a2, a3, a4, a5] V x A) :
    w.cell? ⟨B, 0, none⟩ = some a0 ∧ w.cell? ⟨B, 1, none⟩ = some a1 ∧ w.cell? ⟨B, 2, none⟩ = some a2 ∧ w.cell? ⟨B, 3, none⟩ = some a3 ∧ w.cell? ⟨B, 4, none⟩ = some a4 ∧ w.cell? ⟨B, 5, none⟩ = some a5 ∧ Hid (Bx w0 w B t #[a0, a1, a2, a3, a4, a5] V x A) :=
  ⟨h.box.cell 0 rfl, h.box.cell 1 rfl, h.box.cell 2 rfl, h.box.cell 3 rfl, h.box.cell 4 rfl, h.box.cell 5 rfl, hid h⟩
section
variable {w : World} {V : OV} {x : PO} {A : Nat → Addr}
set_option maxHeartbeats 1000000 in
theorem word_first (h : OAt w V x) (he : ErrC w A) (hf : OFit x) (hl : x.M.length = x.C.length) (k : Nat) (hk : k < x.C.length) (hy : x.M[k]? = some 1) (rr : Option Nat) (hr : firstF x k = rr) :
    Calls Tryd.prog 64 #[V.agg, .int .i64 k] w fun e w' => e = .returned (evV A rr) ∧ w.grownBy w' none := by
  obtain ⟨d, c, m, r, q, s⟩ := V
  have HX := hid (Bx.new h he 142 #[d, c, m, r, q, s])
  have HP := hid (And.intro hf (And.intro hl (And.intro hk hr)))
  have k0 : (0 : Int) ≤ (k : Int) := by omega
  have kn : (k : Int) < (x.M.length : Int) := by omega
  obtain ⟨b, o, cp, hmm, _, hc⟩ := HX.out.o.m.at_ (by omega)
  obtain rfl : m = _ := hmm
  have ek := hc k 1 hy
  clear h he hf hl hk hy hc hr
  go_enter Tryd.func64, Tryd.ntmps64
  go_upto_region 1 with (fail)
  generalize w.alloc (.cells #[d, c, .slice (some ⟨b, o, none⟩) x.M.length cp, r, q, s] 142) = w1 at HX ek ⊢
  have e2 := HX.out.box.cell 2 rfl
  go_wp2_with (first
    | (refine wpList_load_rw rfl 142 _ rfl rfl HX.out.box rfl Tryd.underlying142 info_object' ?_)
    | fail)
  have Hc := hid (first_any9 HX.out.o HX.out.e HP.out.1 HP.out.2.1 k HP.out.2.2.1)
  rw [HP.out.2.2.2] at Hc
  refine Hc.out.mono ?_
  rintro e w2 ⟨rfl, hg⟩
  have HX2 := hid (HX.out.kept0 hg)
  clear hg HX ek e2 Hc
  go_wp2
  go_ret
  exact ⟨rfl, HX2.out.g⟩
set_option maxHeartbeats 1000000 in
theorem word_more (h : OAt w V x) (he : ErrC w A) (k : Nat) {y : Int} (hy : x.M[k]? = some y) (h0 : y ≠ 0) (h1 : y ≠ 1) (rr : Option Nat) (hr : (if y = 2 then none else some 8) = rr) :
    Calls Tryd.prog 64 #[V.agg, .int .i64 k] w fun e w' => e = .returned (evV A rr) ∧ w.grownBy w' none := by
  obtain ⟨d, c, m, r, q, s⟩ := V
  have hk := (List.getElem?_eq_some_iff.1 hy).1
  have HX := hid (Bx.new h he 142 #[d, c, m, r, q, s])
  have k0 : (0 : Int) ≤ (k : Int) := by omega
  have kn : (k : Int) < (x.M.length : Int) := by omega
  obtain ⟨b, o, cp, hmm, _, hc⟩ := HX.out.o.m.at_ (by omega)
  obtain rfl : m = _ := hmm
  have ek := hc k y hy
  have z0 : (y == 0) = false := by simpa using h0
  have z1 : (y == 1) = false := by simpa using h1
  clear h he hc hy h0 h1
  by_cases h2 : y = 2
  · have z2 : (y == 2) = true := by simpa using h2
    rw [if_pos h2] at hr
    have HR := hid hr
    clear hr h2
    go_enter Tryd.func64, Tryd.ntmps64
    go_upto_region 1 with (fail)
    generalize w.alloc (.cells #[d, c, .slice (some ⟨b, o, none⟩) x.M.length cp, r, q, s] 142) = w1 at HX ek ⊢
    have e2 := HX.out.box.cell 2 rfl
    go_wp2
    go_ret
    exact ⟨by rw [← HR.out]; rfl, HX.out.g⟩
  · have z2 : (y == 2) = false := by simpa using h2
    rw [if_neg h2] at hr
    have HR := hid hr
    clear hr h2
    go_enter Tryd.func64, Tryd.ntmps64
    go_upto_region 1 with (fail)
    generalize w.alloc (.cells #[d, c, .slice (some ⟨b, o, none⟩) x.M.length cp, r, q, s] 142) = w1 at HX ek ⊢
    have e2 := HX.out.box.cell 2 rfl
    have e8 := HX.out.e.c8
    unfold errV at e8
    go_wp2
    go_ret
    exact ⟨by rw [← HR.out]; rfl, HX.out.g⟩
set_option maxRecDepth 100000 in
set_option maxHeartbeats 2000000 in
theorem word_second (h : OAt w V x) (he : ErrC w A) (hf : OFit x) (hl : x.M.length = x.C.length) (k : Nat) (hk : k < x.C.length) (hy : x.M[k]? = some 0) (rr : Option Nat) (hr : (if twoB (opB x k) = true then none else some 8) = rr) :
    Calls Tryd.prog 64 #[V.agg, .int .i64 k] w fun e w' => e = .returned (evV A rr) ∧ w.grownBy w' none := by
  obtain ⟨d, c, m, r, q, s⟩ := V
  have HX := hid (Bx.new h he 142 #[d, c, m, r, q, s])
  have HP := hid (And.intro hf (And.intro hl (Nat.le_of_lt hk)))
  have k0 : (0 : Int) ≤ (k : Int) := by omega
  have kn : (k : Int) < (x.M.length : Int) := by omega
  have kl : (x.M.length : Int) ≤ 9223372036854775807 := by have := hf.l.2.2.1; unfold maxLen at this; omega
  obtain ⟨b, o, cp, hmm, _, hc⟩ := HX.out.o.m.at_ (by omega)
  obtain rfl : m = _ := hmm
  have ek := hc k 0 hy
  obtain ⟨n, Hn⟩ : ∃ n, Hid (opB x k = n) := ⟨_, hid rfl⟩
  rw [Hn.out] at hr
  obtain ⟨T, Ht⟩ : ∃ T, Hid (twoB n = T) := ⟨_, hid rfl⟩
  rw [Ht.out] at hr
  have HR := hid hr
  clear h he hf hl hk hy hc hr
  go_enter Tryd.func64, Tryd.ntmps64
  go_upto_region 1 with (fail)
  generalize w.alloc (.cells #[d, c, .slice (some ⟨b, o, none⟩) x.M.length cp, r, q, s] 142) = w1 at HX ek ⊢
  have e2 := HX.out.box.cell 2 rfl
  go_upto_region 6 with (fail)
  have Hw := hid (wrap_i64_id (n := (k : Int) - 1) (by omega) (by omega))
  have Hw := hid (wrap_i64_id (n := (k : Int) - 1) (by omega) (by omega))
  clear e2 ek
  refine wp_region_held_drew (S := fun W => Bx w W w.heap.size 142 #[d, c, .slice (some ⟨b, o, none⟩) x.M.length cp, r, q, s] ⟨d, c, .slice (some ⟨b, o, none⟩) x.M.length cp, r, q, s⟩ x A) (by kernel_rfl) ?_ (fun hS0 => ?_)
  · exact HX.out.kept0 (grown_drew (grown_refl _ _))
  refine wpAnyH_take (i := 1) (v := .agg #[d, c, .slice (some ⟨b, o, none⟩) x.M.length cp, r, q, s]) rfl (by kernel_rfl) (by kernel_rfl) (by kernel_rfl) (fun _ _ _ h => h) (Or.inl ⟨by kernel_rfl, fun w hSw => run_load_row _ _ rfl rfl hSw.box.blk rfl Tryd.underlying142 info_object'⟩) (by assumption) ?_
  try simp only [Act.put, List.setIfInBounds_toArray, List.set_cons_zero, List.set_cons_succ, List.getElem_toArray, List.getElem_cons_succ, List.getElem_cons_zero]
  refine wpAnyH_take (i := 2) (v := ?_) rfl (by kernel_rfl) (by kernel_rfl) (by kernel_rfl) (fun _ _ _ h => h) (Or.inl ⟨by kernel_rfl, ?_⟩) (by assumption) ?_
  rotate_left
  · (intro w hSw; clear hSw; go_simp; try with_reducible rfl)
  try simp only [Act.put, List.setIfInBounds_toArray, List.set_cons_zero, List.set_cons_succ, List.getElem_toArray, List.getElem_cons_succ, List.getElem_cons_zero]
  refine wpAnyH_take (i := 3) (v := .int .i64 ((k : Int) - 1)) rfl (by kernel_rfl) (by kernel_rfl) (by kernel_rfl) (fun _ _ _ h => h) (Or.inl ⟨by kernel_rfl, ?_⟩) (by assumption) ?_
  · (intro w hSw; clear hSw; go_simp; first | done | rw [Hw.out] | simp only [Hw.out])
  try simp only [Act.put, List.setIfInBounds_toArray, List.set_cons_zero, List.set_cons_succ, List.getElem_toArray, List.getElem_cons_succ, List.getElem_cons_zero]
  refine wpAnyH_ready (rs := [0]) (by kernel_rfl) (by simp) ?_
  refine AllReadyH.cons rfl (fun KK hKK => ?_) AllReadyH.nil
  go_simp
  refine (tables_g _).mono ?_
  rintro e w' ⟨rfl, hcb⟩
  refine hKK.out _ _ ?_ (fun hHeld => ?_)
  · exact Bx.kept0 (by assumption) hcb
  clear hKK KK hcb
  try simp only [Act.put, List.setIfInBounds_toArray, List.set_cons_zero, List.set_cons_succ, List.getElem_toArray, List.getElem_cons_succ, List.getElem_cons_zero]
  refine wpAnyH_ready (rs := [4]) (by kernel_rfl) (by simp) ?_
  refine AllReadyH.cons rfl (fun KK hKK => ?_) AllReadyH.nil
  go_simp
  refine (opb_any hHeld.o HP.out.1 HP.out.2.1 k HP.out.2.2 _ rfl n Hn.out).mono ?_
  rintro e w' ⟨rfl, hcb⟩
  refine hKK.out _ _ ?_ (fun hHeld => ?_)
  · exact Bx.kept0 (by assumption) hcb
  clear hKK KK hcb
  try simp only [Act.put, List.setIfInBounds_toArray, List.set_cons_zero, List.set_cons_succ, List.getElem_toArray, List.getElem_cons_succ, List.getElem_cons_zero]
  refine wpAnyH_ready (rs := [5]) (by kernel_rfl) (by simp) ?_
  refine AllReadyH.cons rfl (fun KK hKK => ?_) AllReadyH.nil
  go_simp
  refine (two_g n T Ht.out _).mono ?_
  rintro e w' ⟨rfl, hcb⟩
  refine hKK.out _ _ ?_ (fun hHeld => ?_)
  · exact Bx.kept0 (by assumption) hcb
  clear hKK KK hcb
  try simp only [Act.put, List.setIfInBounds_toArray, List.set_cons_zero, List.set_cons_succ, List.getElem_toArray, List.getElem_cons_succ, List.getElem_cons_zero]
  refine wpAnyH_take (i := 6) (v := ?_) rfl (by kernel_rfl) (by kernel_rfl) (by kernel_rfl) (fun _ _ _ h => h) (Or.inl ⟨by kernel_rfl, ?_⟩) (by assumption) ?_
  rotate_left
  · (intro w hSw; clear hSw; go_simp; try with_reducible rfl)
  try simp only [Act.put, List.setIfInBounds_toArray, List.set_cons_zero, List.set_cons_succ, List.getElem_toArray, List.getElem_cons_succ, List.getElem_cons_zero]
  refine wpAnyH_done (by kernel_rfl) ?_ _
  have HX' := hid hHeld
  cases T
  · have e8 := HX'.out.e.c8
    unfold errV at e8
    go_wp2
    go_ret
    exact ⟨by rw [← HR.out]; rfl, HX'.out.g⟩
  · go_wp2
    go_ret
    exact ⟨by rw [← HR.out]; rfl, HX'.out.g⟩
theorem word_any9 (h : OAt w V x) (he : ErrC w A) (hf : OFit x) (hl : x.M.length = x.C.length) (k : Nat) (hk : k < x.C.length) :
    Calls Tryd.prog 64 #[V.agg, .int .i64 k] w fun e w' => e = .returned (evV A (wordF x k)) ∧ w.grownBy w' none := by
  obtain ⟨y, hy⟩ : ∃ y, x.M[k]? = some y := ⟨_, List.getElem?_eq_getElem (by omega)⟩
  have hm : mapN x k = y := by unfold mapN; rw [List.getD_eq_getElem?_getD, hy]; rfl
  by_cases h1 : y = 1
  · subst h1
    exact word_first h he hf hl k hk hy _ (by unfold wordF; rw [hm]; simp)
  · by_cases h0 : y = 0
    · subst h0
      exact word_second h he hf hl k hk hy _ (by unfold wordF; rw [hm]; simp)
    · exact word_more h he k hy h0 h1 _ (by unfold wordF; rw [hm, if_neg h1, if_neg h0])
end
end Go.Proofs.YteanjchbnaoopaaDoor
namespace Go.Proofs.YteanjchbnaoopaaDoor
open Go.RowKit
abbrev Sy.agg (s : Sy) : Value := .agg #[.string s.n, .int .i64 s.i, .int .i64 s.v, .bool s.g]
abbrev Rl.agg (r : Rl) : Value := .agg #[.int .i64 r.a, .int .i64 r.k, .int .i64 r.s, .int .i64 r.d]
/-- four cells in a row -/
structure C4 (w : World) (b o : Nat) (v0 v1 v2 v3 : Value) : Prop where
  c0 : w.cell? ⟨b, o, none⟩ = some v0
  c1 : w.cell? ⟨b, o + 1, none⟩ = some v1
  c2 : w.cell? ⟨b, o + 2, none⟩ = some v2
  c3 : w.cell? ⟨b, o + 3, none⟩ = some v3
theorem C4.kept0 {w w1 : World} {b o : Nat} {v0 v1 v2 v3 : Value} (h : C4 w b o v0 v1 v2 v3) (hg : w.grownBy w1 none) : C4 w1 b o v0 v1 v2 v3 := by
  have k : ∀ {j : Nat} {v : Value}, w.cell? ⟨b, j, none⟩ = some v → w1.cell? ⟨b, j, none⟩ = some v := fun hc => by
    rw [grown_cell hg (World.block_lt_of_cell? w _ hc) (by simp)]; exact hc
  exact ⟨k h.c0, k h.c1, k h.c2, k h.c3⟩
theorem SyAt.cells {w : World} {b o : Nat} {l : List Sy} (h : ∀ j u, (sysC l)[j]? = some u → w.cell? ⟨b, o + j, none⟩ = some u) {k : Nat} {s : Sy} (hs : l[k]? = some s) :
    C4 w b (o + k * 4) (.string s.n) (.int .i64 s.i) (.int .i64 s.v) (.bool s.g) := by
  have g := fun j hj => sysC_get l k j s hs hj
  exact ⟨h (k * 4 + 0) _ (g 0 (by omega)), h (k * 4 + 1) _ (g 1 (by omega)), h (k * 4 + 2) _ (g 2 (by omega)), h (k * 4 + 3) _ (g 3 (by omega))⟩
theorem RlAt.cells {w : World} {b o : Nat} {l : List Rl} (h : ∀ j u, (rlsC l)[j]? = some u → w.cell? ⟨b, o + j, none⟩ = some u) {k : Nat} {s : Rl} (hs : l[k]? = some s) :
    C4 w b (o + k * 4) (.int .i64 s.a) (.int .i64 s.k) (.int .i64 s.s) (.int .i64 s.d) := by
  have g := fun j hj => rlsC_get l k j s hs hj
  exact ⟨h (k * 4 + 0) _ (g 0 (by omega)), h (k * 4 + 1) _ (g 1 (by omega)), h (k * 4 + 2) _ (g 2 (by omega)), h (k * 4 + 3) _ (g 3 (by omega))⟩
theorem toList_iff {x y : ByteArray} : x.toList = y.toList ↔ x = y := ⟨fun e => WideShapes.bytes_inj (by rw [← ByteArray.toList_eq, ← ByteArray.toList_eq]; exact e), fun e => by rw [e]⟩
section
variable {w : World}
theorem named_any (s : Sy) (B : Nat) (n : ByteArray) (hB : w.cell? ⟨B, 0, none⟩ = some (.string n)) (t : Bool) (ht : decide (s.n = n) = t) :
    Calls Tryd.prog 83 #[s.agg, .pointer (some ⟨B, 0, none⟩)] w fun e w' => e = .returned (.bool t) ∧ w.grownBy w' none := by
  have hlt := World.block_lt_of_cell? w _ hB
  have Ht := hid ht
  have HG := hid (World.grownBy_alloc w (.cells #[.string s.n, .int .i64 s.i, .int .i64 s.v, .bool s.g] 74) none)
  clear ht
  go_enter Tryd.func83, Tryd.ntmps83
  go_wp2
  go_ret
  exact ⟨ret_b (by rw [← Ht.out]; rw [Bool.eq_iff_iff]; simp [toList_iff]), HG.out⟩
set_option maxHeartbeats 1000000 in
theorem index_any {v : Value} {l : List Sy} (h : SyAt w v l) (hl : l.length ≤ maxLen) (B : Nat) (n : ByteArray) (hB : w.cell? ⟨B, 0, none⟩ = some (.string n)) (z : Bool) (hz : l.any (fun s => decide (s.n = n)) = z) :
    Calls Tryd.prog 95 #[v, .func (.func 83) #[] #[.pointer (some ⟨B, 0, none⟩)]] w fun e w' => (∃ r : Int, e = .returned (.int .i64 r) ∧ decide (0 ≤ r) = z) ∧ w.grownBy w' none := by
  have H := hid h
  have HB := hid hB
  have Hz := hid hz
  have HL := hid hl
  have kl : (l.length : Int) ≤ 9223372036854775807 := by unfold maxLen at hl; omega
  obtain ⟨p, c, rfl⟩ := h.len
  have HG := hid (grown_refl w none)
  clear h hB hz hl
  go_enter Tryd.func95, Tryd.ntmps95
  go_wp2
  go_loopw [8] (fun i wr => ∃ k : Nat, k ≤ l.length ∧ i = .int .i64 k ∧ Hid (w.grownBy wr none ∧ (l.take k).any (fun s => decide (s.n = n)) = false)) (fun i _ => l.length - (intOf i).toNat)
  case atStart => exact ⟨0, Nat.zero_le _, rfl, hid ⟨grown_refl _ _, by simp⟩⟩
  case round =>
    obtain ⟨k, hk, rfl, HR⟩ := hrel
    have hk0 : (0 : Int) ≤ (k : Int) := by omega
    by_cases hlt : k < l.length
    · obtain ⟨s, hs⟩ : ∃ s, l[k]? = some s := ⟨_, List.getElem?_eq_getElem hlt⟩
      obtain ⟨b, o, c', hv, _, hb, hc⟩ := H.out.at_ (by omega)
      obtain ⟨rfl, rfl⟩ : p = some ⟨b, o, none⟩ ∧ c = c' := by simpa using hv
      have h4 := (SyAt.cells hc hs).kept0 HR.out.1
      have e0 := h4.c0
      have e1 := h4.c1
      have e2 := h4.c2
      have e3 := h4.c3
      have kn : (k : Int) < (l.length : Int) := by omega
      obtain ⟨t, Ht⟩ : ∃ t, Hid (decide (s.n = n) = t) := ⟨_, hid rfl⟩
      have Hc := hid (fun wq (hq : w.grownBy wq none) => named_any s B n ((grown_cell hq (World.block_lt_of_cell? w _ HB.out) (by simp)).trans HB.out) t Ht.out)
      have Hs := hid hs
      clear hc h4 hs hv hb
      go_wp2_with fail
      refine (Hc.out _ HR.out.1).mono ?_
      rintro e w2 ⟨rfl, hg⟩
      have HG2 := hid (grown_trans HR.out.1 hg)
      clear hg
      cases t
      · go_wp2
        go_roundw
        case rel =>
          refine ⟨k + 1, by omega, by go_num, hid ⟨HG2.out, ?_⟩⟩
          rw [List.take_add_one, Hs.out, List.any_append, HR.out.2]
          simpa using Ht.out
        case measure => simp [intOf]; omega
      · go_wp2
        go_ret
        refine ⟨⟨k, rfl, ?_⟩, HG2.out⟩
        rw [← Hz.out]
        have : l.any (fun s => decide (s.n = n)) = true := List.any_eq_true.2 ⟨s, List.mem_of_getElem? Hs.out, Ht.out⟩
        rw [this]
        simp
    · obtain rfl : k = l.length := by omega
      clear hlt
      go_wp2
      go_ret
      refine ⟨⟨-1, rfl, ?_⟩, HR.out.1⟩
      rw [← Hz.out]
      have := HR.out.2
      rw [List.take_length] at this
      rw [this]
      rfl
theorem contains_any {v : Value} {l : List Sy} (h : SyAt w v l) (hl : l.length ≤ maxLen) (B : Nat) (n : ByteArray) (hB : w.cell? ⟨B, 0, none⟩ = some (.string n)) (z : Bool) (hz : l.any (fun s => decide (s.n = n)) = z) :
    Calls Tryd.prog 82 #[v, .func (.func 83) #[] #[.pointer (some ⟨B, 0, none⟩)]] w fun e w' => e = .returned (.bool z) ∧ w.grownBy w' none := by
  have Hi := hid (index_any h hl B n hB z hz)
  clear h hl hB hz
  go_enter Tryd.func82, Tryd.ntmps82
  go_wp2_with fail
  refine Hi.out.mono ?_
  rintro e w2 ⟨⟨r, rfl, hr⟩, hg⟩
  have Hr := hid hr
  have HG := hid hg
  clear hr hg
  obtain ⟨y, hy⟩ : ∃ y, decide (0 ≤ r) = y := ⟨_, rfl⟩
  have Hy := hid hy
  cases y
  · have h0 : ¬ (0 ≤ r) := by simpa using hy
    clear hy
    go_wp2
    go_ret
    exact ⟨ret_b (by rw [← Hr.out, Hy.out]), HG.out⟩
  · have h0 : 0 ≤ r := by simpa using hy
    clear hy
    go_wp2
    go_ret
    exact ⟨ret_b (by rw [← Hr.out, Hy.out]), HG.out⟩
end
end Go.Proofs.YteanjchbnaoopaaDoor
namespace Go.Proofs.YteanjchbnaoopaaDoor
open Go.RowKit
section
variable {w : World} {V : OV} {x : PO} {A : Nat → Addr}
/-- where a symbol stands: in data -/
theorem stands_data (h : OAt w V x) (_hf : OFit x) (s : Sy) (hi : s.i = 1) (z : Bool) (hz : standsB x s = z) :
    Calls Tryd.prog 84 #[V.agg, s.agg] w fun e w' => e = .returned (.bool z) ∧ w.grownBy w' none := by
  obtain ⟨d, c, m, r, q, sy⟩ := V
  obtain ⟨pd, cd, hd⟩ := h.d.len'
  obtain rfl : d = _ := hd
  obtain ⟨n, i, v, g⟩ := s
  obtain rfl : i = 1 := hi
  have HG := hid (grown_alloc (World.grownBy_alloc w (.cells #[.slice pd x.D.length cd, c, m, r, q, sy] 142) none) (.cells #[.string n, .int .i64 1, .int .i64 v, .bool g] 74))
  have hz' : decide (0 ≤ v ∧ (v < x.D.length ∨ v < 1)) = z := by rw [← hz]; unfold standsB; simp
  have Hz := hid hz'
  clear h hz hz' _hf
  by_cases h0 : 0 ≤ v
  · have Hr := hid h0
    go_enter Tryd.func84, Tryd.ntmps84
    go_wp2
    all_goals
      go_ret
      refine ⟨ret_b ?_, HG.out⟩
      rw [← Hz.out, Bool.eq_iff_iff]
      have := Hr.out
      simp only [decide_eq_true_eq]
      omega
  · have Hr := hid h0
    go_enter Tryd.func84, Tryd.ntmps84
    go_wp2
    go_ret
    refine ⟨ret_b ?_, HG.out⟩
    rw [← Hz.out, Bool.eq_iff_iff]
    have := Hr.out
    simp
    try omega
theorem stands_code (h : OAt w V x) (hf : OFit x) (hl : x.M.length = x.C.length) (s : Sy) (hi : s.i = 2) (z : Bool) (hz : standsB x s = z) :
    Calls Tryd.prog 84 #[V.agg, s.agg] w fun e w' => e = .returned (.bool z) ∧ w.grownBy w' none := by
  obtain ⟨d, c, m, r, q, sy⟩ := V
  obtain ⟨pc, cc, hc⟩ := h.c.len'
  obtain rfl : c = _ := hc
  obtain ⟨n, i, v, g⟩ := s
  obtain rfl : i = 2 := hi
  have hz' : decide (0 ≤ v ∧ v < x.C.length ∧ mapN x v.toNat = 1) = z := by rw [← hz]; unfold standsB; simp
  have Hz := hid hz'
  have kl : (x.C.length : Int) ≤ 9223372036854775807 := by have := hf.l.2.1; unfold maxLen at this; omega
  clear hz hz' hf
  by_cases h0 : 0 ≤ v
  · by_cases h1 : v < x.C.length
    · obtain ⟨k, rfl⟩ : ∃ k : Nat, v = (k : Int) := ⟨v.toNat, by omega⟩
      obtain ⟨y, hy⟩ : ∃ y, x.M[k]? = some y := ⟨_, List.getElem?_eq_getElem (by omega)⟩
      have hm : mapN x k = y := by unfold mapN; rw [List.getD_eq_getElem?_getD, hy]; rfl
      obtain ⟨b, o, cm, hmm, hb, hc⟩ := h.m.at_ (by omega)
      obtain rfl : m = _ := hmm
      have e0 := hc k y hy
      have Hr := hid (And.intro h1 hm)
      have kn : (k : Int) < (x.M.length : Int) := by omega
      have HG := hid (grown_alloc (World.grownBy_alloc w (.cells #[d, .slice pc x.C.length cc, .slice (some ⟨b, o, none⟩) x.M.length cm, r, q, sy] 142) none) (.cells #[.string n, .int .i64 2, .int .i64 k, .bool g] 74))
      have HX := hid (((RwAt.new w 142 #[d, .slice pc x.C.length cc, .slice (some ⟨b, o, none⟩) x.M.length cm, r, q, sy]).alloc (.cells #[.string n, .int .i64 2, .int .i64 k, .bool g] 74)))
      have HY := hid (RwAt.new2 w (.cells #[d, .slice pc x.C.length cc, .slice (some ⟨b, o, none⟩) x.M.length cm, r, q, sy] 142) 74 #[.string n, .int .i64 2, .int .i64 k, .bool g])
      have e9 := (grown_cell HG.out hb (by simp)).trans e0
      clear h hc hl hy hm e0
      go_enter Tryd.func84, Tryd.ntmps84
      go_upto_region 1 with (fail)
      generalize (w.alloc (.cells #[d, .slice pc x.C.length cc, .slice (some ⟨b, o, none⟩) x.M.length cm, r, q, sy] 142)).alloc (.cells #[.string n, .int .i64 2, .int .i64 k, .bool g] 74) = w1 at HG HX HY e9 ⊢
      have f1 := HX.out.cell 1 rfl
      have f2 := HX.out.cell 2 rfl
      have g1 := HY.out.cell 1 rfl
      have g2 := HY.out.cell 2 rfl
      go_wp2
      go_ret
      refine ⟨ret_b ?_, HG.out⟩
      have := Hr.out
      rw [← Hz.out, Bool.eq_iff_iff]
      simp [this.2]
      try omega
    · have Hr := hid (And.intro h0 h1)
      have HG := hid (grown_alloc (World.grownBy_alloc w (.cells #[d, .slice pc x.C.length cc, m, r, q, sy] 142) none) (.cells #[.string n, .int .i64 2, .int .i64 v, .bool g] 74))
      have hd1 : decide (v < (x.C.length : Int)) = false := by simpa using h1
      clear h
      go_enter Tryd.func84, Tryd.ntmps84
      go_wp2
      go_ret
      refine ⟨ret_b ?_, HG.out⟩
      have := Hr.out
      rw [← Hz.out, Bool.eq_iff_iff]
      simp
      try omega
  · have Hr := hid h0
    have HG := hid (grown_alloc (World.grownBy_alloc w (.cells #[d, .slice pc x.C.length cc, m, r, q, sy] 142) none) (.cells #[.string n, .int .i64 2, .int .i64 v, .bool g] 74))
    clear h
    go_enter Tryd.func84, Tryd.ntmps84
    go_wp2
    go_ret
    refine ⟨ret_b ?_, HG.out⟩
    have := Hr.out
    rw [← Hz.out, Bool.eq_iff_iff]
    simp
    try omega
theorem stands_else (s : Sy) (h1 : s.i ≠ 1) (h2 : s.i ≠ 2) (z : Bool) (hz : standsB x s = z) :
    Calls Tryd.prog 84 #[V.agg, s.agg] w fun e w' => e = .returned (.bool z) ∧ w.grownBy w' none := by
  obtain ⟨d, c, m, r, q, sy⟩ := V
  obtain ⟨n, i, v, g⟩ := s
  have h1 : i ≠ 1 := h1
  have h2 : i ≠ 2 := h2
  have z1 : (i == 1) = false := by simpa using h1
  have z2 : (i == 2) = false := by simpa using h2
  have HG := hid (grown_alloc (World.grownBy_alloc w (.cells #[d, c, m, r, q, sy] 142) none) (.cells #[.string n, .int .i64 i, .int .i64 v, .bool g] 74))
  by_cases h3 : i = 3
  · have z3 : (i == 3) = true := by simpa using h3
    have hz' : decide (v = 0 ∧ g = true) = z := by rw [← hz]; unfold standsB; simp [h3]
    have Hz := hid hz'
    clear hz hz' h1 h2 h3
    by_cases h0 : v = 0
    · have z4 : (v == 0) = true := by simpa using h0
      have H0 := hid h0
      clear h0
      go_enter Tryd.func84, Tryd.ntmps84
      go_wp2
      go_ret
      exact ⟨ret_b (by rw [← Hz.out]; simp [H0.out]), HG.out⟩
    · have z4 : (v == 0) = false := by simpa using h0
      have H0 := hid h0
      clear h0
      go_enter Tryd.func84, Tryd.ntmps84
      go_wp2
      go_ret
      exact ⟨ret_b (by rw [← Hz.out]; simp [H0.out]), HG.out⟩
  · have z3 : (i == 3) = false := by simpa using h3
    have hz' : false = z := by rw [← hz]; unfold standsB; simp [h1, h2, h3]
    have Hz := hid hz'
    clear hz hz' h1 h2 h3
    go_enter Tryd.func84, Tryd.ntmps84
    go_wp2
    go_ret
    exact ⟨ret_b Hz.out, HG.out⟩
theorem stands_any (h : OAt w V x) (hf : OFit x) (hl : x.M.length = x.C.length) (s : Sy) (z : Bool) (hz : standsB x s = z) :
    Calls Tryd.prog 84 #[V.agg, s.agg] w fun e w' => e = .returned (.bool z) ∧ w.grownBy w' none := by
  by_cases h1 : s.i = 1
  · exact stands_data h hf s h1 z hz
  · by_cases h2 : s.i = 2
    · exact stands_code h hf hl s h2 z hz
    · exact stands_else (x := x) s h1 h2 z hz
end
end Go.Proofs.YteanjchbnaoopaaDoor
namespace Go.Proofs.YteanjchbnaoopaaDoor
open Go.RowKit
theorem sysC_take : ∀ (l : List Sy) (k : Nat), sysC (l.take k) = (sysC l).take (k * 4)
  | [], k => by simp [sysC]
  | s :: r, 0 => by simp [sysC]
  | s :: r, k + 1 => by
    have h4 : (syC s).length = 4 := rfl
    rw [List.take_succ_cons, sysC, sysC_take r k, sysC, List.take_append, h4, List.take_of_length_le (l := syC s) (by rw [h4]; omega)]
    congr 2
    omega
theorem empty_iff {n : ByteArray} : n.toList.isEmpty = true ↔ n.size = 0 := by
  rw [ByteArray.toList_eq, List.isEmpty_iff]
  constructor
  · intro h
    have := congrArg List.length h
    simpa using this
  · intro h
    exact List.eq_nil_of_length_eq_zero (by simpa using h)
section
variable {w : World} {V : OV} {x : PO} {A : Nat → Addr}
set_option maxHeartbeats 1000000 in
theorem symbol_any (h : OAt w V x) (he : ErrC w A) (hf : OFit x) (hl : x.M.length = x.C.length) (k : Nat) (hk : k < x.S.length) (rr : Option Nat) (hr : symF x k = rr) :
    Calls Tryd.prog 65 #[V.agg, .int .i64 k] w fun e w' => e = .returned (evV A rr) ∧ w.grownBy w' none := by
  obtain ⟨d, c, m, r, q, sv⟩ := V
  obtain ⟨sy, hsy⟩ : ∃ sy, x.S[k]? = some sy := ⟨_, List.getElem?_eq_getElem hk⟩
  have hsn : symN x k = sy := by unfold symN; rw [List.getD_eq_getElem?_getD, hsy]; rfl
  obtain ⟨n, i, v, g⟩ := sy
  have HX := hid (Bx.new h he 142 #[d, c, m, r, q, sv])
  have HP := hid (And.intro hf hl)
  have HR := hid hr
  have HS := hid hsn
  have k0 : (0 : Int) ≤ (k : Int) := by omega
  have kn : (k : Int) < (x.S.length : Int) := by omega
  have kl : (x.S.length : Int) ≤ 9223372036854775807 := by have := hf.l.2.2.2.2.2; unfold maxLen at this; omega
  obtain ⟨b, o, cp, hss, hcp, _, hc⟩ := HX.out.o.s.at_ (by omega)
  obtain rfl : sv = _ := hss
  have h4 := SyAt.cells hc hsy
  have kc : (k : Int) ≤ (cp : Int) := by omega
  clear h he hf hl hk hc hr hsn hsy hcp
  go_enter Tryd.func65, Tryd.ntmps65
  go_upto_region 1 with (fail)
  generalize w.alloc (.cells #[d, c, m, r, q, .slice (some ⟨b, o, none⟩) x.S.length cp] 142) = w1 at HX h4 ⊢
  have f5 := HX.out.box.cell 5 rfl
  have e0 := h4.c0
  have e1 := h4.c1
  have e2 := h4.c2
  have e3 := h4.c3
  go_upto_region 2 with (fail)
  have HX2 := hid (HX.out.alloc (.cells #[.string n, .int .i64 i, .int .i64 v, .bool g] 74))
  have HY := hid (RwAt.new w1 74 #[.string n, .int .i64 i, .int .i64 v, .bool g])
  obtain ⟨B, hB⟩ : ∃ B, w1.heap.size = B := ⟨_, rfl⟩
  clear HX f5 e0 e1 e2 e3 h4
  rw [hB] at HY ⊢
  generalize w1.alloc (.cells #[.string n, .int .i64 i, .int .i64 v, .bool g] 74) = w2 at HX2 HY ⊢
  have g0 := HY.out.cell 0 rfl
  have hrr : rr = if n.size = 0 ∨ 32 < n.size then some 2 else if twiceB x k = true then some 5 else if standsB x ⟨n, i, v, g⟩ = true then none else some 2 := by
    rw [← HR.out]; unfold symF; rw [HS.out]
  have e2 := HX2.out.e.c2
  unfold errV at e2
  by_cases z0 : n.size = 0
  · have hz := empty_iff.2 z0
    rw [if_pos (.inl z0)] at hrr
    have HQ := hid hrr
    clear hrr z0
    go_wp2
    go_ret
    exact ⟨by rw [HQ.out]; rfl, HX2.out.g⟩
  have hz : n.toList.isEmpty = false := by
    cases hb : n.toList.isEmpty
    · rfl
    · exact absurd (empty_iff.1 hb) z0
  by_cases z1 : 32 < n.size
  · have hz1 : (n.size : Int) > 32 := by omega
    rw [if_pos (.inr z1)] at hrr
    have HQ := hid hrr
    clear hrr z0 z1
    go_wp2
    go_ret
    exact ⟨by rw [HQ.out]; rfl, HX2.out.g⟩
  have hz1 : (n.size : Int) ≤ 32 := by omega
  rw [if_neg (by omega)] at hrr
  have f5 := HX2.out.box.cell 5 rfl
  have HQ := hid hrr
  have Htw : Hid ((x.S.take k).any (fun s => decide (s.n = n)) = twiceB x k) := hid (by unfold twiceB; rw [HS.out])
  clear hrr z0 z1 e2
  go_wp2_with fail
  have HSy : Hid (SyAt w2 (.slice (some ⟨b, o, none⟩) k cp) (x.S.take k)) := hid (by
    have hk : k ≤ x.S.length := by omega
    have := HX2.out.o.s
    rcases this with ⟨_, h0, _⟩ | ⟨b', o', c', hv, hn, hb', hc⟩
    · omega
    · simp only [Value.slice.injEq, Option.some.injEq, Addr.mk.injEq, and_true, true_and] at hv
      obtain ⟨⟨rfl, rfl⟩, rfl⟩ := hv
      refine .inr ⟨b, o, cp, ?_, ?_, hb', fun j u hu => hc j u ?_⟩
      · rw [List.length_take, Nat.min_eq_left hk]
      · rw [List.length_take, Nat.min_eq_left hk]; omega
      · rw [sysC_take, List.getElem?_take] at hu
        split at hu
        · exact hu
        · cases hu)
  have Hc := hid (contains_any HSy.out (by rw [List.length_take]; have := HP.out.1.l.2.2.2.2.2; omega) B n g0 _ Htw.out)
  clear HSy Htw
  cases htw : twiceB x k
  · have HT := hid htw
    rw [htw] at Hc
    clear htw
    refine Hc.out.mono ?_
    rintro e w3 ⟨rfl, hg⟩
    have HX3 := hid (HX2.out.kept0 hg)
    have HY3 := hid (HY.out.kept0 hg)
    clear hg HX2 HY f5 g0 Hc
    go_wp2_with (first
      | (refine wpList_load_rw rfl 142 _ rfl rfl HX3.out.box rfl Tryd.underlying142 info_object' ?_)
      | (refine wpList_load_rw rfl 74 _ rfl rfl HY3.out rfl Tryd.underlying74 info_sym ?_)
      | fail)
    cases hst : standsB x ⟨n, i, v, g⟩
    · have HS2 := hid hst
      clear hst
      refine (stands_any HX3.out.o HP.out.1 HP.out.2 ⟨n, i, v, g⟩ false HS2.out).mono ?_
      rintro e w4 ⟨rfl, hg⟩
      have HX4 := hid (HX3.out.kept0 hg)
      clear hg HX3 HY3
      have e2 := HX4.out.e.c2
      unfold errV at e2
      go_wp2
      go_ret
      exact ⟨by rw [HQ.out, HT.out, HS2.out]; rfl, HX4.out.g⟩
    · have HS2 := hid hst
      clear hst
      refine (stands_any HX3.out.o HP.out.1 HP.out.2 ⟨n, i, v, g⟩ true HS2.out).mono ?_
      rintro e w4 ⟨rfl, hg⟩
      have HX4 := hid (HX3.out.kept0 hg)
      clear hg HX3 HY3
      go_wp2
      go_ret
      exact ⟨by rw [HQ.out, HT.out, HS2.out]; rfl, HX4.out.g⟩
  · have HT := hid htw
    rw [htw] at Hc
    clear htw
    refine Hc.out.mono ?_
    rintro e w3 ⟨rfl, hg⟩
    have HX3 := hid (HX2.out.kept0 hg)
    clear hg HX2 HY f5 g0 Hc
    have e5 := HX3.out.e.c5
    unfold errV at e5
    go_wp2
    go_ret
    exact ⟨by rw [HQ.out, HT.out]; rfl, HX3.out.g⟩
end
end Go.Proofs.YteanjchbnaoopaaDoor
namespace Go.Proofs.YteanjchbnaoopaaDoor
open Go.RowKit
section
variable {w : World} {V : OV} {x : PO} {A : Nat → Addr}
set_option maxHeartbeats 1000000 in
theorem range_first (h : OAt w V x) {lv : Value} {l : List Rl} (hr : RlAt w lv l) (y : Rl) (hy : l[0]? = some y) (n : Int) (z : Bool) (hz : inB x l 0 n = z) :
    Calls Tryd.prog 85 #[V.agg, lv, .int .i64 0, .int .i64 n] w fun e w' => e = .returned (.bool z) ∧ w.grownBy w' none := by
  obtain ⟨d, c, m, r, q, sv⟩ := V
  obtain ⟨ps, cs, hs⟩ := h.s.len
  obtain rfl : sv = _ := hs
  obtain ⟨a, kd, sm, ad⟩ := y
  have hl := (List.getElem?_eq_some_iff.1 hy).1
  have hyn : rlN l 0 = ⟨a, kd, sm, ad⟩ := by unfold rlN; rw [List.getD_eq_getElem?_getD, hy]; rfl
  obtain ⟨b, o, cp, hv, _, hb, hc⟩ := hr.at_ hl
  obtain rfl : lv = _ := hv
  have Hz := hid hz
  have Hy := hid hyn
  have HG := hid (World.grownBy_alloc w (.cells #[d, c, m, r, q, .slice ps x.S.length cs] 142) none)
  have h4 := (RlAt.cells hc hy).kept0 HG.out
  have HB := hid (RwAt.new w 142 #[d, c, m, r, q, .slice ps x.S.length cs])
  have kl : (0 : Int) < (l.length : Int) := by omega
  rw [Nat.zero_mul, Nat.add_zero] at h4
  clear h hr hc hy hyn hz hl
  go_enter Tryd.func85, Tryd.ntmps85
  go_upto_region 1 with (fail)
  generalize w.alloc (.cells #[d, c, m, r, q, .slice ps x.S.length cs] 142) = w1 at HG HB h4 ⊢
  have f5 := HB.out.cell 5 rfl
  have e0 := h4.c0
  have e1 := h4.c1
  have e2 := h4.c2
  have e3 := h4.c3
  clear h4
  go_upto_region 2 with (fail)
  have HG2 := hid (grown_alloc HG.out (.cells #[.int .i64 a, .int .i64 kd, .int .i64 sm, .int .i64 ad] 76))
  have HB2 := hid (HB.out.alloc (.cells #[.int .i64 a, .int .i64 kd, .int .i64 sm, .int .i64 ad] 76))
  have HC := hid (RwAt.new w1 76 #[.int .i64 a, .int .i64 kd, .int .i64 sm, .int .i64 ad])
  clear f5 e0 e1 e2 e3 HG HB
  generalize w1.alloc (.cells #[.int .i64 a, .int .i64 kd, .int .i64 sm, .int .i64 ad] 76) = w2 at HG2 HB2 HC ⊢
  go_quiet (fail)
  have f5 := HB2.out.cell 5 rfl
  have e0 := HC.out.cell 0 rfl
  have e2 := HC.out.cell 2 rfl
  have e3 := HC.out.cell 3 rfl
  go_wp2
  all_goals
    go_ret
    refine ⟨ret_b ?_, grown_drewN HG2.out _⟩
    rw [← Hz.out, Bool.eq_iff_iff]
    unfold inB
    rw [Hy.out]
    simp
    try omega
set_option maxHeartbeats 1000000 in
theorem range_next (h : OAt w V x) {lv : Value} {l : List Rl} (hr : RlAt w lv l) (j : Nat) (y u : Rl) (hy : l[j + 1]? = some y) (hu : l[j]? = some u) (hl : l.length ≤ maxLen) (n : Int) (z : Bool) (hz : inB x l (j + 1) n = z) :
    Calls Tryd.prog 85 #[V.agg, lv, .int .i64 ((j + 1 : Nat) : Int), .int .i64 n] w fun e w' => e = .returned (.bool z) ∧ w.grownBy w' none := by
  obtain ⟨d, c, m, r, q, sv⟩ := V
  obtain ⟨ps, cs, hs⟩ := h.s.len
  obtain rfl : sv = _ := hs
  obtain ⟨a, kd, sm, ad⟩ := y
  have hlt := (List.getElem?_eq_some_iff.1 hy).1
  have hyn : rlN l (j + 1) = ⟨a, kd, sm, ad⟩ := by unfold rlN; rw [List.getD_eq_getElem?_getD, hy]; rfl
  have hun : rlN l (j + 1 - 1) = u := by unfold rlN; rw [Nat.add_sub_cancel, List.getD_eq_getElem?_getD, hu]; rfl
  obtain ⟨b, o, cp, hv, _, hb, hc⟩ := hr.at_ (by omega)
  obtain rfl : lv = _ := hv
  obtain ⟨K, hK⟩ : ∃ K, K = j + 1 := ⟨_, rfl⟩
  have Hz := hid hz
  have Hy := hid hyn
  have Hu := hid hun
  have HG := hid (World.grownBy_alloc w (.cells #[d, c, m, r, q, .slice ps x.S.length cs] 142) none)
  have h4 := (RlAt.cells hc hy).kept0 HG.out
  have h5 := (RlAt.cells hc hu).kept0 HG.out
  have HB := hid (RwAt.new w 142 #[d, c, m, r, q, .slice ps x.S.length cs])
  have k0 : (0 : Int) ≤ (K : Int) := by omega
  have kn : (K : Int) < (l.length : Int) := by omega
  have km : (K : Int) - 1 = (j : Int) := by omega
  have j0 : (0 : Int) ≤ (j : Int) := by omega
  have jn : (j : Int) < (l.length : Int) := by omega
  have kz : ((K : Int) == 0) = false := by simp; omega
  have kl : (l.length : Int) ≤ 9223372036854775807 := by unfold maxLen at hl; omega
  rw [← hK] at h4 ⊢
  have HK := hid hK
  clear h hr hc hy hyn hz hl hu hun hK hlt
  go_enter Tryd.func85, Tryd.ntmps85
  go_upto_region 1 with (fail)
  generalize w.alloc (.cells #[d, c, m, r, q, .slice ps x.S.length cs] 142) = w1 at HG HB h4 h5 ⊢
  have e0 := h4.c0
  have e1 := h4.c1
  have e2 := h4.c2
  have e3 := h4.c3
  go_upto_region 2 with (fail)
  have HG2 := hid (grown_alloc HG.out (.cells #[.int .i64 a, .int .i64 kd, .int .i64 sm, .int .i64 ad] 76))
  have HB2 := hid (HB.out.alloc (.cells #[.int .i64 a, .int .i64 kd, .int .i64 sm, .int .i64 ad] 76))
  have HC := hid (RwAt.new w1 76 #[.int .i64 a, .int .i64 kd, .int .i64 sm, .int .i64 ad])
  have H5 := hid (h5.kept0 (World.grownBy_alloc w1 (.cells #[.int .i64 a, .int .i64 kd, .int .i64 sm, .int .i64 ad] 76) none))
  clear e0 e1 e2 e3 HG HB h4 h5
  generalize w1.alloc (.cells #[.int .i64 a, .int .i64 kd, .int .i64 sm, .int .i64 ad] 76) = w2 at HG2 HB2 HC H5 ⊢
  have e0 := HC.out.cell 0 rfl
  have u0 := H5.out.c0
  have hw := wrap_i64_id (n := (K : Int) - 1) (by omega) (by omega)
  rw [km] at hw
  go_quiet (fail)
  clear e0 u0
  have f5 := HB2.out.cell 5 rfl
  have e0 := HC.out.cell 0 rfl
  have e2 := HC.out.cell 2 rfl
  have e3 := HC.out.cell 3 rfl
  go_wp2
  all_goals
    go_ret
    refine ⟨ret_b ?_, grown_drewN HG2.out _⟩
    rw [← Hz.out, Bool.eq_iff_iff]
    unfold inB
    rw [Hy.out, Hu.out]
    try simp only [decide_eq_true_eq, Bool.false_eq_true, false_iff] at *
    omega
theorem range_any (h : OAt w V x) {lv : Value} {l : List Rl} (hr : RlAt w lv l) (k : Nat) (hk : k < l.length) (hl : l.length ≤ maxLen) (n : Int) (z : Bool) (hz : inB x l k n = z) :
    Calls Tryd.prog 85 #[V.agg, lv, .int .i64 (k : Int), .int .i64 n] w fun e w' => e = .returned (.bool z) ∧ w.grownBy w' none := by
  match k, hk, hz with
  | 0, hk, hz => exact range_first h hr _ (List.getElem?_eq_getElem hk) n z hz
  | j + 1, hk, hz => exact range_next h hr j _ _ (List.getElem?_eq_getElem hk) (List.getElem?_eq_getElem (by omega)) hl n z hz
/-- what it adds where nothing may be added -/
theorem adds_any (h : OAt w V x) (y : Rl) (k : Nat) (hk : y.s = k) (hks : k < x.S.length) (z : Bool) (hz : outB x y = z) :
    Calls Tryd.prog 86 #[V.agg, y.agg] w fun e w' => e = .returned (.bool z) ∧ w.grownBy w' none := by
  obtain ⟨d, c, m, r, q, sv⟩ := V
  obtain ⟨a, kd, sm, ad⟩ := y
  obtain rfl : sm = (k : Int) := hk
  obtain ⟨⟨n, i, v, g⟩, hsy⟩ : ∃ sy, x.S[k]? = some sy := ⟨_, List.getElem?_eq_getElem hks⟩
  have hsn : symN x k = ⟨n, i, v, g⟩ := by unfold symN; rw [List.getD_eq_getElem?_getD, hsy]; rfl
  have hz' : (decide (ad ≠ 0) && !decide (i = 1)) = z := by rw [← hz]; unfold outB toB; simp only [Int.toNat_natCast, hsn]
  obtain ⟨b, o, cp, hss, _, hb, hc⟩ := h.s.at_ (by omega)
  obtain rfl : sv = _ := hss
  have Hz := hid hz'
  have HG := hid (grown_alloc (World.grownBy_alloc w (.cells #[d, c, m, r, q, .slice (some ⟨b, o, none⟩) x.S.length cp] 142) none) (.cells #[.int .i64 a, .int .i64 kd, .int .i64 k, .int .i64 ad] 76))
  have HX := hid ((RwAt.new w 142 #[d, c, m, r, q, .slice (some ⟨b, o, none⟩) x.S.length cp]).alloc (.cells #[.int .i64 a, .int .i64 kd, .int .i64 k, .int .i64 ad] 76))
  have HY := hid (RwAt.new2 w (.cells #[d, c, m, r, q, .slice (some ⟨b, o, none⟩) x.S.length cp] 142) 76 #[.int .i64 a, .int .i64 kd, .int .i64 k, .int .i64 ad])
  have h4 := (SyAt.cells hc hsy).kept0 HG.out
  have k0 : (0 : Int) ≤ (k : Int) := by omega
  have kn : (k : Int) < (x.S.length : Int) := by omega
  clear h hz hz' hc hsy hsn
  go_enter Tryd.func86, Tryd.ntmps86
  go_upto_region 1 with (fail)
  generalize (w.alloc (.cells #[d, c, m, r, q, .slice (some ⟨b, o, none⟩) x.S.length cp] 142)).alloc (.cells #[.int .i64 a, .int .i64 kd, .int .i64 k, .int .i64 ad] 76) = w1 at HG HX HY h4 ⊢
  have f5 := HX.out.cell 5 rfl
  have g2 := HY.out.cell 2 rfl
  have g3 := HY.out.cell 3 rfl
  have e1 := h4.c1
  by_cases h0 : ad = 0
  · have z0 : (ad != 0) = false := by simpa using h0
    have H0 := hid h0
    clear h0
    go_wp2
    go_ret
    exact ⟨ret_b (by rw [← Hz.out]; simp [H0.out]), HG.out⟩
  · have z0 : (ad != 0) = true := by simpa using h0
    have H0 := hid h0
    clear h0
    go_wp2
    go_ret
    exact ⟨ret_b (by rw [← Hz.out]; simp [H0.out, bne, Bool.beq_eq_decide_eq]), HG.out⟩
end
end Go.Proofs.YteanjchbnaoopaaDoor
namespace Go.Proofs.YteanjchbnaoopaaDoor
open Go.RowKit
section
variable {ops : Array Oper} {rest : List Oper} {o : Oper} {a : Act} {w : World}
/-- a whole row, loaded where a guard says yes -/
theorem wpList_load_rw_g {Q : Exit → Act → World → Prop} (hgd : Region.wanted o (yielded ops a.tmps) = true) (t : TypeId) (p : Operand) (ho : o.op = .load t p) {g : Nat} (hx : a.eval p = .pointer (some ⟨g, 0, none⟩)) {t' : TypeId} {cs : Array Value} (hg : RwAt w g t' cs) {d : TypeDesc}
    (hd : d.isRow = true) (hu : Tryd.prog.underlying t = some d) (hi : (Tryd.prog.info? t).map (·.size) = some cs.size)
    (h : wpList Tryd.prog ops Q rest (a.put o.dst (.agg cs)) w) : wpList Tryd.prog ops Q (o :: rest) a w := by
  simp only [wpList, hgd, if_true]
  exact Or.inl (wp_load_row t p ho g hx _ cs _ d hg.blk hu (by cases d <;> first | rfl | cases hd) hi h)
/-- .. into this slot -/
theorem wpList_load_rw_d {Q : Exit → Act → World → Prop} (hgd : Region.wanted o (yielded ops a.tmps) = true) (k : Nat) (_hk : o.dst = some k) (t : TypeId) (p : Operand) (ho : o.op = .load t p) {g : Nat} (hx : a.eval p = .pointer (some ⟨g, 0, none⟩)) {t' : TypeId} {cs : Array Value} (hg : RwAt w g t' cs) {d : TypeDesc}
    (hd : d.isRow = true) (hu : Tryd.prog.underlying t = some d) (hi : (Tryd.prog.info? t).map (·.size) = some cs.size)
    (h : wpList Tryd.prog ops Q rest (a.put o.dst (.agg cs)) w) : wpList Tryd.prog ops Q (o :: rest) a w := wpList_load_rw_g hgd t p ho hx hg hd hu hi h
end
section
variable {w : World} {V : OV} {x : PO} {A : Nat → Addr}
theorem branches_of (op : Int) (t : Bool) (ht : brB op = t) (w : World) : Calls Tryd.prog 88 #[.int .i64 op] w fun e w' => e = .returned (.bool t) ∧ w.grownBy w' none :=
  (branches_any op w).mono fun _ _ ⟨he, hw⟩ => ⟨by rw [he, ht], by rw [← hw]; exact grown_refl _ _⟩
theorem far_of (op : Int) (t : Bool) (ht : farB op = t) (w : World) : Calls Tryd.prog 90 #[.int .i64 op] w fun e w' => e = .returned (.bool t) ∧ w.grownBy w' none :=
  (far_any op w).mono fun _ _ ⟨he, hw⟩ => ⟨by rw [he, ht], by rw [← hw]; exact grown_refl _ _⟩
set_option maxHeartbeats 1000000 in
theorem repairs_any (h : OAt w V x) (he : ErrC w A) (hf : OFit x) (hl : x.M.length = x.C.length) (y : Rl) (k j : Nat) (hk : y.s = k) (hks : k < x.S.length) (hj : y.a = j) (hjs : j < x.C.length) (z : Bool) (hz : repB x y = z) :
    Calls Tryd.prog 87 #[V.agg, y.agg] w fun e w' => e = .returned (.bool z) ∧ w.grownBy w' none := by
  obtain ⟨d, c, m, r, q, sv⟩ := V
  obtain ⟨a, kd, sm, ad⟩ := y
  obtain rfl : sm = (k : Int) := hk
  obtain rfl : a = (j : Int) := hj
  obtain ⟨⟨n, i, v, g⟩, hsy⟩ : ∃ sy, x.S[k]? = some sy := ⟨_, List.getElem?_eq_getElem hks⟩
  have hsn : symN x k = ⟨n, i, v, g⟩ := by unfold symN; rw [List.getD_eq_getElem?_getD, hsy]; rfl
  obtain ⟨mm, hm⟩ : ∃ mm, x.M[j]? = some mm := ⟨_, List.getElem?_eq_getElem (by omega)⟩
  have hmn : mapN x j = mm := by unfold mapN; rw [List.getD_eq_getElem?_getD, hm]; rfl
  have hz' : (if kd = 2 then brB (opN x j) && !(i == 1) else if mm = 2 then true else decide (opB x j = 14) || decide (opB x j = 15) || (farB (opB x j) && !(i == 1))) = z := by
    rw [← hz]; unfold repB toB; simp only [Int.toNat_natCast, hsn, hmn, Bool.beq_eq_decide_eq]
  obtain ⟨b, o, cp, hss, _, hb, hc⟩ := h.s.at_ (by omega)
  obtain rfl : sv = _ := hss
  obtain ⟨b2, o2, cp2, hms, hb2, hc2⟩ := h.m.at_ (by omega)
  obtain rfl : m = _ := hms
  obtain ⟨T, hT⟩ : ∃ T, (i == 1) = T := ⟨_, rfl⟩
  rw [hT] at hz'
  have Hz := hid hz'
  have HX := hid ((Bx.new h he 142 #[d, c, .slice (some ⟨b2, o2, none⟩) x.M.length cp2, r, q, .slice (some ⟨b, o, none⟩) x.S.length cp]).alloc (.cells #[.int .i64 j, .int .i64 kd, .int .i64 k, .int .i64 ad] 76))
  have HY := hid (RwAt.new2 w (.cells #[d, c, .slice (some ⟨b2, o2, none⟩) x.M.length cp2, r, q, .slice (some ⟨b, o, none⟩) x.S.length cp] 142) 76 #[.int .i64 j, .int .i64 kd, .int .i64 k, .int .i64 ad])
  have h4 := (SyAt.cells hc hsy).kept0 HX.out.g
  have hq := (grown_cell HX.out.g hb2 (by simp)).trans (hc2 j mm hm)
  have k0 : (0 : Int) ≤ (k : Int) := by omega
  have kn : (k : Int) < (x.S.length : Int) := by omega
  have j0 : (0 : Int) ≤ (j : Int) := by omega
  have jn : (j : Int) < (x.M.length : Int) := by omega
  have jl : (x.M.length : Int) ≤ 9223372036854775807 := by have := hf.l.2.2.1; unfold maxLen at this; omega
  have HP := hid (And.intro hf (And.intro hl hjs))
  clear h he hf hl hz hz' hc hc2 hsy hsn hm hmn hks hjs
  go_enter Tryd.func87, Tryd.ntmps87
  go_upto_region 1 with (fail)
  generalize (w.alloc (.cells #[d, c, .slice (some ⟨b2, o2, none⟩) x.M.length cp2, r, q, .slice (some ⟨b, o, none⟩) x.S.length cp] 142)).alloc (.cells #[.int .i64 j, .int .i64 kd, .int .i64 k, .int .i64 ad] 76) = w1 at HX HY h4 hq ⊢
  obtain ⟨B2, hB2⟩ : ∃ B2, w.heap.size + 1 = B2 := ⟨_, rfl⟩
  rw [hB2] at HY ⊢
  have f5 := HX.out.box.cell 5 rfl
  have f2 := HX.out.box.cell 2 rfl
  have g0 := HY.out.cell 0 rfl
  have g1 := HY.out.cell 1 rfl
  have g2 := HY.out.cell 2 rfl
  have e1 := h4.c1
  clear h4
  by_cases hk2 : kd = 2
  · have z2 : (kd == 2) = true := by simpa using hk2
    obtain ⟨op, Hop⟩ : ∃ op, Hid (opN x j = op) := ⟨_, hid rfl⟩
    have hz' := Hz.out
    rw [if_pos hk2, Hop.out] at hz'
    have HZ := hid hz'
    clear hz' Hz hk2
    go_wp2_with (first
      | (refine wpList_load_rw rfl 142 _ rfl rfl HX.out.box rfl Tryd.underlying142 info_object' ?_)
      | fail)
    refine (op_any HX.out.o HP.out.1 HP.out.2.1 j HP.out.2.2 op Hop.out).mono ?_
    rintro e w2 ⟨rfl, hg⟩
    have HX2 := hid (HX.out.kept0 hg)
    clear hg HX HY f5 f2 g0 g1 g2 e1 hq
    go_wp2_with fail
    cases hbr : brB op
    · have Hbr := hid hbr
      clear hbr
      refine (branches_of op false Hbr.out _).mono ?_
      rintro e w3 ⟨rfl, hg⟩
      have HX3 := hid (HX2.out.kept0 hg)
      clear hg HX2
      go_wp2
      go_ret
      exact ⟨ret_b (by rw [← HZ.out, Hbr.out]; rfl), HX3.out.g⟩
    · have Hbr := hid hbr
      clear hbr
      refine (branches_of op true Hbr.out _).mono ?_
      rintro e w3 ⟨rfl, hg⟩
      have HX3 := hid (HX2.out.kept0 hg)
      clear hg HX2
      go_wp2
      go_ret
      exact ⟨ret_b (by rw [← HZ.out, Hbr.out]; simp), HX3.out.g⟩
  · have z2 : (kd == 2) = false := by simpa using hk2
    have hz' := Hz.out
    rw [if_neg hk2] at hz'
    by_cases hm2 : mm = 2
    · have z3 : (mm == 2) = true := by simpa using hm2
      rw [if_pos hm2] at hz'
      have HZ := hid hz'
      clear hz' Hz hk2 hm2
      go_wp2
      go_ret
      exact ⟨ret_b HZ.out, HX.out.g⟩
    · have z3 : (mm == 2) = false := by simpa using hm2
      rw [if_neg hm2] at hz'
      obtain ⟨op, Hop⟩ : ∃ op, Hid (opB x j = op) := ⟨_, hid rfl⟩
      rw [Hop.out] at hz'
      have HZ := hid hz'
      clear hz' Hz hk2 hm2
      go_wp2_with (first
        | (refine wpList_load_rw rfl 142 _ rfl rfl HX.out.box rfl Tryd.underlying142 info_object' ?_)
        | fail)
      refine (opb_any HX.out.o HP.out.1 HP.out.2.1 j (Nat.le_of_lt HP.out.2.2) _ rfl op Hop.out).mono ?_
      rintro e w2 ⟨rfl, hg⟩
      have HX2 := hid (HX.out.kept0 hg)
      clear hg HX HY f5 f2 g0 g1 g2 e1 hq
      by_cases h14 : op = 14
      · have q14 : (op == 14) = true := by simpa using h14
        have H14 := hid h14
        clear h14
        go_wp2
        go_ret
        exact ⟨ret_b (by rw [← HZ.out]; simp [H14.out]), HX2.out.g⟩
      · have q14 : (op == 14) = false := by simpa using h14
        have H14 := hid h14
        clear h14
        by_cases h15 : op = 15
        · have q15 : (op == 15) = true := by simpa using h15
          have H15 := hid h15
          clear h15
          go_wp2
          go_ret
          exact ⟨ret_b (by rw [← HZ.out]; simp [H15.out]), HX2.out.g⟩
        · have q15 : (op == 15) = false := by simpa using h15
          have H15 := hid h15
          clear h15
          go_wp2_with fail
          cases hfr : farB op
          · have Hfr := hid hfr
            clear hfr
            refine (far_of op false Hfr.out _).mono ?_
            rintro e w3 ⟨rfl, hg⟩
            have HX3 := hid (HX2.out.kept0 hg)
            clear hg HX2
            go_wp2
            go_ret
            exact ⟨ret_b (by rw [← HZ.out, Hfr.out]; simp [H14.out, H15.out]), HX3.out.g⟩
          · have Hfr := hid hfr
            clear hfr
            refine (far_of op true Hfr.out _).mono ?_
            rintro e w3 ⟨rfl, hg⟩
            have HX3 := hid (HX2.out.kept0 hg)
            clear hg HX2
            go_wp2
            go_ret
            exact ⟨ret_b (by rw [← HZ.out, Hfr.out]; simp [H14.out, H15.out]), HX3.out.g⟩
end
end Go.Proofs.YteanjchbnaoopaaDoor

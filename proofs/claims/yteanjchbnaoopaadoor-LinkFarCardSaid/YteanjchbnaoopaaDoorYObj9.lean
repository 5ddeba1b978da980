/- What is wrong with a relocation (package obj): contracts. (Made by gobj9.py.) -/
import Derived.Test.YteanjchbnaoopaaDoorYObj2
namespace Go.Proofs.YteanjchbnaoopaaDoor
open Go.RowKit
theorem in_parts {x : PO} {l : List Rl} {k : Nat} {n : Int} (h : inB x l k n = true) {y : Rl} (hy : l[k]? = some y) : ∃ i j : Nat, y.s = i ∧ i < x.S.length ∧ y.a = j ∧ (j : Int) < n := by
  have hyn : rlN l k = y := by unfold rlN; rw [List.getD_eq_getElem?_getD, hy]; rfl
  unfold inB at h
  rw [hyn] at h
  have h := of_decide_eq_true h
  exact ⟨y.s.toNat, y.a.toNat, by omega, by omega, by omega, by omega⟩
section
variable {w : World} {V : OV} {x : PO} {A : Nat → Addr}
set_option maxHeartbeats 2000000 in
theorem dataReloc_any (h : OAt w V x) (he : ErrC w A) (hf : OFit x) (hl : x.M.length = x.C.length) (k : Nat) (hk : k < x.R.length) (rr : Option Nat) (hr : dataF x k = rr) :
    Calls Tryd.prog 66 #[V.agg, .int .i64 k] w fun e w' => e = .returned (evV A rr) ∧ w.grownBy w' none := by
  obtain ⟨d, c, m, r, q, sv⟩ := V
  obtain ⟨⟨a, kd, sm, ad⟩, hy⟩ : ∃ y, x.R[k]? = some y := ⟨_, List.getElem?_eq_getElem hk⟩
  have hyn : rlN x.R k = ⟨a, kd, sm, ad⟩ := by unfold rlN; rw [List.getD_eq_getElem?_getD, hy]; rfl
  obtain ⟨pw, cw, hw⟩ := h.d.len'
  obtain rfl : d = _ := hw
  obtain ⟨b, o, cp, hv, _, hb, hc⟩ := h.r.at_ (by omega)
  obtain rfl : r = _ := hv
  have HX := hid (Bx.new h he 142 #[.slice pw x.D.length cw, c, m, .slice (some ⟨b, o, none⟩) x.R.length cp, q, sv])
  have h4 := (RlAt.cells hc hy).kept0 HX.out.g
  have k0 : (0 : Int) ≤ (k : Int) := by omega
  have kn : (k : Int) < (x.R.length : Int) := by omega
  have HP := hid (And.intro hf (And.intro hl (And.intro hk (And.intro hf.l.2.2.2.1 hy))))
  obtain ⟨T, hT⟩ : ∃ T, inB x x.R k x.D.length = T := ⟨_, rfl⟩
  have HT := hid hT
  unfold dataF at hr
  rw [hyn, hT] at hr
  have HR := hid hr
  clear h he hf hl hc hr hT hyn hk hy
  go_enter Tryd.func66, Tryd.ntmps66
  go_upto_region 1 with (fail)
  generalize w.alloc (.cells #[.slice pw x.D.length cw, c, m, .slice (some ⟨b, o, none⟩) x.R.length cp, q, sv] 142) = w1 at HX h4 ⊢
  have f3 := HX.out.box.cell 3 rfl
  have e0 := h4.c0
  have e1 := h4.c1
  have e2 := h4.c2
  have e3 := h4.c3
  clear h4
  go_upto_region 2 with (fail)
  have HX2 := hid (HX.out.alloc (.cells #[.int .i64 a, .int .i64 kd, .int .i64 sm, .int .i64 ad] 76))
  have HY := hid (RwAt.new w1 76 #[.int .i64 a, .int .i64 kd, .int .i64 sm, .int .i64 ad])
  obtain ⟨B, hB⟩ : ∃ B, w1.heap.size = B := ⟨_, rfl⟩
  rw [hB] at HY ⊢
  clear f3 e0 e1 e2 e3 HX
  generalize w1.alloc (.cells #[.int .i64 a, .int .i64 kd, .int .i64 sm, .int .i64 ad] 76) = w2 at HX2 HY ⊢
  have f3 := HX2.out.box.cell 3 rfl
  have f0 := HX2.out.box.cell 0 rfl
  go_wp2_with (first
    | (refine wpList_load_rw rfl 142 _ rfl rfl HX2.out.box rfl Tryd.underlying142 info_object' ?_)
    | fail)
  refine (range_any HX2.out.o HX2.out.o.r k HP.out.2.2.1 HP.out.2.2.2.1 _ T HT.out).mono ?_
  rintro e w3 ⟨rfl, hg⟩
  have HX3 := hid (HX2.out.kept0 hg)
  have HY3 := hid (HY.out.kept0 hg)
  clear hg HX2 HY f3 f0
  have g1 := HY3.out.cell 1 rfl
  cases T
  · have e2 := HX3.out.e.c2
    unfold errV at e2
    go_wp2
    go_ret
    exact ⟨by rw [← HR.out]; rfl, HX3.out.g⟩
  · by_cases hk1 : kd = 1
    · have z1 : (kd != 1) = false := by simpa using hk1
      have hr' := HR.out
      have HZ := hid hr'
      clear hr'
      obtain ⟨i, j, hi, his, hj, hjs⟩ := in_parts HT.out HP.out.2.2.2.2
      have HI := hid (And.intro hi (And.intro his (And.intro hj hjs)))
      have HN := hid (show ¬(true = false ∨ kd ≠ 1) by simp; omega)
      clear hi his hj hjs hk1
      go_wp2_with (first
        | (refine wpList_load_rw rfl 142 _ rfl rfl HX3.out.box rfl Tryd.underlying142 info_object' ?_)
        | (refine wpList_load_rw rfl 76 _ rfl rfl HY3.out rfl Tryd.underlying76 info_rel ?_)
        | fail)
      obtain ⟨U, HU⟩ : ∃ U, Hid (outB x ⟨a, kd, sm, ad⟩ = U) := ⟨_, hid rfl⟩
      refine (adds_any HX3.out.o ⟨a, kd, sm, ad⟩ i HI.out.1 HI.out.2.1 U HU.out).mono ?_
      rintro e w9 ⟨rfl, hg⟩
      have HX9 := hid (HX3.out.kept0 hg)
      clear hg
      cases U
      · go_wp2
        go_ret
        exact ⟨by rw [← HZ.out, if_neg HN.out, HU.out]; simp <;> rfl, HX9.out.g⟩
      · have e1 := HX9.out.e.c1
        unfold errV at e1
        go_wp2
        go_ret
        exact ⟨by rw [← HZ.out, if_neg HN.out, HU.out]; simp <;> rfl, HX9.out.g⟩
    · have z1 : (kd != 1) = true := by simpa using hk1
      have HK := hid hk1
      have e2 := HX3.out.e.c2
      unfold errV at e2
      clear hk1
      go_wp2
      go_ret
      exact ⟨by rw [← HR.out]; simp [HK.out] <;> rfl, HX3.out.g⟩
set_option maxHeartbeats 2000000 in
theorem codeReloc_any (h : OAt w V x) (he : ErrC w A) (hf : OFit x) (hl : x.M.length = x.C.length) (k : Nat) (hk : k < x.Q.length) (rr : Option Nat) (hr : codeF x k = rr) :
    Calls Tryd.prog 67 #[V.agg, .int .i64 k] w fun e w' => e = .returned (evV A rr) ∧ w.grownBy w' none := by
  obtain ⟨d, c, m, r, q, sv⟩ := V
  obtain ⟨⟨a, kd, sm, ad⟩, hy⟩ : ∃ y, x.Q[k]? = some y := ⟨_, List.getElem?_eq_getElem hk⟩
  have hyn : rlN x.Q k = ⟨a, kd, sm, ad⟩ := by unfold rlN; rw [List.getD_eq_getElem?_getD, hy]; rfl
  obtain ⟨pw, cw, hw⟩ := h.c.len'
  obtain rfl : c = _ := hw
  obtain ⟨b, o, cp, hv, _, hb, hc⟩ := h.q.at_ (by omega)
  obtain rfl : q = _ := hv
  have HX := hid (Bx.new h he 142 #[d, .slice pw x.C.length cw, m, r, .slice (some ⟨b, o, none⟩) x.Q.length cp, sv])
  have h4 := (RlAt.cells hc hy).kept0 HX.out.g
  have k0 : (0 : Int) ≤ (k : Int) := by omega
  have kn : (k : Int) < (x.Q.length : Int) := by omega
  have HP := hid (And.intro hf (And.intro hl (And.intro hk (And.intro hf.l.2.2.2.2.1 hy))))
  obtain ⟨T, hT⟩ : ∃ T, inB x x.Q k x.C.length = T := ⟨_, rfl⟩
  have HT := hid hT
  unfold codeF at hr
  rw [hyn, hT] at hr
  have HR := hid hr
  clear h he hf hl hc hr hT hyn hk hy
  go_enter Tryd.func67, Tryd.ntmps67
  go_upto_region 1 with (fail)
  generalize w.alloc (.cells #[d, .slice pw x.C.length cw, m, r, .slice (some ⟨b, o, none⟩) x.Q.length cp, sv] 142) = w1 at HX h4 ⊢
  have f4 := HX.out.box.cell 4 rfl
  have e0 := h4.c0
  have e1 := h4.c1
  have e2 := h4.c2
  have e3 := h4.c3
  clear h4
  go_upto_region 2 with (fail)
  have HX2 := hid (HX.out.alloc (.cells #[.int .i64 a, .int .i64 kd, .int .i64 sm, .int .i64 ad] 76))
  have HY := hid (RwAt.new w1 76 #[.int .i64 a, .int .i64 kd, .int .i64 sm, .int .i64 ad])
  obtain ⟨B, hB⟩ : ∃ B, w1.heap.size = B := ⟨_, rfl⟩
  rw [hB] at HY ⊢
  clear f4 e0 e1 e2 e3 HX
  generalize w1.alloc (.cells #[.int .i64 a, .int .i64 kd, .int .i64 sm, .int .i64 ad] 76) = w2 at HX2 HY ⊢
  have f4 := HX2.out.box.cell 4 rfl
  have f1 := HX2.out.box.cell 1 rfl
  go_wp2_with (first
    | (refine wpList_load_rw rfl 142 _ rfl rfl HX2.out.box rfl Tryd.underlying142 info_object' ?_)
    | fail)
  refine (range_any HX2.out.o HX2.out.o.q k HP.out.2.2.1 HP.out.2.2.2.1 _ T HT.out).mono ?_
  rintro e w3 ⟨rfl, hg⟩
  have HX3 := hid (HX2.out.kept0 hg)
  have HY3 := hid (HY.out.kept0 hg)
  clear hg HX2 HY f4 f1
  have g1 := HY3.out.cell 1 rfl
  cases T
  · have e2 := HX3.out.e.c2
    unfold errV at e2
    go_wp2
    go_ret
    exact ⟨by rw [← HR.out]; rfl, HX3.out.g⟩
  · by_cases hk1 : kd = 1 ∨ kd = 2
    · have z1 : (kd != 1) = false ∨ ((kd != 1) = true ∧ (kd != 2) = false) := by rcases hk1 with h | h <;> simp [h]
      rcases z1 with z1 | ⟨z1, z2⟩
      · have hr' := HR.out
        have HZ := hid hr'
        clear hr'
        obtain ⟨i, j, hi, his, hj, hjs⟩ := in_parts HT.out HP.out.2.2.2.2
        have HI := hid (And.intro hi (And.intro his (And.intro hj hjs)))
        have HN := hid (show ¬(true = false ∨ (kd ≠ 1 ∧ kd ≠ 2)) by simp; omega)
        clear hi his hj hjs hk1
        go_wp2_with (first
          | (refine wpList_load_rw rfl 142 _ rfl rfl HX3.out.box rfl Tryd.underlying142 info_object' ?_)
          | (refine wpList_load_rw rfl 76 _ rfl rfl HY3.out rfl Tryd.underlying76 info_rel ?_)
          | fail)
        obtain ⟨Z, HZZ⟩ : ∃ Z, Hid (repB x ⟨a, kd, sm, ad⟩ = Z) := ⟨_, hid rfl⟩
        refine (repairs_any HX3.out.o HX3.out.e HP.out.1 HP.out.2.1 ⟨a, kd, sm, ad⟩ i j HI.out.1 HI.out.2.1 HI.out.2.2.1 (by have := HI.out.2.2.2; omega) Z HZZ.out).mono ?_
        rintro e w4 ⟨rfl, hg⟩
        have HX4 := hid (HX3.out.kept0 hg)
        have HY4 := hid (HY3.out.kept0 hg)
        clear hg HX3 HY3 g1
        cases Z
        · have e1 := HX4.out.e.c1
          unfold errV at e1
          go_wp2
          go_ret
          exact ⟨by rw [← HZ.out, if_neg HN.out, HZZ.out]; simp <;> rfl, HX4.out.g⟩
        · go_wp2_with (first
            | (refine wpList_load_rw rfl 142 _ rfl rfl HX4.out.box rfl Tryd.underlying142 info_object' ?_)
            | (refine wpList_load_rw_g ?_ 142 _ rfl rfl HX4.out.box rfl Tryd.underlying142 info_object' ?_; (kernel_rfl))
            | (refine wpList_load_rw_g ?_ 76 _ rfl rfl HY4.out rfl Tryd.underlying76 info_rel ?_; (kernel_rfl))
            | fail)
          obtain ⟨U, HU⟩ : ∃ U, Hid (outB x ⟨a, kd, sm, ad⟩ = U) := ⟨_, hid rfl⟩
          refine (adds_any HX4.out.o ⟨a, kd, sm, ad⟩ i HI.out.1 HI.out.2.1 U HU.out).mono ?_
          rintro e w9 ⟨rfl, hg⟩
          have HX9 := hid (HX4.out.kept0 hg)
          clear hg
          cases U
          · go_wp2
            go_ret
            exact ⟨by rw [← HZ.out, if_neg HN.out, HU.out, HZZ.out]; simp <;> rfl, HX9.out.g⟩
          · have e1 := HX9.out.e.c1
            unfold errV at e1
            go_wp2
            go_ret
            exact ⟨by rw [← HZ.out, if_neg HN.out, HU.out, HZZ.out]; simp <;> rfl, HX9.out.g⟩
      · have hr' := HR.out
        have HZ := hid hr'
        clear hr'
        obtain ⟨i, j, hi, his, hj, hjs⟩ := in_parts HT.out HP.out.2.2.2.2
        have HI := hid (And.intro hi (And.intro his (And.intro hj hjs)))
        have HN := hid (show ¬(true = false ∨ (kd ≠ 1 ∧ kd ≠ 2)) by simp; omega)
        clear hi his hj hjs hk1
        go_wp2_with (first
          | (refine wpList_load_rw rfl 142 _ rfl rfl HX3.out.box rfl Tryd.underlying142 info_object' ?_)
          | (refine wpList_load_rw rfl 76 _ rfl rfl HY3.out rfl Tryd.underlying76 info_rel ?_)
          | fail)
        obtain ⟨Z, HZZ⟩ : ∃ Z, Hid (repB x ⟨a, kd, sm, ad⟩ = Z) := ⟨_, hid rfl⟩
        refine (repairs_any HX3.out.o HX3.out.e HP.out.1 HP.out.2.1 ⟨a, kd, sm, ad⟩ i j HI.out.1 HI.out.2.1 HI.out.2.2.1 (by have := HI.out.2.2.2; omega) Z HZZ.out).mono ?_
        rintro e w4 ⟨rfl, hg⟩
        have HX4 := hid (HX3.out.kept0 hg)
        have HY4 := hid (HY3.out.kept0 hg)
        clear hg HX3 HY3 g1
        cases Z
        · have e1 := HX4.out.e.c1
          unfold errV at e1
          go_wp2
          go_ret
          exact ⟨by rw [← HZ.out, if_neg HN.out, HZZ.out]; simp <;> rfl, HX4.out.g⟩
        · go_wp2_with (first
            | (refine wpList_load_rw rfl 142 _ rfl rfl HX4.out.box rfl Tryd.underlying142 info_object' ?_)
            | (refine wpList_load_rw_g ?_ 142 _ rfl rfl HX4.out.box rfl Tryd.underlying142 info_object' ?_; (kernel_rfl))
            | (refine wpList_load_rw_g ?_ 76 _ rfl rfl HY4.out rfl Tryd.underlying76 info_rel ?_; (kernel_rfl))
            | fail)
          obtain ⟨U, HU⟩ : ∃ U, Hid (outB x ⟨a, kd, sm, ad⟩ = U) := ⟨_, hid rfl⟩
          refine (adds_any HX4.out.o ⟨a, kd, sm, ad⟩ i HI.out.1 HI.out.2.1 U HU.out).mono ?_
          rintro e w9 ⟨rfl, hg⟩
          have HX9 := hid (HX4.out.kept0 hg)
          clear hg
          cases U
          · go_wp2
            go_ret
            exact ⟨by rw [← HZ.out, if_neg HN.out, HU.out, HZZ.out]; simp <;> rfl, HX9.out.g⟩
          · have e1 := HX9.out.e.c1
            unfold errV at e1
            go_wp2
            go_ret
            exact ⟨by rw [← HZ.out, if_neg HN.out, HU.out, HZZ.out]; simp <;> rfl, HX9.out.g⟩
    · have z1 : (kd != 1) = true := by simp; intro h; exact hk1 (.inl h)
      have z2 : (kd != 2) = true := by simp; intro h; exact hk1 (.inr h)
      have HK := hid (not_or.1 hk1)
      have e2 := HX3.out.e.c2
      unfold errV at e2
      clear hk1
      go_wp2
      go_ret
      exact ⟨by rw [← HR.out]; simp [HK.out] <;> rfl, HX3.out.g⟩
end
end Go.Proofs.YteanjchbnaoopaaDoor
namespace Go.Proofs.YteanjchbnaoopaaDoor
open Go.RowKit
def cmpI (a b : Int) : Int := if a < b then -1 else if b < a then 1 else 0
theorem nan_any (a : Int) (w : World) : Calls Tryd.prog 99 #[.int .i64 a] w fun e w' => e = .returned (.bool false) ∧ w = w' := by
  go_enter Tryd.func99, Tryd.ntmps99
  go_wp2
  go_ret
  exact ⟨ret_b (by simp), rfl⟩
theorem compare_any (a b : Int) (w : World) : Calls Tryd.prog 98 #[.int .i64 a, .int .i64 b] w fun e w' => e = .returned (.int .i64 (cmpI a b)) ∧ w = w' := by
  have h1 := nan_any a
  have h2 := nan_any b
  unfold cmpI
  by_cases hl : a < b
  · rw [if_pos hl]
    go_enter Tryd.func98, Tryd.ntmps98
    go_wp2_with fail
    refine (nan_any a _).mono ?_; rintro e w' ⟨rfl, rfl⟩
    go_wp2_with fail
    refine (nan_any b _).mono ?_; rintro e w' ⟨rfl, rfl⟩
    go_wp2
    go_ret
    exact ⟨rfl, rfl⟩
  · rw [if_neg hl]
    by_cases hg : b < a
    · rw [if_pos hg]
      have hg' : a > b := hg
      go_enter Tryd.func98, Tryd.ntmps98
      go_wp2_with fail
      refine (nan_any a _).mono ?_; rintro e w' ⟨rfl, rfl⟩
      go_wp2_with fail
      refine (nan_any b _).mono ?_; rintro e w' ⟨rfl, rfl⟩
      go_wp2
      go_ret
      exact ⟨rfl, rfl⟩
    · rw [if_neg hg]
      obtain rfl : a = b := by omega
      have hg' : ¬ a > a := hg
      go_enter Tryd.func98, Tryd.ntmps98
      go_wp2_with fail
      refine (nan_any a _).mono ?_; rintro e w' ⟨rfl, rfl⟩
      go_wp2_with fail
      refine (nan_any a _).mono ?_; rintro e w' ⟨rfl, rfl⟩
      go_wp2
      go_ret
      exact ⟨rfl, rfl⟩
theorem cmpr_any (y : Rl) (b : Int) (c : Int) (hc : cmpI y.a b = c) (w : World) : Calls Tryd.prog 97 #[y.agg, .int .i64 b] w fun e w' => e = .returned (.int .i64 c) ∧ w.grownBy w' none := by
  obtain ⟨a, kd, sm, ad⟩ := y
  have HG := hid (World.grownBy_alloc w (.cells #[.int .i64 a, .int .i64 kd, .int .i64 sm, .int .i64 ad] 76) none)
  have HC : Hid (cmpI a b = c) := hid hc
  clear hc
  go_enter Tryd.func97, Tryd.ntmps97
  go_wp2_with fail
  refine (compare_any a b _).mono ?_; rintro e w' ⟨rfl, rfl⟩
  go_wp2
  go_ret
  exact ⟨ret_i HC.out, HG.out⟩
/-- places that rise -/
def Rising (l : List Rl) : Prop := ∀ i j, i < j → j < l.length → (rlN l i).a < (rlN l j).a
def FoundAt (w : World) (z : Bool) (e : Ending) (w' : World) : Prop := ∃ i : Int, e = .returned (.tuple #[.int .i64 i, .bool z]) ∧ w.grownBy w' none
theorem hasRB_of {x : PO} {k : Int} (hr : Rising x.Q) {i : Nat} (hi : i ≤ x.Q.length) (h1 : ∀ t, t < i → (rlN x.Q t).a < k) (h2 : ∀ t, i ≤ t → t < x.Q.length → k ≤ (rlN x.Q t).a) : hasRB x k = (decide (i < x.Q.length) && decide ((rlN x.Q i).a = k)) := by
  have hn : ∀ t, t < x.Q.length → x.Q[t]? = some (rlN x.Q t) := fun t ht => by unfold rlN; rw [List.getD_eq_getElem?_getD, List.getElem?_eq_getElem ht]; rfl
  rw [Bool.eq_iff_iff]
  unfold hasRB
  simp only [List.any_eq_true, decide_eq_true_eq, Bool.and_eq_true]
  constructor
  · rintro ⟨r, hm, rfl⟩
    obtain ⟨t, ht, hte⟩ := List.getElem_of_mem hm
    have e : rlN x.Q t = r := by have := hn t ht; rw [List.getElem?_eq_getElem ht, hte] at this; exact (Option.some.inj this).symm
    by_cases hti : t < i
    · have := h1 t hti; rw [e] at this; omega
    · by_cases hei : t = i
      · subst hei; exact ⟨ht, by rw [e]⟩
      · have a1 := h2 i (Nat.le_refl _) (by omega)
        have a2 := hr i t (by omega) ht
        rw [e] at a2
        omega
  · rintro ⟨hi2, he⟩
    exact ⟨_, List.mem_of_getElem? (hn i hi2), he⟩
set_option maxHeartbeats 2000000 in
theorem search_any {w : World} {x : PO} {v : Value} (h : RlAt w v x.Q) (hl : x.Q.length ≤ 1024) (hr : Rising x.Q) (k : Int) (z : Bool) (hz : hasRB x k = z) :
    Calls Tryd.prog 96 #[v, .int .i64 k, .func (.func 97) #[] #[]] w (FoundAt w z) := by
  obtain ⟨p, c, rfl⟩ := h.len
  have H := hid h
  have Hz := hid hz
  have Hr := hid hr
  obtain ⟨N, hN⟩ : ∃ N, x.Q.length = N := ⟨_, rfl⟩
  rw [hN] at hl
  rw [hN]
  have HN := hid hN
  clear h hz hr hN
  go_enter Tryd.func96, Tryd.ntmps96
  go_wp2
  go_loopw [9, 10] (fun a b wr => ∃ i j : Nat, a = .int .i64 i ∧ b = .int .i64 j ∧ i ≤ j ∧ j ≤ N ∧ Hid (w.grownBy wr none ∧ (∀ t, t < i → (rlN x.Q t).a < k) ∧ (∀ t, j ≤ t → t < N → k ≤ (rlN x.Q t).a))) (fun a b _ => (intOf b).toNat - (intOf a).toNat)
  case atStart => exact ⟨0, N, rfl, rfl, Nat.zero_le _, Nat.le_refl _, hid ⟨grown_refl _ _, fun t ht => by omega, fun t h1 h2 => by omega⟩⟩
  case round =>
    obtain ⟨i, j, rfl, rfl, hij, hjN, HR⟩ := hrel
    have i0 : (0 : Int) ≤ (i : Int) := by omega
    have j0 : (0 : Int) ≤ (j : Int) := by omega
    have j1 : (j : Int) ≤ 1024 := by omega
    by_cases hlt : i < j
    · have hl' : (i : Int) < (j : Int) := by omega
      obtain ⟨m, hm⟩ : ∃ m : Nat, ((i : Int) + (j : Int)) / 2 = (m : Int) := ⟨(i + j) / 2, by omega⟩
      have hmi : i ≤ m := by omega
      have hmj : m < j := by omega
      have m0 : (0 : Int) ≤ (m : Int) := by omega
      have mN : (m : Int) < (N : Int) := by omega
      obtain ⟨y, hy⟩ : ∃ y, x.Q[m]? = some y := ⟨_, List.getElem?_eq_getElem (by rw [HN.out]; omega)⟩
      have hyn : rlN x.Q m = y := by unfold rlN; rw [List.getD_eq_getElem?_getD, hy]; rfl
      obtain ⟨b, o, c', hv, _, hb, hc⟩ := H.out.at_ (by rw [HN.out]; omega)
      obtain ⟨rfl, rfl⟩ : p = some ⟨b, o, none⟩ ∧ c = c' := by simpa using hv
      have h4 := (RlAt.cells hc hy).kept0 HR.out.1
      have e0 := h4.c0
      have e1 := h4.c1
      have e2 := h4.c2
      have e3 := h4.c3
      have Hyn := hid hyn
      clear hc h4 hy hv hb hyn
      obtain ⟨q, hq⟩ : ∃ q, cmpI y.a k = q := ⟨_, rfl⟩
      have Hq := hid hq
      by_cases hqn : q < 0
      · clear hq
        go_wp2_with fail
        refine (cmpr_any y k q Hq.out _).mono ?_
        rintro e w2 ⟨rfl, hg⟩
        have HG2 := hid (grown_trans HR.out.1 hg)
        clear hg
        have Hqn := hid hqn
        go_wp2
        go_roundw
        case rel =>
          refine ⟨m + 1, j, by go_num, rfl, by omega, hjN, hid ⟨HG2.out, fun t ht => ?_, HR.out.2.2⟩⟩
          have hya : y.a < k := by have h1 := Hq.out; have h2 := Hqn.out; unfold cmpI at h1; split at h1 <;> (try split at h1) <;> omega
          by_cases e : t = m
          · rw [e, Hyn.out]; exact hya
          · have := Hr.out t m (by omega) (by rw [HN.out]; omega)
            rw [Hyn.out] at this
            omega
        case measure => simp [intOf]; omega
      · clear hq
        go_wp2_with fail
        refine (cmpr_any y k q Hq.out _).mono ?_
        rintro e w2 ⟨rfl, hg⟩
        have HG2 := hid (grown_trans HR.out.1 hg)
        clear hg
        have Hqn := hid hqn
        go_wp2
        go_roundw
        case rel =>
          refine ⟨i, m, rfl, rfl, hmi, by omega, hid ⟨HG2.out, HR.out.2.1, fun t ht ht2 => ?_⟩⟩
          have hya : k ≤ y.a := by have h1 := Hq.out; have h2 := Hqn.out; unfold cmpI at h1; split at h1 <;> (try split at h1) <;> omega
          by_cases e : t = m
          · rw [e, Hyn.out]; exact hya
          · have := Hr.out m t (by omega) (by rw [HN.out]; omega)
            rw [Hyn.out] at this
            omega
        case measure => simp [intOf]; omega
    · obtain rfl : i = j := by omega
      have hf := hasRB_of Hr.out (by rw [HN.out]; exact hjN) HR.out.2.1 (by rw [HN.out]; exact HR.out.2.2)
      rw [Hz.out, HN.out] at hf
      clear hlt
      by_cases hiN : i < N
      · have hiN' : (i : Int) < (N : Int) := by omega
        obtain ⟨y, hy⟩ : ∃ y, x.Q[i]? = some y := ⟨_, List.getElem?_eq_getElem (by rw [HN.out]; omega)⟩
        have hyn : rlN x.Q i = y := by unfold rlN; rw [List.getD_eq_getElem?_getD, hy]; rfl
        obtain ⟨b, o, c', hv, _, hb, hc⟩ := H.out.at_ (by rw [HN.out]; omega)
        obtain ⟨rfl, rfl⟩ : p = some ⟨b, o, none⟩ ∧ c = c' := by simpa using hv
        have h4 := (RlAt.cells hc hy).kept0 HR.out.1
        have e0 := h4.c0
        have e1 := h4.c1
        have e2 := h4.c2
        have e3 := h4.c3
        rw [hyn] at hf
        obtain ⟨q, hq⟩ : ∃ q, cmpI y.a k = q := ⟨_, rfl⟩
        have Hq := hid hq
        have Hf : Hid ((q == 0) = z) := hid (by
          rw [hf, ← hq, Bool.eq_iff_iff]
          unfold cmpI
          simp only [beq_iff_eq, hiN, decide_true, Bool.true_and, decide_eq_true_eq]
          split <;> (try split) <;> omega)
        clear hc h4 hy hv hb hyn hf hq
        go_wp2_with fail
        refine (cmpr_any y k q Hq.out _).mono ?_
        rintro e w2 ⟨rfl, hg⟩
        have HG2 := hid (grown_trans HR.out.1 hg)
        clear hg
        go_wp2
        go_ret2
        exact ⟨(i : Int), by rw [← Hf.out]; rfl, HG2.out⟩
      · obtain rfl : i = N := by omega
        have Hf : Hid (z = false) := hid (by rw [hf]; simp)
        clear hf hiN
        go_wp2
        go_ret2
        exact ⟨(i : Int), by rw [Hf.out]; rfl, HR.out.1⟩
end Go.Proofs.YteanjchbnaoopaaDoor
namespace Go.Proofs.YteanjchbnaoopaaDoor
open Go.RowKit
section
variable {w : World} {V : OV} {x : PO} {A : Nat → Addr}
theorem has_any9 (h : OAt w V x) (hl : x.Q.length ≤ 1024) (hr : Rising x.Q) (k : Int) (z : Bool) (hz : hasRB x k = z) :
    Calls Tryd.prog 89 #[V.agg, .int .i64 k] w fun e w' => e = .returned (.bool z) ∧ w.grownBy w' none := by
  obtain ⟨d, c, m, r, q, sv⟩ := V
  have HG := hid (World.grownBy_alloc w (.cells #[d, c, m, r, q, sv] 142) none)
  have Hs := hid (search_any (h.kept0 HG.out).q hl hr k z hz)
  clear h hl hr hz
  go_enter Tryd.func89, Tryd.ntmps89
  go_wp2_with fail
  refine Hs.out.mono ?_
  rintro e w2 ⟨i, rfl, hg⟩
  have HG2 := hid (grown_trans HG.out hg)
  clear hg
  go_wp2
  go_ret
  exact ⟨rfl, HG2.out⟩
set_option maxHeartbeats 2000000 in
theorem unrep_any (h : OAt w V x) (he : ErrC w A) (hf : OFit x) (hl : x.M.length = x.C.length) (hq : x.Q.length ≤ 1024) (hr : Rising x.Q) (k : Nat) (hk : k < x.C.length) (rr : Option Nat) (hz : unrF x k = rr) :
    Calls Tryd.prog 68 #[V.agg, .int .i64 k] w fun e w' => e = .returned (evV A rr) ∧ w.grownBy w' none := by
  obtain ⟨d, c, m, r, q, sv⟩ := V
  have HX := hid (Bx.new h he 142 #[d, c, m, r, q, sv])
  obtain ⟨op, Hop⟩ : ∃ op, Hid (opN x k = op) := ⟨_, hid rfl⟩
  obtain ⟨T1, H1⟩ : ∃ T, Hid (brB op = T) := ⟨_, hid rfl⟩
  obtain ⟨T2, H2⟩ : ∃ T, Hid (hasRB x k = T) := ⟨_, hid rfl⟩
  obtain ⟨T3, h3⟩ : ∃ T, (op == 15) = T := ⟨_, rfl⟩
  obtain ⟨T4, H4⟩ : ∃ T, Hid (farB op = T) := ⟨_, hid rfl⟩
  obtain ⟨T5, H5⟩ : ∃ T, Hid (hasRB x ((k : Int) + 1) = T) := ⟨_, hid rfl⟩
  have hz' : (if (T1 = true ∧ T2 = false) ∨ ((T3 = true ∨ T4 = true) ∧ T5 = false) then some 6 else none) = rr := by
    rw [← hz]
    unfold unrF
    rw [Hop.out, H1.out, H2.out, H4.out, ← h3, show ((k + 1 : Nat) : Int) = (k : Int) + 1 by omega, H5.out]
    simp only [beq_iff_eq]
  have HZ := hid hz'
  have HP := hid (And.intro hf (And.intro hl (And.intro hk (And.intro hq hr))))
  have k0 : (0 : Int) ≤ (k : Int) := by omega
  have kl : (k : Int) + 1 ≤ 9223372036854775807 := by have := hf.l.2.1; unfold maxLen at this; omega
  clear h he hf hl hk hq hr hz hz'
  go_enter Tryd.func68, Tryd.ntmps68
  go_upto_region 1 with (fail)
  generalize w.alloc (.cells #[d, c, m, r, q, sv] 142) = w1 at HX ⊢
  go_wp2_with (first
    | (refine wpList_load_rw rfl 142 _ rfl rfl HX.out.box rfl Tryd.underlying142 info_object' ?_)
    | fail)
  refine (op_any HX.out.o HP.out.1 HP.out.2.1 k HP.out.2.2.1 op Hop.out).mono ?_
  rintro e w2 ⟨rfl, hg⟩
  have HX0 := hid (HX.out.kept0 hg)
  clear hg HX
  go_wp2_with fail
  refine (branches_of op T1 H1.out _).mono ?_
  rintro e w3 ⟨rfl, hg⟩
  have HX := hid (HX0.out.kept0 hg)
  clear hg HX0
  cases T1
  · cases T3
    · go_wp2_with fail
      refine (far_of op T4 H4.out _).mono ?_
      rintro e w11 ⟨rfl, hg⟩
      have HX11 := hid (HX.out.kept0 hg)
      clear hg
      cases T4
      · go_wp2
        go_ret
        exact ⟨by rw [← HZ.out]; simp <;> rfl, HX11.out.g⟩
      · go_wp2_with (first
          | (refine wpList_load_rw_d ?_ 25 rfl 142 _ rfl rfl HX11.out.box rfl Tryd.underlying142 info_object' ?_; (kernel_rfl))
          | fail)
        refine (has_any9 HX11.out.o HP.out.2.2.2.1 HP.out.2.2.2.2 ((k : Int) + 1) T5 H5.out).mono ?_
        rintro e w12 ⟨rfl, hg⟩
        have HX12 := hid (HX11.out.kept0 hg)
        clear hg
        cases T5
        · have e6 := HX12.out.e.c6
          unfold errV at e6
          go_wp2
          go_ret
          exact ⟨by rw [← HZ.out]; simp <;> rfl, HX12.out.g⟩
        · go_wp2
          go_ret
          exact ⟨by rw [← HZ.out]; simp <;> rfl, HX12.out.g⟩
    · go_wp2_with (first
        | (refine wpList_load_rw_d ?_ 25 rfl 142 _ rfl rfl HX.out.box rfl Tryd.underlying142 info_object' ?_; (kernel_rfl))
        | fail)
      refine (has_any9 HX.out.o HP.out.2.2.2.1 HP.out.2.2.2.2 ((k : Int) + 1) T5 H5.out).mono ?_
      rintro e w13 ⟨rfl, hg⟩
      have HX13 := hid (HX.out.kept0 hg)
      clear hg
      cases T5
      · have e6 := HX13.out.e.c6
        unfold errV at e6
        go_wp2
        go_ret
        exact ⟨by rw [← HZ.out]; simp <;> rfl, HX13.out.g⟩
      · go_wp2
        go_ret
        exact ⟨by rw [← HZ.out]; simp <;> rfl, HX13.out.g⟩
  · go_wp2_with (first
      | (refine wpList_load_rw_d ?_ 12 rfl 142 _ rfl rfl HX.out.box rfl Tryd.underlying142 info_object' ?_; (kernel_rfl))
      | fail)
    refine (has_any9 HX.out.o HP.out.2.2.2.1 HP.out.2.2.2.2 (k : Int) T2 H2.out).mono ?_
    rintro e w14 ⟨rfl, hg⟩
    have HX14 := hid (HX.out.kept0 hg)
    clear hg
    cases T2
    · have e6 := HX14.out.e.c6
      unfold errV at e6
      go_wp2
      go_ret
      exact ⟨by rw [← HZ.out]; simp <;> rfl, HX14.out.g⟩
    · cases T3
      · go_wp2_with fail
        refine (far_of op T4 H4.out _).mono ?_
        rintro e w15 ⟨rfl, hg⟩
        have HX15 := hid (HX14.out.kept0 hg)
        clear hg
        cases T4
        · go_wp2
          go_ret
          exact ⟨by rw [← HZ.out]; simp <;> rfl, HX15.out.g⟩
        · go_wp2_with (first
            | (refine wpList_load_rw_d ?_ 25 rfl 142 _ rfl rfl HX15.out.box rfl Tryd.underlying142 info_object' ?_; (kernel_rfl))
            | fail)
          refine (has_any9 HX15.out.o HP.out.2.2.2.1 HP.out.2.2.2.2 ((k : Int) + 1) T5 H5.out).mono ?_
          rintro e w16 ⟨rfl, hg⟩
          have HX16 := hid (HX15.out.kept0 hg)
          clear hg
          cases T5
          · have e6 := HX16.out.e.c6
            unfold errV at e6
            go_wp2
            go_ret
            exact ⟨by rw [← HZ.out]; simp <;> rfl, HX16.out.g⟩
          · go_wp2
            go_ret
            exact ⟨by rw [← HZ.out]; simp <;> rfl, HX16.out.g⟩
      · go_wp2_with (first
          | (refine wpList_load_rw_d ?_ 25 rfl 142 _ rfl rfl HX14.out.box rfl Tryd.underlying142 info_object' ?_; (kernel_rfl))
          | fail)
        refine (has_any9 HX14.out.o HP.out.2.2.2.1 HP.out.2.2.2.2 ((k : Int) + 1) T5 H5.out).mono ?_
        rintro e w17 ⟨rfl, hg⟩
        have HX17 := hid (HX14.out.kept0 hg)
        clear hg
        cases T5
        · have e6 := HX17.out.e.c6
          unfold errV at e6
          go_wp2
          go_ret
          exact ⟨by rw [← HZ.out]; simp <;> rfl, HX17.out.g⟩
        · go_wp2
          go_ret
          exact ⟨by rw [← HZ.out]; simp <;> rfl, HX17.out.g⟩
end
end Go.Proofs.YteanjchbnaoopaaDoor
namespace Go.Proofs.YteanjchbnaoopaaDoor
open Go.RowKit
abbrev five (a b c d e : Int) : Value := .agg #[.int .i64 a, .int .i64 b, .int .i64 c, .int .i64 d, .int .i64 e]
def lenV (x : PO) : Value := five x.D.length x.C.length x.R.length x.Q.length x.S.length
section
variable {w : World} {V : OV} {x : PO}
theorem sizes_any (h : OAt w V x) : Calls Tryd.prog 62 #[V.agg] w fun e w' => e = .returned (lenV x) ∧ w.grownBy w' none := by
  obtain ⟨d, c, m, r, q, sv⟩ := V
  obtain ⟨p0, c0, h0⟩ := h.d.len'
  obtain ⟨p1, c1, h1⟩ := h.c.len'
  obtain ⟨p2, c2, h2⟩ := h.r.len
  obtain ⟨p3, c3, h3⟩ := h.q.len
  obtain ⟨p4, c4, h4⟩ := h.s.len
  obtain rfl : d = _ := h0
  obtain rfl : c = _ := h1
  obtain rfl : r = _ := h2
  obtain rfl : q = _ := h3
  obtain rfl : sv = _ := h4
  clear h
  unfold lenV
  have HG := hid (grown_alloc (World.grownBy_alloc w (.cells #[.slice p0 x.D.length c0, .slice p1 x.C.length c1, m, .slice p2 x.R.length c2, .slice p3 x.Q.length c3, .slice p4 x.S.length c4] 52) none) (.cells #[.int .i64 0, .int .i64 0, .int .i64 0, .int .i64 0, .int .i64 0] 140))
  have HX := hid ((RwAt.new w 52 #[.slice p0 x.D.length c0, .slice p1 x.C.length c1, m, .slice p2 x.R.length c2, .slice p3 x.Q.length c3, .slice p4 x.S.length c4]).alloc (.cells #[.int .i64 0, .int .i64 0, .int .i64 0, .int .i64 0, .int .i64 0] 140))
  have HY := hid (RwAt.new2 w (.cells #[.slice p0 x.D.length c0, .slice p1 x.C.length c1, m, .slice p2 x.R.length c2, .slice p3 x.Q.length c3, .slice p4 x.S.length c4] 52) 140 #[.int .i64 0, .int .i64 0, .int .i64 0, .int .i64 0, .int .i64 0])
  go_enter Tryd.func62, Tryd.ntmps62
  go_upto_region 1 with (fail)
  generalize (w.alloc (.cells #[.slice p0 x.D.length c0, .slice p1 x.C.length c1, m, .slice p2 x.R.length c2, .slice p3 x.Q.length c3, .slice p4 x.S.length c4] 52)).alloc (.cells #[.int .i64 0, .int .i64 0, .int .i64 0, .int .i64 0, .int .i64 0] 140) = w1 at HG HX HY ⊢
  obtain ⟨B, hB⟩ : ∃ B, w.heap.size + 1 = B := ⟨_, rfl⟩
  have HB : Hid (w.heap.size ≤ B) := hid (by omega)
  rw [hB] at HY ⊢
  have e0 := HX.out.cell 0 rfl
  have e1 := HX.out.cell 1 rfl
  have e3 := HX.out.cell 3 rfl
  have e4 := HX.out.cell 4 rfl
  have e5 := HX.out.cell 5 rfl
  have E1 := hid (HY.out.row #[.int .i64 x.D.length, .int .i64 x.C.length, .int .i64 x.R.length, .int .i64 x.Q.length, .int .i64 x.S.length])
  have EG := hid (grown_setRow HG.out HB.out #[.int .i64 x.D.length, .int .i64 x.C.length, .int .i64 x.R.length, .int .i64 x.Q.length, .int .i64 x.S.length])
  clear hB
  go_wp2_with (first
    | (refine wpList_store_rw rfl 140 _ _ rfl rfl rfl HY.out (by kernel_rfl) rfl (by simp [Value.oneCell']) ?_)
    | fail)
  refine bodyPost_ret (results_cell_row Tryd.results62 _ _ B _ _ _ _ rfl E1.out.blk Tryd.underlying140 rfl (by kernel_rfl)) rfl ?_
  exact ⟨rfl, EG.out⟩
end
section
variable {ops : Array Oper} {rest : List Oper} {o : Oper} {A : Act} {w : World} {Q : Exit → Act → World → Prop}
/-- an operation that only yields a value, into this slot -/
theorem wpList_yield (k : Nat) (hgd : o.guard = none) (_hk : o.dst = some k) (v : Value) (hr : (execOp A.eval o).run Tryd.prog w = .ok (.value v) w) (h : wpList Tryd.prog ops Q rest (A.put o.dst v) w) : wpList Tryd.prog ops Q (o :: rest) A w := by
  refine wpList_plain hgd fun K hK => ?_
  unfold Oper.wp
  simp [hr, Oper.upon]
  exact hK _ _ h
end
set_option maxRecDepth 100000 in
set_option maxHeartbeats 2000000 in
theorem many_any (a b c d e : Int) (w : World) (z : Bool) (hz : decide (2048 < a ∨ 2048 < b ∨ 1024 < c ∨ 1024 < d ∨ 256 < e) = z) :
    Calls Tryd.prog 63 #[five a b c d e] w fun e w' => e = .returned (.bool z) ∧ w.grownBy w' none := by
  have Hz := hid hz
  have HG := hid (World.grownBy_alloc w (.cells #[.int .i64 a, .int .i64 b, .int .i64 c, .int .i64 d, .int .i64 e] 140) none)
  have HX := hid (RwAt.new w 140 #[.int .i64 a, .int .i64 b, .int .i64 c, .int .i64 d, .int .i64 e])
  clear hz
  go_enter Tryd.func63, Tryd.ntmps63
  go_upto_region 1 with (fail)
  generalize w.alloc (.cells #[.int .i64 a, .int .i64 b, .int .i64 c, .int .i64 d, .int .i64 e] 140) = w1 at HG HX ⊢
  have e0 := HX.out.cell 0 rfl
  have e1 := HX.out.cell 1 rfl
  have e2 := HX.out.cell 2 rfl
  have e3 := HX.out.cell 3 rfl
  have e4 := HX.out.cell 4 rfl
  go_wp2
  go_loopw [6] (fun i wr => ∃ k : Nat, k ≤ 5 ∧ i = .int .i64 k ∧ wr = w1 ∧ Hid ((0 < k → a ≤ 2048) ∧ (1 < k → b ≤ 2048) ∧ (2 < k → c ≤ 1024) ∧ (3 < k → d ≤ 1024) ∧ (4 < k → e ≤ 256))) (fun i _ => 5 - (intOf i).toNat)
  case atStart => exact ⟨0, Nat.zero_le _, rfl, rfl, hid ⟨by omega, by omega, by omega, by omega, by omega⟩⟩
  case round =>
    obtain ⟨k, hk, rfl, rfl, HR⟩ := hrel
    rcases (show k = 0 ∨ k = 1 ∨ k = 2 ∨ k = 3 ∨ k = 4 ∨ k = 5 by omega) with rfl | rfl | rfl | rfl | rfl | rfl
    · by_cases hb : a > 2048
      · have HB := hid hb
        go_wp2_with (first | (refine wpList_yield 9 rfl rfl (.int .i64 2048) (by kernel_rfl) ?_) | fail)
        go_ret
        refine ⟨ret_b ?_, HG.out⟩
        rw [← Hz.out, eq_comm, decide_eq_true_eq]
        have := HB.out
        omega
      · have HB := hid hb
        go_wp2_with (first | (refine wpList_yield 9 rfl rfl (.int .i64 2048) (by kernel_rfl) ?_) | fail)
        go_roundw
        case rel =>
          refine ⟨1, by omega, by go_num, by first | rfl | trivial, hid ?_⟩
          have h1 := HB.out
          have h2 := HR.out
          omega
        case measure => simp [intOf]
    · by_cases hb : b > 2048
      · have HB := hid hb
        go_wp2_with (first | (refine wpList_yield 9 rfl rfl (.int .i64 2048) (by kernel_rfl) ?_) | fail)
        go_ret
        refine ⟨ret_b ?_, HG.out⟩
        rw [← Hz.out, eq_comm, decide_eq_true_eq]
        have := HB.out
        omega
      · have HB := hid hb
        go_wp2_with (first | (refine wpList_yield 9 rfl rfl (.int .i64 2048) (by kernel_rfl) ?_) | fail)
        go_roundw
        case rel =>
          refine ⟨2, by omega, by go_num, by first | rfl | trivial, hid ?_⟩
          have h1 := HB.out
          have h2 := HR.out
          omega
        case measure => simp [intOf]
    · by_cases hb : c > 1024
      · have HB := hid hb
        go_wp2_with (first | (refine wpList_yield 9 rfl rfl (.int .i64 1024) (by kernel_rfl) ?_) | fail)
        go_ret
        refine ⟨ret_b ?_, HG.out⟩
        rw [← Hz.out, eq_comm, decide_eq_true_eq]
        have := HB.out
        omega
      · have HB := hid hb
        go_wp2_with (first | (refine wpList_yield 9 rfl rfl (.int .i64 1024) (by kernel_rfl) ?_) | fail)
        go_roundw
        case rel =>
          refine ⟨3, by omega, by go_num, by first | rfl | trivial, hid ?_⟩
          have h1 := HB.out
          have h2 := HR.out
          omega
        case measure => simp [intOf]
    · by_cases hb : d > 1024
      · have HB := hid hb
        go_wp2_with (first | (refine wpList_yield 9 rfl rfl (.int .i64 1024) (by kernel_rfl) ?_) | fail)
        go_ret
        refine ⟨ret_b ?_, HG.out⟩
        rw [← Hz.out, eq_comm, decide_eq_true_eq]
        have := HB.out
        omega
      · have HB := hid hb
        go_wp2_with (first | (refine wpList_yield 9 rfl rfl (.int .i64 1024) (by kernel_rfl) ?_) | fail)
        go_roundw
        case rel =>
          refine ⟨4, by omega, by go_num, by first | rfl | trivial, hid ?_⟩
          have h1 := HB.out
          have h2 := HR.out
          omega
        case measure => simp [intOf]
    · by_cases hb : e > 256
      · have HB := hid hb
        go_wp2_with (first | (refine wpList_yield 9 rfl rfl (.int .i64 256) (by kernel_rfl) ?_) | fail)
        go_ret
        refine ⟨ret_b ?_, HG.out⟩
        rw [← Hz.out, eq_comm, decide_eq_true_eq]
        have := HB.out
        omega
      · have HB := hid hb
        go_wp2_with (first | (refine wpList_yield 9 rfl rfl (.int .i64 256) (by kernel_rfl) ?_) | fail)
        go_roundw
        case rel =>
          refine ⟨5, by omega, by go_num, by first | rfl | trivial, hid ?_⟩
          have h1 := HB.out
          have h2 := HR.out
          omega
        case measure => simp [intOf]
    · go_wp2
      go_ret
      refine ⟨ret_b ?_, HG.out⟩
      rw [← Hz.out, eq_comm, decide_eq_false_iff_not]
      have := HR.out
      omega
end Go.Proofs.YteanjchbnaoopaaDoor

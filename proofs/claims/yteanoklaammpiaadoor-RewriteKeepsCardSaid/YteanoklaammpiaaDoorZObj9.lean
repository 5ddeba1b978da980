/- What is wrong with a relocation (package obj): contracts. (Made by gobj9.py.) -/
import Derived.Test.YteanoklaammpiaaDoorZObj8
namespace Go.Proofs.YteanoklaammpiaaDoor
open Go.RowKit
theorem in_parts {x : PO} {l : List Rl} {k : Nat} {n : Int} (h : inB x l k n = true) {y : Rl} (hy : l[k]? = some y) : ∃ i j : Nat, y.s = i ∧ i < x.S.length ∧ y.a = j ∧ (j : Int) < n := by
  have hyn : rlN l k = y := by unfold rlN; rw [List.getD_eq_getElem?_getD, hy]; rfl
  unfold inB at h
  rw [hyn] at h
  have h := of_decide_eq_true h
  exact ⟨y.s.toNat, y.a.toNat, by omega, by omega, by omega, by omega⟩
section
variable {w : World} {V : OV} {x : PO} {A : Nat → Addr}
set_option maxHeartbeats 2000000 in
theorem dataReloc_any (h : OAt w V x) (he : ErrC w A) (hf : OFit x) (hl : x.M.length = x.C.length) (k : Nat) (hk : k < x.R.length) (rr : Option Nat) (hr : dataF x k = rr) :
    Calls Tryd.prog 41 #[V.agg, .int .i64 k] w fun e w' => e = .returned (evV A rr) ∧ w.grownBy w' none := by
  obtain ⟨d, c, m, r, q, sv⟩ := V
  obtain ⟨⟨a, kd, sm, ad⟩, hy⟩ : ∃ y, x.R[k]? = some y := ⟨_, List.getElem?_eq_getElem hk⟩
  have hyn : rlN x.R k = ⟨a, kd, sm, ad⟩ := by unfold rlN; rw [List.getD_eq_getElem?_getD, hy]; rfl
  obtain ⟨pw, cw, hw⟩ := h.d.len'
  obtain rfl : d = _ := hw
  obtain ⟨b, o, cp, hv, _, hb, hc⟩ := h.r.at_ (by omega)
  obtain rfl : r = _ := hv
  have HX := hid (Bx.new h he 87 #[.slice pw x.D.length cw, c, m, .slice (some ⟨b, o, none⟩) x.R.length cp, q, sv])
  have h4 := (RlAt.cells hc hy).kept0 HX.out.g
  have k0 : (0 : Int) ≤ (k : Int) := by omega
  have kn : (k : Int) < (x.R.length : Int) := by omega
  have HP := hid (And.intro hf (And.intro hl (And.intro hk (And.intro hf.l.2.2.2.1 hy))))
  obtain ⟨T, hT⟩ : ∃ T, inB x x.R k x.D.length = T := ⟨_, rfl⟩
  have HT := hid hT
  unfold dataF at hr
  rw [hyn, hT] at hr
  have HR := hid hr
  clear h he hf hl hc hr hT hyn hk hy
  go_enter Tryd.func41, Tryd.ntmps41
  go_upto_region 1 with (fail)
  generalize w.alloc (.cells #[.slice pw x.D.length cw, c, m, .slice (some ⟨b, o, none⟩) x.R.length cp, q, sv] 87) = w1 at HX h4 ⊢
  have f3 := HX.out.box.cell 3 rfl
  have e0 := h4.c0
  have e1 := h4.c1
  have e2 := h4.c2
  have e3 := h4.c3
  clear h4
  go_upto_region 2 with (fail)
  have HX2 := hid (HX.out.alloc (.cells #[.int .i64 a, .int .i64 kd, .int .i64 sm, .int .i64 ad] 81))
  have HY := hid (RwAt.new w1 81 #[.int .i64 a, .int .i64 kd, .int .i64 sm, .int .i64 ad])
  obtain ⟨B, hB⟩ : ∃ B, w1.heap.size = B := ⟨_, rfl⟩
  rw [hB] at HY ⊢
  clear f3 e0 e1 e2 e3 HX
  generalize w1.alloc (.cells #[.int .i64 a, .int .i64 kd, .int .i64 sm, .int .i64 ad] 81) = w2 at HX2 HY ⊢
  have f3 := HX2.out.box.cell 3 rfl
  have f0 := HX2.out.box.cell 0 rfl
  go_wp2_with (first
    | (refine wpList_load_rw rfl 87 _ rfl rfl HX2.out.box rfl Tryd.underlying87 info_object' ?_)
    | fail)
  refine (range_any HX2.out.o HX2.out.o.r k HP.out.2.2.1 HP.out.2.2.2.1 _ T HT.out).mono ?_
  rintro e w3 ⟨rfl, hg⟩
  have HX3 := hid (HX2.out.kept0 hg)
  have HY3 := hid (HY.out.kept0 hg)
  clear hg HX2 HY f3 f0
  have g1 := HY3.out.cell 1 rfl
  cases T
  · have e2 := HX3.out.e.c2
    unfold errV at e2
    go_wp2
    go_ret
    exact ⟨by rw [← HR.out]; rfl, HX3.out.g⟩
  · by_cases hk1 : kd = 1
    · have z1 : (kd != 1) = false := by simpa using hk1
      have hr' := HR.out
      have HZ := hid hr'
      clear hr'
      obtain ⟨i, j, hi, his, hj, hjs⟩ := in_parts HT.out HP.out.2.2.2.2
      have HI := hid (And.intro hi (And.intro his (And.intro hj hjs)))
      have HN := hid (show ¬(true = false ∨ kd ≠ 1) by simp; omega)
      clear hi his hj hjs hk1
      go_wp2_with (first
        | (refine wpList_load_rw rfl 87 _ rfl rfl HX3.out.box rfl Tryd.underlying87 info_object' ?_)
        | (refine wpList_load_rw rfl 81 _ rfl rfl HY3.out rfl Tryd.underlying81 info_rel ?_)
        | fail)
      obtain ⟨U, HU⟩ : ∃ U, Hid (outB x ⟨a, kd, sm, ad⟩ = U) := ⟨_, hid rfl⟩
      refine (adds_any HX3.out.o ⟨a, kd, sm, ad⟩ i HI.out.1 HI.out.2.1 U HU.out).mono ?_
      rintro e w9 ⟨rfl, hg⟩
      have HX9 := hid (HX3.out.kept0 hg)
      clear hg
      cases U
      · go_wp2
        go_ret
        exact ⟨by rw [← HZ.out, if_neg HN.out, HU.out]; simp <;> rfl, HX9.out.g⟩
      · have e1 := HX9.out.e.c1
        unfold errV at e1
        go_wp2
        go_ret
        exact ⟨by rw [← HZ.out, if_neg HN.out, HU.out]; simp <;> rfl, HX9.out.g⟩
    · have z1 : (kd != 1) = true := by simpa using hk1
      have HK := hid hk1
      have e2 := HX3.out.e.c2
      unfold errV at e2
      clear hk1
      go_wp2
      go_ret
      exact ⟨by rw [← HR.out]; simp [HK.out] <;> rfl, HX3.out.g⟩
set_option maxHeartbeats 2000000 in
theorem codeReloc_any (h : OAt w V x) (he : ErrC w A) (hf : OFit x) (hl : x.M.length = x.C.length) (k : Nat) (hk : k < x.Q.length) (rr : Option Nat) (hr : codeF x k = rr) :
    Calls Tryd.prog 42 #[V.agg, .int .i64 k] w fun e w' => e = .returned (evV A rr) ∧ w.grownBy w' none := by
  obtain ⟨d, c, m, r, q, sv⟩ := V
  obtain ⟨⟨a, kd, sm, ad⟩, hy⟩ : ∃ y, x.Q[k]? = some y := ⟨_, List.getElem?_eq_getElem hk⟩
  have hyn : rlN x.Q k = ⟨a, kd, sm, ad⟩ := by unfold rlN; rw [List.getD_eq_getElem?_getD, hy]; rfl
  obtain ⟨pw, cw, hw⟩ := h.c.len'
  obtain rfl : c = _ := hw
  obtain ⟨b, o, cp, hv, _, hb, hc⟩ := h.q.at_ (by omega)
  obtain rfl : q = _ := hv
  have HX := hid (Bx.new h he 87 #[d, .slice pw x.C.length cw, m, r, .slice (some ⟨b, o, none⟩) x.Q.length cp, sv])
  have h4 := (RlAt.cells hc hy).kept0 HX.out.g
  have k0 : (0 : Int) ≤ (k : Int) := by omega
  have kn : (k : Int) < (x.Q.length : Int) := by omega
  have HP := hid (And.intro hf (And.intro hl (And.intro hk (And.intro hf.l.2.2.2.2.1 hy))))
  obtain ⟨T, hT⟩ : ∃ T, inB x x.Q k x.C.length = T := ⟨_, rfl⟩
  have HT := hid hT
  unfold codeF at hr
  rw [hyn, hT] at hr
  have HR := hid hr
  clear h he hf hl hc hr hT hyn hk hy
  go_enter Tryd.func42, Tryd.ntmps42
  go_upto_region 1 with (fail)
  generalize w.alloc (.cells #[d, .slice pw x.C.length cw, m, r, .slice (some ⟨b, o, none⟩) x.Q.length cp, sv] 87) = w1 at HX h4 ⊢
  have f4 := HX.out.box.cell 4 rfl
  have e0 := h4.c0
  have e1 := h4.c1
  have e2 := h4.c2
  have e3 := h4.c3
  clear h4
  go_upto_region 2 with (fail)
  have HX2 := hid (HX.out.alloc (.cells #[.int .i64 a, .int .i64 kd, .int .i64 sm, .int .i64 ad] 81))
  have HY := hid (RwAt.new w1 81 #[.int .i64 a, .int .i64 kd, .int .i64 sm, .int .i64 ad])
  obtain ⟨B, hB⟩ : ∃ B, w1.heap.size = B := ⟨_, rfl⟩
  rw [hB] at HY ⊢
  clear f4 e0 e1 e2 e3 HX
  generalize w1.alloc (.cells #[.int .i64 a, .int .i64 kd, .int .i64 sm, .int .i64 ad] 81) = w2 at HX2 HY ⊢
  have f4 := HX2.out.box.cell 4 rfl
  have f1 := HX2.out.box.cell 1 rfl
  go_wp2_with (first
    | (refine wpList_load_rw rfl 87 _ rfl rfl HX2.out.box rfl Tryd.underlying87 info_object' ?_)
    | fail)
  refine (range_any HX2.out.o HX2.out.o.q k HP.out.2.2.1 HP.out.2.2.2.1 _ T HT.out).mono ?_
  rintro e w3 ⟨rfl, hg⟩
  have HX3 := hid (HX2.out.kept0 hg)
  have HY3 := hid (HY.out.kept0 hg)
  clear hg HX2 HY f4 f1
  have g1 := HY3.out.cell 1 rfl
  cases T
  · have e2 := HX3.out.e.c2
    unfold errV at e2
    go_wp2
    go_ret
    exact ⟨by rw [← HR.out]; rfl, HX3.out.g⟩
  · by_cases hk1 : kd = 1 ∨ kd = 2
    · have z1 : (kd != 1) = false ∨ ((kd != 1) = true ∧ (kd != 2) = false) := by rcases hk1 with h | h <;> simp [h]
      rcases z1 with z1 | ⟨z1, z2⟩
      · have hr' := HR.out
        have HZ := hid hr'
        clear hr'
        obtain ⟨i, j, hi, his, hj, hjs⟩ := in_parts HT.out HP.out.2.2.2.2
        have HI := hid (And.intro hi (And.intro his (And.intro hj hjs)))
        have HN := hid (show ¬(true = false ∨ (kd ≠ 1 ∧ kd ≠ 2)) by simp; omega)
        clear hi his hj hjs hk1
        go_wp2_with (first
          | (refine wpList_load_rw rfl 87 _ rfl rfl HX3.out.box rfl Tryd.underlying87 info_object' ?_)
          | (refine wpList_load_rw rfl 81 _ rfl rfl HY3.out rfl Tryd.underlying81 info_rel ?_)
          | fail)
        obtain ⟨Z, HZZ⟩ : ∃ Z, Hid (repB x ⟨a, kd, sm, ad⟩ = Z) := ⟨_, hid rfl⟩
        refine (repairs_any HX3.out.o HX3.out.e HP.out.1 HP.out.2.1 ⟨a, kd, sm, ad⟩ i j HI.out.1 HI.out.2.1 HI.out.2.2.1 (by have := HI.out.2.2.2; omega) Z HZZ.out).mono ?_
        rintro e w4 ⟨rfl, hg⟩
        have HX4 := hid (HX3.out.kept0 hg)
        have HY4 := hid (HY3.out.kept0 hg)
        clear hg HX3 HY3 g1
        cases Z
        · have e1 := HX4.out.e.c1
          unfold errV at e1
          go_wp2
          go_ret
          exact ⟨by rw [← HZ.out, if_neg HN.out, HZZ.out]; simp <;> rfl, HX4.out.g⟩
        · go_wp2_with (first
            | (refine wpList_load_rw rfl 87 _ rfl rfl HX4.out.box rfl Tryd.underlying87 info_object' ?_)
            | (refine wpList_load_rw_g ?_ 87 _ rfl rfl HX4.out.box rfl Tryd.underlying87 info_object' ?_; (kernel_rfl))
            | (refine wpList_load_rw_g ?_ 81 _ rfl rfl HY4.out rfl Tryd.underlying81 info_rel ?_; (kernel_rfl))
            | fail)
          obtain ⟨U, HU⟩ : ∃ U, Hid (outB x ⟨a, kd, sm, ad⟩ = U) := ⟨_, hid rfl⟩
          refine (adds_any HX4.out.o ⟨a, kd, sm, ad⟩ i HI.out.1 HI.out.2.1 U HU.out).mono ?_
          rintro e w9 ⟨rfl, hg⟩
          have HX9 := hid (HX4.out.kept0 hg)
          clear hg
          cases U
          · go_wp2
            go_ret
            exact ⟨by rw [← HZ.out, if_neg HN.out, HU.out, HZZ.out]; simp <;> rfl, HX9.out.g⟩
          · have e1 := HX9.out.e.c1
            unfold errV at e1
            go_wp2
            go_ret
            exact ⟨by rw [← HZ.out, if_neg HN.out, HU.out, HZZ.out]; simp <;> rfl, HX9.out.g⟩
      · have hr' := HR.out
        have HZ := hid hr'
        clear hr'
        obtain ⟨i, j, hi, his, hj, hjs⟩ := in_parts HT.out HP.out.2.2.2.2
        have HI := hid (And.intro hi (And.intro his (And.intro hj hjs)))
        have HN := hid (show ¬(true = false ∨ (kd ≠ 1 ∧ kd ≠ 2)) by simp; omega)
        clear hi his hj hjs hk1
        go_wp2_with (first
          | (refine wpList_load_rw rfl 87 _ rfl rfl HX3.out.box rfl Tryd.underlying87 info_object' ?_)
          | (refine wpList_load_rw rfl 81 _ rfl rfl HY3.out rfl Tryd.underlying81 info_rel ?_)
          | fail)
        obtain ⟨Z, HZZ⟩ : ∃ Z, Hid (repB x ⟨a, kd, sm, ad⟩ = Z) := ⟨_, hid rfl⟩
        refine (repairs_any HX3.out.o HX3.out.e HP.out.1 HP.out.2.1 ⟨a, kd, sm, ad⟩ i j HI.out.1 HI.out.2.1 HI.out.2.2.1 (by have := HI.out.2.2.2; omega) Z HZZ.out).mono ?_
        rintro e w4 ⟨rfl, hg⟩
        have HX4 := hid (HX3.out.kept0 hg)
        have HY4 := hid (HY3.out.kept0 hg)
        clear hg HX3 HY3 g1
        cases Z
        · have e1 := HX4.out.e.c1
          unfold errV at e1
          go_wp2
          go_ret
          exact ⟨by rw [← HZ.out, if_neg HN.out, HZZ.out]; simp <;> rfl, HX4.out.g⟩
        · go_wp2_with (first
            | (refine wpList_load_rw rfl 87 _ rfl rfl HX4.out.box rfl Tryd.underlying87 info_object' ?_)
            | (refine wpList_load_rw_g ?_ 87 _ rfl rfl HX4.out.box rfl Tryd.underlying87 info_object' ?_; (kernel_rfl))
            | (refine wpList_load_rw_g ?_ 81 _ rfl rfl HY4.out rfl Tryd.underlying81 info_rel ?_; (kernel_rfl))
            | fail)
          obtain ⟨U, HU⟩ : ∃ U, Hid (outB x ⟨a, kd, sm, ad⟩ = U) := ⟨_, hid rfl⟩
          refine (adds_any HX4.out.o ⟨a, kd, sm, ad⟩ i HI.out.1 HI.out.2.1 U HU.out).mono ?_
          rintro e w9 ⟨rfl, hg⟩
          have HX9 := hid (HX4.out.kept0 hg)
          clear hg
          cases U
          · go_wp2
            go_ret
            exact ⟨by rw [← HZ.out, if_neg HN.out, HU.out, HZZ.out]; simp <;> rfl, HX9.out.g⟩
          · have e1 := HX9.out.e.c1
            unfold errV at e1
            go_wp2
            go_ret
            exact ⟨by rw [← HZ.out, if_neg HN.out, HU.out, HZZ.out]; simp <;> rfl, HX9.out.g⟩
    · have z1 : (kd != 1) = true := by simp; intro h; exact hk1 (.inl h)
      have z2 : (kd != 2) = true := by simp; intro h; exact hk1 (.inr h)
      have HK := hid (not_or.1 hk1)
      have e2 := HX3.out.e.c2
      unfold errV at e2
      clear hk1
      go_wp2
      go_ret
      exact ⟨by rw [← HR.out]; simp [HK.out] <;> rfl, HX3.out.g⟩
end
end Go.Proofs.YteanoklaammpiaaDoor

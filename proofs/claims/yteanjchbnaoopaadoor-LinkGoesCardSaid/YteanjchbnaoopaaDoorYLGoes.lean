/- LinkGoes: the walk. (Made by golgoes.py.) -/
import Derived.Test.YteanjchbnaoopaaDoorYLnk17
import Derived.Test.YteanjchbnaoopaaDoorYLnkX
import Derived.Test.YteanjchbnaoopaaDoorYObj13
import Derived.Test.YteanjchbnaoopaaDoorYRewP
import Derived.BigQuiet
namespace Go.Proofs.YteanjchbnaoopaaDoor
open Go.RowKit
/-- the image that was linked, in its box -/
structure GoA (w : World) (X : Nat) (cs : Array Value) (vD vC vd vp vs : Value) (I : Im) : Prop where
  bx : RwAt w X 29 cs
  D : SlAt w .u32 vD I.D
  C : SlAt w .u32 vC I.C
  d : SlAt w .i64 vd I.dr
  p : SlAt w .i64 vp I.pl
  s : SlAt w .i64 vs I.st
theorem GoA.kept0 {w w1 : World} {X : Nat} {cs : Array Value} {vD vC vd vp vs : Value} {I : Im} (h : GoA w X cs vD vC vd vp vs I) (hg : w.grownBy w1 none) : GoA w1 X cs vD vC vd vp vs I :=
  ⟨h.bx.kept0 hg, h.D.kept0 hg, h.C.kept0 hg, h.d.kept0 hg, h.p.kept0 hg, h.s.kept0 hg⟩
theorem zero_insG (w : World) : (zeroValue 36).run Tryd.prog w = .ok (.agg #[.int .i64 0, .int .i64 0, .int .i64 0, .int .i64 0, .int .u32 0]) w := by kernel_rfl
theorem disp_as {c : Int} (h0 : 0 ≤ c) (h1 : c < 256) : (c + 128) % 256 - 128 = if c < 128 then c else c - 256 := by split <;> omega
theorem light_b {x : PO} {n : Int} (h : LightP x n) (hn : n ≤ 1000) (hf : OFit x) (hq : ∀ r ∈ x.Q, RlBd r) : ObB x := by
  obtain ⟨a, b, c, d, e, f⟩ := h
  exact ⟨hf, by omega, hq⟩
set_option maxRecDepth 100000 in
set_option maxHeartbeats 32000000 in
theorem lgoes_walk {W : World} {v : Value} {L : List Ob} {A : Nat → Addr} (h : ObsAt W v L) (hf : ∀ o ∈ L, OFit o.x ∧ ∀ r ∈ o.x.Q, RlBd r) (hl : L.length ≤ maxLen) (he : ErrC W A)
    (hfirst : Calls Tryd.prog 5 #[] W fun e w' => e = .returned (.bool true) ∧ W.grownBy w' none) :
    Calls Tryd.prog 3 #[v] W fun e w' => e = .returned (.bool true) ∧ W.grownBy w' none := by
  have HO := hid h
  have HF := hid hf
  have HE := hid he
  have HL := hid hl
  have H1 := hid hfirst
  clear h hf he hl hfirst
  go_enter Tryd.func3, Tryd.ntmps3
  go_wp2_with fail
  refine H1.out.mono ?_
  rintro e w1 ⟨rfl, hg⟩
  have HG1 := hid hg
  clear hg H1
  go_wp2_with fail
  refine (objects_any (HO.out.kept0 HG1.out) (fun o ho => (HF.out o ho).1) 4 150 (by omega) (by omega) (by omega) HL.out).mono ?_
  rintro e w2 ⟨⟨b, rfl, hb⟩, hg⟩
  have HG2 := hid (grown_trans HG1.out hg)
  have Hb := hid hb
  clear hg hb HG1
  cases b with
  | false =>
    go_wp2
    go_ret
    exact ⟨rfl, HG2.out⟩
  | true =>
    have HB : Hid (L.length ≤ 4 ∧ ∀ o ∈ L, ObB o.x) := hid ⟨by have := (Hb.out rfl).1; omega, fun o ho => light_b ((Hb.out rfl).2 o ho) (by omega) (HF.out o ho).1 (HF.out o ho).2⟩
    clear Hb
    go_wp2_with fail
    refine (link_any (HO.out.kept0 HG2.out) (HE.out.kept0 HG2.out) HB.out.2 (by have := HB.out.1; omega)).mono ?_
    rintro e w3 hJ
    unfold LinkAt at hJ
    have Hzi := zero_image
    cases hjp : joinP (L.map (·.x)) with
    | mk f J =>
      rw [hjp] at hJ
      cases f with
      | some f =>
        obtain ⟨u, rfl, hne, hlft, hg⟩ := hJ
        obtain ⟨ut, up, rfl, hnn⟩ := lft_is_e hlft
        have hal := World.grownBy_alloc w3 (.cells #[.int .u32 0, .slice none 0 0, .slice none 0 0, .slice none 0 0, .slice none 0 0, .slice none 0 0] 29) none
        have HG3 := hid (grown_trans HG2.out (grown_trans hg hal))
        have HX := hid (RwAt.new w3 29 #[.int .u32 0, .slice none 0 0, .slice none 0 0, .slice none 0 0, .slice none 0 0, .slice none 0 0])
        clear hal hlft hne hg hjp HG2
        go_upto_region 8 with (fail)
        have x2 := HX.out.cell 2 (v := .slice none 0 0) rfl
        go_wp2
        go_ret
        exact ⟨rfl, HG3.out⟩
      | none =>
        obtain ⟨K, hK, hJ⟩ := hJ
        by_cases hlg : lngB (whP J) K = true
        · rw [if_pos hlg] at hJ
          obtain ⟨rfl, hg⟩ := hJ
          have hal := World.grownBy_alloc w3 (.cells #[.int .u32 0, .slice none 0 0, .slice none 0 0, .slice none 0 0, .slice none 0 0, .slice none 0 0] 29) none
          have HG3 := hid (grown_trans HG2.out (grown_trans hg hal))
          have HX := hid (RwAt.new w3 29 #[.int .u32 0, .slice none 0 0, .slice none 0 0, .slice none 0 0, .slice none 0 0, .slice none 0 0])
          have hnn : ∀ W : World, (binOp .neq 31 (errV (A 3)) .nilIface).run Tryd.prog W = .ok (.bool true) W := fun W => run_err_neq_nil (A 3) W
          clear hal hg hjp hK hlg HG2
          unfold errV at *
          go_upto_region 8 with (fail)
          have x2 := HX.out.cell 2 (v := .slice none 0 0) rfl
          go_wp2
          go_ret
          exact ⟨rfl, HG3.out⟩
        · rw [if_neg hlg] at hJ
          obtain ⟨P, hOF, v1, vC, vd, vp, vs, rfl, hro, hg⟩ := hJ
          have hG1 := goes_pl P
          have hG2 := goes_dr P
          have hG3 := goes_st P (whP_words hOF)
          have hG4 := goes_e P
          have hG5 : (imgP J K).D.length ≤ 2048 ∧ (imgP J K).C.length ≤ 2048 := by
            have h1 := img_Cl P
            have h2 := P.bd
            have h3 : (imgP J K).D.length = (whP J).D.length := by unfold imgP; rw [imP_is]; exact set_length _ _
            omega
          have hG6 : (imgP J K).st.length ≤ 2048 ∧ (imgP J K).pl.length ≤ 1000000 ∧ (imgP J K).dr.length ≤ 1000000 := by
            have h1 := P.inc.ge (Nat.le_refl _)
            have h2 := P.bd.1
            have h3 := imS_length (whP J) (plcP J K) (whP J).C.length
            have h4 := whP_Ql P.h (joinP_len hjp)
            have h5 : (whP J).R.length ≤ 1000000 := (P.imq hOF (joinP_len hjp)).rl
            unfold imgP
            rw [imP_is]
            refine ⟨by simp only; omega, ?_, ?_⟩
            · have : ∀ Q : List Fx, (Q.flatMap (pfx (plcP J K))).length ≤ Q.length := by
                intro Q
                induction Q with
                | nil => simp
                | cons r Q ih =>
                  have : (pfx (plcP J K) r).length ≤ 1 := by unfold pfx; split <;> split <;> simp
                  rw [List.flatMap_cons, List.length_append, List.length_cons]; omega
              have := this (whP J).Q
              simp only; omega
            · have : ∀ Q : List Fx, (Q.flatMap (fun r : Fx => if r.t.i = 2 then [r.a] else [])).length ≤ Q.length := by
                intro Q
                induction Q with
                | nil => simp
                | cons r Q ih =>
                  have : (if r.t.i = 2 then [r.a] else []).length ≤ 1 := by split <;> simp
                  rw [List.flatMap_cons, List.length_append, List.length_cons]; omega
              have := this (whP J).R
              simp only; omega
          have hG7 : ∀ z ∈ (imgP J K).st, 0 ≤ z ∧ z < 2048 := fun z hz => by
            obtain ⟨k, hk, _, rfl⟩ := (img_st z).1 hz
            exact P.up hk
          obtain ⟨I, hI⟩ : ∃ I, imgP J K = I := ⟨_, rfl⟩
          rw [hI] at hG1 hG2 hG3 hG4 hG5 hG6 hG7 hro ⊢
          clear hI
          obtain ⟨e0, he0⟩ : ∃ e, I.e = e := ⟨_, rfl⟩
          rw [he0] at hG4 ⊢
          have r1 := hro ⟨v1, 25, 1, I.D.length, I.D.map (Value.int .u32)⟩ (by simp [imRo])
          have r2 := hro ⟨vC, 25, 1, I.C.length, I.C.map (Value.int .u32)⟩ (by simp [imRo])
          have r3 := hro ⟨vd, 3, 1, I.dr.length, I.dr.map (Value.int .i64)⟩ (by simp [imRo])
          have r4 := hro ⟨vp, 3, 1, I.pl.length, I.pl.map (Value.int .i64)⟩ (by simp [imRo])
          have r5 := hro ⟨vs, 3, 1, I.st.length, I.st.map (Value.int .i64)⟩ (by simp [imRo])
          simp only at r1 r2 r3 r4 r5
          obtain ⟨pD, cD, e1⟩ := own_slice r1
          obtain ⟨pC, cC, e2⟩ := own_slice r2
          obtain ⟨pd, cd, e3⟩ := own_slice r3
          obtain ⟨pp, cp, e4⟩ := own_slice r4
          obtain ⟨ps, cs, e5⟩ := own_slice r5
          have s1 := SlAt.own r1
          have s2 := SlAt.own r2
          have s3 := SlAt.own r3
          have s4 := SlAt.own r4
          have s5 := SlAt.own r5
          obtain ⟨nD, hnD⟩ : ∃ n, I.D.length = n := ⟨_, rfl⟩
          obtain ⟨m, hm⟩ : ∃ n, I.C.length = n := ⟨_, rfl⟩
          obtain ⟨nd, hnd⟩ : ∃ n, I.dr.length = n := ⟨_, rfl⟩
          obtain ⟨np, hnp⟩ : ∃ n, I.pl.length = n := ⟨_, rfl⟩
          obtain ⟨ns, hns⟩ : ∃ n, I.st.length = n := ⟨_, rfl⟩
          rw [hnD] at e1
          rw [hm] at e2
          rw [hnd] at e3
          rw [hnp] at e4
          rw [hns] at e5
          subst e1 e2 e3 e4 e5
          have HnD := hid hnD
          have Hm := hid hm
          have Hnd := hid hnd
          have Hnp := hid hnp
          have Hns := hid hns
          have hal := World.grownBy_alloc w3 (.cells #[.int .u32 e0, .slice pD nD cD, .slice pC m cC, .slice pd nd cd, .slice pp np cp, .slice ps ns cs] 29) none
          have HG3 := hid (grown_trans HG2.out (grown_trans hg hal))
          have HA : Hid (GoA (w3.alloc (.cells #[.int .u32 e0, .slice pD nD cD, .slice pC m cC, .slice pd nd cd, .slice pp np cp, .slice ps ns cs] 29)) w3.heap.size #[.int .u32 e0, .slice pD nD cD, .slice pC m cC, .slice pd nd cd, .slice pp np cp, .slice ps ns cs] (.slice pD nD cD) (.slice pC m cC) (.slice pd nd cd) (.slice pp np cp) (.slice ps ns cs) I) := hid ⟨RwAt.new w3 _ _, s1.kept0 hal, s2.kept0 hal, s3.kept0 hal, s4.kept0 hal, s5.kept0 hal⟩
          have P1 := hid hG1
          have P2 := hid hG2
          have P3 := hid hG3
          have P4 := hid hG4
          have P7 := hid hG7
          have Pl : Hid (nD ≤ 2048 ∧ m ≤ 2048 ∧ nd ≤ 1000000 ∧ np ≤ 1000000 ∧ ns ≤ 2048) := hid (by omega)
          have nD0 : (0 : Int) ≤ (nD : Int) := by omega
          have nD1 : (nD : Int) ≤ 2048 := by have := Pl.out; omega
          have m0 : (0 : Int) ≤ (m : Int) := by omega
          have m1 : (m : Int) ≤ 2048 := by have := Pl.out; omega
          have nd0 : (0 : Int) ≤ (nd : Int) := by omega
          have nd1 : (nd : Int) ≤ 1000000 := by have := Pl.out; omega
          have np0 : (0 : Int) ≤ (np : Int) := by omega
          have np1 : (np : Int) ≤ 1000000 := by have := Pl.out; omega
          have ns0 : (0 : Int) ≤ (ns : Int) := by omega
          have ns1 : (ns : Int) ≤ 2048 := by have := Pl.out; omega
          clear r1 r2 r3 r4 r5 s1 s2 s3 s4 s5 hnD hm hnd hnp hns hro hg hal hG1 hG2 hG3 hG4 hG5 hG6 hG7 hjp hK hlg P hOF he0 HG2
          go_upto_region 9 with (fail)
          obtain ⟨X, hX⟩ : ∃ X, w3.heap.size = X := ⟨_, rfl⟩
          rw [hX] at HA ⊢
          clear hX Hzi
          generalize w3.alloc (.cells #[.int .u32 e0, .slice pD nD cD, .slice pC m cC, .slice pd nd cd, .slice pp np cp, .slice ps ns cs] 29) = w4 at HA HG3 ⊢
          go_upto_region 10 with (fail)
          go_loopw [6] (fun i wr => ∃ k : Nat, k ≤ np ∧ i = .int .i64 k ∧ Hid (w4.grownBy wr none)) (fun i _ => np - (intOf i).toNat)
          case atStart => exact ⟨0, Nat.zero_le _, rfl, hid (grown_refl _ _)⟩
          case round =>
            obtain ⟨k, hk, rfl, HG⟩ := hrel
            have HR := hid (HA.out.kept0 HG.out)
            have k0 : (0 : Int) ≤ (k : Int) := by omega
            have x4 := HR.out.bx.cell 4 (v := .slice pp np cp) rfl
            by_cases hlt : k < np
            · have kn : (k : Int) < (np : Int) := by omega
              have Hlt := hid hlt
              obtain ⟨p, hp⟩ : ∃ p, I.pl[k]? = some p := ⟨_, List.getElem?_eq_getElem (by rw [Hnp.out]; exact hlt)⟩
              obtain ⟨p0, p1, y, hy, hys⟩ := P1.out p (List.mem_of_getElem? hp)
              obtain ⟨Pn, hPn⟩ : ∃ n : Nat, p = n := ⟨p.toNat, by omega⟩
              subst hPn
              rw [Int.toNat_natCast] at hy
              obtain ⟨bp, op, cpp, hv, hbp, hcp⟩ := HR.out.p.at_ (by rw [Hnp.out]; omega)
              rw [Hnp.out] at hv
              simp only [Value.slice.injEq, true_and] at hv
              obtain ⟨rfl, rfl⟩ := hv
              have c1 := hcp k _ hp
              obtain ⟨bc, oc, ccc, hv, hbc, hcc⟩ := HR.out.C.at_ (by omega)
              rw [Hm.out] at hv
              simp only [Value.slice.injEq, true_and] at hv
              obtain ⟨rfl, rfl⟩ := hv
              have c2 := hcc Pn _ hy
              have pm : (Pn : Int) < (m : Int) := by have := Hm.out; omega
              have Hys := hid hys
              clear hp hy hbp hcp hbc hcc hys p1 hlt hk
              go_upto_region 13 with (fail)
              clear x4 c1
              have x2 := HR.out.bx.cell 2 (v := .slice (some ⟨bc, oc, none⟩) m cC) rfl
              have x5 := HR.out.bx.cell 5 (v := .slice ps ns cs) rfl
              obtain ⟨Z, hZ⟩ : ∃ Z, y - 2048 = Z := ⟨_, rfl⟩
              have Hy : Hid (0 ≤ y ∧ y < 4294967296) := hid (by have := P7.out _ Hys.out; omega)
              have hZw : IntKind.i64.wrap Z = Z := by rw [IntKind.wrap_i64]; have := Hy.out; omega
              have HZm : Hid (decide (Z ∈ I.st) = true) := hid (by rw [← hZ]; exact decide_eq_true Hys.out)
              have HS := hid HR.out.s
              have hpn : decide ((Pn : Int) < 0) = false := by simp
              have hpm : decide ((m : Int) ≤ (Pn : Int)) = false := by simp; omega
              have hpm2 : decide (m ≤ Pn) = false := by simp; omega
              have hyw : IntKind.i64.wrap y = y := by rw [IntKind.wrap_i64]; have := Hy.out; omega
              have hg0 : wr.grownBy wr.drew none := grown_drew (grown_refl _ none)
              have HGk := hid (grown_trans HG.out hg0)
              have HR1 := hid (HR.out.kept0 hg0)
              have HS1 := hid HR1.out.s
              refine wp_region_held_drew (S := fun W => W.cell? ⟨X, 2, none⟩ = some (.slice (some ⟨bc, oc, none⟩) m cC) ∧ W.cell? ⟨X, 5, none⟩ = some (.slice ps ns cs) ∧ W.cell? ⟨bc, oc + Pn, none⟩ = some (.int .u32 y)) (by kernel_rfl) ⟨x2, x5, c2⟩ (fun hS0 => ?_)
              clear hg0 x2 x5 c2 HR HS HG
              have HD := hid (grown_refl wr.drew none)
              generalize hwd : wr.drew = wd at HR1 HS1 HGk hS0 ⊢
              clear hwd HD
              refine wpAnyH_take (i := 0) (v := ?_) rfl (by kernel_rfl) (by kernel_rfl) (by kernel_rfl) (fun _ _ _ h => h) (Or.inl ⟨by kernel_rfl, ?_⟩) hS0 ?_
              rotate_left
              · (intro W hSw; clear hSw; go_simp; try with_reducible rfl)
              try simp only [Act.put, List.setIfInBounds_toArray, List.set_cons_zero, List.set_cons_succ, List.getElem_toArray, List.getElem_cons_zero]
              refine wpAnyH_take (i := 1) (v := ?_) rfl (by kernel_rfl) (by kernel_rfl) (by kernel_rfl) (fun _ _ _ h => h) (Or.inl ⟨by kernel_rfl, ?_⟩) hS0 ?_
              rotate_left
              · (intro W hSw; clear hSw; go_simp; try with_reducible rfl)
              try simp only [Act.put, List.setIfInBounds_toArray, List.set_cons_zero, List.set_cons_succ, List.getElem_toArray, List.getElem_cons_succ, List.getElem_cons_zero]
              refine wpAnyH_take (i := 2) (v := ?_) rfl (by kernel_rfl) (by kernel_rfl) (by kernel_rfl) (fun _ _ _ h => h) (Or.inl ⟨by kernel_rfl, ?_⟩) hS0 ?_
              rotate_left
              · (intro W hSw; clear hSw; go_simp; try with_reducible rfl)
              try simp only [Act.put, List.setIfInBounds_toArray, List.set_cons_zero, List.set_cons_succ, List.getElem_toArray, List.getElem_cons_succ, List.getElem_cons_zero]
              refine wpAnyH_take (i := 3) (v := ?_) rfl (by kernel_rfl) (by kernel_rfl) (by kernel_rfl) (fun _ _ _ h => h) (Or.inl ⟨by kernel_rfl, ?_⟩) hS0 ?_
              rotate_left
              · (intro W hSw; clear hSw; go_simp; try with_reducible rfl)
              try simp only [Act.put, List.setIfInBounds_toArray, List.set_cons_zero, List.set_cons_succ, List.getElem_toArray, List.getElem_cons_succ, List.getElem_cons_zero]
              refine wpAnyH_take (i := 4) (v := ?_) rfl (by kernel_rfl) (by kernel_rfl) (by kernel_rfl) (fun _ _ _ h => h) (Or.inl ⟨by kernel_rfl, ?_⟩) hS0 ?_
              rotate_left
              · (intro W hSw; clear hSw; go_simp; try with_reducible rfl)
              try simp only [Act.put, List.setIfInBounds_toArray, List.set_cons_zero, List.set_cons_succ, List.getElem_toArray, List.getElem_cons_succ, List.getElem_cons_zero]
              refine wpAnyH_take (i := 5) (v := ?_) rfl (by kernel_rfl) (by kernel_rfl) (by kernel_rfl) (fun _ _ _ h => h) (Or.inl ⟨by kernel_rfl, ?_⟩) hS0 ?_
              rotate_left
              · (intro W hSw; have hc := hSw.1; clear hSw; go_simp; try with_reducible rfl)
              try simp only [Act.put, List.setIfInBounds_toArray, List.set_cons_zero, List.set_cons_succ, List.getElem_toArray, List.getElem_cons_succ, List.getElem_cons_zero]
              refine wpAnyH_take (i := 6) (v := ?_) rfl (by kernel_rfl) (by kernel_rfl) (by kernel_rfl) (fun _ _ _ h => h) (Or.inl ⟨by kernel_rfl, ?_⟩) hS0 ?_
              rotate_left
              · (intro W hSw; clear hSw; go_simp; try with_reducible rfl)
              try simp only [Act.put, List.setIfInBounds_toArray, List.set_cons_zero, List.set_cons_succ, List.getElem_toArray, List.getElem_cons_succ, List.getElem_cons_zero]
              refine wpAnyH_take (i := 7) (v := ?_) rfl (by kernel_rfl) (by kernel_rfl) (by kernel_rfl) (fun _ _ _ h => h) (Or.inl ⟨by kernel_rfl, ?_⟩) hS0 ?_
              rotate_left
              · (intro W hSw; clear hSw; go_simp; try with_reducible rfl)
              try simp only [Act.put, List.setIfInBounds_toArray, List.set_cons_zero, List.set_cons_succ, List.getElem_toArray, List.getElem_cons_succ, List.getElem_cons_zero]
              refine wpAnyH_take (i := 8) (v := ?_) rfl (by kernel_rfl) (by kernel_rfl) (by kernel_rfl) (fun _ _ _ h => h) (Or.inl ⟨by kernel_rfl, ?_⟩) hS0 ?_
              rotate_left
              · (intro W hSw; clear hSw; go_simp; try with_reducible rfl)
              try simp only [Act.put, List.setIfInBounds_toArray, List.set_cons_zero, List.set_cons_succ, List.getElem_toArray, List.getElem_cons_succ, List.getElem_cons_zero]
              refine wpAnyH_take (i := 9) (v := ?_) rfl (by kernel_rfl) (by kernel_rfl) (by kernel_rfl) (fun _ _ _ h => h) (Or.inl ⟨by kernel_rfl, ?_⟩) hS0 ?_
              rotate_left
              · (intro W hSw; clear hSw; go_simp; try with_reducible rfl)
              try simp only [Act.put, List.setIfInBounds_toArray, List.set_cons_zero, List.set_cons_succ, List.getElem_toArray, List.getElem_cons_succ, List.getElem_cons_zero]
              refine wpAnyH_take (i := 10) (v := ?_) rfl (by kernel_rfl) (by kernel_rfl) (by kernel_rfl) (fun _ _ _ h => h) (Or.inl ⟨by kernel_rfl, ?_⟩) hS0 ?_
              rotate_left
              · (intro W hSw; clear hSw; go_simp; try with_reducible rfl)
              try simp only [Act.put, List.setIfInBounds_toArray, List.set_cons_zero, List.set_cons_succ, List.getElem_toArray, List.getElem_cons_succ, List.getElem_cons_zero]
              refine wpAnyH_take (i := 11) (v := ?_) rfl (by kernel_rfl) (by kernel_rfl) (by kernel_rfl) (fun _ _ _ h => h) (Or.inl ⟨by kernel_rfl, ?_⟩) hS0 ?_
              rotate_left
              · (intro W hSw; have hc := hSw.2.1; clear hSw; go_simp; try with_reducible rfl)
              try simp only [Act.put, List.setIfInBounds_toArray, List.set_cons_zero, List.set_cons_succ, List.getElem_toArray, List.getElem_cons_succ, List.getElem_cons_zero]
              refine wpAnyH_take (i := 12) (v := ?_) rfl (by kernel_rfl) (by kernel_rfl) (by kernel_rfl) (fun _ _ _ h => h) (Or.inl ⟨by kernel_rfl, ?_⟩) hS0 ?_
              rotate_left
              · (intro W hSw; clear hSw; go_simp; try with_reducible rfl)
              try simp only [Act.put, List.setIfInBounds_toArray, List.set_cons_zero, List.set_cons_succ, List.getElem_toArray, List.getElem_cons_succ, List.getElem_cons_zero]
              refine wpAnyH_take (i := 13) (v := ?_) rfl (by kernel_rfl) (by kernel_rfl) (by kernel_rfl) (fun _ _ _ h => h) (Or.inl ⟨by kernel_rfl, ?_⟩) hS0 ?_
              rotate_left
              · (intro W hSw; have hc := hSw.1; clear hSw; go_simp; try with_reducible rfl)
              try simp only [Act.put, List.setIfInBounds_toArray, List.set_cons_zero, List.set_cons_succ, List.getElem_toArray, List.getElem_cons_succ, List.getElem_cons_zero]
              refine wpAnyH_take (i := 14) (v := ?_) rfl (by kernel_rfl) (by kernel_rfl) (by kernel_rfl) (fun _ _ _ h => h) (Or.inl ⟨by kernel_rfl, ?_⟩) hS0 ?_
              rotate_left
              · (intro W hSw; clear hSw; go_simp; try with_reducible rfl)
              try simp only [Act.put, List.setIfInBounds_toArray, List.set_cons_zero, List.set_cons_succ, List.getElem_toArray, List.getElem_cons_succ, List.getElem_cons_zero]
              refine wpAnyH_take (i := 15) (v := ?_) rfl (by kernel_rfl) (by kernel_rfl) (by kernel_rfl) (fun _ _ _ h => h) (Or.inl ⟨by kernel_rfl, ?_⟩) hS0 ?_
              rotate_left
              · (intro W hSw; clear hSw; go_simp; try with_reducible rfl)
              try simp only [Act.put, List.setIfInBounds_toArray, List.set_cons_zero, List.set_cons_succ, List.getElem_toArray, List.getElem_cons_succ, List.getElem_cons_zero]
              refine wpAnyH_take (i := 16) (v := ?_) rfl (by kernel_rfl) (by kernel_rfl) (by kernel_rfl) (fun _ _ _ h => h) (Or.inl ⟨by kernel_rfl, ?_⟩) hS0 ?_
              rotate_left
              · (intro W hSw; have hc := hSw.2.2; clear hSw; go_simp; try with_reducible rfl)
              try simp only [Act.put, List.setIfInBounds_toArray, List.set_cons_zero, List.set_cons_succ, List.getElem_toArray, List.getElem_cons_succ, List.getElem_cons_zero]
              refine wpAnyH_take (i := 17) (v := ?_) rfl (by kernel_rfl) (by kernel_rfl) (by kernel_rfl) (fun _ _ _ h => h) (Or.inl ⟨by kernel_rfl, ?_⟩) hS0 ?_
              rotate_left
              · (intro W hSw; clear hSw; go_simp; try with_reducible rfl)
              try simp only [Act.put, List.setIfInBounds_toArray, List.set_cons_zero, List.set_cons_succ, List.getElem_toArray, List.getElem_cons_succ, List.getElem_cons_zero]
              refine wpAnyH_take (i := 18) (v := ?_) rfl (by kernel_rfl) (by kernel_rfl) (by kernel_rfl) (fun _ _ _ h => h) (Or.inl ⟨by kernel_rfl, ?_⟩) hS0 ?_
              rotate_left
              · (intro W hSw; clear hSw; go_simp; try with_reducible rfl)
              try simp only [Act.put, List.setIfInBounds_toArray, List.set_cons_zero, List.set_cons_succ, List.getElem_toArray, List.getElem_cons_succ, List.getElem_cons_zero]
              refine wpAnyH_ready (rs := [19]) (by kernel_rfl) (by simp) ?_
              refine AllReadyH.cons rfl (fun KK hKK => ?_) AllReadyH.nil
              go_simp
              refine (among_any HS1.out (by rw [Hns.out]; omega) Z HZm.out).mono ?_; rintro e' _ ⟨rfl, rfl⟩
              refine hKK.out _ _ hS0 (fun _ => ?_)
              clear hKK KK
              try simp only [Act.put, List.setIfInBounds_toArray, List.set_cons_zero, List.set_cons_succ, List.getElem_toArray, List.getElem_cons_succ, List.getElem_cons_zero]
              refine wpAnyH_take (i := 20) (v := ?_) rfl (by kernel_rfl) (by kernel_rfl) (by kernel_rfl) (fun _ _ _ h => h) (Or.inl ⟨by kernel_rfl, ?_⟩) hS0 ?_
              rotate_left
              · (intro W hSw; clear hSw; go_simp; try with_reducible rfl)
              try simp only [Act.put, List.setIfInBounds_toArray, List.set_cons_zero, List.set_cons_succ, List.getElem_toArray, List.getElem_cons_succ, List.getElem_cons_zero]
              refine wpAnyH_take (i := 21) (v := ?_) rfl (by kernel_rfl) (by kernel_rfl) (by kernel_rfl) (fun _ _ _ h => h) (Or.inl ⟨by kernel_rfl, ?_⟩) hS0 ?_
              rotate_left
              · (intro W hSw; clear hSw; go_simp; try with_reducible rfl)
              try simp only [Act.put, List.setIfInBounds_toArray, List.set_cons_zero, List.set_cons_succ, List.getElem_toArray, List.getElem_cons_succ, List.getElem_cons_zero]
              refine wpAnyH_done (by kernel_rfl) ?_ _
              clear hS0 HS1 HR1
              go_wp2
              go_roundw
              case rel => exact ⟨k + 1, Hlt.out, by go_num, HGk⟩
              case measure => simp [intOf]; have := Hlt.out; omega
            · obtain rfl : np = k := by omega
              have kn : ¬ ((np : Int) < (np : Int)) := by omega
              clear hlt hk
              have HG5 := hid HG.out
              go_upto_region 16 with (fail)
              clear HG HR x4 k0
              go_loopw [8] (fun i wr => ∃ k : Nat, k ≤ nd ∧ i = .int .i64 k ∧ Hid (w4.grownBy wr none)) (fun i _ => nd - (intOf i).toNat)
              case atStart => exact ⟨0, Nat.zero_le _, rfl, HG5⟩
              case round =>
                clear HG5
                obtain ⟨k, hk, rfl, HG⟩ := hrel
                have HR := hid (HA.out.kept0 HG.out)
                have k0 : (0 : Int) ≤ (k : Int) := by omega
                have x3 := HR.out.bx.cell 3 (v := .slice pd nd cd) rfl
                by_cases hlt : k < nd
                · have kn : (k : Int) < (nd : Int) := by omega
                  have Hlt := hid hlt
                  obtain ⟨p, hp⟩ : ∃ p, I.dr[k]? = some p := ⟨_, List.getElem?_eq_getElem (by rw [Hnd.out]; exact hlt)⟩
                  obtain ⟨p0, p1, y, hy, hys⟩ := P2.out p (List.mem_of_getElem? hp)
                  obtain ⟨Pn, hPn⟩ : ∃ n : Nat, p = n := ⟨p.toNat, by omega⟩
                  subst hPn
                  rw [Int.toNat_natCast] at hy
                  obtain ⟨bp, op, cpp, hv, hbp, hcp⟩ := HR.out.d.at_ (by rw [Hnd.out]; omega)
                  rw [Hnd.out] at hv
                  simp only [Value.slice.injEq, true_and] at hv
                  obtain ⟨rfl, rfl⟩ := hv
                  have c1 := hcp k _ hp
                  obtain ⟨bc, oc, ccc, hv, hbc, hcc⟩ := HR.out.D.at_ (by omega)
                  rw [HnD.out] at hv
                  simp only [Value.slice.injEq, true_and] at hv
                  obtain ⟨rfl, rfl⟩ := hv
                  have c2 := hcc Pn _ hy
                  have pm : (Pn : Int) < (nD : Int) := by have := HnD.out; omega
                  have Hys := hid hys
                  clear hp hy hbp hcp hbc hcc hys p1 hlt hk
                  go_upto_region 19 with (fail)
                  clear x3 c1
                  have x2 := HR.out.bx.cell 1 (v := .slice (some ⟨bc, oc, none⟩) nD cD) rfl
                  have x5 := HR.out.bx.cell 5 (v := .slice ps ns cs) rfl
                  obtain ⟨Z, hZ⟩ : ∃ Z, y - 2048 = Z := ⟨_, rfl⟩
                  have Hy : Hid (0 ≤ y ∧ y < 4294967296) := hid (by have := P7.out _ Hys.out; omega)
                  have hZw : IntKind.i64.wrap Z = Z := by rw [IntKind.wrap_i64]; have := Hy.out; omega
                  have HZm : Hid (decide (Z ∈ I.st) = true) := hid (by rw [← hZ]; exact decide_eq_true Hys.out)
                  have HS := hid HR.out.s
                  have hpn : decide ((Pn : Int) < 0) = false := by simp
                  have hpm : decide ((nD : Int) ≤ (Pn : Int)) = false := by simp; omega
                  have hpm2 : decide (nD ≤ Pn) = false := by simp; omega
                  have hyw : IntKind.i64.wrap y = y := by rw [IntKind.wrap_i64]; have := Hy.out; omega
                  have hg0 : wr.grownBy wr.drew none := grown_drew (grown_refl _ none)
                  have HGk := hid (grown_trans HG.out hg0)
                  have HR1 := hid (HR.out.kept0 hg0)
                  have HS1 := hid HR1.out.s
                  refine wp_region_held_drew (S := fun W => W.cell? ⟨X, 1, none⟩ = some (.slice (some ⟨bc, oc, none⟩) nD cD) ∧ W.cell? ⟨X, 5, none⟩ = some (.slice ps ns cs) ∧ W.cell? ⟨bc, oc + Pn, none⟩ = some (.int .u32 y)) (by kernel_rfl) ⟨x2, x5, c2⟩ (fun hS0 => ?_)
                  clear hg0 x2 x5 c2 HR HS HG
                  have HD := hid (grown_refl wr.drew none)
                  generalize hwd : wr.drew = wd at HR1 HS1 HGk hS0 ⊢
                  clear hwd HD
                  refine wpAnyH_take (i := 0) (v := ?_) rfl (by kernel_rfl) (by kernel_rfl) (by kernel_rfl) (fun _ _ _ h => h) (Or.inl ⟨by kernel_rfl, ?_⟩) hS0 ?_
                  rotate_left
                  · (intro W hSw; clear hSw; go_simp; try with_reducible rfl)
                  try simp only [Act.put, List.setIfInBounds_toArray, List.set_cons_zero, List.set_cons_succ, List.getElem_toArray, List.getElem_cons_zero]
                  refine wpAnyH_take (i := 1) (v := ?_) rfl (by kernel_rfl) (by kernel_rfl) (by kernel_rfl) (fun _ _ _ h => h) (Or.inl ⟨by kernel_rfl, ?_⟩) hS0 ?_
                  rotate_left
                  · (intro W hSw; clear hSw; go_simp; try with_reducible rfl)
                  try simp only [Act.put, List.setIfInBounds_toArray, List.set_cons_zero, List.set_cons_succ, List.getElem_toArray, List.getElem_cons_succ, List.getElem_cons_zero]
                  refine wpAnyH_take (i := 2) (v := ?_) rfl (by kernel_rfl) (by kernel_rfl) (by kernel_rfl) (fun _ _ _ h => h) (Or.inl ⟨by kernel_rfl, ?_⟩) hS0 ?_
                  rotate_left
                  · (intro W hSw; clear hSw; go_simp; try with_reducible rfl)
                  try simp only [Act.put, List.setIfInBounds_toArray, List.set_cons_zero, List.set_cons_succ, List.getElem_toArray, List.getElem_cons_succ, List.getElem_cons_zero]
                  refine wpAnyH_take (i := 3) (v := ?_) rfl (by kernel_rfl) (by kernel_rfl) (by kernel_rfl) (fun _ _ _ h => h) (Or.inl ⟨by kernel_rfl, ?_⟩) hS0 ?_
                  rotate_left
                  · (intro W hSw; clear hSw; go_simp; try with_reducible rfl)
                  try simp only [Act.put, List.setIfInBounds_toArray, List.set_cons_zero, List.set_cons_succ, List.getElem_toArray, List.getElem_cons_succ, List.getElem_cons_zero]
                  refine wpAnyH_take (i := 4) (v := ?_) rfl (by kernel_rfl) (by kernel_rfl) (by kernel_rfl) (fun _ _ _ h => h) (Or.inl ⟨by kernel_rfl, ?_⟩) hS0 ?_
                  rotate_left
                  · (intro W hSw; clear hSw; go_simp; try with_reducible rfl)
                  try simp only [Act.put, List.setIfInBounds_toArray, List.set_cons_zero, List.set_cons_succ, List.getElem_toArray, List.getElem_cons_succ, List.getElem_cons_zero]
                  refine wpAnyH_take (i := 5) (v := ?_) rfl (by kernel_rfl) (by kernel_rfl) (by kernel_rfl) (fun _ _ _ h => h) (Or.inl ⟨by kernel_rfl, ?_⟩) hS0 ?_
                  rotate_left
                  · (intro W hSw; have hc := hSw.1; clear hSw; go_simp; try with_reducible rfl)
                  try simp only [Act.put, List.setIfInBounds_toArray, List.set_cons_zero, List.set_cons_succ, List.getElem_toArray, List.getElem_cons_succ, List.getElem_cons_zero]
                  refine wpAnyH_take (i := 6) (v := ?_) rfl (by kernel_rfl) (by kernel_rfl) (by kernel_rfl) (fun _ _ _ h => h) (Or.inl ⟨by kernel_rfl, ?_⟩) hS0 ?_
                  rotate_left
                  · (intro W hSw; clear hSw; go_simp; try with_reducible rfl)
                  try simp only [Act.put, List.setIfInBounds_toArray, List.set_cons_zero, List.set_cons_succ, List.getElem_toArray, List.getElem_cons_succ, List.getElem_cons_zero]
                  refine wpAnyH_take (i := 7) (v := ?_) rfl (by kernel_rfl) (by kernel_rfl) (by kernel_rfl) (fun _ _ _ h => h) (Or.inl ⟨by kernel_rfl, ?_⟩) hS0 ?_
                  rotate_left
                  · (intro W hSw; clear hSw; go_simp; try with_reducible rfl)
                  try simp only [Act.put, List.setIfInBounds_toArray, List.set_cons_zero, List.set_cons_succ, List.getElem_toArray, List.getElem_cons_succ, List.getElem_cons_zero]
                  refine wpAnyH_take (i := 8) (v := ?_) rfl (by kernel_rfl) (by kernel_rfl) (by kernel_rfl) (fun _ _ _ h => h) (Or.inl ⟨by kernel_rfl, ?_⟩) hS0 ?_
                  rotate_left
                  · (intro W hSw; clear hSw; go_simp; try with_reducible rfl)
                  try simp only [Act.put, List.setIfInBounds_toArray, List.set_cons_zero, List.set_cons_succ, List.getElem_toArray, List.getElem_cons_succ, List.getElem_cons_zero]
                  refine wpAnyH_take (i := 9) (v := ?_) rfl (by kernel_rfl) (by kernel_rfl) (by kernel_rfl) (fun _ _ _ h => h) (Or.inl ⟨by kernel_rfl, ?_⟩) hS0 ?_
                  rotate_left
                  · (intro W hSw; clear hSw; go_simp; try with_reducible rfl)
                  try simp only [Act.put, List.setIfInBounds_toArray, List.set_cons_zero, List.set_cons_succ, List.getElem_toArray, List.getElem_cons_succ, List.getElem_cons_zero]
                  refine wpAnyH_take (i := 10) (v := ?_) rfl (by kernel_rfl) (by kernel_rfl) (by kernel_rfl) (fun _ _ _ h => h) (Or.inl ⟨by kernel_rfl, ?_⟩) hS0 ?_
                  rotate_left
                  · (intro W hSw; clear hSw; go_simp; try with_reducible rfl)
                  try simp only [Act.put, List.setIfInBounds_toArray, List.set_cons_zero, List.set_cons_succ, List.getElem_toArray, List.getElem_cons_succ, List.getElem_cons_zero]
                  refine wpAnyH_take (i := 11) (v := ?_) rfl (by kernel_rfl) (by kernel_rfl) (by kernel_rfl) (fun _ _ _ h => h) (Or.inl ⟨by kernel_rfl, ?_⟩) hS0 ?_
                  rotate_left
                  · (intro W hSw; have hc := hSw.2.1; clear hSw; go_simp; try with_reducible rfl)
                  try simp only [Act.put, List.setIfInBounds_toArray, List.set_cons_zero, List.set_cons_succ, List.getElem_toArray, List.getElem_cons_succ, List.getElem_cons_zero]
                  refine wpAnyH_take (i := 12) (v := ?_) rfl (by kernel_rfl) (by kernel_rfl) (by kernel_rfl) (fun _ _ _ h => h) (Or.inl ⟨by kernel_rfl, ?_⟩) hS0 ?_
                  rotate_left
                  · (intro W hSw; clear hSw; go_simp; try with_reducible rfl)
                  try simp only [Act.put, List.setIfInBounds_toArray, List.set_cons_zero, List.set_cons_succ, List.getElem_toArray, List.getElem_cons_succ, List.getElem_cons_zero]
                  refine wpAnyH_take (i := 13) (v := ?_) rfl (by kernel_rfl) (by kernel_rfl) (by kernel_rfl) (fun _ _ _ h => h) (Or.inl ⟨by kernel_rfl, ?_⟩) hS0 ?_
                  rotate_left
                  · (intro W hSw; have hc := hSw.1; clear hSw; go_simp; try with_reducible rfl)
                  try simp only [Act.put, List.setIfInBounds_toArray, List.set_cons_zero, List.set_cons_succ, List.getElem_toArray, List.getElem_cons_succ, List.getElem_cons_zero]
                  refine wpAnyH_take (i := 14) (v := ?_) rfl (by kernel_rfl) (by kernel_rfl) (by kernel_rfl) (fun _ _ _ h => h) (Or.inl ⟨by kernel_rfl, ?_⟩) hS0 ?_
                  rotate_left
                  · (intro W hSw; clear hSw; go_simp; try with_reducible rfl)
                  try simp only [Act.put, List.setIfInBounds_toArray, List.set_cons_zero, List.set_cons_succ, List.getElem_toArray, List.getElem_cons_succ, List.getElem_cons_zero]
                  refine wpAnyH_take (i := 15) (v := ?_) rfl (by kernel_rfl) (by kernel_rfl) (by kernel_rfl) (fun _ _ _ h => h) (Or.inl ⟨by kernel_rfl, ?_⟩) hS0 ?_
                  rotate_left
                  · (intro W hSw; clear hSw; go_simp; try with_reducible rfl)
                  try simp only [Act.put, List.setIfInBounds_toArray, List.set_cons_zero, List.set_cons_succ, List.getElem_toArray, List.getElem_cons_succ, List.getElem_cons_zero]
                  refine wpAnyH_take (i := 16) (v := ?_) rfl (by kernel_rfl) (by kernel_rfl) (by kernel_rfl) (fun _ _ _ h => h) (Or.inl ⟨by kernel_rfl, ?_⟩) hS0 ?_
                  rotate_left
                  · (intro W hSw; have hc := hSw.2.2; clear hSw; go_simp; try with_reducible rfl)
                  try simp only [Act.put, List.setIfInBounds_toArray, List.set_cons_zero, List.set_cons_succ, List.getElem_toArray, List.getElem_cons_succ, List.getElem_cons_zero]
                  refine wpAnyH_take (i := 17) (v := ?_) rfl (by kernel_rfl) (by kernel_rfl) (by kernel_rfl) (fun _ _ _ h => h) (Or.inl ⟨by kernel_rfl, ?_⟩) hS0 ?_
                  rotate_left
                  · (intro W hSw; clear hSw; go_simp; try with_reducible rfl)
                  try simp only [Act.put, List.setIfInBounds_toArray, List.set_cons_zero, List.set_cons_succ, List.getElem_toArray, List.getElem_cons_succ, List.getElem_cons_zero]
                  refine wpAnyH_take (i := 18) (v := ?_) rfl (by kernel_rfl) (by kernel_rfl) (by kernel_rfl) (fun _ _ _ h => h) (Or.inl ⟨by kernel_rfl, ?_⟩) hS0 ?_
                  rotate_left
                  · (intro W hSw; clear hSw; go_simp; try with_reducible rfl)
                  try simp only [Act.put, List.setIfInBounds_toArray, List.set_cons_zero, List.set_cons_succ, List.getElem_toArray, List.getElem_cons_succ, List.getElem_cons_zero]
                  refine wpAnyH_ready (rs := [19]) (by kernel_rfl) (by simp) ?_
                  refine AllReadyH.cons rfl (fun KK hKK => ?_) AllReadyH.nil
                  go_simp
                  refine (among_any HS1.out (by rw [Hns.out]; omega) Z HZm.out).mono ?_; rintro e' _ ⟨rfl, rfl⟩
                  refine hKK.out _ _ hS0 (fun _ => ?_)
                  clear hKK KK
                  try simp only [Act.put, List.setIfInBounds_toArray, List.set_cons_zero, List.set_cons_succ, List.getElem_toArray, List.getElem_cons_succ, List.getElem_cons_zero]
                  refine wpAnyH_take (i := 20) (v := ?_) rfl (by kernel_rfl) (by kernel_rfl) (by kernel_rfl) (fun _ _ _ h => h) (Or.inl ⟨by kernel_rfl, ?_⟩) hS0 ?_
                  rotate_left
                  · (intro W hSw; clear hSw; go_simp; try with_reducible rfl)
                  try simp only [Act.put, List.setIfInBounds_toArray, List.set_cons_zero, List.set_cons_succ, List.getElem_toArray, List.getElem_cons_succ, List.getElem_cons_zero]
                  refine wpAnyH_take (i := 21) (v := ?_) rfl (by kernel_rfl) (by kernel_rfl) (by kernel_rfl) (fun _ _ _ h => h) (Or.inl ⟨by kernel_rfl, ?_⟩) hS0 ?_
                  rotate_left
                  · (intro W hSw; clear hSw; go_simp; try with_reducible rfl)
                  try simp only [Act.put, List.setIfInBounds_toArray, List.set_cons_zero, List.set_cons_succ, List.getElem_toArray, List.getElem_cons_succ, List.getElem_cons_zero]
                  refine wpAnyH_done (by kernel_rfl) ?_ _
                  clear hS0 HS1 HR1
                  go_wp2
                  go_roundw
                  case rel => exact ⟨k + 1, Hlt.out, by go_num, HGk⟩
                  case measure => simp [intOf]; have := Hlt.out; omega
                · obtain rfl : nd = k := by omega
                  have kn : ¬ ((nd : Int) < (nd : Int)) := by omega
                  clear hlt hk
                  have HG6 := hid HG.out
                  go_upto_region 22 with (fail)
                  clear HG HR x3 k0
                  go_loopw [10] (fun i wr => ∃ k : Nat, k ≤ ns ∧ i = .int .i64 k ∧ Hid (w4.grownBy wr none)) (fun i _ => ns - (intOf i).toNat)
                  case atStart => exact ⟨0, Nat.zero_le _, rfl, HG6⟩
                  case round =>
                    clear HG6
                    obtain ⟨k, hk, rfl, HG⟩ := hrel
                    have HR := hid (HA.out.kept0 HG.out)
                    have k0 : (0 : Int) ≤ (k : Int) := by omega
                    have x5 := HR.out.bx.cell 5 (v := .slice ps ns cs) rfl
                    by_cases hlt : k < ns
                    · have kn : (k : Int) < (ns : Int) := by omega
                      have Hlt := hid hlt
                      obtain ⟨p, hp⟩ : ∃ p, I.st[k]? = some p := ⟨_, List.getElem?_eq_getElem (by rw [Hns.out]; exact hlt)⟩
                      obtain ⟨p0, p1, y, hy, y0, y1, yo, yb, yf⟩ := P3.out p (List.mem_of_getElem? hp)
                      obtain ⟨Pn, hPn⟩ : ∃ n : Nat, p = n := ⟨p.toNat, by omega⟩
                      subst hPn
                      rw [Int.toNat_natCast] at hy
                      obtain ⟨bp, op, cpp, hv, hbp, hcp⟩ := HR.out.s.at_ (by rw [Hns.out]; omega)
                      rw [Hns.out] at hv
                      simp only [Value.slice.injEq, true_and] at hv
                      obtain ⟨rfl, rfl⟩ := hv
                      have c1 := hcp k _ hp
                      obtain ⟨bc, oc, ccc, hv, hbc, hcc⟩ := HR.out.C.at_ (by omega)
                      rw [Hm.out] at hv
                      simp only [Value.slice.injEq, true_and] at hv
                      obtain ⟨rfl, rfl⟩ := hv
                      have c2 := hcc Pn _ hy
                      have x2 := HR.out.bx.cell 2 (v := .slice (some ⟨bc, oc, none⟩) m cC) rfl
                      have pm : (Pn : Int) < (m : Int) := by have := Hm.out; omega
                      have hpn : (0 : Int) ≤ (Pn : Int) := by omega
                      obtain ⟨hins, _⟩ := opW_ins (w := y) rfl yo
                      have hopw : opW y = y / 16777216 := by unfold opW; rw [if_pos hins]
                      have HOf : Hid (∀ W, Calls Tryd.prog 9 #[.int .u32 y, .int .u32 0] W fun e w' => e = .returned (.tuple #[.agg #[.int .i64 (y / 16777216), .int .i64 (y / 65536 % 256), .int .i64 (y / 256 % 256), .int .i64 (y % 256), .int .u32 0], .bool true]) ∧ W.grownBy w' none) := hid (fun W => (rof_any y 0 W y0 y1).mono (fun e w' h => ⟨by rw [h.1]; unfold ofV; rw [wantImm_zero, if_pos hins], h.2⟩))
                      rw [hopw] at yb yf
                      obtain ⟨o, ho⟩ : ∃ o, y / 16777216 = o := ⟨_, rfl⟩
                      obtain ⟨ia, hia⟩ : ∃ o, y / 65536 % 256 = o := ⟨_, rfl⟩
                      obtain ⟨ib, hib⟩ : ∃ o, y / 256 % 256 = o := ⟨_, rfl⟩
                      obtain ⟨c, hc⟩ : ∃ o, y % 256 = o := ⟨_, rfl⟩
                      have cb : 0 ≤ c ∧ c < 256 := by omega
                      rw [ho] at yb yf HOf
                      rw [hc] at yb HOf
                      rw [hia, hib] at HOf
                      have Yb := hid yb
                      have Yf := hid yf
                      have Cb := hid cb
                      have Pm : Hid (Pn < m) := hid (by omega)
                      clear hp hy hbp hcp hbc hcc hlt hk p1 yb yf y0 y1 yo hins hopw ho hia hib hc cb p0
                      go_upto_region 25 with (fail)
                      clear c1 x5
                      go_wp2_with fail
                      refine (HOf.out _).mono ?_
                      rintro e w5 ⟨rfl, hg⟩
                      have hal := World.grownBy_alloc w5 (.cells #[.int .i64 o, .int .i64 ia, .int .i64 ib, .int .i64 c, .int .u32 0] 36) none
                      have HG6 := hid (grown_trans HG.out (grown_trans hg hal))
                      have HX6 := hid (RwAt.new w5 36 #[.int .i64 o, .int .i64 ia, .int .i64 ib, .int .i64 c, .int .u32 0])
                      have Hzn := zero_insG
                      clear hg hal HG HR c2 x2 HOf
                      go_upto_region 28 with (fail)
                      obtain ⟨XI, hXI⟩ : ∃ X, w5.heap.size = X := ⟨_, rfl⟩
                      rw [hXI] at HX6 ⊢
                      clear hXI Hzn
                      generalize w5.alloc (.cells #[.int .i64 o, .int .i64 ia, .int .i64 ib, .int .i64 c, .int .u32 0] 36) = w6 at HG6 HX6 ⊢
                      by_cases h16 : o = 16
                      · subst h16
                        obtain ⟨Dv, hDv⟩ : ∃ d, (c + 128) % 256 - 128 = d := ⟨_, rfl⟩
                        have HDv := hid hDv
                        have hdb : -128 ≤ Dv ∧ Dv ≤ 127 := by omega
                        have hz1 := Yb.out (by decide)
                        rw [← disp_as Cb.out.1 Cb.out.2, hDv] at hz1
                        obtain ⟨Z, hZ⟩ : ∃ Z, (Pn : Int) + Dv = Z := ⟨_, rfl⟩
                        rw [hZ] at hz1
                        have HZm : Hid (decide (Z ∈ I.st) = true) := hid (decide_eq_true hz1)
                        have hZw : IntKind.i64.wrap Z = Z := by rw [IntKind.wrap_i64]; omega
                        clear hz1 hDv
                        have hg0 : w6.grownBy w6.drew none := grown_drew (grown_refl _ none)
                        have HGk := hid (grown_trans HG6.out hg0)
                        have HRk := hid (HA.out.kept0 HGk.out)
                        have HXk := hid (HX6.out.kept0 hg0)
                        refine wp_region_held_drew (S := fun W => RwAt W XI 36 #[.int .i64 16, .int .i64 ia, .int .i64 ib, .int .i64 c, .int .u32 0] ∧ W.cell? ⟨X, 5, none⟩ = some (.slice (some ⟨bp, op, none⟩) ns cs)) (by kernel_rfl) ⟨HXk.out, HRk.out.bx.cell 5 rfl⟩ (fun hS0 => ?_)
                        clear hg0 HG6 HX6
                        generalize hwd : w6.drew = wd at HGk HRk HXk hS0 ⊢
                        clear hwd
                        refine wpAnyH_take (i := 0) (v := ?_) rfl (by kernel_rfl) (by kernel_rfl) (by kernel_rfl) (fun _ _ _ h => h) (Or.inl ⟨by kernel_rfl, ?_⟩) hS0 ?_
                        rotate_left
                        · (intro W hSw; clear hSw; go_simp; try with_reducible rfl)
                        try simp only [Act.put, List.setIfInBounds_toArray, List.set_cons_zero, List.set_cons_succ, List.getElem_toArray, List.getElem_cons_zero]
                        refine wpAnyH_take (i := 1) (v := ?_) rfl (by kernel_rfl) (by kernel_rfl) (by kernel_rfl) (fun _ _ _ h => h) (Or.inl ⟨by kernel_rfl, ?_⟩) hS0 ?_
                        rotate_left
                        · (intro W hSw; have hc := hSw.1.cell 0 (v := .int .i64 16) rfl; clear hSw; go_simp; try with_reducible rfl)
                        try simp only [Act.put, List.setIfInBounds_toArray, List.set_cons_zero, List.set_cons_succ, List.getElem_toArray, List.getElem_cons_succ, List.getElem_cons_zero]
                        refine wpAnyH_take (i := 2) (v := ?_) rfl (by kernel_rfl) (by kernel_rfl) (by kernel_rfl) (fun _ _ _ h => h) (Or.inl ⟨by kernel_rfl, ?_⟩) hS0 ?_
                        rotate_left
                        · (intro W hSw; clear hSw; go_simp; try with_reducible rfl)
                        try simp only [Act.put, List.setIfInBounds_toArray, List.set_cons_zero, List.set_cons_succ, List.getElem_toArray, List.getElem_cons_succ, List.getElem_cons_zero]
                        refine wpAnyH_take (i := 3) (v := ?_) rfl (by kernel_rfl) (by kernel_rfl) (by kernel_rfl) (fun _ _ _ h => h) (Or.inl ⟨by kernel_rfl, ?_⟩) hS0 ?_
                        rotate_left
                        · (intro W hSw; clear hSw; go_simp; try with_reducible rfl)
                        try simp only [Act.put, List.setIfInBounds_toArray, List.set_cons_zero, List.set_cons_succ, List.getElem_toArray, List.getElem_cons_succ, List.getElem_cons_zero]
                        refine wpAnyH_take (i := 4) (v := undef) rfl (by kernel_rfl) (by kernel_rfl) (by kernel_rfl) (fun _ _ _ h => h) (Or.inr ⟨by kernel_rfl, rfl⟩) hS0 ?_
                        try simp only [Act.put, List.setIfInBounds_toArray, List.set_cons_zero, List.set_cons_succ, List.getElem_toArray, List.getElem_cons_succ, List.getElem_cons_zero]
                        refine wpAnyH_take (i := 5) (v := undef) rfl (by kernel_rfl) (by kernel_rfl) (by kernel_rfl) (fun _ _ _ h => h) (Or.inr ⟨by kernel_rfl, rfl⟩) hS0 ?_
                        try simp only [Act.put, List.setIfInBounds_toArray, List.set_cons_zero, List.set_cons_succ, List.getElem_toArray, List.getElem_cons_succ, List.getElem_cons_zero]
                        refine wpAnyH_take (i := 6) (v := undef) rfl (by kernel_rfl) (by kernel_rfl) (by kernel_rfl) (fun _ _ _ h => h) (Or.inr ⟨by kernel_rfl, rfl⟩) hS0 ?_
                        try simp only [Act.put, List.setIfInBounds_toArray, List.set_cons_zero, List.set_cons_succ, List.getElem_toArray, List.getElem_cons_succ, List.getElem_cons_zero]
                        refine wpAnyH_take (i := 7) (v := ?_) rfl (by kernel_rfl) (by kernel_rfl) (by kernel_rfl) (fun _ _ _ h => h) (Or.inl ⟨by kernel_rfl, ?_⟩) hS0 ?_
                        rotate_left
                        · (intro W hSw; clear hSw; go_simp; try with_reducible rfl)
                        try simp only [Act.put, List.setIfInBounds_toArray, List.set_cons_zero, List.set_cons_succ, List.getElem_toArray, List.getElem_cons_succ, List.getElem_cons_zero]
                        refine wpAnyH_take (i := 8) (v := ?_) rfl (by kernel_rfl) (by kernel_rfl) (by kernel_rfl) (fun _ _ _ h => h) (Or.inl ⟨by kernel_rfl, ?_⟩) hS0 ?_
                        rotate_left
                        · (intro W hSw; clear hSw; go_simp; try with_reducible rfl)
                        try simp only [Act.put, List.setIfInBounds_toArray, List.set_cons_zero, List.set_cons_succ, List.getElem_toArray, List.getElem_cons_succ, List.getElem_cons_zero]
                        refine wpAnyH_take (i := 9) (v := undef) rfl (by kernel_rfl) (by kernel_rfl) (by kernel_rfl) (fun _ _ _ h => h) (Or.inr ⟨by kernel_rfl, rfl⟩) hS0 ?_
                        try simp only [Act.put, List.setIfInBounds_toArray, List.set_cons_zero, List.set_cons_succ, List.getElem_toArray, List.getElem_cons_succ, List.getElem_cons_zero]
                        refine wpAnyH_take (i := 10) (v := undef) rfl (by kernel_rfl) (by kernel_rfl) (by kernel_rfl) (fun _ _ _ h => h) (Or.inr ⟨by kernel_rfl, rfl⟩) hS0 ?_
                        try simp only [Act.put, List.setIfInBounds_toArray, List.set_cons_zero, List.set_cons_succ, List.getElem_toArray, List.getElem_cons_succ, List.getElem_cons_zero]
                        refine wpAnyH_take (i := 11) (v := undef) rfl (by kernel_rfl) (by kernel_rfl) (by kernel_rfl) (fun _ _ _ h => h) (Or.inr ⟨by kernel_rfl, rfl⟩) hS0 ?_
                        try simp only [Act.put, List.setIfInBounds_toArray, List.set_cons_zero, List.set_cons_succ, List.getElem_toArray, List.getElem_cons_succ, List.getElem_cons_zero]
                        refine wpAnyH_take (i := 12) (v := ?_) rfl (by kernel_rfl) (by kernel_rfl) (by kernel_rfl) (fun _ _ _ h => h) (Or.inl ⟨by kernel_rfl, ?_⟩) hS0 ?_
                        rotate_left
                        · (intro W hSw; clear hSw; go_simp; try with_reducible rfl)
                        try simp only [Act.put, List.setIfInBounds_toArray, List.set_cons_zero, List.set_cons_succ, List.getElem_toArray, List.getElem_cons_succ, List.getElem_cons_zero]
                        refine wpAnyH_take (i := 13) (v := ?_) rfl (by kernel_rfl) (by kernel_rfl) (by kernel_rfl) (fun _ _ _ h => h) (Or.inl ⟨by kernel_rfl, ?_⟩) hS0 ?_
                        rotate_left
                        · (intro W hSw; clear hSw; go_simp; try with_reducible rfl)
                        try simp only [Act.put, List.setIfInBounds_toArray, List.set_cons_zero, List.set_cons_succ, List.getElem_toArray, List.getElem_cons_succ, List.getElem_cons_zero]
                        refine wpAnyH_take (i := 14) (v := ?_) rfl (by kernel_rfl) (by kernel_rfl) (by kernel_rfl) (fun _ _ _ h => h) (Or.inl ⟨by kernel_rfl, ?_⟩) hS0 ?_
                        rotate_left
                        · (intro W hSw; clear hSw; go_simp; try with_reducible rfl)
                        try simp only [Act.put, List.setIfInBounds_toArray, List.set_cons_zero, List.set_cons_succ, List.getElem_toArray, List.getElem_cons_succ, List.getElem_cons_zero]
                        refine wpAnyH_take (i := 15) (v := ?_) rfl (by kernel_rfl) (by kernel_rfl) (by kernel_rfl) (fun _ _ _ h => h) (Or.inl ⟨by kernel_rfl, ?_⟩) hS0 ?_
                        rotate_left
                        · (intro W hSw; have hc := hSw.2; clear hSw; go_simp; try with_reducible rfl)
                        try simp only [Act.put, List.setIfInBounds_toArray, List.set_cons_zero, List.set_cons_succ, List.getElem_toArray, List.getElem_cons_succ, List.getElem_cons_zero]
                        refine wpAnyH_take (i := 16) (v := ?_) rfl (by kernel_rfl) (by kernel_rfl) (by kernel_rfl) (fun _ _ _ h => h) (Or.inl ⟨by kernel_rfl, ?_⟩) hS0 ?_
                        rotate_left
                        · (intro W hSw; clear hSw; go_simp; try with_reducible rfl)
                        try simp only [Act.put, List.setIfInBounds_toArray, List.set_cons_zero, List.set_cons_succ, List.getElem_toArray, List.getElem_cons_succ, List.getElem_cons_zero]
                        refine wpAnyH_take (i := 17) (v := ?_) rfl (by kernel_rfl) (by kernel_rfl) (by kernel_rfl) (fun _ _ _ h => h) (Or.inl ⟨by kernel_rfl, ?_⟩) hS0 ?_
                        rotate_left
                        · (intro W hSw; clear hSw; go_simp; try with_reducible rfl)
                        try simp only [Act.put, List.setIfInBounds_toArray, List.set_cons_zero, List.set_cons_succ, List.getElem_toArray, List.getElem_cons_succ, List.getElem_cons_zero]
                        refine wpAnyH_take (i := 18) (v := ?_) rfl (by kernel_rfl) (by kernel_rfl) (by kernel_rfl) (fun _ _ _ h => h) (Or.inl ⟨by kernel_rfl, ?_⟩) hS0 ?_
                        rotate_left
                        · (intro W hSw; have hc := hSw.1.cell 3 (v := .int .i64 c) rfl; clear hSw; go_simp; try with_reducible rfl)
                        try simp only [Act.put, List.setIfInBounds_toArray, List.set_cons_zero, List.set_cons_succ, List.getElem_toArray, List.getElem_cons_succ, List.getElem_cons_zero]
                        refine wpAnyH_ready (rs := [19]) (by kernel_rfl) (by simp) ?_
                        refine AllReadyH.cons rfl (fun KK hKK => ?_) AllReadyH.nil
                        go_simp
                        refine (rdisp_any c wd).mono ?_; rintro e' _ ⟨rfl, rfl⟩
                        rw [HDv.out]
                        refine hKK.out _ _ hS0 (fun _ => ?_)
                        clear hKK KK
                        try simp only [Act.put, List.setIfInBounds_toArray, List.set_cons_zero, List.set_cons_succ, List.getElem_toArray, List.getElem_cons_succ, List.getElem_cons_zero]
                        refine wpAnyH_take (i := 20) (v := ?_) rfl (by kernel_rfl) (by kernel_rfl) (by kernel_rfl) (fun _ _ _ h => h) (Or.inl ⟨by kernel_rfl, ?_⟩) hS0 ?_
                        rotate_left
                        · (intro W hSw; clear hSw; go_simp; try with_reducible rfl)
                        try simp only [Act.put, List.setIfInBounds_toArray, List.set_cons_zero, List.set_cons_succ, List.getElem_toArray, List.getElem_cons_succ, List.getElem_cons_zero]
                        refine wpAnyH_ready (rs := [21]) (by kernel_rfl) (by simp) ?_
                        refine AllReadyH.cons rfl (fun KK hKK => ?_) AllReadyH.nil
                        go_simp
                        refine (among_any HRk.out.s (by rw [Hns.out]; omega) Z HZm.out).mono ?_; rintro e' _ ⟨rfl, rfl⟩
                        refine hKK.out _ _ hS0 (fun _ => ?_)
                        clear hKK KK
                        try simp only [Act.put, List.setIfInBounds_toArray, List.set_cons_zero, List.set_cons_succ, List.getElem_toArray, List.getElem_cons_succ, List.getElem_cons_zero]
                        refine wpAnyH_take (i := 22) (v := ?_) rfl (by kernel_rfl) (by kernel_rfl) (by kernel_rfl) (fun _ _ _ h => h) (Or.inl ⟨by kernel_rfl, ?_⟩) hS0 ?_
                        rotate_left
                        · (intro W hSw; clear hSw; go_simp; try with_reducible rfl)
                        try simp only [Act.put, List.setIfInBounds_toArray, List.set_cons_zero, List.set_cons_succ, List.getElem_toArray, List.getElem_cons_succ, List.getElem_cons_zero]
                        refine wpAnyH_take (i := 23) (v := ?_) rfl (by kernel_rfl) (by kernel_rfl) (by kernel_rfl) (fun _ _ _ h => h) (Or.inl ⟨by kernel_rfl, ?_⟩) hS0 ?_
                        rotate_left
                        · (intro W hSw; clear hSw; go_simp; try with_reducible rfl)
                        try simp only [Act.put, List.setIfInBounds_toArray, List.set_cons_zero, List.set_cons_succ, List.getElem_toArray, List.getElem_cons_succ, List.getElem_cons_zero]
                        refine wpAnyH_done (by kernel_rfl) ?_ _
                        clear hS0
                        have k0o := HXk.out.cell 0 (v := .int .i64 16) rfl
                        go_wp2
                        go_roundw
                        case rel => exact ⟨k + 1, Hlt.out, by go_num, HGk⟩
                        case measure => simp [intOf]; have := Hlt.out; omega
                      have hb16 : (o == 16) = false := by simpa using h16
                      by_cases h17 : o = 17
                      · subst h17
                        obtain ⟨Dv, hDv⟩ : ∃ d, (c + 128) % 256 - 128 = d := ⟨_, rfl⟩
                        have HDv := hid hDv
                        have hdb : -128 ≤ Dv ∧ Dv ≤ 127 := by omega
                        have hz1 := Yb.out (by decide)
                        rw [← disp_as Cb.out.1 Cb.out.2, hDv] at hz1
                        obtain ⟨Z, hZ⟩ : ∃ Z, (Pn : Int) + Dv = Z := ⟨_, rfl⟩
                        rw [hZ] at hz1
                        have HZm : Hid (decide (Z ∈ I.st) = true) := hid (decide_eq_true hz1)
                        have hZw : IntKind.i64.wrap Z = Z := by rw [IntKind.wrap_i64]; omega
                        clear hz1 hDv
                        have hg0 : w6.grownBy w6.drew none := grown_drew (grown_refl _ none)
                        have HGk := hid (grown_trans HG6.out hg0)
                        have HRk := hid (HA.out.kept0 HGk.out)
                        have HXk := hid (HX6.out.kept0 hg0)
                        refine wp_region_held_drew (S := fun W => RwAt W XI 36 #[.int .i64 17, .int .i64 ia, .int .i64 ib, .int .i64 c, .int .u32 0] ∧ W.cell? ⟨X, 5, none⟩ = some (.slice (some ⟨bp, op, none⟩) ns cs)) (by kernel_rfl) ⟨HXk.out, HRk.out.bx.cell 5 rfl⟩ (fun hS0 => ?_)
                        clear hg0 HG6 HX6
                        generalize hwd : w6.drew = wd at HGk HRk HXk hS0 ⊢
                        clear hwd
                        refine wpAnyH_take (i := 0) (v := ?_) rfl (by kernel_rfl) (by kernel_rfl) (by kernel_rfl) (fun _ _ _ h => h) (Or.inl ⟨by kernel_rfl, ?_⟩) hS0 ?_
                        rotate_left
                        · (intro W hSw; clear hSw; go_simp; try with_reducible rfl)
                        try simp only [Act.put, List.setIfInBounds_toArray, List.set_cons_zero, List.set_cons_succ, List.getElem_toArray, List.getElem_cons_zero]
                        refine wpAnyH_take (i := 1) (v := ?_) rfl (by kernel_rfl) (by kernel_rfl) (by kernel_rfl) (fun _ _ _ h => h) (Or.inl ⟨by kernel_rfl, ?_⟩) hS0 ?_
                        rotate_left
                        · (intro W hSw; have hc := hSw.1.cell 0 (v := .int .i64 17) rfl; clear hSw; go_simp; try with_reducible rfl)
                        try simp only [Act.put, List.setIfInBounds_toArray, List.set_cons_zero, List.set_cons_succ, List.getElem_toArray, List.getElem_cons_succ, List.getElem_cons_zero]
                        refine wpAnyH_take (i := 2) (v := ?_) rfl (by kernel_rfl) (by kernel_rfl) (by kernel_rfl) (fun _ _ _ h => h) (Or.inl ⟨by kernel_rfl, ?_⟩) hS0 ?_
                        rotate_left
                        · (intro W hSw; clear hSw; go_simp; try with_reducible rfl)
                        try simp only [Act.put, List.setIfInBounds_toArray, List.set_cons_zero, List.set_cons_succ, List.getElem_toArray, List.getElem_cons_succ, List.getElem_cons_zero]
                        refine wpAnyH_take (i := 3) (v := ?_) rfl (by kernel_rfl) (by kernel_rfl) (by kernel_rfl) (fun _ _ _ h => h) (Or.inl ⟨by kernel_rfl, ?_⟩) hS0 ?_
                        rotate_left
                        · (intro W hSw; clear hSw; go_simp; try with_reducible rfl)
                        try simp only [Act.put, List.setIfInBounds_toArray, List.set_cons_zero, List.set_cons_succ, List.getElem_toArray, List.getElem_cons_succ, List.getElem_cons_zero]
                        refine wpAnyH_take (i := 4) (v := ?_) rfl (by kernel_rfl) (by kernel_rfl) (by kernel_rfl) (fun _ _ _ h => h) (Or.inl ⟨by kernel_rfl, ?_⟩) hS0 ?_
                        rotate_left
                        · (intro W hSw; clear hSw; go_simp; try with_reducible rfl)
                        try simp only [Act.put, List.setIfInBounds_toArray, List.set_cons_zero, List.set_cons_succ, List.getElem_toArray, List.getElem_cons_succ, List.getElem_cons_zero]
                        refine wpAnyH_take (i := 5) (v := ?_) rfl (by kernel_rfl) (by kernel_rfl) (by kernel_rfl) (fun _ _ _ h => h) (Or.inl ⟨by kernel_rfl, ?_⟩) hS0 ?_
                        rotate_left
                        · (intro W hSw; have hc := hSw.1.cell 0 (v := .int .i64 17) rfl; clear hSw; go_simp; try with_reducible rfl)
                        try simp only [Act.put, List.setIfInBounds_toArray, List.set_cons_zero, List.set_cons_succ, List.getElem_toArray, List.getElem_cons_succ, List.getElem_cons_zero]
                        refine wpAnyH_take (i := 6) (v := ?_) rfl (by kernel_rfl) (by kernel_rfl) (by kernel_rfl) (fun _ _ _ h => h) (Or.inl ⟨by kernel_rfl, ?_⟩) hS0 ?_
                        rotate_left
                        · (intro W hSw; clear hSw; go_simp; try with_reducible rfl)
                        try simp only [Act.put, List.setIfInBounds_toArray, List.set_cons_zero, List.set_cons_succ, List.getElem_toArray, List.getElem_cons_succ, List.getElem_cons_zero]
                        refine wpAnyH_take (i := 7) (v := ?_) rfl (by kernel_rfl) (by kernel_rfl) (by kernel_rfl) (fun _ _ _ h => h) (Or.inl ⟨by kernel_rfl, ?_⟩) hS0 ?_
                        rotate_left
                        · (intro W hSw; clear hSw; go_simp; try with_reducible rfl)
                        try simp only [Act.put, List.setIfInBounds_toArray, List.set_cons_zero, List.set_cons_succ, List.getElem_toArray, List.getElem_cons_succ, List.getElem_cons_zero]
                        refine wpAnyH_take (i := 8) (v := ?_) rfl (by kernel_rfl) (by kernel_rfl) (by kernel_rfl) (fun _ _ _ h => h) (Or.inl ⟨by kernel_rfl, ?_⟩) hS0 ?_
                        rotate_left
                        · (intro W hSw; clear hSw; go_simp; try with_reducible rfl)
                        try simp only [Act.put, List.setIfInBounds_toArray, List.set_cons_zero, List.set_cons_succ, List.getElem_toArray, List.getElem_cons_succ, List.getElem_cons_zero]
                        refine wpAnyH_take (i := 9) (v := undef) rfl (by kernel_rfl) (by kernel_rfl) (by kernel_rfl) (fun _ _ _ h => h) (Or.inr ⟨by kernel_rfl, rfl⟩) hS0 ?_
                        try simp only [Act.put, List.setIfInBounds_toArray, List.set_cons_zero, List.set_cons_succ, List.getElem_toArray, List.getElem_cons_succ, List.getElem_cons_zero]
                        refine wpAnyH_take (i := 10) (v := undef) rfl (by kernel_rfl) (by kernel_rfl) (by kernel_rfl) (fun _ _ _ h => h) (Or.inr ⟨by kernel_rfl, rfl⟩) hS0 ?_
                        try simp only [Act.put, List.setIfInBounds_toArray, List.set_cons_zero, List.set_cons_succ, List.getElem_toArray, List.getElem_cons_succ, List.getElem_cons_zero]
                        refine wpAnyH_take (i := 11) (v := undef) rfl (by kernel_rfl) (by kernel_rfl) (by kernel_rfl) (fun _ _ _ h => h) (Or.inr ⟨by kernel_rfl, rfl⟩) hS0 ?_
                        try simp only [Act.put, List.setIfInBounds_toArray, List.set_cons_zero, List.set_cons_succ, List.getElem_toArray, List.getElem_cons_succ, List.getElem_cons_zero]
                        refine wpAnyH_take (i := 12) (v := ?_) rfl (by kernel_rfl) (by kernel_rfl) (by kernel_rfl) (fun _ _ _ h => h) (Or.inl ⟨by kernel_rfl, ?_⟩) hS0 ?_
                        rotate_left
                        · (intro W hSw; clear hSw; go_simp; try with_reducible rfl)
                        try simp only [Act.put, List.setIfInBounds_toArray, List.set_cons_zero, List.set_cons_succ, List.getElem_toArray, List.getElem_cons_succ, List.getElem_cons_zero]
                        refine wpAnyH_take (i := 13) (v := ?_) rfl (by kernel_rfl) (by kernel_rfl) (by kernel_rfl) (fun _ _ _ h => h) (Or.inl ⟨by kernel_rfl, ?_⟩) hS0 ?_
                        rotate_left
                        · (intro W hSw; clear hSw; go_simp; try with_reducible rfl)
                        try simp only [Act.put, List.setIfInBounds_toArray, List.set_cons_zero, List.set_cons_succ, List.getElem_toArray, List.getElem_cons_succ, List.getElem_cons_zero]
                        refine wpAnyH_take (i := 14) (v := ?_) rfl (by kernel_rfl) (by kernel_rfl) (by kernel_rfl) (fun _ _ _ h => h) (Or.inl ⟨by kernel_rfl, ?_⟩) hS0 ?_
                        rotate_left
                        · (intro W hSw; clear hSw; go_simp; try with_reducible rfl)
                        try simp only [Act.put, List.setIfInBounds_toArray, List.set_cons_zero, List.set_cons_succ, List.getElem_toArray, List.getElem_cons_succ, List.getElem_cons_zero]
                        refine wpAnyH_take (i := 15) (v := ?_) rfl (by kernel_rfl) (by kernel_rfl) (by kernel_rfl) (fun _ _ _ h => h) (Or.inl ⟨by kernel_rfl, ?_⟩) hS0 ?_
                        rotate_left
                        · (intro W hSw; have hc := hSw.2; clear hSw; go_simp; try with_reducible rfl)
                        try simp only [Act.put, List.setIfInBounds_toArray, List.set_cons_zero, List.set_cons_succ, List.getElem_toArray, List.getElem_cons_succ, List.getElem_cons_zero]
                        refine wpAnyH_take (i := 16) (v := ?_) rfl (by kernel_rfl) (by kernel_rfl) (by kernel_rfl) (fun _ _ _ h => h) (Or.inl ⟨by kernel_rfl, ?_⟩) hS0 ?_
                        rotate_left
                        · (intro W hSw; clear hSw; go_simp; try with_reducible rfl)
                        try simp only [Act.put, List.setIfInBounds_toArray, List.set_cons_zero, List.set_cons_succ, List.getElem_toArray, List.getElem_cons_succ, List.getElem_cons_zero]
                        refine wpAnyH_take (i := 17) (v := ?_) rfl (by kernel_rfl) (by kernel_rfl) (by kernel_rfl) (fun _ _ _ h => h) (Or.inl ⟨by kernel_rfl, ?_⟩) hS0 ?_
                        rotate_left
                        · (intro W hSw; clear hSw; go_simp; try with_reducible rfl)
                        try simp only [Act.put, List.setIfInBounds_toArray, List.set_cons_zero, List.set_cons_succ, List.getElem_toArray, List.getElem_cons_succ, List.getElem_cons_zero]
                        refine wpAnyH_take (i := 18) (v := ?_) rfl (by kernel_rfl) (by kernel_rfl) (by kernel_rfl) (fun _ _ _ h => h) (Or.inl ⟨by kernel_rfl, ?_⟩) hS0 ?_
                        rotate_left
                        · (intro W hSw; have hc := hSw.1.cell 3 (v := .int .i64 c) rfl; clear hSw; go_simp; try with_reducible rfl)
                        try simp only [Act.put, List.setIfInBounds_toArray, List.set_cons_zero, List.set_cons_succ, List.getElem_toArray, List.getElem_cons_succ, List.getElem_cons_zero]
                        refine wpAnyH_ready (rs := [19]) (by kernel_rfl) (by simp) ?_
                        refine AllReadyH.cons rfl (fun KK hKK => ?_) AllReadyH.nil
                        go_simp
                        refine (rdisp_any c wd).mono ?_; rintro e' _ ⟨rfl, rfl⟩
                        rw [HDv.out]
                        refine hKK.out _ _ hS0 (fun _ => ?_)
                        clear hKK KK
                        try simp only [Act.put, List.setIfInBounds_toArray, List.set_cons_zero, List.set_cons_succ, List.getElem_toArray, List.getElem_cons_succ, List.getElem_cons_zero]
                        refine wpAnyH_take (i := 20) (v := ?_) rfl (by kernel_rfl) (by kernel_rfl) (by kernel_rfl) (fun _ _ _ h => h) (Or.inl ⟨by kernel_rfl, ?_⟩) hS0 ?_
                        rotate_left
                        · (intro W hSw; clear hSw; go_simp; try with_reducible rfl)
                        try simp only [Act.put, List.setIfInBounds_toArray, List.set_cons_zero, List.set_cons_succ, List.getElem_toArray, List.getElem_cons_succ, List.getElem_cons_zero]
                        refine wpAnyH_ready (rs := [21]) (by kernel_rfl) (by simp) ?_
                        refine AllReadyH.cons rfl (fun KK hKK => ?_) AllReadyH.nil
                        go_simp
                        refine (among_any HRk.out.s (by rw [Hns.out]; omega) Z HZm.out).mono ?_; rintro e' _ ⟨rfl, rfl⟩
                        refine hKK.out _ _ hS0 (fun _ => ?_)
                        clear hKK KK
                        try simp only [Act.put, List.setIfInBounds_toArray, List.set_cons_zero, List.set_cons_succ, List.getElem_toArray, List.getElem_cons_succ, List.getElem_cons_zero]
                        refine wpAnyH_take (i := 22) (v := ?_) rfl (by kernel_rfl) (by kernel_rfl) (by kernel_rfl) (fun _ _ _ h => h) (Or.inl ⟨by kernel_rfl, ?_⟩) hS0 ?_
                        rotate_left
                        · (intro W hSw; clear hSw; go_simp; try with_reducible rfl)
                        try simp only [Act.put, List.setIfInBounds_toArray, List.set_cons_zero, List.set_cons_succ, List.getElem_toArray, List.getElem_cons_succ, List.getElem_cons_zero]
                        refine wpAnyH_take (i := 23) (v := ?_) rfl (by kernel_rfl) (by kernel_rfl) (by kernel_rfl) (fun _ _ _ h => h) (Or.inl ⟨by kernel_rfl, ?_⟩) hS0 ?_
                        rotate_left
                        · (intro W hSw; clear hSw; go_simp; try with_reducible rfl)
                        try simp only [Act.put, List.setIfInBounds_toArray, List.set_cons_zero, List.set_cons_succ, List.getElem_toArray, List.getElem_cons_succ, List.getElem_cons_zero]
                        refine wpAnyH_done (by kernel_rfl) ?_ _
                        clear hS0
                        have k0o := HXk.out.cell 0 (v := .int .i64 17) rfl
                        go_wp2
                        go_roundw
                        case rel => exact ⟨k + 1, Hlt.out, by go_num, HGk⟩
                        case measure => simp [intOf]; have := Hlt.out; omega
                      have hb17 : (o == 17) = false := by simpa using h17
                      by_cases h18 : o = 18
                      · subst h18
                        obtain ⟨Dv, hDv⟩ : ∃ d, (c + 128) % 256 - 128 = d := ⟨_, rfl⟩
                        have HDv := hid hDv
                        have hdb : -128 ≤ Dv ∧ Dv ≤ 127 := by omega
                        have hz1 := Yb.out (by decide)
                        rw [← disp_as Cb.out.1 Cb.out.2, hDv] at hz1
                        obtain ⟨Z, hZ⟩ : ∃ Z, (Pn : Int) + Dv = Z := ⟨_, rfl⟩
                        rw [hZ] at hz1
                        have HZm : Hid (decide (Z ∈ I.st) = true) := hid (decide_eq_true hz1)
                        have hZw : IntKind.i64.wrap Z = Z := by rw [IntKind.wrap_i64]; omega
                        clear hz1 hDv
                        have hg0 : w6.grownBy w6.drew none := grown_drew (grown_refl _ none)
                        have HGk := hid (grown_trans HG6.out hg0)
                        have HRk := hid (HA.out.kept0 HGk.out)
                        have HXk := hid (HX6.out.kept0 hg0)
                        refine wp_region_held_drew (S := fun W => RwAt W XI 36 #[.int .i64 18, .int .i64 ia, .int .i64 ib, .int .i64 c, .int .u32 0] ∧ W.cell? ⟨X, 5, none⟩ = some (.slice (some ⟨bp, op, none⟩) ns cs)) (by kernel_rfl) ⟨HXk.out, HRk.out.bx.cell 5 rfl⟩ (fun hS0 => ?_)
                        clear hg0 HG6 HX6
                        generalize hwd : w6.drew = wd at HGk HRk HXk hS0 ⊢
                        clear hwd
                        refine wpAnyH_take (i := 0) (v := ?_) rfl (by kernel_rfl) (by kernel_rfl) (by kernel_rfl) (fun _ _ _ h => h) (Or.inl ⟨by kernel_rfl, ?_⟩) hS0 ?_
                        rotate_left
                        · (intro W hSw; clear hSw; go_simp; try with_reducible rfl)
                        try simp only [Act.put, List.setIfInBounds_toArray, List.set_cons_zero, List.set_cons_succ, List.getElem_toArray, List.getElem_cons_zero]
                        refine wpAnyH_take (i := 1) (v := ?_) rfl (by kernel_rfl) (by kernel_rfl) (by kernel_rfl) (fun _ _ _ h => h) (Or.inl ⟨by kernel_rfl, ?_⟩) hS0 ?_
                        rotate_left
                        · (intro W hSw; have hc := hSw.1.cell 0 (v := .int .i64 18) rfl; clear hSw; go_simp; try with_reducible rfl)
                        try simp only [Act.put, List.setIfInBounds_toArray, List.set_cons_zero, List.set_cons_succ, List.getElem_toArray, List.getElem_cons_succ, List.getElem_cons_zero]
                        refine wpAnyH_take (i := 2) (v := ?_) rfl (by kernel_rfl) (by kernel_rfl) (by kernel_rfl) (fun _ _ _ h => h) (Or.inl ⟨by kernel_rfl, ?_⟩) hS0 ?_
                        rotate_left
                        · (intro W hSw; clear hSw; go_simp; try with_reducible rfl)
                        try simp only [Act.put, List.setIfInBounds_toArray, List.set_cons_zero, List.set_cons_succ, List.getElem_toArray, List.getElem_cons_succ, List.getElem_cons_zero]
                        refine wpAnyH_take (i := 3) (v := ?_) rfl (by kernel_rfl) (by kernel_rfl) (by kernel_rfl) (fun _ _ _ h => h) (Or.inl ⟨by kernel_rfl, ?_⟩) hS0 ?_
                        rotate_left
                        · (intro W hSw; clear hSw; go_simp; try with_reducible rfl)
                        try simp only [Act.put, List.setIfInBounds_toArray, List.set_cons_zero, List.set_cons_succ, List.getElem_toArray, List.getElem_cons_succ, List.getElem_cons_zero]
                        refine wpAnyH_take (i := 4) (v := ?_) rfl (by kernel_rfl) (by kernel_rfl) (by kernel_rfl) (fun _ _ _ h => h) (Or.inl ⟨by kernel_rfl, ?_⟩) hS0 ?_
                        rotate_left
                        · (intro W hSw; clear hSw; go_simp; try with_reducible rfl)
                        try simp only [Act.put, List.setIfInBounds_toArray, List.set_cons_zero, List.set_cons_succ, List.getElem_toArray, List.getElem_cons_succ, List.getElem_cons_zero]
                        refine wpAnyH_take (i := 5) (v := ?_) rfl (by kernel_rfl) (by kernel_rfl) (by kernel_rfl) (fun _ _ _ h => h) (Or.inl ⟨by kernel_rfl, ?_⟩) hS0 ?_
                        rotate_left
                        · (intro W hSw; have hc := hSw.1.cell 0 (v := .int .i64 18) rfl; clear hSw; go_simp; try with_reducible rfl)
                        try simp only [Act.put, List.setIfInBounds_toArray, List.set_cons_zero, List.set_cons_succ, List.getElem_toArray, List.getElem_cons_succ, List.getElem_cons_zero]
                        refine wpAnyH_take (i := 6) (v := ?_) rfl (by kernel_rfl) (by kernel_rfl) (by kernel_rfl) (fun _ _ _ h => h) (Or.inl ⟨by kernel_rfl, ?_⟩) hS0 ?_
                        rotate_left
                        · (intro W hSw; clear hSw; go_simp; try with_reducible rfl)
                        try simp only [Act.put, List.setIfInBounds_toArray, List.set_cons_zero, List.set_cons_succ, List.getElem_toArray, List.getElem_cons_succ, List.getElem_cons_zero]
                        refine wpAnyH_take (i := 7) (v := ?_) rfl (by kernel_rfl) (by kernel_rfl) (by kernel_rfl) (fun _ _ _ h => h) (Or.inl ⟨by kernel_rfl, ?_⟩) hS0 ?_
                        rotate_left
                        · (intro W hSw; clear hSw; go_simp; try with_reducible rfl)
                        try simp only [Act.put, List.setIfInBounds_toArray, List.set_cons_zero, List.set_cons_succ, List.getElem_toArray, List.getElem_cons_succ, List.getElem_cons_zero]
                        refine wpAnyH_take (i := 8) (v := ?_) rfl (by kernel_rfl) (by kernel_rfl) (by kernel_rfl) (fun _ _ _ h => h) (Or.inl ⟨by kernel_rfl, ?_⟩) hS0 ?_
                        rotate_left
                        · (intro W hSw; clear hSw; go_simp; try with_reducible rfl)
                        try simp only [Act.put, List.setIfInBounds_toArray, List.set_cons_zero, List.set_cons_succ, List.getElem_toArray, List.getElem_cons_succ, List.getElem_cons_zero]
                        refine wpAnyH_take (i := 9) (v := ?_) rfl (by kernel_rfl) (by kernel_rfl) (by kernel_rfl) (fun _ _ _ h => h) (Or.inl ⟨by kernel_rfl, ?_⟩) hS0 ?_
                        rotate_left
                        · (intro W hSw; clear hSw; go_simp; try with_reducible rfl)
                        try simp only [Act.put, List.setIfInBounds_toArray, List.set_cons_zero, List.set_cons_succ, List.getElem_toArray, List.getElem_cons_succ, List.getElem_cons_zero]
                        refine wpAnyH_take (i := 10) (v := ?_) rfl (by kernel_rfl) (by kernel_rfl) (by kernel_rfl) (fun _ _ _ h => h) (Or.inl ⟨by kernel_rfl, ?_⟩) hS0 ?_
                        rotate_left
                        · (intro W hSw; have hc := hSw.1.cell 0 (v := .int .i64 18) rfl; clear hSw; go_simp; try with_reducible rfl)
                        try simp only [Act.put, List.setIfInBounds_toArray, List.set_cons_zero, List.set_cons_succ, List.getElem_toArray, List.getElem_cons_succ, List.getElem_cons_zero]
                        refine wpAnyH_take (i := 11) (v := ?_) rfl (by kernel_rfl) (by kernel_rfl) (by kernel_rfl) (fun _ _ _ h => h) (Or.inl ⟨by kernel_rfl, ?_⟩) hS0 ?_
                        rotate_left
                        · (intro W hSw; clear hSw; go_simp; try with_reducible rfl)
                        try simp only [Act.put, List.setIfInBounds_toArray, List.set_cons_zero, List.set_cons_succ, List.getElem_toArray, List.getElem_cons_succ, List.getElem_cons_zero]
                        refine wpAnyH_take (i := 12) (v := ?_) rfl (by kernel_rfl) (by kernel_rfl) (by kernel_rfl) (fun _ _ _ h => h) (Or.inl ⟨by kernel_rfl, ?_⟩) hS0 ?_
                        rotate_left
                        · (intro W hSw; clear hSw; go_simp; try with_reducible rfl)
                        try simp only [Act.put, List.setIfInBounds_toArray, List.set_cons_zero, List.set_cons_succ, List.getElem_toArray, List.getElem_cons_succ, List.getElem_cons_zero]
                        refine wpAnyH_take (i := 13) (v := ?_) rfl (by kernel_rfl) (by kernel_rfl) (by kernel_rfl) (fun _ _ _ h => h) (Or.inl ⟨by kernel_rfl, ?_⟩) hS0 ?_
                        rotate_left
                        · (intro W hSw; clear hSw; go_simp; try with_reducible rfl)
                        try simp only [Act.put, List.setIfInBounds_toArray, List.set_cons_zero, List.set_cons_succ, List.getElem_toArray, List.getElem_cons_succ, List.getElem_cons_zero]
                        refine wpAnyH_take (i := 14) (v := ?_) rfl (by kernel_rfl) (by kernel_rfl) (by kernel_rfl) (fun _ _ _ h => h) (Or.inl ⟨by kernel_rfl, ?_⟩) hS0 ?_
                        rotate_left
                        · (intro W hSw; clear hSw; go_simp; try with_reducible rfl)
                        try simp only [Act.put, List.setIfInBounds_toArray, List.set_cons_zero, List.set_cons_succ, List.getElem_toArray, List.getElem_cons_succ, List.getElem_cons_zero]
                        refine wpAnyH_take (i := 15) (v := ?_) rfl (by kernel_rfl) (by kernel_rfl) (by kernel_rfl) (fun _ _ _ h => h) (Or.inl ⟨by kernel_rfl, ?_⟩) hS0 ?_
                        rotate_left
                        · (intro W hSw; have hc := hSw.2; clear hSw; go_simp; try with_reducible rfl)
                        try simp only [Act.put, List.setIfInBounds_toArray, List.set_cons_zero, List.set_cons_succ, List.getElem_toArray, List.getElem_cons_succ, List.getElem_cons_zero]
                        refine wpAnyH_take (i := 16) (v := ?_) rfl (by kernel_rfl) (by kernel_rfl) (by kernel_rfl) (fun _ _ _ h => h) (Or.inl ⟨by kernel_rfl, ?_⟩) hS0 ?_
                        rotate_left
                        · (intro W hSw; clear hSw; go_simp; try with_reducible rfl)
                        try simp only [Act.put, List.setIfInBounds_toArray, List.set_cons_zero, List.set_cons_succ, List.getElem_toArray, List.getElem_cons_succ, List.getElem_cons_zero]
                        refine wpAnyH_take (i := 17) (v := ?_) rfl (by kernel_rfl) (by kernel_rfl) (by kernel_rfl) (fun _ _ _ h => h) (Or.inl ⟨by kernel_rfl, ?_⟩) hS0 ?_
                        rotate_left
                        · (intro W hSw; clear hSw; go_simp; try with_reducible rfl)
                        try simp only [Act.put, List.setIfInBounds_toArray, List.set_cons_zero, List.set_cons_succ, List.getElem_toArray, List.getElem_cons_succ, List.getElem_cons_zero]
                        refine wpAnyH_take (i := 18) (v := ?_) rfl (by kernel_rfl) (by kernel_rfl) (by kernel_rfl) (fun _ _ _ h => h) (Or.inl ⟨by kernel_rfl, ?_⟩) hS0 ?_
                        rotate_left
                        · (intro W hSw; have hc := hSw.1.cell 3 (v := .int .i64 c) rfl; clear hSw; go_simp; try with_reducible rfl)
                        try simp only [Act.put, List.setIfInBounds_toArray, List.set_cons_zero, List.set_cons_succ, List.getElem_toArray, List.getElem_cons_succ, List.getElem_cons_zero]
                        refine wpAnyH_ready (rs := [19]) (by kernel_rfl) (by simp) ?_
                        refine AllReadyH.cons rfl (fun KK hKK => ?_) AllReadyH.nil
                        go_simp
                        refine (rdisp_any c wd).mono ?_; rintro e' _ ⟨rfl, rfl⟩
                        rw [HDv.out]
                        refine hKK.out _ _ hS0 (fun _ => ?_)
                        clear hKK KK
                        try simp only [Act.put, List.setIfInBounds_toArray, List.set_cons_zero, List.set_cons_succ, List.getElem_toArray, List.getElem_cons_succ, List.getElem_cons_zero]
                        refine wpAnyH_take (i := 20) (v := ?_) rfl (by kernel_rfl) (by kernel_rfl) (by kernel_rfl) (fun _ _ _ h => h) (Or.inl ⟨by kernel_rfl, ?_⟩) hS0 ?_
                        rotate_left
                        · (intro W hSw; clear hSw; go_simp; try with_reducible rfl)
                        try simp only [Act.put, List.setIfInBounds_toArray, List.set_cons_zero, List.set_cons_succ, List.getElem_toArray, List.getElem_cons_succ, List.getElem_cons_zero]
                        refine wpAnyH_ready (rs := [21]) (by kernel_rfl) (by simp) ?_
                        refine AllReadyH.cons rfl (fun KK hKK => ?_) AllReadyH.nil
                        go_simp
                        refine (among_any HRk.out.s (by rw [Hns.out]; omega) Z HZm.out).mono ?_; rintro e' _ ⟨rfl, rfl⟩
                        refine hKK.out _ _ hS0 (fun _ => ?_)
                        clear hKK KK
                        try simp only [Act.put, List.setIfInBounds_toArray, List.set_cons_zero, List.set_cons_succ, List.getElem_toArray, List.getElem_cons_succ, List.getElem_cons_zero]
                        refine wpAnyH_take (i := 22) (v := ?_) rfl (by kernel_rfl) (by kernel_rfl) (by kernel_rfl) (fun _ _ _ h => h) (Or.inl ⟨by kernel_rfl, ?_⟩) hS0 ?_
                        rotate_left
                        · (intro W hSw; clear hSw; go_simp; try with_reducible rfl)
                        try simp only [Act.put, List.setIfInBounds_toArray, List.set_cons_zero, List.set_cons_succ, List.getElem_toArray, List.getElem_cons_succ, List.getElem_cons_zero]
                        refine wpAnyH_take (i := 23) (v := ?_) rfl (by kernel_rfl) (by kernel_rfl) (by kernel_rfl) (fun _ _ _ h => h) (Or.inl ⟨by kernel_rfl, ?_⟩) hS0 ?_
                        rotate_left
                        · (intro W hSw; clear hSw; go_simp; try with_reducible rfl)
                        try simp only [Act.put, List.setIfInBounds_toArray, List.set_cons_zero, List.set_cons_succ, List.getElem_toArray, List.getElem_cons_succ, List.getElem_cons_zero]
                        refine wpAnyH_done (by kernel_rfl) ?_ _
                        clear hS0
                        have k0o := HXk.out.cell 0 (v := .int .i64 18) rfl
                        go_wp2
                        go_roundw
                        case rel => exact ⟨k + 1, Hlt.out, by go_num, HGk⟩
                        case measure => simp [intOf]; have := Hlt.out; omega
                      have hb18 : (o == 18) = false := by simpa using h18
                      by_cases h19 : o = 19
                      · subst h19
                        obtain ⟨Z, hZ⟩ : ∃ Z, (Pn : Int) + 1 = Z := ⟨_, rfl⟩
                        have hz1 := Yf.out (by decide)
                        rw [hZ] at hz1
                        have HZm : Hid (decide (Z ∈ I.pl) = true) := hid (decide_eq_true hz1)
                        have hZw : IntKind.i64.wrap Z = Z := by rw [IntKind.wrap_i64]; omega
                        clear hz1
                        have hg0 : w6.grownBy w6.drew none := grown_drew (grown_refl _ none)
                        have HGk := hid (grown_trans HG6.out hg0)
                        have HRk := hid (HA.out.kept0 HGk.out)
                        have HXk := hid (HX6.out.kept0 hg0)
                        refine wp_region_held_drew (S := fun W => RwAt W XI 36 #[.int .i64 19, .int .i64 ia, .int .i64 ib, .int .i64 c, .int .u32 0] ∧ W.cell? ⟨X, 5, none⟩ = some (.slice (some ⟨bp, op, none⟩) ns cs)) (by kernel_rfl) ⟨HXk.out, HRk.out.bx.cell 5 rfl⟩ (fun hS0 => ?_)
                        clear hg0 HG6 HX6
                        generalize hwd : w6.drew = wd at HGk HRk HXk hS0 ⊢
                        clear hwd
                        refine wpAnyH_take (i := 0) (v := ?_) rfl (by kernel_rfl) (by kernel_rfl) (by kernel_rfl) (fun _ _ _ h => h) (Or.inl ⟨by kernel_rfl, ?_⟩) hS0 ?_
                        rotate_left
                        · (intro W hSw; clear hSw; go_simp; try with_reducible rfl)
                        try simp only [Act.put, List.setIfInBounds_toArray, List.set_cons_zero, List.set_cons_succ, List.getElem_toArray, List.getElem_cons_zero]
                        refine wpAnyH_take (i := 1) (v := ?_) rfl (by kernel_rfl) (by kernel_rfl) (by kernel_rfl) (fun _ _ _ h => h) (Or.inl ⟨by kernel_rfl, ?_⟩) hS0 ?_
                        rotate_left
                        · (intro W hSw; have hc := hSw.1.cell 0 (v := .int .i64 19) rfl; clear hSw; go_simp; try with_reducible rfl)
                        try simp only [Act.put, List.setIfInBounds_toArray, List.set_cons_zero, List.set_cons_succ, List.getElem_toArray, List.getElem_cons_succ, List.getElem_cons_zero]
                        refine wpAnyH_take (i := 2) (v := ?_) rfl (by kernel_rfl) (by kernel_rfl) (by kernel_rfl) (fun _ _ _ h => h) (Or.inl ⟨by kernel_rfl, ?_⟩) hS0 ?_
                        rotate_left
                        · (intro W hSw; clear hSw; go_simp; try with_reducible rfl)
                        try simp only [Act.put, List.setIfInBounds_toArray, List.set_cons_zero, List.set_cons_succ, List.getElem_toArray, List.getElem_cons_succ, List.getElem_cons_zero]
                        refine wpAnyH_take (i := 3) (v := ?_) rfl (by kernel_rfl) (by kernel_rfl) (by kernel_rfl) (fun _ _ _ h => h) (Or.inl ⟨by kernel_rfl, ?_⟩) hS0 ?_
                        rotate_left
                        · (intro W hSw; clear hSw; go_simp; try with_reducible rfl)
                        try simp only [Act.put, List.setIfInBounds_toArray, List.set_cons_zero, List.set_cons_succ, List.getElem_toArray, List.getElem_cons_succ, List.getElem_cons_zero]
                        refine wpAnyH_take (i := 4) (v := ?_) rfl (by kernel_rfl) (by kernel_rfl) (by kernel_rfl) (fun _ _ _ h => h) (Or.inl ⟨by kernel_rfl, ?_⟩) hS0 ?_
                        rotate_left
                        · (intro W hSw; clear hSw; go_simp; try with_reducible rfl)
                        try simp only [Act.put, List.setIfInBounds_toArray, List.set_cons_zero, List.set_cons_succ, List.getElem_toArray, List.getElem_cons_succ, List.getElem_cons_zero]
                        refine wpAnyH_take (i := 5) (v := ?_) rfl (by kernel_rfl) (by kernel_rfl) (by kernel_rfl) (fun _ _ _ h => h) (Or.inl ⟨by kernel_rfl, ?_⟩) hS0 ?_
                        rotate_left
                        · (intro W hSw; have hc := hSw.1.cell 0 (v := .int .i64 19) rfl; clear hSw; go_simp; try with_reducible rfl)
                        try simp only [Act.put, List.setIfInBounds_toArray, List.set_cons_zero, List.set_cons_succ, List.getElem_toArray, List.getElem_cons_succ, List.getElem_cons_zero]
                        refine wpAnyH_take (i := 6) (v := ?_) rfl (by kernel_rfl) (by kernel_rfl) (by kernel_rfl) (fun _ _ _ h => h) (Or.inl ⟨by kernel_rfl, ?_⟩) hS0 ?_
                        rotate_left
                        · (intro W hSw; clear hSw; go_simp; try with_reducible rfl)
                        try simp only [Act.put, List.setIfInBounds_toArray, List.set_cons_zero, List.set_cons_succ, List.getElem_toArray, List.getElem_cons_succ, List.getElem_cons_zero]
                        refine wpAnyH_take (i := 7) (v := ?_) rfl (by kernel_rfl) (by kernel_rfl) (by kernel_rfl) (fun _ _ _ h => h) (Or.inl ⟨by kernel_rfl, ?_⟩) hS0 ?_
                        rotate_left
                        · (intro W hSw; clear hSw; go_simp; try with_reducible rfl)
                        try simp only [Act.put, List.setIfInBounds_toArray, List.set_cons_zero, List.set_cons_succ, List.getElem_toArray, List.getElem_cons_succ, List.getElem_cons_zero]
                        refine wpAnyH_take (i := 8) (v := ?_) rfl (by kernel_rfl) (by kernel_rfl) (by kernel_rfl) (fun _ _ _ h => h) (Or.inl ⟨by kernel_rfl, ?_⟩) hS0 ?_
                        rotate_left
                        · (intro W hSw; clear hSw; go_simp; try with_reducible rfl)
                        try simp only [Act.put, List.setIfInBounds_toArray, List.set_cons_zero, List.set_cons_succ, List.getElem_toArray, List.getElem_cons_succ, List.getElem_cons_zero]
                        refine wpAnyH_take (i := 9) (v := ?_) rfl (by kernel_rfl) (by kernel_rfl) (by kernel_rfl) (fun _ _ _ h => h) (Or.inl ⟨by kernel_rfl, ?_⟩) hS0 ?_
                        rotate_left
                        · (intro W hSw; clear hSw; go_simp; try with_reducible rfl)
                        try simp only [Act.put, List.setIfInBounds_toArray, List.set_cons_zero, List.set_cons_succ, List.getElem_toArray, List.getElem_cons_succ, List.getElem_cons_zero]
                        refine wpAnyH_take (i := 10) (v := ?_) rfl (by kernel_rfl) (by kernel_rfl) (by kernel_rfl) (fun _ _ _ h => h) (Or.inl ⟨by kernel_rfl, ?_⟩) hS0 ?_
                        rotate_left
                        · (intro W hSw; have hc := hSw.1.cell 0 (v := .int .i64 19) rfl; clear hSw; go_simp; try with_reducible rfl)
                        try simp only [Act.put, List.setIfInBounds_toArray, List.set_cons_zero, List.set_cons_succ, List.getElem_toArray, List.getElem_cons_succ, List.getElem_cons_zero]
                        refine wpAnyH_take (i := 11) (v := ?_) rfl (by kernel_rfl) (by kernel_rfl) (by kernel_rfl) (fun _ _ _ h => h) (Or.inl ⟨by kernel_rfl, ?_⟩) hS0 ?_
                        rotate_left
                        · (intro W hSw; clear hSw; go_simp; try with_reducible rfl)
                        try simp only [Act.put, List.setIfInBounds_toArray, List.set_cons_zero, List.set_cons_succ, List.getElem_toArray, List.getElem_cons_succ, List.getElem_cons_zero]
                        refine wpAnyH_take (i := 12) (v := ?_) rfl (by kernel_rfl) (by kernel_rfl) (by kernel_rfl) (fun _ _ _ h => h) (Or.inl ⟨by kernel_rfl, ?_⟩) hS0 ?_
                        rotate_left
                        · (intro W hSw; clear hSw; go_simp; try with_reducible rfl)
                        try simp only [Act.put, List.setIfInBounds_toArray, List.set_cons_zero, List.set_cons_succ, List.getElem_toArray, List.getElem_cons_succ, List.getElem_cons_zero]
                        refine wpAnyH_take (i := 13) (v := ?_) rfl (by kernel_rfl) (by kernel_rfl) (by kernel_rfl) (fun _ _ _ h => h) (Or.inl ⟨by kernel_rfl, ?_⟩) hS0 ?_
                        rotate_left
                        · (intro W hSw; clear hSw; go_simp; try with_reducible rfl)
                        try simp only [Act.put, List.setIfInBounds_toArray, List.set_cons_zero, List.set_cons_succ, List.getElem_toArray, List.getElem_cons_succ, List.getElem_cons_zero]
                        refine wpAnyH_take (i := 14) (v := undef) rfl (by kernel_rfl) (by kernel_rfl) (by kernel_rfl) (fun _ _ _ h => h) (Or.inr ⟨by kernel_rfl, rfl⟩) hS0 ?_
                        try simp only [Act.put, List.setIfInBounds_toArray, List.set_cons_zero, List.set_cons_succ, List.getElem_toArray, List.getElem_cons_succ, List.getElem_cons_zero]
                        refine wpAnyH_take (i := 15) (v := undef) rfl (by kernel_rfl) (by kernel_rfl) (by kernel_rfl) (fun _ _ _ h => h) (Or.inr ⟨by kernel_rfl, rfl⟩) hS0 ?_
                        try simp only [Act.put, List.setIfInBounds_toArray, List.set_cons_zero, List.set_cons_succ, List.getElem_toArray, List.getElem_cons_succ, List.getElem_cons_zero]
                        refine wpAnyH_take (i := 16) (v := undef) rfl (by kernel_rfl) (by kernel_rfl) (by kernel_rfl) (fun _ _ _ h => h) (Or.inr ⟨by kernel_rfl, rfl⟩) hS0 ?_
                        try simp only [Act.put, List.setIfInBounds_toArray, List.set_cons_zero, List.set_cons_succ, List.getElem_toArray, List.getElem_cons_succ, List.getElem_cons_zero]
                        refine wpAnyH_take (i := 17) (v := undef) rfl (by kernel_rfl) (by kernel_rfl) (by kernel_rfl) (fun _ _ _ h => h) (Or.inr ⟨by kernel_rfl, rfl⟩) hS0 ?_
                        try simp only [Act.put, List.setIfInBounds_toArray, List.set_cons_zero, List.set_cons_succ, List.getElem_toArray, List.getElem_cons_succ, List.getElem_cons_zero]
                        refine wpAnyH_take (i := 18) (v := undef) rfl (by kernel_rfl) (by kernel_rfl) (by kernel_rfl) (fun _ _ _ h => h) (Or.inr ⟨by kernel_rfl, rfl⟩) hS0 ?_
                        try simp only [Act.put, List.setIfInBounds_toArray, List.set_cons_zero, List.set_cons_succ, List.getElem_toArray, List.getElem_cons_succ, List.getElem_cons_zero]
                        refine wpAnyH_take (i := 19) (v := undef) rfl (by kernel_rfl) (by kernel_rfl) (by kernel_rfl) (fun _ _ _ h => h) (Or.inr ⟨by kernel_rfl, rfl⟩) hS0 ?_
                        try simp only [Act.put, List.setIfInBounds_toArray, List.set_cons_zero, List.set_cons_succ, List.getElem_toArray, List.getElem_cons_succ, List.getElem_cons_zero]
                        refine wpAnyH_take (i := 20) (v := undef) rfl (by kernel_rfl) (by kernel_rfl) (by kernel_rfl) (fun _ _ _ h => h) (Or.inr ⟨by kernel_rfl, rfl⟩) hS0 ?_
                        try simp only [Act.put, List.setIfInBounds_toArray, List.set_cons_zero, List.set_cons_succ, List.getElem_toArray, List.getElem_cons_succ, List.getElem_cons_zero]
                        refine wpAnyH_take (i := 21) (v := undef) rfl (by kernel_rfl) (by kernel_rfl) (by kernel_rfl) (fun _ _ _ h => h) (Or.inr ⟨by kernel_rfl, rfl⟩) hS0 ?_
                        try simp only [Act.put, List.setIfInBounds_toArray, List.set_cons_zero, List.set_cons_succ, List.getElem_toArray, List.getElem_cons_succ, List.getElem_cons_zero]
                        refine wpAnyH_take (i := 22) (v := undef) rfl (by kernel_rfl) (by kernel_rfl) (by kernel_rfl) (fun _ _ _ h => h) (Or.inr ⟨by kernel_rfl, rfl⟩) hS0 ?_
                        try simp only [Act.put, List.setIfInBounds_toArray, List.set_cons_zero, List.set_cons_succ, List.getElem_toArray, List.getElem_cons_succ, List.getElem_cons_zero]
                        refine wpAnyH_take (i := 23) (v := ?_) rfl (by kernel_rfl) (by kernel_rfl) (by kernel_rfl) (fun _ _ _ h => h) (Or.inl ⟨by kernel_rfl, ?_⟩) hS0 ?_
                        rotate_left
                        · (intro W hSw; clear hSw; go_simp; try with_reducible rfl)
                        try simp only [Act.put, List.setIfInBounds_toArray, List.set_cons_zero, List.set_cons_succ, List.getElem_toArray, List.getElem_cons_succ, List.getElem_cons_zero]
                        refine wpAnyH_done (by kernel_rfl) ?_ _
                        clear hS0
                        have k0o := HXk.out.cell 0 (v := .int .i64 19) rfl
                        have x4 := HRk.out.bx.cell 4 (v := .slice pp np cp) rfl
                        go_wp2_with fail
                        refine (among_any HRk.out.p (by rw [Hnp.out]; omega) Z HZm.out).mono ?_; rintro e' _ ⟨rfl, rfl⟩
                        go_wp2
                        go_roundw
                        case rel => exact ⟨k + 1, Hlt.out, by go_num, HGk⟩
                        case measure => simp [intOf]; have := Hlt.out; omega
                      have hb19 : (o == 19) = false := by simpa using h19
                      by_cases h20 : o = 20
                      · subst h20
                        obtain ⟨Z, hZ⟩ : ∃ Z, (Pn : Int) + 1 = Z := ⟨_, rfl⟩
                        have hz1 := Yf.out (by decide)
                        rw [hZ] at hz1
                        have HZm : Hid (decide (Z ∈ I.pl) = true) := hid (decide_eq_true hz1)
                        have hZw : IntKind.i64.wrap Z = Z := by rw [IntKind.wrap_i64]; omega
                        clear hz1
                        have hg0 : w6.grownBy w6.drew none := grown_drew (grown_refl _ none)
                        have HGk := hid (grown_trans HG6.out hg0)
                        have HRk := hid (HA.out.kept0 HGk.out)
                        have HXk := hid (HX6.out.kept0 hg0)
                        refine wp_region_held_drew (S := fun W => RwAt W XI 36 #[.int .i64 20, .int .i64 ia, .int .i64 ib, .int .i64 c, .int .u32 0] ∧ W.cell? ⟨X, 5, none⟩ = some (.slice (some ⟨bp, op, none⟩) ns cs)) (by kernel_rfl) ⟨HXk.out, HRk.out.bx.cell 5 rfl⟩ (fun hS0 => ?_)
                        clear hg0 HG6 HX6
                        generalize hwd : w6.drew = wd at HGk HRk HXk hS0 ⊢
                        clear hwd
                        refine wpAnyH_take (i := 0) (v := ?_) rfl (by kernel_rfl) (by kernel_rfl) (by kernel_rfl) (fun _ _ _ h => h) (Or.inl ⟨by kernel_rfl, ?_⟩) hS0 ?_
                        rotate_left
                        · (intro W hSw; clear hSw; go_simp; try with_reducible rfl)
                        try simp only [Act.put, List.setIfInBounds_toArray, List.set_cons_zero, List.set_cons_succ, List.getElem_toArray, List.getElem_cons_zero]
                        refine wpAnyH_take (i := 1) (v := ?_) rfl (by kernel_rfl) (by kernel_rfl) (by kernel_rfl) (fun _ _ _ h => h) (Or.inl ⟨by kernel_rfl, ?_⟩) hS0 ?_
                        rotate_left
                        · (intro W hSw; have hc := hSw.1.cell 0 (v := .int .i64 20) rfl; clear hSw; go_simp; try with_reducible rfl)
                        try simp only [Act.put, List.setIfInBounds_toArray, List.set_cons_zero, List.set_cons_succ, List.getElem_toArray, List.getElem_cons_succ, List.getElem_cons_zero]
                        refine wpAnyH_take (i := 2) (v := ?_) rfl (by kernel_rfl) (by kernel_rfl) (by kernel_rfl) (fun _ _ _ h => h) (Or.inl ⟨by kernel_rfl, ?_⟩) hS0 ?_
                        rotate_left
                        · (intro W hSw; clear hSw; go_simp; try with_reducible rfl)
                        try simp only [Act.put, List.setIfInBounds_toArray, List.set_cons_zero, List.set_cons_succ, List.getElem_toArray, List.getElem_cons_succ, List.getElem_cons_zero]
                        refine wpAnyH_take (i := 3) (v := ?_) rfl (by kernel_rfl) (by kernel_rfl) (by kernel_rfl) (fun _ _ _ h => h) (Or.inl ⟨by kernel_rfl, ?_⟩) hS0 ?_
                        rotate_left
                        · (intro W hSw; clear hSw; go_simp; try with_reducible rfl)
                        try simp only [Act.put, List.setIfInBounds_toArray, List.set_cons_zero, List.set_cons_succ, List.getElem_toArray, List.getElem_cons_succ, List.getElem_cons_zero]
                        refine wpAnyH_take (i := 4) (v := ?_) rfl (by kernel_rfl) (by kernel_rfl) (by kernel_rfl) (fun _ _ _ h => h) (Or.inl ⟨by kernel_rfl, ?_⟩) hS0 ?_
                        rotate_left
                        · (intro W hSw; clear hSw; go_simp; try with_reducible rfl)
                        try simp only [Act.put, List.setIfInBounds_toArray, List.set_cons_zero, List.set_cons_succ, List.getElem_toArray, List.getElem_cons_succ, List.getElem_cons_zero]
                        refine wpAnyH_take (i := 5) (v := ?_) rfl (by kernel_rfl) (by kernel_rfl) (by kernel_rfl) (fun _ _ _ h => h) (Or.inl ⟨by kernel_rfl, ?_⟩) hS0 ?_
                        rotate_left
                        · (intro W hSw; have hc := hSw.1.cell 0 (v := .int .i64 20) rfl; clear hSw; go_simp; try with_reducible rfl)
                        try simp only [Act.put, List.setIfInBounds_toArray, List.set_cons_zero, List.set_cons_succ, List.getElem_toArray, List.getElem_cons_succ, List.getElem_cons_zero]
                        refine wpAnyH_take (i := 6) (v := ?_) rfl (by kernel_rfl) (by kernel_rfl) (by kernel_rfl) (fun _ _ _ h => h) (Or.inl ⟨by kernel_rfl, ?_⟩) hS0 ?_
                        rotate_left
                        · (intro W hSw; clear hSw; go_simp; try with_reducible rfl)
                        try simp only [Act.put, List.setIfInBounds_toArray, List.set_cons_zero, List.set_cons_succ, List.getElem_toArray, List.getElem_cons_succ, List.getElem_cons_zero]
                        refine wpAnyH_take (i := 7) (v := ?_) rfl (by kernel_rfl) (by kernel_rfl) (by kernel_rfl) (fun _ _ _ h => h) (Or.inl ⟨by kernel_rfl, ?_⟩) hS0 ?_
                        rotate_left
                        · (intro W hSw; clear hSw; go_simp; try with_reducible rfl)
                        try simp only [Act.put, List.setIfInBounds_toArray, List.set_cons_zero, List.set_cons_succ, List.getElem_toArray, List.getElem_cons_succ, List.getElem_cons_zero]
                        refine wpAnyH_take (i := 8) (v := ?_) rfl (by kernel_rfl) (by kernel_rfl) (by kernel_rfl) (fun _ _ _ h => h) (Or.inl ⟨by kernel_rfl, ?_⟩) hS0 ?_
                        rotate_left
                        · (intro W hSw; clear hSw; go_simp; try with_reducible rfl)
                        try simp only [Act.put, List.setIfInBounds_toArray, List.set_cons_zero, List.set_cons_succ, List.getElem_toArray, List.getElem_cons_succ, List.getElem_cons_zero]
                        refine wpAnyH_take (i := 9) (v := ?_) rfl (by kernel_rfl) (by kernel_rfl) (by kernel_rfl) (fun _ _ _ h => h) (Or.inl ⟨by kernel_rfl, ?_⟩) hS0 ?_
                        rotate_left
                        · (intro W hSw; clear hSw; go_simp; try with_reducible rfl)
                        try simp only [Act.put, List.setIfInBounds_toArray, List.set_cons_zero, List.set_cons_succ, List.getElem_toArray, List.getElem_cons_succ, List.getElem_cons_zero]
                        refine wpAnyH_take (i := 10) (v := ?_) rfl (by kernel_rfl) (by kernel_rfl) (by kernel_rfl) (fun _ _ _ h => h) (Or.inl ⟨by kernel_rfl, ?_⟩) hS0 ?_
                        rotate_left
                        · (intro W hSw; have hc := hSw.1.cell 0 (v := .int .i64 20) rfl; clear hSw; go_simp; try with_reducible rfl)
                        try simp only [Act.put, List.setIfInBounds_toArray, List.set_cons_zero, List.set_cons_succ, List.getElem_toArray, List.getElem_cons_succ, List.getElem_cons_zero]
                        refine wpAnyH_take (i := 11) (v := ?_) rfl (by kernel_rfl) (by kernel_rfl) (by kernel_rfl) (fun _ _ _ h => h) (Or.inl ⟨by kernel_rfl, ?_⟩) hS0 ?_
                        rotate_left
                        · (intro W hSw; clear hSw; go_simp; try with_reducible rfl)
                        try simp only [Act.put, List.setIfInBounds_toArray, List.set_cons_zero, List.set_cons_succ, List.getElem_toArray, List.getElem_cons_succ, List.getElem_cons_zero]
                        refine wpAnyH_take (i := 12) (v := ?_) rfl (by kernel_rfl) (by kernel_rfl) (by kernel_rfl) (fun _ _ _ h => h) (Or.inl ⟨by kernel_rfl, ?_⟩) hS0 ?_
                        rotate_left
                        · (intro W hSw; clear hSw; go_simp; try with_reducible rfl)
                        try simp only [Act.put, List.setIfInBounds_toArray, List.set_cons_zero, List.set_cons_succ, List.getElem_toArray, List.getElem_cons_succ, List.getElem_cons_zero]
                        refine wpAnyH_take (i := 13) (v := ?_) rfl (by kernel_rfl) (by kernel_rfl) (by kernel_rfl) (fun _ _ _ h => h) (Or.inl ⟨by kernel_rfl, ?_⟩) hS0 ?_
                        rotate_left
                        · (intro W hSw; clear hSw; go_simp; try with_reducible rfl)
                        try simp only [Act.put, List.setIfInBounds_toArray, List.set_cons_zero, List.set_cons_succ, List.getElem_toArray, List.getElem_cons_succ, List.getElem_cons_zero]
                        refine wpAnyH_take (i := 14) (v := undef) rfl (by kernel_rfl) (by kernel_rfl) (by kernel_rfl) (fun _ _ _ h => h) (Or.inr ⟨by kernel_rfl, rfl⟩) hS0 ?_
                        try simp only [Act.put, List.setIfInBounds_toArray, List.set_cons_zero, List.set_cons_succ, List.getElem_toArray, List.getElem_cons_succ, List.getElem_cons_zero]
                        refine wpAnyH_take (i := 15) (v := undef) rfl (by kernel_rfl) (by kernel_rfl) (by kernel_rfl) (fun _ _ _ h => h) (Or.inr ⟨by kernel_rfl, rfl⟩) hS0 ?_
                        try simp only [Act.put, List.setIfInBounds_toArray, List.set_cons_zero, List.set_cons_succ, List.getElem_toArray, List.getElem_cons_succ, List.getElem_cons_zero]
                        refine wpAnyH_take (i := 16) (v := undef) rfl (by kernel_rfl) (by kernel_rfl) (by kernel_rfl) (fun _ _ _ h => h) (Or.inr ⟨by kernel_rfl, rfl⟩) hS0 ?_
                        try simp only [Act.put, List.setIfInBounds_toArray, List.set_cons_zero, List.set_cons_succ, List.getElem_toArray, List.getElem_cons_succ, List.getElem_cons_zero]
                        refine wpAnyH_take (i := 17) (v := undef) rfl (by kernel_rfl) (by kernel_rfl) (by kernel_rfl) (fun _ _ _ h => h) (Or.inr ⟨by kernel_rfl, rfl⟩) hS0 ?_
                        try simp only [Act.put, List.setIfInBounds_toArray, List.set_cons_zero, List.set_cons_succ, List.getElem_toArray, List.getElem_cons_succ, List.getElem_cons_zero]
                        refine wpAnyH_take (i := 18) (v := undef) rfl (by kernel_rfl) (by kernel_rfl) (by kernel_rfl) (fun _ _ _ h => h) (Or.inr ⟨by kernel_rfl, rfl⟩) hS0 ?_
                        try simp only [Act.put, List.setIfInBounds_toArray, List.set_cons_zero, List.set_cons_succ, List.getElem_toArray, List.getElem_cons_succ, List.getElem_cons_zero]
                        refine wpAnyH_take (i := 19) (v := undef) rfl (by kernel_rfl) (by kernel_rfl) (by kernel_rfl) (fun _ _ _ h => h) (Or.inr ⟨by kernel_rfl, rfl⟩) hS0 ?_
                        try simp only [Act.put, List.setIfInBounds_toArray, List.set_cons_zero, List.set_cons_succ, List.getElem_toArray, List.getElem_cons_succ, List.getElem_cons_zero]
                        refine wpAnyH_take (i := 20) (v := undef) rfl (by kernel_rfl) (by kernel_rfl) (by kernel_rfl) (fun _ _ _ h => h) (Or.inr ⟨by kernel_rfl, rfl⟩) hS0 ?_
                        try simp only [Act.put, List.setIfInBounds_toArray, List.set_cons_zero, List.set_cons_succ, List.getElem_toArray, List.getElem_cons_succ, List.getElem_cons_zero]
                        refine wpAnyH_take (i := 21) (v := undef) rfl (by kernel_rfl) (by kernel_rfl) (by kernel_rfl) (fun _ _ _ h => h) (Or.inr ⟨by kernel_rfl, rfl⟩) hS0 ?_
                        try simp only [Act.put, List.setIfInBounds_toArray, List.set_cons_zero, List.set_cons_succ, List.getElem_toArray, List.getElem_cons_succ, List.getElem_cons_zero]
                        refine wpAnyH_take (i := 22) (v := undef) rfl (by kernel_rfl) (by kernel_rfl) (by kernel_rfl) (fun _ _ _ h => h) (Or.inr ⟨by kernel_rfl, rfl⟩) hS0 ?_
                        try simp only [Act.put, List.setIfInBounds_toArray, List.set_cons_zero, List.set_cons_succ, List.getElem_toArray, List.getElem_cons_succ, List.getElem_cons_zero]
                        refine wpAnyH_take (i := 23) (v := ?_) rfl (by kernel_rfl) (by kernel_rfl) (by kernel_rfl) (fun _ _ _ h => h) (Or.inl ⟨by kernel_rfl, ?_⟩) hS0 ?_
                        rotate_left
                        · (intro W hSw; clear hSw; go_simp; try with_reducible rfl)
                        try simp only [Act.put, List.setIfInBounds_toArray, List.set_cons_zero, List.set_cons_succ, List.getElem_toArray, List.getElem_cons_succ, List.getElem_cons_zero]
                        refine wpAnyH_done (by kernel_rfl) ?_ _
                        clear hS0
                        have k0o := HXk.out.cell 0 (v := .int .i64 20) rfl
                        have x4 := HRk.out.bx.cell 4 (v := .slice pp np cp) rfl
                        go_wp2_with fail
                        refine (among_any HRk.out.p (by rw [Hnp.out]; omega) Z HZm.out).mono ?_; rintro e' _ ⟨rfl, rfl⟩
                        go_wp2
                        go_roundw
                        case rel => exact ⟨k + 1, Hlt.out, by go_num, HGk⟩
                        case measure => simp [intOf]; have := Hlt.out; omega
                      have hb20 : (o == 20) = false := by simpa using h20
                      by_cases h21 : o = 21
                      · subst h21
                        obtain ⟨Z, hZ⟩ : ∃ Z, (Pn : Int) + 1 = Z := ⟨_, rfl⟩
                        have hz1 := Yf.out (by decide)
                        rw [hZ] at hz1
                        have HZm : Hid (decide (Z ∈ I.pl) = true) := hid (decide_eq_true hz1)
                        have hZw : IntKind.i64.wrap Z = Z := by rw [IntKind.wrap_i64]; omega
                        clear hz1
                        have hg0 : w6.grownBy w6.drew none := grown_drew (grown_refl _ none)
                        have HGk := hid (grown_trans HG6.out hg0)
                        have HRk := hid (HA.out.kept0 HGk.out)
                        have HXk := hid (HX6.out.kept0 hg0)
                        refine wp_region_held_drew (S := fun W => RwAt W XI 36 #[.int .i64 21, .int .i64 ia, .int .i64 ib, .int .i64 c, .int .u32 0] ∧ W.cell? ⟨X, 5, none⟩ = some (.slice (some ⟨bp, op, none⟩) ns cs)) (by kernel_rfl) ⟨HXk.out, HRk.out.bx.cell 5 rfl⟩ (fun hS0 => ?_)
                        clear hg0 HG6 HX6
                        generalize hwd : w6.drew = wd at HGk HRk HXk hS0 ⊢
                        clear hwd
                        refine wpAnyH_take (i := 0) (v := ?_) rfl (by kernel_rfl) (by kernel_rfl) (by kernel_rfl) (fun _ _ _ h => h) (Or.inl ⟨by kernel_rfl, ?_⟩) hS0 ?_
                        rotate_left
                        · (intro W hSw; clear hSw; go_simp; try with_reducible rfl)
                        try simp only [Act.put, List.setIfInBounds_toArray, List.set_cons_zero, List.set_cons_succ, List.getElem_toArray, List.getElem_cons_zero]
                        refine wpAnyH_take (i := 1) (v := ?_) rfl (by kernel_rfl) (by kernel_rfl) (by kernel_rfl) (fun _ _ _ h => h) (Or.inl ⟨by kernel_rfl, ?_⟩) hS0 ?_
                        rotate_left
                        · (intro W hSw; have hc := hSw.1.cell 0 (v := .int .i64 21) rfl; clear hSw; go_simp; try with_reducible rfl)
                        try simp only [Act.put, List.setIfInBounds_toArray, List.set_cons_zero, List.set_cons_succ, List.getElem_toArray, List.getElem_cons_succ, List.getElem_cons_zero]
                        refine wpAnyH_take (i := 2) (v := ?_) rfl (by kernel_rfl) (by kernel_rfl) (by kernel_rfl) (fun _ _ _ h => h) (Or.inl ⟨by kernel_rfl, ?_⟩) hS0 ?_
                        rotate_left
                        · (intro W hSw; clear hSw; go_simp; try with_reducible rfl)
                        try simp only [Act.put, List.setIfInBounds_toArray, List.set_cons_zero, List.set_cons_succ, List.getElem_toArray, List.getElem_cons_succ, List.getElem_cons_zero]
                        refine wpAnyH_take (i := 3) (v := ?_) rfl (by kernel_rfl) (by kernel_rfl) (by kernel_rfl) (fun _ _ _ h => h) (Or.inl ⟨by kernel_rfl, ?_⟩) hS0 ?_
                        rotate_left
                        · (intro W hSw; clear hSw; go_simp; try with_reducible rfl)
                        try simp only [Act.put, List.setIfInBounds_toArray, List.set_cons_zero, List.set_cons_succ, List.getElem_toArray, List.getElem_cons_succ, List.getElem_cons_zero]
                        refine wpAnyH_take (i := 4) (v := ?_) rfl (by kernel_rfl) (by kernel_rfl) (by kernel_rfl) (fun _ _ _ h => h) (Or.inl ⟨by kernel_rfl, ?_⟩) hS0 ?_
                        rotate_left
                        · (intro W hSw; clear hSw; go_simp; try with_reducible rfl)
                        try simp only [Act.put, List.setIfInBounds_toArray, List.set_cons_zero, List.set_cons_succ, List.getElem_toArray, List.getElem_cons_succ, List.getElem_cons_zero]
                        refine wpAnyH_take (i := 5) (v := ?_) rfl (by kernel_rfl) (by kernel_rfl) (by kernel_rfl) (fun _ _ _ h => h) (Or.inl ⟨by kernel_rfl, ?_⟩) hS0 ?_
                        rotate_left
                        · (intro W hSw; have hc := hSw.1.cell 0 (v := .int .i64 21) rfl; clear hSw; go_simp; try with_reducible rfl)
                        try simp only [Act.put, List.setIfInBounds_toArray, List.set_cons_zero, List.set_cons_succ, List.getElem_toArray, List.getElem_cons_succ, List.getElem_cons_zero]
                        refine wpAnyH_take (i := 6) (v := ?_) rfl (by kernel_rfl) (by kernel_rfl) (by kernel_rfl) (fun _ _ _ h => h) (Or.inl ⟨by kernel_rfl, ?_⟩) hS0 ?_
                        rotate_left
                        · (intro W hSw; clear hSw; go_simp; try with_reducible rfl)
                        try simp only [Act.put, List.setIfInBounds_toArray, List.set_cons_zero, List.set_cons_succ, List.getElem_toArray, List.getElem_cons_succ, List.getElem_cons_zero]
                        refine wpAnyH_take (i := 7) (v := ?_) rfl (by kernel_rfl) (by kernel_rfl) (by kernel_rfl) (fun _ _ _ h => h) (Or.inl ⟨by kernel_rfl, ?_⟩) hS0 ?_
                        rotate_left
                        · (intro W hSw; clear hSw; go_simp; try with_reducible rfl)
                        try simp only [Act.put, List.setIfInBounds_toArray, List.set_cons_zero, List.set_cons_succ, List.getElem_toArray, List.getElem_cons_succ, List.getElem_cons_zero]
                        refine wpAnyH_take (i := 8) (v := ?_) rfl (by kernel_rfl) (by kernel_rfl) (by kernel_rfl) (fun _ _ _ h => h) (Or.inl ⟨by kernel_rfl, ?_⟩) hS0 ?_
                        rotate_left
                        · (intro W hSw; clear hSw; go_simp; try with_reducible rfl)
                        try simp only [Act.put, List.setIfInBounds_toArray, List.set_cons_zero, List.set_cons_succ, List.getElem_toArray, List.getElem_cons_succ, List.getElem_cons_zero]
                        refine wpAnyH_take (i := 9) (v := ?_) rfl (by kernel_rfl) (by kernel_rfl) (by kernel_rfl) (fun _ _ _ h => h) (Or.inl ⟨by kernel_rfl, ?_⟩) hS0 ?_
                        rotate_left
                        · (intro W hSw; clear hSw; go_simp; try with_reducible rfl)
                        try simp only [Act.put, List.setIfInBounds_toArray, List.set_cons_zero, List.set_cons_succ, List.getElem_toArray, List.getElem_cons_succ, List.getElem_cons_zero]
                        refine wpAnyH_take (i := 10) (v := ?_) rfl (by kernel_rfl) (by kernel_rfl) (by kernel_rfl) (fun _ _ _ h => h) (Or.inl ⟨by kernel_rfl, ?_⟩) hS0 ?_
                        rotate_left
                        · (intro W hSw; have hc := hSw.1.cell 0 (v := .int .i64 21) rfl; clear hSw; go_simp; try with_reducible rfl)
                        try simp only [Act.put, List.setIfInBounds_toArray, List.set_cons_zero, List.set_cons_succ, List.getElem_toArray, List.getElem_cons_succ, List.getElem_cons_zero]
                        refine wpAnyH_take (i := 11) (v := ?_) rfl (by kernel_rfl) (by kernel_rfl) (by kernel_rfl) (fun _ _ _ h => h) (Or.inl ⟨by kernel_rfl, ?_⟩) hS0 ?_
                        rotate_left
                        · (intro W hSw; clear hSw; go_simp; try with_reducible rfl)
                        try simp only [Act.put, List.setIfInBounds_toArray, List.set_cons_zero, List.set_cons_succ, List.getElem_toArray, List.getElem_cons_succ, List.getElem_cons_zero]
                        refine wpAnyH_take (i := 12) (v := ?_) rfl (by kernel_rfl) (by kernel_rfl) (by kernel_rfl) (fun _ _ _ h => h) (Or.inl ⟨by kernel_rfl, ?_⟩) hS0 ?_
                        rotate_left
                        · (intro W hSw; clear hSw; go_simp; try with_reducible rfl)
                        try simp only [Act.put, List.setIfInBounds_toArray, List.set_cons_zero, List.set_cons_succ, List.getElem_toArray, List.getElem_cons_succ, List.getElem_cons_zero]
                        refine wpAnyH_take (i := 13) (v := ?_) rfl (by kernel_rfl) (by kernel_rfl) (by kernel_rfl) (fun _ _ _ h => h) (Or.inl ⟨by kernel_rfl, ?_⟩) hS0 ?_
                        rotate_left
                        · (intro W hSw; clear hSw; go_simp; try with_reducible rfl)
                        try simp only [Act.put, List.setIfInBounds_toArray, List.set_cons_zero, List.set_cons_succ, List.getElem_toArray, List.getElem_cons_succ, List.getElem_cons_zero]
                        refine wpAnyH_take (i := 14) (v := undef) rfl (by kernel_rfl) (by kernel_rfl) (by kernel_rfl) (fun _ _ _ h => h) (Or.inr ⟨by kernel_rfl, rfl⟩) hS0 ?_
                        try simp only [Act.put, List.setIfInBounds_toArray, List.set_cons_zero, List.set_cons_succ, List.getElem_toArray, List.getElem_cons_succ, List.getElem_cons_zero]
                        refine wpAnyH_take (i := 15) (v := undef) rfl (by kernel_rfl) (by kernel_rfl) (by kernel_rfl) (fun _ _ _ h => h) (Or.inr ⟨by kernel_rfl, rfl⟩) hS0 ?_
                        try simp only [Act.put, List.setIfInBounds_toArray, List.set_cons_zero, List.set_cons_succ, List.getElem_toArray, List.getElem_cons_succ, List.getElem_cons_zero]
                        refine wpAnyH_take (i := 16) (v := undef) rfl (by kernel_rfl) (by kernel_rfl) (by kernel_rfl) (fun _ _ _ h => h) (Or.inr ⟨by kernel_rfl, rfl⟩) hS0 ?_
                        try simp only [Act.put, List.setIfInBounds_toArray, List.set_cons_zero, List.set_cons_succ, List.getElem_toArray, List.getElem_cons_succ, List.getElem_cons_zero]
                        refine wpAnyH_take (i := 17) (v := undef) rfl (by kernel_rfl) (by kernel_rfl) (by kernel_rfl) (fun _ _ _ h => h) (Or.inr ⟨by kernel_rfl, rfl⟩) hS0 ?_
                        try simp only [Act.put, List.setIfInBounds_toArray, List.set_cons_zero, List.set_cons_succ, List.getElem_toArray, List.getElem_cons_succ, List.getElem_cons_zero]
                        refine wpAnyH_take (i := 18) (v := undef) rfl (by kernel_rfl) (by kernel_rfl) (by kernel_rfl) (fun _ _ _ h => h) (Or.inr ⟨by kernel_rfl, rfl⟩) hS0 ?_
                        try simp only [Act.put, List.setIfInBounds_toArray, List.set_cons_zero, List.set_cons_succ, List.getElem_toArray, List.getElem_cons_succ, List.getElem_cons_zero]
                        refine wpAnyH_take (i := 19) (v := undef) rfl (by kernel_rfl) (by kernel_rfl) (by kernel_rfl) (fun _ _ _ h => h) (Or.inr ⟨by kernel_rfl, rfl⟩) hS0 ?_
                        try simp only [Act.put, List.setIfInBounds_toArray, List.set_cons_zero, List.set_cons_succ, List.getElem_toArray, List.getElem_cons_succ, List.getElem_cons_zero]
                        refine wpAnyH_take (i := 20) (v := undef) rfl (by kernel_rfl) (by kernel_rfl) (by kernel_rfl) (fun _ _ _ h => h) (Or.inr ⟨by kernel_rfl, rfl⟩) hS0 ?_
                        try simp only [Act.put, List.setIfInBounds_toArray, List.set_cons_zero, List.set_cons_succ, List.getElem_toArray, List.getElem_cons_succ, List.getElem_cons_zero]
                        refine wpAnyH_take (i := 21) (v := undef) rfl (by kernel_rfl) (by kernel_rfl) (by kernel_rfl) (fun _ _ _ h => h) (Or.inr ⟨by kernel_rfl, rfl⟩) hS0 ?_
                        try simp only [Act.put, List.setIfInBounds_toArray, List.set_cons_zero, List.set_cons_succ, List.getElem_toArray, List.getElem_cons_succ, List.getElem_cons_zero]
                        refine wpAnyH_take (i := 22) (v := undef) rfl (by kernel_rfl) (by kernel_rfl) (by kernel_rfl) (fun _ _ _ h => h) (Or.inr ⟨by kernel_rfl, rfl⟩) hS0 ?_
                        try simp only [Act.put, List.setIfInBounds_toArray, List.set_cons_zero, List.set_cons_succ, List.getElem_toArray, List.getElem_cons_succ, List.getElem_cons_zero]
                        refine wpAnyH_take (i := 23) (v := ?_) rfl (by kernel_rfl) (by kernel_rfl) (by kernel_rfl) (fun _ _ _ h => h) (Or.inl ⟨by kernel_rfl, ?_⟩) hS0 ?_
                        rotate_left
                        · (intro W hSw; clear hSw; go_simp; try with_reducible rfl)
                        try simp only [Act.put, List.setIfInBounds_toArray, List.set_cons_zero, List.set_cons_succ, List.getElem_toArray, List.getElem_cons_succ, List.getElem_cons_zero]
                        refine wpAnyH_done (by kernel_rfl) ?_ _
                        clear hS0
                        have k0o := HXk.out.cell 0 (v := .int .i64 21) rfl
                        have x4 := HRk.out.bx.cell 4 (v := .slice pp np cp) rfl
                        go_wp2_with fail
                        refine (among_any HRk.out.p (by rw [Hnp.out]; omega) Z HZm.out).mono ?_; rintro e' _ ⟨rfl, rfl⟩
                        go_wp2
                        go_roundw
                        case rel => exact ⟨k + 1, Hlt.out, by go_num, HGk⟩
                        case measure => simp [intOf]; have := Hlt.out; omega
                      have hb21 : (o == 21) = false := by simpa using h21
                      by_cases h22 : o = 22
                      · subst h22
                        obtain ⟨Z, hZ⟩ : ∃ Z, (Pn : Int) + 1 = Z := ⟨_, rfl⟩
                        have hz1 := Yf.out (by decide)
                        rw [hZ] at hz1
                        have HZm : Hid (decide (Z ∈ I.pl) = true) := hid (decide_eq_true hz1)
                        have hZw : IntKind.i64.wrap Z = Z := by rw [IntKind.wrap_i64]; omega
                        clear hz1
                        have hg0 : w6.grownBy w6.drew none := grown_drew (grown_refl _ none)
                        have HGk := hid (grown_trans HG6.out hg0)
                        have HRk := hid (HA.out.kept0 HGk.out)
                        have HXk := hid (HX6.out.kept0 hg0)
                        refine wp_region_held_drew (S := fun W => RwAt W XI 36 #[.int .i64 22, .int .i64 ia, .int .i64 ib, .int .i64 c, .int .u32 0] ∧ W.cell? ⟨X, 5, none⟩ = some (.slice (some ⟨bp, op, none⟩) ns cs)) (by kernel_rfl) ⟨HXk.out, HRk.out.bx.cell 5 rfl⟩ (fun hS0 => ?_)
                        clear hg0 HG6 HX6
                        generalize hwd : w6.drew = wd at HGk HRk HXk hS0 ⊢
                        clear hwd
                        refine wpAnyH_take (i := 0) (v := ?_) rfl (by kernel_rfl) (by kernel_rfl) (by kernel_rfl) (fun _ _ _ h => h) (Or.inl ⟨by kernel_rfl, ?_⟩) hS0 ?_
                        rotate_left
                        · (intro W hSw; clear hSw; go_simp; try with_reducible rfl)
                        try simp only [Act.put, List.setIfInBounds_toArray, List.set_cons_zero, List.set_cons_succ, List.getElem_toArray, List.getElem_cons_zero]
                        refine wpAnyH_take (i := 1) (v := ?_) rfl (by kernel_rfl) (by kernel_rfl) (by kernel_rfl) (fun _ _ _ h => h) (Or.inl ⟨by kernel_rfl, ?_⟩) hS0 ?_
                        rotate_left
                        · (intro W hSw; have hc := hSw.1.cell 0 (v := .int .i64 22) rfl; clear hSw; go_simp; try with_reducible rfl)
                        try simp only [Act.put, List.setIfInBounds_toArray, List.set_cons_zero, List.set_cons_succ, List.getElem_toArray, List.getElem_cons_succ, List.getElem_cons_zero]
                        refine wpAnyH_take (i := 2) (v := ?_) rfl (by kernel_rfl) (by kernel_rfl) (by kernel_rfl) (fun _ _ _ h => h) (Or.inl ⟨by kernel_rfl, ?_⟩) hS0 ?_
                        rotate_left
                        · (intro W hSw; clear hSw; go_simp; try with_reducible rfl)
                        try simp only [Act.put, List.setIfInBounds_toArray, List.set_cons_zero, List.set_cons_succ, List.getElem_toArray, List.getElem_cons_succ, List.getElem_cons_zero]
                        refine wpAnyH_take (i := 3) (v := ?_) rfl (by kernel_rfl) (by kernel_rfl) (by kernel_rfl) (fun _ _ _ h => h) (Or.inl ⟨by kernel_rfl, ?_⟩) hS0 ?_
                        rotate_left
                        · (intro W hSw; clear hSw; go_simp; try with_reducible rfl)
                        try simp only [Act.put, List.setIfInBounds_toArray, List.set_cons_zero, List.set_cons_succ, List.getElem_toArray, List.getElem_cons_succ, List.getElem_cons_zero]
                        refine wpAnyH_take (i := 4) (v := ?_) rfl (by kernel_rfl) (by kernel_rfl) (by kernel_rfl) (fun _ _ _ h => h) (Or.inl ⟨by kernel_rfl, ?_⟩) hS0 ?_
                        rotate_left
                        · (intro W hSw; clear hSw; go_simp; try with_reducible rfl)
                        try simp only [Act.put, List.setIfInBounds_toArray, List.set_cons_zero, List.set_cons_succ, List.getElem_toArray, List.getElem_cons_succ, List.getElem_cons_zero]
                        refine wpAnyH_take (i := 5) (v := ?_) rfl (by kernel_rfl) (by kernel_rfl) (by kernel_rfl) (fun _ _ _ h => h) (Or.inl ⟨by kernel_rfl, ?_⟩) hS0 ?_
                        rotate_left
                        · (intro W hSw; have hc := hSw.1.cell 0 (v := .int .i64 22) rfl; clear hSw; go_simp; try with_reducible rfl)
                        try simp only [Act.put, List.setIfInBounds_toArray, List.set_cons_zero, List.set_cons_succ, List.getElem_toArray, List.getElem_cons_succ, List.getElem_cons_zero]
                        refine wpAnyH_take (i := 6) (v := ?_) rfl (by kernel_rfl) (by kernel_rfl) (by kernel_rfl) (fun _ _ _ h => h) (Or.inl ⟨by kernel_rfl, ?_⟩) hS0 ?_
                        rotate_left
                        · (intro W hSw; clear hSw; go_simp; try with_reducible rfl)
                        try simp only [Act.put, List.setIfInBounds_toArray, List.set_cons_zero, List.set_cons_succ, List.getElem_toArray, List.getElem_cons_succ, List.getElem_cons_zero]
                        refine wpAnyH_take (i := 7) (v := ?_) rfl (by kernel_rfl) (by kernel_rfl) (by kernel_rfl) (fun _ _ _ h => h) (Or.inl ⟨by kernel_rfl, ?_⟩) hS0 ?_
                        rotate_left
                        · (intro W hSw; clear hSw; go_simp; try with_reducible rfl)
                        try simp only [Act.put, List.setIfInBounds_toArray, List.set_cons_zero, List.set_cons_succ, List.getElem_toArray, List.getElem_cons_succ, List.getElem_cons_zero]
                        refine wpAnyH_take (i := 8) (v := ?_) rfl (by kernel_rfl) (by kernel_rfl) (by kernel_rfl) (fun _ _ _ h => h) (Or.inl ⟨by kernel_rfl, ?_⟩) hS0 ?_
                        rotate_left
                        · (intro W hSw; clear hSw; go_simp; try with_reducible rfl)
                        try simp only [Act.put, List.setIfInBounds_toArray, List.set_cons_zero, List.set_cons_succ, List.getElem_toArray, List.getElem_cons_succ, List.getElem_cons_zero]
                        refine wpAnyH_take (i := 9) (v := ?_) rfl (by kernel_rfl) (by kernel_rfl) (by kernel_rfl) (fun _ _ _ h => h) (Or.inl ⟨by kernel_rfl, ?_⟩) hS0 ?_
                        rotate_left
                        · (intro W hSw; clear hSw; go_simp; try with_reducible rfl)
                        try simp only [Act.put, List.setIfInBounds_toArray, List.set_cons_zero, List.set_cons_succ, List.getElem_toArray, List.getElem_cons_succ, List.getElem_cons_zero]
                        refine wpAnyH_take (i := 10) (v := ?_) rfl (by kernel_rfl) (by kernel_rfl) (by kernel_rfl) (fun _ _ _ h => h) (Or.inl ⟨by kernel_rfl, ?_⟩) hS0 ?_
                        rotate_left
                        · (intro W hSw; have hc := hSw.1.cell 0 (v := .int .i64 22) rfl; clear hSw; go_simp; try with_reducible rfl)
                        try simp only [Act.put, List.setIfInBounds_toArray, List.set_cons_zero, List.set_cons_succ, List.getElem_toArray, List.getElem_cons_succ, List.getElem_cons_zero]
                        refine wpAnyH_take (i := 11) (v := ?_) rfl (by kernel_rfl) (by kernel_rfl) (by kernel_rfl) (fun _ _ _ h => h) (Or.inl ⟨by kernel_rfl, ?_⟩) hS0 ?_
                        rotate_left
                        · (intro W hSw; clear hSw; go_simp; try with_reducible rfl)
                        try simp only [Act.put, List.setIfInBounds_toArray, List.set_cons_zero, List.set_cons_succ, List.getElem_toArray, List.getElem_cons_succ, List.getElem_cons_zero]
                        refine wpAnyH_take (i := 12) (v := ?_) rfl (by kernel_rfl) (by kernel_rfl) (by kernel_rfl) (fun _ _ _ h => h) (Or.inl ⟨by kernel_rfl, ?_⟩) hS0 ?_
                        rotate_left
                        · (intro W hSw; clear hSw; go_simp; try with_reducible rfl)
                        try simp only [Act.put, List.setIfInBounds_toArray, List.set_cons_zero, List.set_cons_succ, List.getElem_toArray, List.getElem_cons_succ, List.getElem_cons_zero]
                        refine wpAnyH_take (i := 13) (v := ?_) rfl (by kernel_rfl) (by kernel_rfl) (by kernel_rfl) (fun _ _ _ h => h) (Or.inl ⟨by kernel_rfl, ?_⟩) hS0 ?_
                        rotate_left
                        · (intro W hSw; clear hSw; go_simp; try with_reducible rfl)
                        try simp only [Act.put, List.setIfInBounds_toArray, List.set_cons_zero, List.set_cons_succ, List.getElem_toArray, List.getElem_cons_succ, List.getElem_cons_zero]
                        refine wpAnyH_take (i := 14) (v := undef) rfl (by kernel_rfl) (by kernel_rfl) (by kernel_rfl) (fun _ _ _ h => h) (Or.inr ⟨by kernel_rfl, rfl⟩) hS0 ?_
                        try simp only [Act.put, List.setIfInBounds_toArray, List.set_cons_zero, List.set_cons_succ, List.getElem_toArray, List.getElem_cons_succ, List.getElem_cons_zero]
                        refine wpAnyH_take (i := 15) (v := undef) rfl (by kernel_rfl) (by kernel_rfl) (by kernel_rfl) (fun _ _ _ h => h) (Or.inr ⟨by kernel_rfl, rfl⟩) hS0 ?_
                        try simp only [Act.put, List.setIfInBounds_toArray, List.set_cons_zero, List.set_cons_succ, List.getElem_toArray, List.getElem_cons_succ, List.getElem_cons_zero]
                        refine wpAnyH_take (i := 16) (v := undef) rfl (by kernel_rfl) (by kernel_rfl) (by kernel_rfl) (fun _ _ _ h => h) (Or.inr ⟨by kernel_rfl, rfl⟩) hS0 ?_
                        try simp only [Act.put, List.setIfInBounds_toArray, List.set_cons_zero, List.set_cons_succ, List.getElem_toArray, List.getElem_cons_succ, List.getElem_cons_zero]
                        refine wpAnyH_take (i := 17) (v := undef) rfl (by kernel_rfl) (by kernel_rfl) (by kernel_rfl) (fun _ _ _ h => h) (Or.inr ⟨by kernel_rfl, rfl⟩) hS0 ?_
                        try simp only [Act.put, List.setIfInBounds_toArray, List.set_cons_zero, List.set_cons_succ, List.getElem_toArray, List.getElem_cons_succ, List.getElem_cons_zero]
                        refine wpAnyH_take (i := 18) (v := undef) rfl (by kernel_rfl) (by kernel_rfl) (by kernel_rfl) (fun _ _ _ h => h) (Or.inr ⟨by kernel_rfl, rfl⟩) hS0 ?_
                        try simp only [Act.put, List.setIfInBounds_toArray, List.set_cons_zero, List.set_cons_succ, List.getElem_toArray, List.getElem_cons_succ, List.getElem_cons_zero]
                        refine wpAnyH_take (i := 19) (v := undef) rfl (by kernel_rfl) (by kernel_rfl) (by kernel_rfl) (fun _ _ _ h => h) (Or.inr ⟨by kernel_rfl, rfl⟩) hS0 ?_
                        try simp only [Act.put, List.setIfInBounds_toArray, List.set_cons_zero, List.set_cons_succ, List.getElem_toArray, List.getElem_cons_succ, List.getElem_cons_zero]
                        refine wpAnyH_take (i := 20) (v := undef) rfl (by kernel_rfl) (by kernel_rfl) (by kernel_rfl) (fun _ _ _ h => h) (Or.inr ⟨by kernel_rfl, rfl⟩) hS0 ?_
                        try simp only [Act.put, List.setIfInBounds_toArray, List.set_cons_zero, List.set_cons_succ, List.getElem_toArray, List.getElem_cons_succ, List.getElem_cons_zero]
                        refine wpAnyH_take (i := 21) (v := undef) rfl (by kernel_rfl) (by kernel_rfl) (by kernel_rfl) (fun _ _ _ h => h) (Or.inr ⟨by kernel_rfl, rfl⟩) hS0 ?_
                        try simp only [Act.put, List.setIfInBounds_toArray, List.set_cons_zero, List.set_cons_succ, List.getElem_toArray, List.getElem_cons_succ, List.getElem_cons_zero]
                        refine wpAnyH_take (i := 22) (v := undef) rfl (by kernel_rfl) (by kernel_rfl) (by kernel_rfl) (fun _ _ _ h => h) (Or.inr ⟨by kernel_rfl, rfl⟩) hS0 ?_
                        try simp only [Act.put, List.setIfInBounds_toArray, List.set_cons_zero, List.set_cons_succ, List.getElem_toArray, List.getElem_cons_succ, List.getElem_cons_zero]
                        refine wpAnyH_take (i := 23) (v := ?_) rfl (by kernel_rfl) (by kernel_rfl) (by kernel_rfl) (fun _ _ _ h => h) (Or.inl ⟨by kernel_rfl, ?_⟩) hS0 ?_
                        rotate_left
                        · (intro W hSw; clear hSw; go_simp; try with_reducible rfl)
                        try simp only [Act.put, List.setIfInBounds_toArray, List.set_cons_zero, List.set_cons_succ, List.getElem_toArray, List.getElem_cons_succ, List.getElem_cons_zero]
                        refine wpAnyH_done (by kernel_rfl) ?_ _
                        clear hS0
                        have k0o := HXk.out.cell 0 (v := .int .i64 22) rfl
                        have x4 := HRk.out.bx.cell 4 (v := .slice pp np cp) rfl
                        go_wp2_with fail
                        refine (among_any HRk.out.p (by rw [Hnp.out]; omega) Z HZm.out).mono ?_; rintro e' _ ⟨rfl, rfl⟩
                        go_wp2
                        go_roundw
                        case rel => exact ⟨k + 1, Hlt.out, by go_num, HGk⟩
                        case measure => simp [intOf]; have := Hlt.out; omega
                      have hb22 : (o == 22) = false := by simpa using h22
                      clear h16
                      clear h17
                      clear h18
                      clear h19
                      clear h20
                      clear h21
                      clear h22
                      have hg0 : w6.grownBy w6.drew none := grown_drew (grown_refl _ none)
                      have HGk := hid (grown_trans HG6.out hg0)
                      have HRk := hid (HA.out.kept0 HGk.out)
                      have HXk := hid (HX6.out.kept0 hg0)
                      refine wp_region_held_drew (S := fun W => RwAt W XI 36 #[.int .i64 o, .int .i64 ia, .int .i64 ib, .int .i64 c, .int .u32 0] ∧ W.cell? ⟨X, 5, none⟩ = some (.slice (some ⟨bp, op, none⟩) ns cs)) (by kernel_rfl) ⟨HXk.out, HRk.out.bx.cell 5 rfl⟩ (fun hS0 => ?_)
                      clear hg0 HG6 HX6
                      generalize hwd : w6.drew = wd at HGk HRk HXk hS0 ⊢
                      clear hwd
                      refine wpAnyH_take (i := 0) (v := ?_) rfl (by kernel_rfl) (by kernel_rfl) (by kernel_rfl) (fun _ _ _ h => h) (Or.inl ⟨by kernel_rfl, ?_⟩) hS0 ?_
                      rotate_left
                      · (intro W hSw; clear hSw; go_simp; try with_reducible rfl)
                      try simp only [Act.put, List.setIfInBounds_toArray, List.set_cons_zero, List.set_cons_succ, List.getElem_toArray, List.getElem_cons_zero]
                      refine wpAnyH_take (i := 1) (v := ?_) rfl (by kernel_rfl) (by kernel_rfl) (by kernel_rfl) (fun _ _ _ h => h) (Or.inl ⟨by kernel_rfl, ?_⟩) hS0 ?_
                      rotate_left
                      · (intro W hSw; have hc := hSw.1.cell 0 (v := .int .i64 o) rfl; clear hSw; go_simp; try with_reducible rfl)
                      try simp only [Act.put, List.setIfInBounds_toArray, List.set_cons_zero, List.set_cons_succ, List.getElem_toArray, List.getElem_cons_succ, List.getElem_cons_zero]
                      refine wpAnyH_take (i := 2) (v := ?_) rfl (by kernel_rfl) (by kernel_rfl) (by kernel_rfl) (fun _ _ _ h => h) (Or.inl ⟨by kernel_rfl, ?_⟩) hS0 ?_
                      rotate_left
                      · (intro W hSw; clear hSw; go_simp; try with_reducible rfl)
                      try simp only [Act.put, List.setIfInBounds_toArray, List.set_cons_zero, List.set_cons_succ, List.getElem_toArray, List.getElem_cons_succ, List.getElem_cons_zero]
                      refine wpAnyH_take (i := 3) (v := ?_) rfl (by kernel_rfl) (by kernel_rfl) (by kernel_rfl) (fun _ _ _ h => h) (Or.inl ⟨by kernel_rfl, ?_⟩) hS0 ?_
                      rotate_left
                      · (intro W hSw; clear hSw; go_simp; try with_reducible rfl)
                      try simp only [Act.put, List.setIfInBounds_toArray, List.set_cons_zero, List.set_cons_succ, List.getElem_toArray, List.getElem_cons_succ, List.getElem_cons_zero]
                      refine wpAnyH_take (i := 4) (v := ?_) rfl (by kernel_rfl) (by kernel_rfl) (by kernel_rfl) (fun _ _ _ h => h) (Or.inl ⟨by kernel_rfl, ?_⟩) hS0 ?_
                      rotate_left
                      · (intro W hSw; clear hSw; go_simp; try with_reducible rfl)
                      try simp only [Act.put, List.setIfInBounds_toArray, List.set_cons_zero, List.set_cons_succ, List.getElem_toArray, List.getElem_cons_succ, List.getElem_cons_zero]
                      refine wpAnyH_take (i := 5) (v := ?_) rfl (by kernel_rfl) (by kernel_rfl) (by kernel_rfl) (fun _ _ _ h => h) (Or.inl ⟨by kernel_rfl, ?_⟩) hS0 ?_
                      rotate_left
                      · (intro W hSw; have hc := hSw.1.cell 0 (v := .int .i64 o) rfl; clear hSw; go_simp; try with_reducible rfl)
                      try simp only [Act.put, List.setIfInBounds_toArray, List.set_cons_zero, List.set_cons_succ, List.getElem_toArray, List.getElem_cons_succ, List.getElem_cons_zero]
                      refine wpAnyH_take (i := 6) (v := ?_) rfl (by kernel_rfl) (by kernel_rfl) (by kernel_rfl) (fun _ _ _ h => h) (Or.inl ⟨by kernel_rfl, ?_⟩) hS0 ?_
                      rotate_left
                      · (intro W hSw; clear hSw; go_simp; try with_reducible rfl)
                      try simp only [Act.put, List.setIfInBounds_toArray, List.set_cons_zero, List.set_cons_succ, List.getElem_toArray, List.getElem_cons_succ, List.getElem_cons_zero]
                      refine wpAnyH_take (i := 7) (v := ?_) rfl (by kernel_rfl) (by kernel_rfl) (by kernel_rfl) (fun _ _ _ h => h) (Or.inl ⟨by kernel_rfl, ?_⟩) hS0 ?_
                      rotate_left
                      · (intro W hSw; clear hSw; go_simp; try with_reducible rfl)
                      try simp only [Act.put, List.setIfInBounds_toArray, List.set_cons_zero, List.set_cons_succ, List.getElem_toArray, List.getElem_cons_succ, List.getElem_cons_zero]
                      refine wpAnyH_take (i := 8) (v := ?_) rfl (by kernel_rfl) (by kernel_rfl) (by kernel_rfl) (fun _ _ _ h => h) (Or.inl ⟨by kernel_rfl, ?_⟩) hS0 ?_
                      rotate_left
                      · (intro W hSw; clear hSw; go_simp; try with_reducible rfl)
                      try simp only [Act.put, List.setIfInBounds_toArray, List.set_cons_zero, List.set_cons_succ, List.getElem_toArray, List.getElem_cons_succ, List.getElem_cons_zero]
                      refine wpAnyH_take (i := 9) (v := ?_) rfl (by kernel_rfl) (by kernel_rfl) (by kernel_rfl) (fun _ _ _ h => h) (Or.inl ⟨by kernel_rfl, ?_⟩) hS0 ?_
                      rotate_left
                      · (intro W hSw; clear hSw; go_simp; try with_reducible rfl)
                      try simp only [Act.put, List.setIfInBounds_toArray, List.set_cons_zero, List.set_cons_succ, List.getElem_toArray, List.getElem_cons_succ, List.getElem_cons_zero]
                      refine wpAnyH_take (i := 10) (v := ?_) rfl (by kernel_rfl) (by kernel_rfl) (by kernel_rfl) (fun _ _ _ h => h) (Or.inl ⟨by kernel_rfl, ?_⟩) hS0 ?_
                      rotate_left
                      · (intro W hSw; have hc := hSw.1.cell 0 (v := .int .i64 o) rfl; clear hSw; go_simp; try with_reducible rfl)
                      try simp only [Act.put, List.setIfInBounds_toArray, List.set_cons_zero, List.set_cons_succ, List.getElem_toArray, List.getElem_cons_succ, List.getElem_cons_zero]
                      refine wpAnyH_take (i := 11) (v := ?_) rfl (by kernel_rfl) (by kernel_rfl) (by kernel_rfl) (fun _ _ _ h => h) (Or.inl ⟨by kernel_rfl, ?_⟩) hS0 ?_
                      rotate_left
                      · (intro W hSw; clear hSw; go_simp; try with_reducible rfl)
                      try simp only [Act.put, List.setIfInBounds_toArray, List.set_cons_zero, List.set_cons_succ, List.getElem_toArray, List.getElem_cons_succ, List.getElem_cons_zero]
                      refine wpAnyH_take (i := 12) (v := ?_) rfl (by kernel_rfl) (by kernel_rfl) (by kernel_rfl) (fun _ _ _ h => h) (Or.inl ⟨by kernel_rfl, ?_⟩) hS0 ?_
                      rotate_left
                      · (intro W hSw; clear hSw; go_simp; try with_reducible rfl)
                      try simp only [Act.put, List.setIfInBounds_toArray, List.set_cons_zero, List.set_cons_succ, List.getElem_toArray, List.getElem_cons_succ, List.getElem_cons_zero]
                      refine wpAnyH_take (i := 13) (v := ?_) rfl (by kernel_rfl) (by kernel_rfl) (by kernel_rfl) (fun _ _ _ h => h) (Or.inl ⟨by kernel_rfl, ?_⟩) hS0 ?_
                      rotate_left
                      · (intro W hSw; clear hSw; go_simp; try with_reducible rfl)
                      try simp only [Act.put, List.setIfInBounds_toArray, List.set_cons_zero, List.set_cons_succ, List.getElem_toArray, List.getElem_cons_succ, List.getElem_cons_zero]
                      refine wpAnyH_take (i := 14) (v := undef) rfl (by kernel_rfl) (by kernel_rfl) (by kernel_rfl) (fun _ _ _ h => h) (Or.inr ⟨by kernel_rfl, rfl⟩) hS0 ?_
                      try simp only [Act.put, List.setIfInBounds_toArray, List.set_cons_zero, List.set_cons_succ, List.getElem_toArray, List.getElem_cons_succ, List.getElem_cons_zero]
                      refine wpAnyH_take (i := 15) (v := undef) rfl (by kernel_rfl) (by kernel_rfl) (by kernel_rfl) (fun _ _ _ h => h) (Or.inr ⟨by kernel_rfl, rfl⟩) hS0 ?_
                      try simp only [Act.put, List.setIfInBounds_toArray, List.set_cons_zero, List.set_cons_succ, List.getElem_toArray, List.getElem_cons_succ, List.getElem_cons_zero]
                      refine wpAnyH_take (i := 16) (v := undef) rfl (by kernel_rfl) (by kernel_rfl) (by kernel_rfl) (fun _ _ _ h => h) (Or.inr ⟨by kernel_rfl, rfl⟩) hS0 ?_
                      try simp only [Act.put, List.setIfInBounds_toArray, List.set_cons_zero, List.set_cons_succ, List.getElem_toArray, List.getElem_cons_succ, List.getElem_cons_zero]
                      refine wpAnyH_take (i := 17) (v := undef) rfl (by kernel_rfl) (by kernel_rfl) (by kernel_rfl) (fun _ _ _ h => h) (Or.inr ⟨by kernel_rfl, rfl⟩) hS0 ?_
                      try simp only [Act.put, List.setIfInBounds_toArray, List.set_cons_zero, List.set_cons_succ, List.getElem_toArray, List.getElem_cons_succ, List.getElem_cons_zero]
                      refine wpAnyH_take (i := 18) (v := undef) rfl (by kernel_rfl) (by kernel_rfl) (by kernel_rfl) (fun _ _ _ h => h) (Or.inr ⟨by kernel_rfl, rfl⟩) hS0 ?_
                      try simp only [Act.put, List.setIfInBounds_toArray, List.set_cons_zero, List.set_cons_succ, List.getElem_toArray, List.getElem_cons_succ, List.getElem_cons_zero]
                      refine wpAnyH_take (i := 19) (v := undef) rfl (by kernel_rfl) (by kernel_rfl) (by kernel_rfl) (fun _ _ _ h => h) (Or.inr ⟨by kernel_rfl, rfl⟩) hS0 ?_
                      try simp only [Act.put, List.setIfInBounds_toArray, List.set_cons_zero, List.set_cons_succ, List.getElem_toArray, List.getElem_cons_succ, List.getElem_cons_zero]
                      refine wpAnyH_take (i := 20) (v := undef) rfl (by kernel_rfl) (by kernel_rfl) (by kernel_rfl) (fun _ _ _ h => h) (Or.inr ⟨by kernel_rfl, rfl⟩) hS0 ?_
                      try simp only [Act.put, List.setIfInBounds_toArray, List.set_cons_zero, List.set_cons_succ, List.getElem_toArray, List.getElem_cons_succ, List.getElem_cons_zero]
                      refine wpAnyH_take (i := 21) (v := undef) rfl (by kernel_rfl) (by kernel_rfl) (by kernel_rfl) (fun _ _ _ h => h) (Or.inr ⟨by kernel_rfl, rfl⟩) hS0 ?_
                      try simp only [Act.put, List.setIfInBounds_toArray, List.set_cons_zero, List.set_cons_succ, List.getElem_toArray, List.getElem_cons_succ, List.getElem_cons_zero]
                      refine wpAnyH_take (i := 22) (v := undef) rfl (by kernel_rfl) (by kernel_rfl) (by kernel_rfl) (fun _ _ _ h => h) (Or.inr ⟨by kernel_rfl, rfl⟩) hS0 ?_
                      try simp only [Act.put, List.setIfInBounds_toArray, List.set_cons_zero, List.set_cons_succ, List.getElem_toArray, List.getElem_cons_succ, List.getElem_cons_zero]
                      refine wpAnyH_take (i := 23) (v := ?_) rfl (by kernel_rfl) (by kernel_rfl) (by kernel_rfl) (fun _ _ _ h => h) (Or.inl ⟨by kernel_rfl, ?_⟩) hS0 ?_
                      rotate_left
                      · (intro W hSw; clear hSw; go_simp; try with_reducible rfl)
                      try simp only [Act.put, List.setIfInBounds_toArray, List.set_cons_zero, List.set_cons_succ, List.getElem_toArray, List.getElem_cons_succ, List.getElem_cons_zero]
                      refine wpAnyH_done (by kernel_rfl) ?_ _
                      clear hS0
                      have k0o := HXk.out.cell 0 (v := .int .i64 o) rfl
                      go_wp2
                      go_roundw
                      case rel => exact ⟨k + 1, Hlt.out, by go_num, HGk⟩
                      case measure => simp [intOf]; have := Hlt.out; omega
                    · obtain rfl : ns = k := by omega
                      have kn : ¬ ((ns : Int) < (ns : Int)) := by omega
                      clear hlt hk
                      have hE := P7.out _ P4.out
                      have e00 : 0 ≤ e0 := by omega
                      have e01 : e0 < 4294967296 := by omega
                      have HZm : Hid (decide (e0 - 2048 ∈ I.st) = true) := hid (decide_eq_true P4.out)
                      obtain ⟨Z, hZ⟩ : ∃ Z, e0 - 2048 = Z := ⟨_, rfl⟩
                      rw [hZ] at HZm
                      have Zb0 : 0 ≤ Z := by omega
                      have Zb1 : Z < 2048 := by omega
                      have hZw : IntKind.i64.wrap Z = Z := by rw [IntKind.wrap_i64]; omega
                      have x0 := HR.out.bx.cell 0 (v := .int .u32 e0) rfl
                      have x1 := HR.out.bx.cell 1 (v := .slice pD nD cD) rfl
                      have x2 := HR.out.bx.cell 2 (v := .slice pC m cC) rfl
                      have nDl : nD ≤ 2048 := Pl.out.1
                      have ml : m ≤ 2048 := Pl.out.2.1
                      clear hE
                      go_upto_region 32 with (fail)
                      go_wp2_with fail
                      refine (among_any HR.out.s (by rw [Hns.out]; omega) Z HZm.out).mono ?_; rintro e' _ ⟨rfl, rfl⟩
                      go_wp2
                      go_ret
                      exact ⟨rfl, grown_trans HG3.out HG.out⟩
end Go.Proofs.YteanjchbnaoopaaDoor

/- Package link: a word of the image's Code repaired (program.fix): contracts. (Made by golnk15.py.) -/
import Derived.Test.YtnpnafidhcnkhaaGreatDoorYLnkR
import Derived.Test.YtnpnafidhcnkhaaGreatDoorYLnk7
import Derived.Deep.AppendLies
namespace Go.Proofs.YtnpnafidhcnkhaaGreatDoor
open Go.RowKit
/-- the rows of an image that is being made -/
def imRo (vD vC vd vp vs : Value) (I : Im) : List Ro := [⟨vD, 27, 1, I.D.length, I.D.map (Value.int .u32)⟩, ⟨vC, 27, 1, I.C.length, I.C.map (Value.int .u32)⟩, ⟨vd, 3, 1, I.dr.length, I.dr.map (Value.int .i64)⟩, ⟨vp, 3, 1, I.pl.length, I.pl.map (Value.int .i64)⟩, ⟨vs, 3, 1, I.st.length, I.st.map (Value.int .i64)⟩]
/-- the rows of the program that are only read -/
def pgRd (v2 v3 v4 v5 vl : Value) (X : Wh) (l : Nat → Int) : List Ro := [⟨v2, 27, 1, X.C.length, X.C.map (Value.int .u32)⟩, ⟨v3, 5, 1, X.K.length, X.K.map (Value.int .u8)⟩, ⟨v4, 106, 5, X.R.length, fxsL X.R⟩, ⟨v5, 106, 5, X.Q.length, fxsL X.Q⟩, ⟨vl, 3, 1, X.C.length + 1, ((List.range (X.C.length + 1)).map l).map (Value.int .i64)⟩]
abbrev IgB (w0 w : World) (base H : Nat) (E : List Ro) (v2 v3 v4 v5 vl vD vC vd vp vs : Value) (X : Wh) (l : Nat → Int) (I : Im) : Prop := RosB w0 w base H 45 [.int .u32 I.e] (imRo vD vC vd vp vs I) (pgRd v2 v3 v4 v5 vl X l ++ E)
theorem info_intF : ∃ i : TypeInfo, Tryz.prog.info? 3 = some i ∧ i.zero = some (.int .i64 0) ∧ i.size = 1 ∧ i.bytes = 8 := info_parts (P := Tryz.prog) (e := 3) (z := .int .i64 0) (size := 1) (bytes := 8) (by kernel_rfl)
theorem info_repS : (Tryz.prog.info? 106).map (·.size) = some 5 := by kernel_rfl
section
variable {w0 w w1 : World} {base H gC c n gl cl gc cc : Nat} {E : List Ro} {v2 v3 v4 v5 vl vD vC vd vp vs : Value} {X : Wh} {l : Nat → Int} {I : Im}
theorem imRo_setC (A : Nat) (V : Int) : (imRo vD vC vd vp vs I).set 1 ⟨vC, 27, 1, I.C.length, (I.C.map (Value.int .u32)).set A (.int .u32 V)⟩ = imRo vD vC vd vp vs ⟨I.e, I.D, I.C.set A V, I.dr, I.pl, I.st⟩ := by
  simp [imRo, List.map_set, List.length_set]
theorem IgB.kept0 (h : IgB w0 w base H E v2 v3 v4 v5 vl vD vC vd vp vs X l I) (hg : w.grownBy w1 none) : IgB w0 w1 base H E v2 v3 v4 v5 vl vD vC vd vp vs X l I := RosB.kept0 h hg
theorem IgB.setC {m : Nat} (hm : I.C.length = m) (h : IgB w0 w base H E v2 v3 v4 v5 vl vD (.slice (some ⟨gC, 0, none⟩) m c) vd vp vs X l I) (A : Nat) (V : Int) :
    IgB w0 (w.setCell ⟨gC, A, none⟩ (.int .u32 V)) base H E v2 v3 v4 v5 vl vD (.slice (some ⟨gC, 0, none⟩) m c) vd vp vs X l ⟨I.e, I.D, I.C.set A V, I.dr, I.pl, I.st⟩ := by
  subst hm
  have := RosB.store (k := 1) h rfl A (.int .u32 V)
  rw [imRo_setC] at this
  exact this
theorem IgB.addP (h : IgB w0 w base H E v2 v3 v4 v5 vl vD vC vd vp vs X l I) {v' : Value} (p : Int) (ho : w1.ownsRow base 3 1 v' (I.pl.length + 1) (I.pl.map (Value.int .i64) ++ [.int .i64 p])) (hg : w.grownBy w1 vp.ownBlock) (hat : v'.ownBlock = vp.ownBlock ∨ v'.ownBlock = some w.heap.size) :
    IgB w0 (w1.setCell ⟨H, 4, none⟩ v') base H E v2 v3 v4 v5 vl vD vC vd v' vs X l ⟨I.e, I.D, I.C, I.dr, I.pl ++ [p], I.st⟩ := by
  have := RosB.step (k := 3) (n' := I.pl.length + 1) h rfl ho hg hat
  have e : (imRo vD vC vd vp vs I).set 3 ⟨v', 3, 1, I.pl.length + 1, I.pl.map (Value.int .i64) ++ [.int .i64 p]⟩ = imRo vD vC vd v' vs ⟨I.e, I.D, I.C, I.dr, I.pl ++ [p], I.st⟩ := by
    simp [imRo]
  rw [e] at this
  exact this
theorem IgB.ld (h : IgB w0 w base H E v2 v3 v4 v5 (.slice (some ⟨gl, 0, none⟩) (X.C.length + 1) cl) vD vC vd vp vs X l I) {k : Nat} (hk : k < X.C.length + 1) : w.cell? ⟨gl, k, none⟩ = some (.int .i64 (l k)) :=
  have hr : (⟨.slice (some ⟨gl, 0, none⟩) (X.C.length + 1) cl, 3, 1, X.C.length + 1, ((List.range (X.C.length + 1)).map l).map (Value.int .i64)⟩ : Ro) ∈ pgRd v2 v3 v4 v5 (.slice (some ⟨gl, 0, none⟩) (X.C.length + 1) cl) X l ++ E := by simp [pgRd]
  RosB.rdc h hr k (by rw [List.getElem?_map, List.getElem?_map, List.getElem?_range hk]; rfl)
theorem IgB.cd (h : IgB w0 w base H E (.slice (some ⟨gc, 0, none⟩) X.C.length cc) v3 v4 v5 vl vD vC vd vp vs X l I) {k : Nat} {x : Int} (hk : X.C[k]? = some x) : w.cell? ⟨gc, k, none⟩ = some (.int .u32 x) :=
  have hr : (⟨.slice (some ⟨gc, 0, none⟩) X.C.length cc, 27, 1, X.C.length, X.C.map (Value.int .u32)⟩ : Ro) ∈ pgRd (.slice (some ⟨gc, 0, none⟩) X.C.length cc) v3 v4 v5 vl X l ++ E := by simp [pgRd]
  RosB.rdc h hr k (by rw [List.getElem?_map, hk]; rfl)
theorem IgB.sl (h : IgB w0 w base H E v2 v3 v4 v5 vl vD vC vd vp vs X l I) : SlAt w .i64 vl ((List.range (X.C.length + 1)).map l) := by
  have h1 : w.ownsRow base 3 1 vl (X.C.length + 1) (((List.range (X.C.length + 1)).map l).map (Value.int .i64)) := h.rd ⟨vl, 3, 1, X.C.length + 1, ((List.range (X.C.length + 1)).map l).map (Value.int .i64)⟩ (by simp [pgRd])
  have h3 : w.ownsRow base 3 1 vl ((List.range (X.C.length + 1)).map l).length (((List.range (X.C.length + 1)).map l).map (Value.int .i64)) := by rw [List.length_map, List.length_range]; exact h1
  exact SlAt.own h3
theorem IgB.c2 (h : IgB w0 w base H E v2 v3 v4 v5 vl vD vC vd vp vs X l I) : w.cell? ⟨H, 2, none⟩ = some vC ∧ w.frozen? ⟨H, 2, none⟩ = false := ⟨h.row.cell 2 (v := vC) rfl, h.row.free 2⟩
theorem IgB.c4 (h : IgB w0 w base H E v2 v3 v4 v5 vl vD vC vd vp vs X l I) : w.cell? ⟨H, 4, none⟩ = some vp ∧ w.frozen? ⟨H, 4, none⟩ = false := ⟨h.row.cell 4 (v := vp) rfl, h.row.free 4⟩
theorem IgB.cC {m : Nat} (hm : I.C.length = m) (h : IgB w0 w base H E v2 v3 v4 v5 vl vD (.slice (some ⟨gC, 0, none⟩) m c) vd vp vs X l I) {A : Nat} (hA : A < m) : (∃ u, w.cell? ⟨gC, A, none⟩ = some u) ∧ w.frozen? ⟨gC, A, none⟩ = false := by
  subst hm
  have h1 := h.at_ (k := 1) (r := ⟨.slice (some ⟨gC, 0, none⟩) I.C.length c, 27, 1, I.C.length, I.C.map (Value.int .u32)⟩) rfl
  simp only at h1
  exact ⟨⟨_, (h1.cellAt A (by omega)).trans (List.getElem?_eq_getElem (by simpa using hA))⟩, h1.frozenAt A⟩
end
set_option maxRecDepth 100000 in
set_option maxHeartbeats 16000000 in
theorem fix_any (w0 W : World) (base H : Nat) (E : List Ro) (v1 v2 v3 v4 v5 vl mv vD vC vd vp vs : Value) (X : Wh) (l : Nat → Int) (I : Im) (r : Fx) (h : IgB w0 W base H E v2 v3 v4 v5 vl vD vC vd vp vs X l I)
    (hl : LInc l X.C.length) (hb : l X.C.length ≤ 2048) (hC : (I.C.length : Int) = l X.C.length) (hp : I.pl.length ≤ 2000000) (a : Nat) (ha : r.a = a) (han : a < X.C.length) (hk : r.k = 1 ∨ r.k = 2) (ht : TgtOk X.C.length r.t) (hbr : r.k = 2 → ∃ c : Nat, r.t.a = c ∧ c < X.C.length) (hw : ∀ x ∈ X.C, 0 ≤ x ∧ x < 4294967296) :
    Calls Tryz.prog 41 #[.agg (pgV v1 v2 v3 v4 v5 vl mv), .pointer (some ⟨H, 0, none⟩), .agg (fxL r).toArray] W fun e w' => e = .returned (.tuple #[]) ∧ ∃ vp', IgB w0 w' base H E v2 v3 v4 v5 vl vD vC vd vp' vs X l (fxC X l I r) := by
  obtain ⟨n, hn⟩ : ∃ n, X.C.length = n := ⟨_, rfl⟩
  obtain ⟨ra, rk, ⟨ti, ta⟩, rd⟩ := r
  simp only at ha hk ht hbr
  subst ha
  have hinc := hl.i a (a + 1) (by omega) (by omega)
  have hle := hl.le (j := a + 1) han (Nat.le_refl _)
  have hnn := hl.nn (k := a) (by omega)
  have o2 := h.rd ⟨v2, 27, 1, X.C.length, X.C.map (Value.int .u32)⟩ (by simp [pgRd])
  obtain ⟨gc, cc, e2⟩ := own_some o2 (by simp only; omega)
  simp only at e2
  have ol := h.rd ⟨vl, 3, 1, X.C.length + 1, ((List.range (X.C.length + 1)).map l).map (Value.int .i64)⟩ (by simp [pgRd])
  obtain ⟨gl, cl, el⟩ := own_some ol (by simp only; omega)
  simp only at el
  have oC := h.at_ (k := 1) (r := ⟨vC, 27, 1, I.C.length, I.C.map (Value.int .u32)⟩) rfl
  obtain ⟨gC, cC, eC⟩ := own_some oC (by simp only; omega)
  simp only at eC
  subst e2 el eC
  obtain ⟨x, hx⟩ : ∃ x, X.C[a]? = some x := ⟨_, List.getElem?_eq_getElem han⟩
  obtain ⟨A, hA⟩ : ∃ A : Nat, l a = A := ⟨(l a).toNat, by omega⟩
  have HxC : Hid (X.C.getD a 0 = x) := hid (getD_of hx)
  have Hxw := hid (hw x (List.mem_of_getElem? hx))
  have HA := hid hA
  obtain ⟨m, hm⟩ : ∃ m, I.C.length = m := ⟨_, rfl⟩
  have Hm := hid hm
  have Hn := hid hn
  have HLi := hid hl
  have HAm : Hid (A < m) := hid (by omega)
  have Hl2 : Hid (l (a + 1) ≤ m ∧ (m : Int) ≤ 2048) := hid (by omega)
  have Ht := hid ht
  have Hbr := hid hbr
  have Hpl := hid hp
  obtain ⟨q, hq⟩ : ∃ q, I.pl.length = q := ⟨_, rfl⟩
  have Hq := hid hq
  have oP := h.at_ (k := 3) (r := ⟨vp, 3, 1, I.pl.length, I.pl.map (Value.int .i64)⟩) rfl
  obtain ⟨pp, pcp, eP⟩ := own_slice oP
  simp only at eP
  rw [hq] at eP
  subst eP
  have H2 := hid (two_boxes (W := W) (a := #[v1, .slice (some ⟨gc, 0, none⟩) X.C.length cc, v3, v4, v5, .slice (some ⟨gl, 0, none⟩) (X.C.length + 1) cl, mv]) (b := #[.int .i64 (a : Int), .int .i64 rk, .int .i64 ti, .int .i64 ta, .int .i64 rd]) (t := 78) (u := 106))
  have HB := hid (h.kept0 H2.out.2.2)
  have He1 : Hid (∀ (w : World) (vC' vp' : Value) (I' : Im), IgB w0 w base H E (.slice (some ⟨gc, 0, none⟩) X.C.length cc) v3 v4 v5 (.slice (some ⟨gl, 0, none⟩) (X.C.length + 1) cl) vD vC' vd vp' vs X l I' → (∀ k, k ≤ X.C.length → w.cell? ⟨gl, k, none⟩ = some (.int .i64 (l k))) ∧ w.cell? ⟨gc, a, none⟩ = some (.int .u32 x) ∧ SlAt w .i64 (.slice (some ⟨gl, 0, none⟩) (X.C.length + 1) cl) ((List.range (X.C.length + 1)).map l)) := hid (fun w vC' vp' I' hw => ⟨fun k hk => hw.ld (by omega), hw.cd hx, hw.sl⟩)
  have HgC : Hid (gC < W.heap.size) := hid ((oC.lt gC rfl).2)
  have Hend : Hid (l X.C.length ≤ 2048) := hid hb
  have Hle : Hid (a < X.C.length) := hid han
  clear h hl hb hC hp han ht hbr hw hinc hle hnn o2 ol oC oP hx hA hq
  obtain ⟨N, hN⟩ : ∃ N, X.C.length + 1 = N := ⟨_, rfl⟩
  have HN := hid hN
  unfold pgV fxL
  rw [hm] at HB ⊢
  rw [hN] at H2 HB He1 ⊢
  rw [hn] at H2 HB He1 Hle ⊢
  clear hm hN hn
  have a0 : (0 : Int) ≤ (a : Int) := by omega
  have an : (a : Int) < (n : Int) := by have := Hle.out; omega
  have aN : (a : Int) < (N : Int) := by have := Hle.out; have := HN.out; have := Hn.out; omega
  have A0 : (0 : Int) ≤ (A : Int) := by omega
  have Am : (A : Int) < (m : Int) := by have := HAm.out; omega
  go_enter Tryz.func41, Tryz.ntmps41
  go_upto_region 1 with (fail)
  generalize (W.alloc (.cells #[v1, .slice (some ⟨gc, 0, none⟩) n cc, v3, v4, v5, .slice (some ⟨gl, 0, none⟩) N cl, mv] 78)).alloc (.cells #[.int .i64 (a : Int), .int .i64 rk, .int .i64 ti, .int .i64 ta, .int .i64 rd] 106) = w1 at H2 HB ⊢
  obtain ⟨b1, hb1⟩ : ∃ b, W.heap.size = b := ⟨_, rfl⟩
  obtain ⟨b2, hb2⟩ : ∃ b, b1 + 1 = b := ⟨_, rfl⟩
  have Hne : Hid (some b1 ≠ some gC ∧ some b2 ≠ some gC) := hid (by
    have h1 := HgC.out
    exact ⟨fun e => (by have := Option.some.inj e; omega), fun e => (by have := Option.some.inj e; omega)⟩)
  rw [hb1, hb2] at H2 ⊢
  clear hb1 hb2
  have hg0 : w1.grownBy w1.drew none := grown_drew (grown_refl _ none)
  have HP := hid (H2.out.1.kept0 hg0)
  have HR := hid (H2.out.2.1.kept0 hg0)
  have HB1 := hid (HB.out.kept0 hg0)
  have e1 := (He1.out _ _ _ _ HB1.out).1 a (Nat.le_of_lt Hle.out)
  rw [HA.out] at e1
  have e2 := (He1.out _ _ _ _ HB1.out).2.1
  have p1 := HP.out.cell 1 (v := .slice (some ⟨gc, 0, none⟩) n cc) rfl
  have p5 := HP.out.cell 5 (v := .slice (some ⟨gl, 0, none⟩) N cl) rfl
  have r0 := HR.out.cell 0 (v := .int .i64 (a : Int)) rfl
  clear hg0 H2 HB
  go_region
  clear e1 e2 p1 p5 r0
  generalize w1.drew = w2 at HP HR HB1 ⊢
  by_cases hk1 : rk = 1
  · subst hk1
    have r1 := HR.out.cell 1 (v := .int .i64 1) rfl
    go_upto_region 4 with (fail)
    clear r1
    have HW := hid (fun W h => word_lnk W v1 (.slice (some ⟨gc, 0, none⟩) n cc) v3 v4 v5 (.slice (some ⟨gl, 0, none⟩) N cl) mv l N h ⟨(a : Int), 1, ⟨ti, ta⟩, rd⟩ Ht.out.1 (fun e => by obtain ⟨_, k, h1, h2⟩ := Ht.out.2 e; exact ⟨k, h1, by have := HN.out; omega, HLi.out.nn (by omega), by have h3 := HLi.out.i k _ h2 (Nat.le_refl _); have h4 := Hend.out; omega⟩))
    obtain ⟨V, hV⟩ : ∃ V, wdP l ⟨(a : Int), 1, ⟨ti, ta⟩, rd⟩ = V := ⟨_, rfl⟩
    have HV := hid hV
    unfold pgV fxL at HW
    simp only [hV] at HW
    clear hV
    have hg0 : w2.grownBy w2.drew none := grown_drew (grown_refl _ none)
    have HB3 := hid (HB1.out.kept0 hg0)
    refine wp_region_held_drew (S := fun W => RwAt W b1 78 #[v1, .slice (some ⟨gc, 0, none⟩) n cc, v3, v4, v5, .slice (some ⟨gl, 0, none⟩) N cl, mv] ∧ RwAt W b2 106 #[.int .i64 (a : Int), .int .i64 1, .int .i64 ti, .int .i64 ta, .int .i64 rd] ∧ W.cell? ⟨H, 2, none⟩ = some (.slice (some ⟨gC, 0, none⟩) m cC)) (by kernel_rfl) ⟨HP.out.kept0 hg0, HR.out.kept0 hg0, HB3.out.c2.1⟩ (fun hS0 => ?_)
    clear hg0 HB1 HP HR
    generalize w2.drew = w3 at HB3 hS0 ⊢
    refine wpAnyH_take (i := 0) (v := ?_) rfl (by kernel_rfl) (by kernel_rfl) (by kernel_rfl) (fun _ _ _ h => h) (Or.inl ⟨by kernel_rfl, ?_⟩) hS0 ?_
    rotate_left
    · (intro W hSw; clear hSw; go_simp; try with_reducible rfl)
    try simp only [Act.put, List.setIfInBounds_toArray, List.set_cons_zero, List.set_cons_succ, List.getElem_toArray, List.getElem_cons_zero]
    refine wpAnyH_take (i := 1) (v := ?_) rfl (by kernel_rfl) (by kernel_rfl) (by kernel_rfl) (fun _ _ _ h => h) (Or.inl ⟨by kernel_rfl, ?_⟩) hS0 ?_
    rotate_left
    · (intro W hSw; clear hSw; go_simp; try with_reducible rfl)
    try simp only [Act.put, List.setIfInBounds_toArray, List.set_cons_zero, List.set_cons_succ, List.getElem_toArray, List.getElem_cons_succ, List.getElem_cons_zero]
    refine wpAnyH_take (i := 2) (v := ?_) rfl (by kernel_rfl) (by kernel_rfl) (by kernel_rfl) (fun _ _ _ h => h) (Or.inl ⟨by kernel_rfl, ?_⟩) hS0 ?_
    rotate_left
    · (intro W hSw; clear hSw; go_simp; try with_reducible rfl)
    try simp only [Act.put, List.setIfInBounds_toArray, List.set_cons_zero, List.set_cons_succ, List.getElem_toArray, List.getElem_cons_succ, List.getElem_cons_zero]
    refine wpAnyH_take (i := 3) (v := ?_) rfl (by kernel_rfl) (by kernel_rfl) (by kernel_rfl) (fun _ _ _ h => h) (Or.inl ⟨by kernel_rfl, ?_⟩) hS0 ?_
    rotate_left
    · (intro W hSw; have hc := hSw.2.2; clear hSw; go_simp; try with_reducible rfl)
    try simp only [Act.put, List.setIfInBounds_toArray, List.set_cons_zero, List.set_cons_succ, List.getElem_toArray, List.getElem_cons_succ, List.getElem_cons_zero]
    refine wpAnyH_take (i := 4) (v := ?_) rfl (by kernel_rfl) (by kernel_rfl) (by kernel_rfl) (fun _ _ _ h => h) (Or.inl ⟨by kernel_rfl, ?_⟩) hS0 ?_
    rotate_left
    · (intro W hSw; clear hSw; go_simp; try with_reducible rfl)
    try simp only [Act.put, List.setIfInBounds_toArray, List.set_cons_zero, List.set_cons_succ, List.getElem_toArray, List.getElem_cons_succ, List.getElem_cons_zero]
    refine wpAnyH_take (i := 5) (v := .agg #[v1, .slice (some ⟨gc, 0, none⟩) n cc, v3, v4, v5, .slice (some ⟨gl, 0, none⟩) N cl, mv]) rfl (by kernel_rfl) (by kernel_rfl) (by kernel_rfl) (fun _ _ _ h => h) (Or.inl ⟨by kernel_rfl, fun W hW => run_load_row _ _ rfl rfl (hW.1).blk rfl Tryz.underlying78 info_program⟩) hS0 ?_
    try simp only [Act.put, List.setIfInBounds_toArray, List.set_cons_zero, List.set_cons_succ, List.getElem_toArray, List.getElem_cons_succ, List.getElem_cons_zero]
    refine wpAnyH_take (i := 6) (v := .agg #[.int .i64 (a : Int), .int .i64 1, .int .i64 ti, .int .i64 ta, .int .i64 rd]) rfl (by kernel_rfl) (by kernel_rfl) (by kernel_rfl) (fun _ _ _ h => h) (Or.inl ⟨by kernel_rfl, fun W hW => run_load_row _ _ rfl rfl (hW.2.1).blk rfl Tryz.underlying106 info_repS⟩) hS0 ?_
    try simp only [Act.put, List.setIfInBounds_toArray, List.set_cons_zero, List.set_cons_succ, List.getElem_toArray, List.getElem_cons_succ, List.getElem_cons_zero]
    refine wpAnyH_ready (rs := [7]) (by kernel_rfl) (by simp) ?_
    refine AllReadyH.cons rfl (fun KK hKK => ?_) AllReadyH.nil
    go_simp
    refine (HW.out _ (He1.out _ _ _ _ HB3.out).2.2).mono ?_; rintro e' w4 ⟨rfl, hg⟩
    have hS1 : RwAt w4 b1 78 #[v1, .slice (some ⟨gc, 0, none⟩) n cc, v3, v4, v5, .slice (some ⟨gl, 0, none⟩) N cl, mv] ∧ RwAt w4 b2 106 #[.int .i64 (a : Int), .int .i64 1, .int .i64 ti, .int .i64 ta, .int .i64 rd] ∧ w4.cell? ⟨H, 2, none⟩ = some (.slice (some ⟨gC, 0, none⟩) m cC) := ⟨hS0.1.kept0 hg, hS0.2.1.kept0 hg, (HB3.out.kept0 hg).c2.1⟩
    have HB4 := hid (HB3.out.kept0 hg)
    clear hg HB3
    clear hS0
    have hS0 := hS1
    refine hKK.out _ _ hS1 (fun _ => ?_)
    clear hKK KK hS1
    try simp only [Act.put, List.setIfInBounds_toArray, List.set_cons_zero, List.set_cons_succ, List.getElem_toArray, List.getElem_cons_succ, List.getElem_cons_zero]
    have HB5 : Hid (IgB w0 (w4.setCell ⟨gC, A, none⟩ (.int .u32 V)) base H E (.slice (some ⟨gc, 0, none⟩) n cc) v3 v4 v5 (.slice (some ⟨gl, 0, none⟩) N cl) vD (.slice (some ⟨gC, 0, none⟩) m cC) vd (.slice pp q pcp) vs X l ⟨I.e, I.D, I.C.set A V, I.dr, I.pl, I.st⟩) := hid (HB4.out.setC Hm.out A V)
    refine wpAnyH_take (i := 8) (v := ?_) rfl (by kernel_rfl) (by kernel_rfl) (by kernel_rfl) (fun _ _ _ h => h) (Or.inl ⟨by kernel_rfl, ?_⟩) hS0 ?_
    rotate_left
    · (intro W hSw; clear hSw; go_simp; try with_reducible rfl)
    try simp only [Act.put, List.setIfInBounds_toArray, List.set_cons_zero, List.set_cons_succ, List.getElem_toArray, List.getElem_cons_succ, List.getElem_cons_zero]
    refine wpAnyH_ready (rs := [9]) (by kernel_rfl) (by simp) ?_
    refine AllReadyH.cons rfl (fun KK hKK => ?_) AllReadyH.nil
    obtain ⟨⟨u9, hc9⟩, hf9⟩ := HB4.out.cC Hm.out HAm.out
    go_simp
    have hS1 : RwAt (w4.setCell ⟨gC, A, none⟩ (.int .u32 V)) b1 78 #[v1, .slice (some ⟨gc, 0, none⟩) n cc, v3, v4, v5, .slice (some ⟨gl, 0, none⟩) N cl, mv] ∧ RwAt (w4.setCell ⟨gC, A, none⟩ (.int .u32 V)) b2 106 #[.int .i64 (a : Int), .int .i64 1, .int .i64 ti, .int .i64 ta, .int .i64 rd] ∧ (w4.setCell ⟨gC, A, none⟩ (.int .u32 V)).cell? ⟨H, 2, none⟩ = some (.slice (some ⟨gC, 0, none⟩) m cC) := ⟨hS0.1.kept (grown_setCell (grown_refl w4 (some gC)) A _) Hne.out.1, hS0.2.1.kept (grown_setCell (grown_refl w4 (some gC)) A _) Hne.out.2, HB5.out.c2.1⟩
    refine hKK.out _ _ hS1 (fun _ => ?_)
    clear hKK KK hS0
    have hS0 := hS1
    clear hS1
    try simp only [Act.put, List.setIfInBounds_toArray, List.set_cons_zero, List.set_cons_succ, List.getElem_toArray, List.getElem_cons_succ, List.getElem_cons_zero]
    clear hc9 hf9 HB4
    generalize w4.setCell ⟨gC, A, none⟩ (.int .u32 V) = w5 at HB5 hS0 ⊢
    refine wpAnyH_done (by kernel_rfl) ?_ _
    have r2 := hS0.2.1.cell 2 (v := .int .i64 ti) rfl
    have HFx : Hid (fxC X l I ⟨(a : Int), 1, ⟨ti, ta⟩, rd⟩ = ⟨I.e, I.D, I.C.set A V, I.dr, if ti = 2 then I.pl ++ [(A : Int)] else I.pl, I.st⟩) := hid (by
      have h1 := HV.out
      have h2 := HA.out
      unfold fxC
      rw [if_pos rfl, h1]
      simp only [Int.toNat_natCast, h2])
    clear hS0
    by_cases hti : ti = 2
    · subst hti
      rw [if_pos rfl] at HFx
      have HX := hid (HB5.out.kept0 (World.grownBy_alloc w5 (.cells #[.int .i64 (A : Int)] 3) none))
      have HOw := hid (HX.out.at_ (k := 3) (r := ⟨.slice pp q pcp, 3, 1, I.pl.length, I.pl.map (Value.int .i64)⟩) rfl)
      simp only at HOw
      rw [Hq.out] at HOw
      have HNw : Hid (∀ j u, [Value.int .i64 (A : Int)][j]? = some u → (w5.alloc (.cells #[.int .i64 (A : Int)] 3)).cell? ((⟨w5.heap.size, 0, none⟩ : Addr).add j) = some u) := hid (World.news_of_block (heap_alloc_new w5 _))
      have d4 := HB5.out.c4.1
      obtain ⟨i', hi', hy0, hy1, hy2⟩ := info_intF
      have Hi' := hid hi'
      have Hy0 := hid hy0
      have Hy1 := hid hy1
      have Hy2 := hid hy2
      clear hi' hy0 hy1 hy2
      go_wp2_with (first
        | (refine wpList_append_lies _ rfl _ _ 43 rfl base 3 i' _ 1 8 Tryz.underlying43 Hi'.out Hy0.out Hy1.out Hy2.out rfl (by decide) _ q _ rfl HOw.out ⟨w5.heap.size, 0, none⟩ 1 1 _ rfl rfl HNw.out (by simp [Value.oneCell']) (by decide) (by have := Hpl.out; have := Hq.out; unfold maxLen; omega) (by have := Hpl.out; have := Hq.out; omega) HX.out.size _ rfl ?_
           intro gB capB wB hown hgrow hat hlt2
           have hg4 : (w5.alloc (.cells #[.int .i64 (A : Int)] 3)).grownBy wB (Value.slice pp q pcp).ownBlock := hgrow
           have HE := hid (HX.out.addP (v' := .slice (some ⟨gB, 0, none⟩) (q + 1) capB) (A : Int) (by rw [Hq.out]; exact hown) hg4 (by rcases hat with e | e; (exact .inl e.symm); (exact .inr (by rw [← e]; rfl))))
           have c4' := (HX.out.row.kept hg4 (Ne.symm (HX.out.neH ⟨.slice pp q pcp, 3, 1, I.pl.length, I.pl.map (Value.int .i64)⟩ (by simp [imRo])))).cell 4 (v := .slice pp q pcp) rfl
           have z4' := (HX.out.row.kept hg4 (Ne.symm (HX.out.neH ⟨.slice pp q pcp, 3, 1, I.pl.length, I.pl.map (Value.int .i64)⟩ (by simp [imRo])))).free 4
           clear hown hgrow hat hlt2 hg4)
        | fail)
      go_end0
      refine ⟨rfl, ?_⟩
      rw [HFx.out]
      exact ⟨_, HE.out⟩
    · have hb2 : (ti == 2) = false := by simpa using hti
      rw [if_neg hti] at HFx
      go_wp2
      go_end0
      refine ⟨rfl, ?_⟩
      rw [HFx.out]
      exact ⟨_, HB5.out⟩
  · obtain rfl : rk = 2 := by rcases hk with e | e; (exact absurd e hk1); (exact e)
    clear hk1 hk
    obtain ⟨B, hB⟩ : ∃ B : Nat, l (a + 1) = B := ⟨(l (a + 1)).toNat, by have := HLi.out.nn (k := a + 1) (by have := Hle.out; have := Hn.out; omega); omega⟩
    have HBB := hid hB
    obtain ⟨A1, hA1⟩ : ∃ A1 : Nat, A + 1 = A1 := ⟨_, rfl⟩
    obtain ⟨a1, ha1⟩ : ∃ a1 : Nat, a + 1 = a1 := ⟨_, rfl⟩
    have HA1 := hid ha1
    have hai : (a : Int) + 1 = (a1 : Int) := by omega
    have hAi : (A : Int) + 1 = (A1 : Int) := by omega
    have a10 : (0 : Int) ≤ (a1 : Int) := by omega
    have a1N : (a1 : Int) < (N : Int) := by have := Hle.out; have := HN.out; have := Hn.out; omega
    have A10 : (0 : Int) ≤ (A1 : Int) := by omega
    have wA1 : IntKind.i64.wrap (A1 : Int) = (A1 : Int) := by rw [IntKind.wrap_i64]; have := Hl2.out; have := HAm.out; omega
    have B0 : (0 : Int) ≤ (B : Int) := by omega
    have B1 : (B : Int) ≤ 2048 := by have := Hl2.out; omega
    have Am2 : (A : Int) ≤ 2048 := by have := Hl2.out; have := HAm.out; omega
    have HA1m : Hid ((B : Int) - (A : Int) = 2 → A1 < m) := hid (fun e => by have := Hl2.out; omega)
    have a2 : (a : Int) ≤ 2048 := by have h := HLi.out.ge (k := a) (by have := Hle.out; have := Hn.out; omega); have := HA.out; omega
    by_cases h3 : (B : Int) - (A : Int) = 2
    · have A1m : (A1 : Int) < (m : Int) := by have := HA1m.out h3; omega
      clear hB hA1 ha1
      have hBA : (B : Int) - (A : Int) = 2 := h3
      have HW := hid (fun W h => word_lnk W v1 (.slice (some ⟨gc, 0, none⟩) n cc) v3 v4 v5 (.slice (some ⟨gl, 0, none⟩) N cl) mv l N h ⟨(a : Int), 2, ⟨ti, ta⟩, rd⟩ Ht.out.1 (fun e => by obtain ⟨_, k, h1, h2⟩ := Ht.out.2 e; exact ⟨k, h1, by have := HN.out; omega, HLi.out.nn (by omega), by have h3 := HLi.out.i k _ h2 (Nat.le_refl _); have h4 := Hend.out; omega⟩))
      obtain ⟨V, hV⟩ : ∃ V, wdP l ⟨(a : Int), 2, ⟨ti, ta⟩, rd⟩ = V := ⟨_, rfl⟩
      have HV := hid hV
      unfold pgV fxL at HW
      simp only [hV] at HW
      clear hV
      have HL := hid (fun W => long_any W x Hxw.out)
      obtain ⟨Lg, hLg⟩ : ∃ V, lgW x = V := ⟨_, rfl⟩
      have HLg := hid hLg
      rw [hLg] at HL
      clear hLg
      have r0 := HR.out.cell 0 (v := .int .i64 (a : Int)) rfl
      have r1 := HR.out.cell 1 (v := .int .i64 2) rfl
      have p5 := HP.out.cell 5 (v := .slice (some ⟨gl, 0, none⟩) N cl) rfl
      have e1 := (He1.out _ _ _ _ HB1.out).1 (a + 1) Hle.out
      rw [HBB.out, HA1.out] at e1
      go_upto_region 8 with (fail)
      clear r0 r1 p5 e1
      have hg0 : w2.grownBy w2.drew none := grown_drew (grown_refl _ none)
      have HB3 := hid (HB1.out.kept0 hg0)
      refine wp_region_held_drew (S := fun W => RwAt W b1 78 #[v1, .slice (some ⟨gc, 0, none⟩) n cc, v3, v4, v5, .slice (some ⟨gl, 0, none⟩) N cl, mv] ∧ RwAt W b2 106 #[.int .i64 (a : Int), .int .i64 2, .int .i64 ti, .int .i64 ta, .int .i64 rd] ∧ W.cell? ⟨H, 2, none⟩ = some (.slice (some ⟨gC, 0, none⟩) m cC)) (by kernel_rfl) ⟨HP.out.kept0 hg0, HR.out.kept0 hg0, HB3.out.c2.1⟩ (fun hS0 => ?_)
      clear hg0 HB1 HP HR
      generalize w2.drew = w3 at HB3 hS0 ⊢
      refine wpAnyH_take (i := 0) (v := ?_) rfl (by kernel_rfl) (by kernel_rfl) (by kernel_rfl) (fun _ _ _ h => h) (Or.inl ⟨by kernel_rfl, ?_⟩) hS0 ?_
      rotate_left
      · (intro W hSw; clear hSw; go_simp; try with_reducible rfl)
      try simp only [Act.put, List.setIfInBounds_toArray, List.set_cons_zero, List.set_cons_succ, List.getElem_toArray, List.getElem_cons_zero]
      refine wpAnyH_take (i := 1) (v := ?_) rfl (by kernel_rfl) (by kernel_rfl) (by kernel_rfl) (fun _ _ _ h => h) (Or.inl ⟨by kernel_rfl, ?_⟩) hS0 ?_
      rotate_left
      · (intro W hSw; clear hSw; go_simp; try with_reducible rfl)
      try simp only [Act.put, List.setIfInBounds_toArray, List.set_cons_zero, List.set_cons_succ, List.getElem_toArray, List.getElem_cons_succ, List.getElem_cons_zero]
      refine wpAnyH_take (i := 2) (v := ?_) rfl (by kernel_rfl) (by kernel_rfl) (by kernel_rfl) (fun _ _ _ h => h) (Or.inl ⟨by kernel_rfl, ?_⟩) hS0 ?_
      rotate_left
      · (intro W hSw; clear hSw; go_simp; try with_reducible rfl)
      try simp only [Act.put, List.setIfInBounds_toArray, List.set_cons_zero, List.set_cons_succ, List.getElem_toArray, List.getElem_cons_succ, List.getElem_cons_zero]
      refine wpAnyH_take (i := 3) (v := ?_) rfl (by kernel_rfl) (by kernel_rfl) (by kernel_rfl) (fun _ _ _ h => h) (Or.inl ⟨by kernel_rfl, ?_⟩) hS0 ?_
      rotate_left
      · (intro W hSw; have hc := hSw.2.2; clear hSw; go_simp; try with_reducible rfl)
      try simp only [Act.put, List.setIfInBounds_toArray, List.set_cons_zero, List.set_cons_succ, List.getElem_toArray, List.getElem_cons_succ, List.getElem_cons_zero]
      refine wpAnyH_take (i := 4) (v := ?_) rfl (by kernel_rfl) (by kernel_rfl) (by kernel_rfl) (fun _ _ _ h => h) (Or.inl ⟨by kernel_rfl, ?_⟩) hS0 ?_
      rotate_left
      · (intro W hSw; clear hSw; go_simp; try with_reducible rfl)
      try simp only [Act.put, List.setIfInBounds_toArray, List.set_cons_zero, List.set_cons_succ, List.getElem_toArray, List.getElem_cons_succ, List.getElem_cons_zero]
      refine wpAnyH_take (i := 5) (v := ?_) rfl (by kernel_rfl) (by kernel_rfl) (by kernel_rfl) (fun _ _ _ h => h) (Or.inl ⟨by kernel_rfl, ?_⟩) hS0 ?_
      rotate_left
      · (intro W hSw; clear hSw; go_simp; try with_reducible rfl)
      try simp only [Act.put, List.setIfInBounds_toArray, List.set_cons_zero, List.set_cons_succ, List.getElem_toArray, List.getElem_cons_succ, List.getElem_cons_zero]
      refine wpAnyH_take (i := 6) (v := ?_) rfl (by kernel_rfl) (by kernel_rfl) (by kernel_rfl) (fun _ _ _ h => h) (Or.inl ⟨by kernel_rfl, ?_⟩) hS0 ?_
      rotate_left
      · (intro W hSw; clear hSw; go_simp; try with_reducible rfl)
      try simp only [Act.put, List.setIfInBounds_toArray, List.set_cons_zero, List.set_cons_succ, List.getElem_toArray, List.getElem_cons_succ, List.getElem_cons_zero]
      refine wpAnyH_take (i := 7) (v := ?_) rfl (by kernel_rfl) (by kernel_rfl) (by kernel_rfl) (fun _ _ _ h => h) (Or.inl ⟨by kernel_rfl, ?_⟩) hS0 ?_
      rotate_left
      · (intro W hSw; clear hSw; go_simp; try with_reducible rfl)
      try simp only [Act.put, List.setIfInBounds_toArray, List.set_cons_zero, List.set_cons_succ, List.getElem_toArray, List.getElem_cons_succ, List.getElem_cons_zero]
      refine wpAnyH_take (i := 8) (v := ?_) rfl (by kernel_rfl) (by kernel_rfl) (by kernel_rfl) (fun _ _ _ h => h) (Or.inl ⟨by kernel_rfl, ?_⟩) hS0 ?_
      rotate_left
      · (intro W hSw; have hc := hSw.2.2; clear hSw; go_simp; try with_reducible rfl)
      try simp only [Act.put, List.setIfInBounds_toArray, List.set_cons_zero, List.set_cons_succ, List.getElem_toArray, List.getElem_cons_succ, List.getElem_cons_zero]
      refine wpAnyH_take (i := 9) (v := ?_) rfl (by kernel_rfl) (by kernel_rfl) (by kernel_rfl) (fun _ _ _ h => h) (Or.inl ⟨by kernel_rfl, ?_⟩) hS0 ?_
      rotate_left
      · (intro W hSw; clear hSw; go_simp; try with_reducible rfl)
      try simp only [Act.put, List.setIfInBounds_toArray, List.set_cons_zero, List.set_cons_succ, List.getElem_toArray, List.getElem_cons_succ, List.getElem_cons_zero]
      refine wpAnyH_take (i := 10) (v := ?_) rfl (by kernel_rfl) (by kernel_rfl) (by kernel_rfl) (fun _ _ _ h => h) (Or.inl ⟨by kernel_rfl, ?_⟩) hS0 ?_
      rotate_left
      · (intro W hSw; clear hSw; go_simp; try with_reducible rfl)
      try simp only [Act.put, List.setIfInBounds_toArray, List.set_cons_zero, List.set_cons_succ, List.getElem_toArray, List.getElem_cons_succ, List.getElem_cons_zero]
      refine wpAnyH_take (i := 11) (v := ?_) rfl (by kernel_rfl) (by kernel_rfl) (by kernel_rfl) (fun _ _ _ h => h) (Or.inl ⟨by kernel_rfl, ?_⟩) hS0 ?_
      rotate_left
      · (intro W hSw; clear hSw; go_simp; try with_reducible rfl)
      try simp only [Act.put, List.setIfInBounds_toArray, List.set_cons_zero, List.set_cons_succ, List.getElem_toArray, List.getElem_cons_succ, List.getElem_cons_zero]
      refine wpAnyH_take (i := 13) (v := .agg #[v1, .slice (some ⟨gc, 0, none⟩) n cc, v3, v4, v5, .slice (some ⟨gl, 0, none⟩) N cl, mv]) rfl (by kernel_rfl) (by kernel_rfl) (by kernel_rfl) (fun _ _ _ h => h) (Or.inl ⟨by kernel_rfl, fun W hW => run_load_row _ _ rfl rfl (hW.1).blk rfl Tryz.underlying78 info_program⟩) hS0 ?_
      try simp only [Act.put, List.setIfInBounds_toArray, List.set_cons_zero, List.set_cons_succ, List.getElem_toArray, List.getElem_cons_succ, List.getElem_cons_zero]
      refine wpAnyH_take (i := 14) (v := .agg #[.int .i64 (a : Int), .int .i64 2, .int .i64 ti, .int .i64 ta, .int .i64 rd]) rfl (by kernel_rfl) (by kernel_rfl) (by kernel_rfl) (fun _ _ _ h => h) (Or.inl ⟨by kernel_rfl, fun W hW => run_load_row _ _ rfl rfl (hW.2.1).blk rfl Tryz.underlying106 info_repS⟩) hS0 ?_
      try simp only [Act.put, List.setIfInBounds_toArray, List.set_cons_zero, List.set_cons_succ, List.getElem_toArray, List.getElem_cons_succ, List.getElem_cons_zero]
      refine wpAnyH_ready (rs := [12]) (by kernel_rfl) (by simp) ?_
      refine AllReadyH.cons rfl (fun KK hKK => ?_) AllReadyH.nil
      go_simp
      refine (HL.out _).mono ?_; rintro e' w4 ⟨rfl, hg⟩
      have hS1 : RwAt w4 b1 78 #[v1, .slice (some ⟨gc, 0, none⟩) n cc, v3, v4, v5, .slice (some ⟨gl, 0, none⟩) N cl, mv] ∧ RwAt w4 b2 106 #[.int .i64 (a : Int), .int .i64 2, .int .i64 ti, .int .i64 ta, .int .i64 rd] ∧ w4.cell? ⟨H, 2, none⟩ = some (.slice (some ⟨gC, 0, none⟩) m cC) := ⟨hS0.1.kept0 hg, hS0.2.1.kept0 hg, (HB3.out.kept0 hg).c2.1⟩
      have HB4 := hid (HB3.out.kept0 hg)
      clear hg HB3
      clear hS0
      have hS0 := hS1
      refine hKK.out _ _ hS1 (fun _ => ?_)
      clear hKK KK hS1
      try simp only [Act.put, List.setIfInBounds_toArray, List.set_cons_zero, List.set_cons_succ, List.getElem_toArray, List.getElem_cons_succ, List.getElem_cons_zero]
      refine wpAnyH_ready (rs := [15]) (by kernel_rfl) (by simp) ?_
      refine AllReadyH.cons rfl (fun KK hKK => ?_) AllReadyH.nil
      go_simp
      refine (HW.out _ (He1.out _ _ _ _ HB4.out).2.2).mono ?_; rintro e' w5 ⟨rfl, hg⟩
      have hS1 : RwAt w5 b1 78 #[v1, .slice (some ⟨gc, 0, none⟩) n cc, v3, v4, v5, .slice (some ⟨gl, 0, none⟩) N cl, mv] ∧ RwAt w5 b2 106 #[.int .i64 (a : Int), .int .i64 2, .int .i64 ti, .int .i64 ta, .int .i64 rd] ∧ w5.cell? ⟨H, 2, none⟩ = some (.slice (some ⟨gC, 0, none⟩) m cC) := ⟨hS0.1.kept0 hg, hS0.2.1.kept0 hg, (HB4.out.kept0 hg).c2.1⟩
      have HB5 := hid (HB4.out.kept0 hg)
      clear hg HB4
      clear hS0
      have hS0 := hS1
      refine hKK.out _ _ hS1 (fun _ => ?_)
      clear hKK KK hS1
      try simp only [Act.put, List.setIfInBounds_toArray, List.set_cons_zero, List.set_cons_succ, List.getElem_toArray, List.getElem_cons_succ, List.getElem_cons_zero]
      refine wpAnyH_take (i := 16) (v := ?_) rfl (by kernel_rfl) (by kernel_rfl) (by kernel_rfl) (fun _ _ _ h => h) (Or.inl ⟨by kernel_rfl, ?_⟩) hS0 ?_
      rotate_left
      · (intro W hSw; clear hSw; go_simp; try with_reducible rfl)
      try simp only [Act.put, List.setIfInBounds_toArray, List.set_cons_zero, List.set_cons_succ, List.getElem_toArray, List.getElem_cons_succ, List.getElem_cons_zero]
      have HB6 : Hid (IgB w0 (w5.setCell ⟨gC, A, none⟩ (.int .u32 Lg)) base H E (.slice (some ⟨gc, 0, none⟩) n cc) v3 v4 v5 (.slice (some ⟨gl, 0, none⟩) N cl) vD (.slice (some ⟨gC, 0, none⟩) m cC) vd (.slice pp q pcp) vs X l ⟨I.e, I.D, I.C.set A Lg, I.dr, I.pl, I.st⟩) := hid (HB5.out.setC Hm.out A Lg)
      refine wpAnyH_ready (rs := [17]) (by kernel_rfl) (by simp) ?_
      refine AllReadyH.cons rfl (fun KK hKK => ?_) AllReadyH.nil
      obtain ⟨⟨u9, hc9⟩, hf9⟩ := HB5.out.cC Hm.out HAm.out
      go_simp
      have hS1 : RwAt (w5.setCell ⟨gC, A, none⟩ (.int .u32 Lg)) b1 78 #[v1, .slice (some ⟨gc, 0, none⟩) n cc, v3, v4, v5, .slice (some ⟨gl, 0, none⟩) N cl, mv] ∧ RwAt (w5.setCell ⟨gC, A, none⟩ (.int .u32 Lg)) b2 106 #[.int .i64 (a : Int), .int .i64 2, .int .i64 ti, .int .i64 ta, .int .i64 rd] ∧ (w5.setCell ⟨gC, A, none⟩ (.int .u32 Lg)).cell? ⟨H, 2, none⟩ = some (.slice (some ⟨gC, 0, none⟩) m cC) := ⟨hS0.1.kept (grown_setCell (grown_refl w5 (some gC)) A _) Hne.out.1, hS0.2.1.kept (grown_setCell (grown_refl w5 (some gC)) A _) Hne.out.2, HB6.out.c2.1⟩
      refine hKK.out _ _ hS1 (fun _ => ?_)
      clear hKK KK hS0
      have hS0 := hS1
      clear hS1
      try simp only [Act.put, List.setIfInBounds_toArray, List.set_cons_zero, List.set_cons_succ, List.getElem_toArray, List.getElem_cons_succ, List.getElem_cons_zero]
      clear hc9 hf9 HB5
      generalize w5.setCell ⟨gC, A, none⟩ (.int .u32 Lg) = w6 at HB6 hS0 ⊢
      refine wpAnyH_take (i := 18) (v := ?_) rfl (by kernel_rfl) (by kernel_rfl) (by kernel_rfl) (fun _ _ _ h => h) (Or.inl ⟨by kernel_rfl, ?_⟩) hS0 ?_
      rotate_left
      · (intro W hSw; clear hSw; go_simp; try with_reducible rfl)
      try simp only [Act.put, List.setIfInBounds_toArray, List.set_cons_zero, List.set_cons_succ, List.getElem_toArray, List.getElem_cons_succ, List.getElem_cons_zero]
      have Hm2 : Hid ((I.C.set A Lg).length = m) := hid (by rw [List.length_set]; exact Hm.out)
      have HB7 : Hid (IgB w0 (w6.setCell ⟨gC, A1, none⟩ (.int .u32 V)) base H E (.slice (some ⟨gc, 0, none⟩) n cc) v3 v4 v5 (.slice (some ⟨gl, 0, none⟩) N cl) vD (.slice (some ⟨gC, 0, none⟩) m cC) vd (.slice pp q pcp) vs X l ⟨I.e, I.D, (I.C.set A Lg).set A1 V, I.dr, I.pl, I.st⟩) := hid (HB6.out.setC Hm2.out A1 V)
      refine wpAnyH_ready (rs := [19]) (by kernel_rfl) (by simp) ?_
      refine AllReadyH.cons rfl (fun KK hKK => ?_) AllReadyH.nil
      obtain ⟨⟨u9, hc9⟩, hf9⟩ := HB6.out.cC Hm2.out (A := A1) (by have := HA1m.out h3; omega)
      go_simp
      have hS1 : RwAt (w6.setCell ⟨gC, A1, none⟩ (.int .u32 V)) b1 78 #[v1, .slice (some ⟨gc, 0, none⟩) n cc, v3, v4, v5, .slice (some ⟨gl, 0, none⟩) N cl, mv] ∧ RwAt (w6.setCell ⟨gC, A1, none⟩ (.int .u32 V)) b2 106 #[.int .i64 (a : Int), .int .i64 2, .int .i64 ti, .int .i64 ta, .int .i64 rd] ∧ (w6.setCell ⟨gC, A1, none⟩ (.int .u32 V)).cell? ⟨H, 2, none⟩ = some (.slice (some ⟨gC, 0, none⟩) m cC) := ⟨hS0.1.kept (grown_setCell (grown_refl w6 (some gC)) A1 _) Hne.out.1, hS0.2.1.kept (grown_setCell (grown_refl w6 (some gC)) A1 _) Hne.out.2, HB7.out.c2.1⟩
      refine hKK.out _ _ hS1 (fun _ => ?_)
      clear hKK KK hS0
      have hS0 := hS1
      clear hS1
      try simp only [Act.put, List.setIfInBounds_toArray, List.set_cons_zero, List.set_cons_succ, List.getElem_toArray, List.getElem_cons_succ, List.getElem_cons_zero]
      clear hc9 hf9 HB6 hS0
      generalize w6.setCell ⟨gC, A1, none⟩ (.int .u32 V) = w7 at HB7 ⊢
      refine wpAnyH_done (by kernel_rfl) ?_ _
      have HFx : Hid (fxC X l I ⟨(a : Int), 2, ⟨ti, ta⟩, rd⟩ = ⟨I.e, I.D, (I.C.set A Lg).set A1 V, I.dr, I.pl ++ [(A1 : Int)], I.st⟩) := hid (by
        have h1 := HV.out
        have h2 := HA.out
        have h4 := HBB.out
        have h5 := hAi
        unfold fxC
        rw [if_neg (show ¬ (2 : Int) = 1 by decide), h1]
        simp only [Int.toNat_natCast, h2, h4, HxC.out, HLg.out]
        rw [if_pos h3, show A + 1 = A1 by omega, show (A : Int) + 1 = (A1 : Int) by omega])
      have HX := hid (HB7.out.kept0 (World.grownBy_alloc w7 (.cells #[.int .i64 (A1 : Int)] 3) none))
      have HOw := hid (HX.out.at_ (k := 3) (r := ⟨.slice pp q pcp, 3, 1, I.pl.length, I.pl.map (Value.int .i64)⟩) rfl)
      simp only at HOw
      rw [Hq.out] at HOw
      have HNw : Hid (∀ j u, [Value.int .i64 (A1 : Int)][j]? = some u → (w7.alloc (.cells #[.int .i64 (A1 : Int)] 3)).cell? ((⟨w7.heap.size, 0, none⟩ : Addr).add j) = some u) := hid (World.news_of_block (heap_alloc_new w7 _))
      have d4 := HB7.out.c4.1
      obtain ⟨i', hi', hy0, hy1, hy2⟩ := info_intF
      have Hi' := hid hi'
      have Hy0 := hid hy0
      have Hy1 := hid hy1
      have Hy2 := hid hy2
      clear hi' hy0 hy1 hy2
      go_wp2_with (first
        | (refine wpList_append_lies _ rfl _ _ 43 rfl base 3 i' _ 1 8 Tryz.underlying43 Hi'.out Hy0.out Hy1.out Hy2.out rfl (by decide) _ q _ rfl HOw.out ⟨w7.heap.size, 0, none⟩ 1 1 _ rfl rfl HNw.out (by simp [Value.oneCell']) (by decide) (by have := Hpl.out; have := Hq.out; unfold maxLen; omega) (by have := Hpl.out; have := Hq.out; omega) HX.out.size _ rfl ?_
           intro gB capB wB hown hgrow hat hlt2
           have hg4 : (w7.alloc (.cells #[.int .i64 (A1 : Int)] 3)).grownBy wB (Value.slice pp q pcp).ownBlock := hgrow
           have HE := hid (HX.out.addP (v' := .slice (some ⟨gB, 0, none⟩) (q + 1) capB) (A1 : Int) (by rw [Hq.out]; exact hown) hg4 (by rcases hat with e | e; (exact .inl e.symm); (exact .inr (by rw [← e]; rfl))))
           have c4' := (HX.out.row.kept hg4 (Ne.symm (HX.out.neH ⟨.slice pp q pcp, 3, 1, I.pl.length, I.pl.map (Value.int .i64)⟩ (by simp [imRo])))).cell 4 (v := .slice pp q pcp) rfl
           have z4' := (HX.out.row.kept hg4 (Ne.symm (HX.out.neH ⟨.slice pp q pcp, 3, 1, I.pl.length, I.pl.map (Value.int .i64)⟩ (by simp [imRo])))).free 4
           clear hown hgrow hat hlt2 hg4)
        | fail)
      go_end0
      refine ⟨rfl, ?_⟩
      rw [HFx.out]
      exact ⟨_, HE.out⟩
    · clear hB hA1 ha1
      have hBA : ((B : Int) - (A : Int) == 2) = false := by simpa using h3
      obtain ⟨t, hta, htl⟩ := Hbr.out rfl
      subst hta
      obtain ⟨T, hT⟩ : ∃ T : Nat, l t = T := ⟨(l t).toNat, by have := HLi.out.nn (k := t) (by omega); omega⟩
      have HT := hid hT
      have Htl : Hid (t ≤ n) := hid (by have := Hn.out; omega)
      have t0 : (0 : Int) ≤ (t : Int) := by omega
      have tN : (t : Int) < (N : Int) := by have := HN.out; omega
      have T0 : (0 : Int) ≤ (T : Int) := by omega
      have T1 : (T : Int) ≤ 2048 := by have h4 := HLi.out.i t _ htl (Nat.le_refl _); have h5 := Hend.out; omega
      clear hT htl
      have x0 := Hxw.out.1
      have x1 := Hxw.out.2
      have b1x := andNot255 x0 x1
      have b2x : bits BinOp.and IntKind.u32 (IntKind.u32.wrap ((T : Int) - (A : Int))) 255 = ((T : Int) - (A : Int)) % 256 := by
        rw [and255 (by rw [IntKind.wrap_u32]; omega) (by rw [IntKind.wrap_u32]; omega), dist256]
      have wTA : IntKind.i64.wrap ((T : Int) - (A : Int)) = (T : Int) - (A : Int) := by rw [IntKind.wrap_i64]; omega
      have b3x := or256 (d := (T : Int) - (A : Int)) x0 x1
      obtain ⟨V, hV⟩ : ∃ V, x / 256 * 256 + ((T : Int) - (A : Int)) % 256 = V := ⟨_, rfl⟩
      have HV := hid hV
      rw [hV] at b3x
      clear hV x0 x1
      have r0 := HR.out.cell 0 (v := .int .i64 (a : Int)) rfl
      have r1 := HR.out.cell 1 (v := .int .i64 2) rfl
      have p5 := HP.out.cell 5 (v := .slice (some ⟨gl, 0, none⟩) N cl) rfl
      have e1 := (He1.out _ _ _ _ HB1.out).1 (a + 1) Hle.out
      rw [HBB.out, HA1.out] at e1
      go_upto_region 2 with (fail)
      clear r0 r1 p5 e1
      have hg0 : w2.grownBy w2.drew none := grown_drew (grown_refl _ none)
      have HB3 := hid (HB1.out.kept0 hg0)
      refine wp_region_held_drew (S := fun W => RwAt W b1 78 #[v1, .slice (some ⟨gc, 0, none⟩) n cc, v3, v4, v5, .slice (some ⟨gl, 0, none⟩) N cl, mv] ∧ RwAt W b2 106 #[.int .i64 (a : Int), .int .i64 2, .int .i64 ti, .int .i64 (t : Int), .int .i64 rd] ∧ W.cell? ⟨gl, t, none⟩ = some (.int .i64 (T : Int)) ∧ W.cell? ⟨H, 2, none⟩ = some (.slice (some ⟨gC, 0, none⟩) m cC)) (by kernel_rfl) ⟨HP.out.kept0 hg0, HR.out.kept0 hg0, by rw [(He1.out _ _ _ _ HB3.out).1 t Htl.out, HT.out], HB3.out.c2.1⟩ (fun hS0 => ?_)
      clear hg0 HB1 HP HR
      generalize w2.drew = w3 at HB3 hS0 ⊢
      refine wpAnyH_take (i := 0) (v := ?_) rfl (by kernel_rfl) (by kernel_rfl) (by kernel_rfl) (fun _ _ _ h => h) (Or.inl ⟨by kernel_rfl, ?_⟩) hS0 ?_
      rotate_left
      · (intro W hSw; clear hSw; go_simp; try with_reducible rfl)
      try simp only [Act.put, List.setIfInBounds_toArray, List.set_cons_zero, List.set_cons_succ, List.getElem_toArray, List.getElem_cons_zero]
      refine wpAnyH_take (i := 1) (v := ?_) rfl (by kernel_rfl) (by kernel_rfl) (by kernel_rfl) (fun _ _ _ h => h) (Or.inl ⟨by kernel_rfl, ?_⟩) hS0 ?_
      rotate_left
      · (intro W hSw; clear hSw; go_simp; try with_reducible rfl)
      try simp only [Act.put, List.setIfInBounds_toArray, List.set_cons_zero, List.set_cons_succ, List.getElem_toArray, List.getElem_cons_succ, List.getElem_cons_zero]
      refine wpAnyH_take (i := 2) (v := ?_) rfl (by kernel_rfl) (by kernel_rfl) (by kernel_rfl) (fun _ _ _ h => h) (Or.inl ⟨by kernel_rfl, ?_⟩) hS0 ?_
      rotate_left
      · (intro W hSw; clear hSw; go_simp; try with_reducible rfl)
      try simp only [Act.put, List.setIfInBounds_toArray, List.set_cons_zero, List.set_cons_succ, List.getElem_toArray, List.getElem_cons_succ, List.getElem_cons_zero]
      refine wpAnyH_take (i := 3) (v := ?_) rfl (by kernel_rfl) (by kernel_rfl) (by kernel_rfl) (fun _ _ _ h => h) (Or.inl ⟨by kernel_rfl, ?_⟩) hS0 ?_
      rotate_left
      · (intro W hSw; have hc := hSw.2.2.2; clear hSw; go_simp; try with_reducible rfl)
      try simp only [Act.put, List.setIfInBounds_toArray, List.set_cons_zero, List.set_cons_succ, List.getElem_toArray, List.getElem_cons_succ, List.getElem_cons_zero]
      refine wpAnyH_take (i := 4) (v := ?_) rfl (by kernel_rfl) (by kernel_rfl) (by kernel_rfl) (fun _ _ _ h => h) (Or.inl ⟨by kernel_rfl, ?_⟩) hS0 ?_
      rotate_left
      · (intro W hSw; clear hSw; go_simp; try with_reducible rfl)
      try simp only [Act.put, List.setIfInBounds_toArray, List.set_cons_zero, List.set_cons_succ, List.getElem_toArray, List.getElem_cons_succ, List.getElem_cons_zero]
      refine wpAnyH_take (i := 5) (v := ?_) rfl (by kernel_rfl) (by kernel_rfl) (by kernel_rfl) (fun _ _ _ h => h) (Or.inl ⟨by kernel_rfl, ?_⟩) hS0 ?_
      rotate_left
      · (intro W hSw; clear hSw; go_simp; try with_reducible rfl)
      try simp only [Act.put, List.setIfInBounds_toArray, List.set_cons_zero, List.set_cons_succ, List.getElem_toArray, List.getElem_cons_succ, List.getElem_cons_zero]
      refine wpAnyH_take (i := 6) (v := ?_) rfl (by kernel_rfl) (by kernel_rfl) (by kernel_rfl) (fun _ _ _ h => h) (Or.inl ⟨by kernel_rfl, ?_⟩) hS0 ?_
      rotate_left
      · (intro W hSw; clear hSw; go_simp; try with_reducible rfl)
      try simp only [Act.put, List.setIfInBounds_toArray, List.set_cons_zero, List.set_cons_succ, List.getElem_toArray, List.getElem_cons_succ, List.getElem_cons_zero]
      refine wpAnyH_take (i := 7) (v := ?_) rfl (by kernel_rfl) (by kernel_rfl) (by kernel_rfl) (fun _ _ _ h => h) (Or.inl ⟨by kernel_rfl, ?_⟩) hS0 ?_
      rotate_left
      · (intro W hSw; clear hSw; go_simp; try with_reducible rfl)
      try simp only [Act.put, List.setIfInBounds_toArray, List.set_cons_zero, List.set_cons_succ, List.getElem_toArray, List.getElem_cons_succ, List.getElem_cons_zero]
      refine wpAnyH_take (i := 8) (v := ?_) rfl (by kernel_rfl) (by kernel_rfl) (by kernel_rfl) (fun _ _ _ h => h) (Or.inl ⟨by kernel_rfl, ?_⟩) hS0 ?_
      rotate_left
      · (intro W hSw; have hc := hSw.1.cell 5 (v := .slice (some ⟨gl, 0, none⟩) N cl) rfl; clear hSw; go_simp; try with_reducible rfl)
      try simp only [Act.put, List.setIfInBounds_toArray, List.set_cons_zero, List.set_cons_succ, List.getElem_toArray, List.getElem_cons_succ, List.getElem_cons_zero]
      refine wpAnyH_take (i := 9) (v := ?_) rfl (by kernel_rfl) (by kernel_rfl) (by kernel_rfl) (fun _ _ _ h => h) (Or.inl ⟨by kernel_rfl, ?_⟩) hS0 ?_
      rotate_left
      · (intro W hSw; clear hSw; go_simp; try with_reducible rfl)
      try simp only [Act.put, List.setIfInBounds_toArray, List.set_cons_zero, List.set_cons_succ, List.getElem_toArray, List.getElem_cons_succ, List.getElem_cons_zero]
      refine wpAnyH_take (i := 10) (v := ?_) rfl (by kernel_rfl) (by kernel_rfl) (by kernel_rfl) (fun _ _ _ h => h) (Or.inl ⟨by kernel_rfl, ?_⟩) hS0 ?_
      rotate_left
      · (intro W hSw; clear hSw; go_simp; try with_reducible rfl)
      try simp only [Act.put, List.setIfInBounds_toArray, List.set_cons_zero, List.set_cons_succ, List.getElem_toArray, List.getElem_cons_succ, List.getElem_cons_zero]
      refine wpAnyH_take (i := 11) (v := ?_) rfl (by kernel_rfl) (by kernel_rfl) (by kernel_rfl) (fun _ _ _ h => h) (Or.inl ⟨by kernel_rfl, ?_⟩) hS0 ?_
      rotate_left
      · (intro W hSw; have hc := hSw.2.1.cell 3 (v := .int .i64 (t : Int)) rfl; clear hSw; go_simp; try with_reducible rfl)
      try simp only [Act.put, List.setIfInBounds_toArray, List.set_cons_zero, List.set_cons_succ, List.getElem_toArray, List.getElem_cons_succ, List.getElem_cons_zero]
      refine wpAnyH_take (i := 12) (v := ?_) rfl (by kernel_rfl) (by kernel_rfl) (by kernel_rfl) (fun _ _ _ h => h) (Or.inl ⟨by kernel_rfl, ?_⟩) hS0 ?_
      rotate_left
      · (intro W hSw; clear hSw; go_simp; try with_reducible rfl)
      try simp only [Act.put, List.setIfInBounds_toArray, List.set_cons_zero, List.set_cons_succ, List.getElem_toArray, List.getElem_cons_succ, List.getElem_cons_zero]
      refine wpAnyH_take (i := 13) (v := ?_) rfl (by kernel_rfl) (by kernel_rfl) (by kernel_rfl) (fun _ _ _ h => h) (Or.inl ⟨by kernel_rfl, ?_⟩) hS0 ?_
      rotate_left
      · (intro W hSw; have hc := hSw.2.2.1; clear hSw; go_simp; try with_reducible rfl)
      try simp only [Act.put, List.setIfInBounds_toArray, List.set_cons_zero, List.set_cons_succ, List.getElem_toArray, List.getElem_cons_succ, List.getElem_cons_zero]
      refine wpAnyH_take (i := 14) (v := ?_) rfl (by kernel_rfl) (by kernel_rfl) (by kernel_rfl) (fun _ _ _ h => h) (Or.inl ⟨by kernel_rfl, ?_⟩) hS0 ?_
      rotate_left
      · (intro W hSw; clear hSw; go_simp; try with_reducible rfl)
      try simp only [Act.put, List.setIfInBounds_toArray, List.set_cons_zero, List.set_cons_succ, List.getElem_toArray, List.getElem_cons_succ, List.getElem_cons_zero]
      refine wpAnyH_take (i := 15) (v := ?_) rfl (by kernel_rfl) (by kernel_rfl) (by kernel_rfl) (fun _ _ _ h => h) (Or.inl ⟨by kernel_rfl, ?_⟩) hS0 ?_
      rotate_left
      · (intro W hSw; clear hSw; go_simp; try with_reducible rfl)
      try simp only [Act.put, List.setIfInBounds_toArray, List.set_cons_zero, List.set_cons_succ, List.getElem_toArray, List.getElem_cons_succ, List.getElem_cons_zero]
      refine wpAnyH_take (i := 16) (v := ?_) rfl (by kernel_rfl) (by kernel_rfl) (by kernel_rfl) (fun _ _ _ h => h) (Or.inl ⟨by kernel_rfl, ?_⟩) hS0 ?_
      rotate_left
      · (intro W hSw; clear hSw; go_simp; try with_reducible rfl)
      try simp only [Act.put, List.setIfInBounds_toArray, List.set_cons_zero, List.set_cons_succ, List.getElem_toArray, List.getElem_cons_succ, List.getElem_cons_zero]
      refine wpAnyH_take (i := 17) (v := ?_) rfl (by kernel_rfl) (by kernel_rfl) (by kernel_rfl) (fun _ _ _ h => h) (Or.inl ⟨by kernel_rfl, ?_⟩) hS0 ?_
      rotate_left
      · (intro W hSw; clear hSw; go_simp; try with_reducible rfl)
      try simp only [Act.put, List.setIfInBounds_toArray, List.set_cons_zero, List.set_cons_succ, List.getElem_toArray, List.getElem_cons_succ, List.getElem_cons_zero]
      refine wpAnyH_take (i := 18) (v := ?_) rfl (by kernel_rfl) (by kernel_rfl) (by kernel_rfl) (fun _ _ _ h => h) (Or.inl ⟨by kernel_rfl, ?_⟩) hS0 ?_
      rotate_left
      · (intro W hSw; clear hSw; go_simp; try with_reducible rfl)
      try simp only [Act.put, List.setIfInBounds_toArray, List.set_cons_zero, List.set_cons_succ, List.getElem_toArray, List.getElem_cons_succ, List.getElem_cons_zero]
      refine wpAnyH_take (i := 19) (v := ?_) rfl (by kernel_rfl) (by kernel_rfl) (by kernel_rfl) (fun _ _ _ h => h) (Or.inl ⟨by kernel_rfl, ?_⟩) hS0 ?_
      rotate_left
      · (intro W hSw; clear hSw; go_simp; try with_reducible rfl)
      try simp only [Act.put, List.setIfInBounds_toArray, List.set_cons_zero, List.set_cons_succ, List.getElem_toArray, List.getElem_cons_succ, List.getElem_cons_zero]
      have HB5 : Hid (IgB w0 (w3.setCell ⟨gC, A, none⟩ (.int .u32 V)) base H E (.slice (some ⟨gc, 0, none⟩) n cc) v3 v4 v5 (.slice (some ⟨gl, 0, none⟩) N cl) vD (.slice (some ⟨gC, 0, none⟩) m cC) vd (.slice pp q pcp) vs X l ⟨I.e, I.D, I.C.set A V, I.dr, I.pl, I.st⟩) := hid (HB3.out.setC Hm.out A V)
      refine wpAnyH_ready (rs := [20]) (by kernel_rfl) (by simp) ?_
      refine AllReadyH.cons rfl (fun KK hKK => ?_) AllReadyH.nil
      obtain ⟨⟨u9, hc9⟩, hf9⟩ := HB3.out.cC Hm.out HAm.out
      go_simp
      have hS1 : RwAt (w3.setCell ⟨gC, A, none⟩ (.int .u32 V)) b1 78 #[v1, .slice (some ⟨gc, 0, none⟩) n cc, v3, v4, v5, .slice (some ⟨gl, 0, none⟩) N cl, mv] ∧ RwAt (w3.setCell ⟨gC, A, none⟩ (.int .u32 V)) b2 106 #[.int .i64 (a : Int), .int .i64 2, .int .i64 ti, .int .i64 (t : Int), .int .i64 rd] ∧ (w3.setCell ⟨gC, A, none⟩ (.int .u32 V)).cell? ⟨gl, t, none⟩ = some (.int .i64 (T : Int)) ∧ (w3.setCell ⟨gC, A, none⟩ (.int .u32 V)).cell? ⟨H, 2, none⟩ = some (.slice (some ⟨gC, 0, none⟩) m cC) := ⟨hS0.1.kept (grown_setCell (grown_refl w3 (some gC)) A _) Hne.out.1, hS0.2.1.kept (grown_setCell (grown_refl w3 (some gC)) A _) Hne.out.2, by rw [(He1.out _ _ _ _ HB5.out).1 t Htl.out, HT.out], HB5.out.c2.1⟩
      refine hKK.out _ _ hS1 (fun _ => ?_)
      clear hKK KK hS0
      have hS0 := hS1
      clear hS1
      try simp only [Act.put, List.setIfInBounds_toArray, List.set_cons_zero, List.set_cons_succ, List.getElem_toArray, List.getElem_cons_succ, List.getElem_cons_zero]
      clear hc9 hf9 HB3 hS0
      generalize w3.setCell ⟨gC, A, none⟩ (.int .u32 V) = w5 at HB5 ⊢
      refine wpAnyH_done (by kernel_rfl) ?_ _
      have HFx : Hid (fxC X l I ⟨(a : Int), 2, ⟨ti, (t : Int)⟩, rd⟩ = ⟨I.e, I.D, I.C.set A V, I.dr, I.pl, I.st⟩) := hid (by
        have h1 := HV.out
        have h2 := HA.out
        have h4 := HBB.out
        unfold fxC
        rw [if_neg (show ¬ (2 : Int) = 1 by decide)]
        simp only [Int.toNat_natCast, h2, h4, HxC.out, HT.out]
        rw [if_neg h3, h1])
      go_wp2
      go_end0
      refine ⟨rfl, ?_⟩
      rw [HFx.out]
      exact ⟨_, HB5.out⟩
end Go.Proofs.YtnpnafidhcnkhaaGreatDoor

/- Package link: the image of a program: contracts. (Made by golnk16.py.) -/
import Derived.Test.YtnpnafidhcnkhaaGreatDoorYLnk15
import Derived.Test.YtnpnafidhcnkhaaGreatDoorYLnk13
import Derived.Test.YtnpnafidhcnkhaaGreatDoorYLnkY
namespace Go.Proofs.YtnpnafidhcnkhaaGreatDoor
open Go.RowKit
theorem wp_make_full {w : World} {o : Oper} {a : Act} {K : Act → World → Prop} {Q : Exit → Act → World → Prop} (l c : Operand) (t : TypeId) (hop : o.op = Op.makeSlice t l c)
    (base : Nat) (e : TypeId) (i : TypeInfo) (z : Value) (size : Nat) (h1 : Tryz.prog.underlying t = some (.slice e)) (h2 : Tryz.prog.info? e = some i) (h3 : i.zero = some z) (h4 : i.size = size)
    (kl kc : IntKind) (L C : Int) (n : Nat) (hl : a.eval l = .int kl L) (hc : a.eval c = .int kc C) (hL : L = (n : Int)) (hC : C = (n : Int)) (b2 : i.bytes * n ≤ 281474976710656) (b3 : n ≤ maxLen) (b4 : base ≤ w.heap.size)
    (hK : ∀ w', w'.ownsRow base e size (.slice (some ⟨w.heap.size, 0, none⟩) n n) n (madeCells z.cells (n * size)).toList → w.grownBy w' none → K (a.put o.dst (.slice (some ⟨w.heap.size, 0, none⟩) n n)) w') : o.wp Tryz.prog a w K Q := by
  obtain ⟨w', hrun, r1, r2⟩ := run_make_full (P := Tryz.prog) w base t e i z size h1 h2 h3 h4 kl kc n b2 b3 b4
  subst hL
  subst hC
  unfold Oper.wp
  simp [execOp, hop, hl, hc, hrun, Result.andThen]
  exact hK w' r1 r2
theorem zero_image (w : World) : (zeroValue 45).run Tryz.prog w = .ok (.agg #[.int .u32 0, .slice none 0 0, .slice none 0 0, .slice none 0 0, .slice none 0 0, .slice none 0 0]) w := by kernel_rfl
theorem info_image : (Tryz.prog.info? 45).map (·.size) = some 6 := by kernel_rfl
theorem build_image (e : Int) (p q : Option Addr) (n c m d : Nat) (w : World) : (Instr.build 45 #[(0, .int .u32 e), (1, .slice p n c), (2, .slice q m d)]).run Tryz.prog w = .ok (.agg #[.int .u32 e, .slice p n c, .slice q m d, .slice none 0 0, .slice none 0 0, .slice none 0 0]) w := by kernel_rfl
theorem info_u32L : ∃ i : TypeInfo, Tryz.prog.info? 27 = some i ∧ i.zero = some (.int .u32 0) ∧ i.size = 1 ∧ i.bytes = 4 := info_parts (P := Tryz.prog) (e := 27) (z := .int .u32 0) (size := 1) (bytes := 4) (by kernel_rfl)
/-- a box is a row of one -/
theorem own_rw {w : World} {base z g : Nat} {t : TypeId} {xs : List Value} (h : w.ownsRow base t z (.slice (some ⟨g, 0, none⟩) 1 1) 1 xs) : RwAt w g t xs.toArray := by
  rcases h.2 with ⟨h', _⟩ | ⟨g', cap, cur, h', _, hb, _, _, hs, ht⟩
  · simp at h'
  · simp only [Value.slice.injEq, Option.some.injEq, Addr.mk.injEq, and_true, true_and] at h'
    obtain ⟨rfl, rfl⟩ := h'
    refine ⟨?_⟩
    have e : xs.toArray = cur := by
      rw [← ht, List.take_of_length_le (by rw [Array.length_toList, hs]; exact Nat.le_refl _)]
    rw [e]; exact hb
theorem own_ty {w : World} {b b' z z' n n' : Nat} {t t' : TypeId} {v v' : Value} {xs xs' : List Value} (h : w.ownsRow b t z v n xs) (h' : w.ownsRow b' t' z' v' n' xs') (hn : t ≠ t') : ∀ g, v.ownBlock = some g → v'.ownBlock ≠ some g := by
  intro g hg hg'
  rcases h.2 with ⟨rfl, _⟩ | ⟨g1, _, c1, rfl, _, hb1, _⟩
  · cases hg
  · rcases h'.2 with ⟨rfl, _⟩ | ⟨g2, _, c2, rfl, _, hb2, _⟩
    · cases hg'
    · obtain rfl : g1 = g := Option.some.inj hg
      obtain rfl : g2 = g1 := Option.some.inj hg'
      have h3 := hb1.symm.trans hb2
      simp only [Option.some.injEq, Obj.cells.injEq] at h3
      exact hn h3.2.1
/-- what the image is made of -/
structure PgB (w0 W : World) (base : Nat) (v1 v2 v3 v4 v5 vl : Value) (X : Wh) (l : Nat → Int) : Prop where
  g : w0.grownBy W none
  lt : w0.heap.size ≤ base
  d : W.ownsRow base 27 1 v1 X.D.length (X.D.map (Value.int .u32))
  r : ∀ r ∈ pgRd v2 v3 v4 v5 vl X l, W.ownsRow base r.e r.z r.v r.n r.xs
  ap : ∀ g, v1.ownBlock = some g → v2.ownBlock ≠ some g
  le : base ≤ W.heap.size
section
variable {w0 W w w1 : World} {base H gC c n gl cl gc cc : Nat} {E : List Ro} {v1 v2 v3 v4 v5 vl vD vC vd vp vs : Value} {X : Wh} {l : Nat → Int} {I : Im}
theorem PgB.kept0 (h : PgB w0 W base v1 v2 v3 v4 v5 vl X l) (hg : W.grownBy w none) : PgB w0 w base v1 v2 v3 v4 v5 vl X l :=
  ⟨grown_trans h.g hg, h.lt, h.d.kept hg (by cases v1.ownBlock <;> simp), fun r hr => (h.r r hr).kept hg (by cases r.v.ownBlock <;> simp), h.ap, Nat.le_trans h.le hg.size⟩
theorem PgB.rap (h : PgB w0 W base v1 v2 v3 v4 v5 vl X l) : ∀ r ∈ pgRd v2 v3 v4 v5 vl X l, ∀ g, v1.ownBlock = some g → r.v.ownBlock ≠ some g := by
  intro r hr
  have h1 := h.r r hr
  simp only [pgRd, List.mem_cons, List.not_mem_nil, or_false] at hr
  rcases hr with rfl | rfl | rfl | rfl | rfl
  · exact h.ap
  all_goals exact own_ty h.d h1 (by dsimp only; decide)
/-- the image begins: a box more, a row of its own more -/
theorem IgB.start {N : Nat} (h : PgB w0 W base v1 v2 v3 v4 v5 vl X l) (hg : W.grownBy w none) (hH : W.heap.size ≤ H) (hrow : RwAt w H 45 #[.int .u32 I.e, v1, .slice (some ⟨gC, 0, none⟩) N N, .slice none 0 0, .slice none 0 0, .slice none 0 0])
    (hC : w.ownsRow W.heap.size 27 1 (.slice (some ⟨gC, 0, none⟩) N N) N (I.C.map (Value.int .u32))) (hne : gC ≠ H) (hI : I.D = X.D ∧ I.dr = [] ∧ I.pl = [] ∧ I.st = []) (hN : I.C.length = N)
    (hE : ∀ r ∈ E, W.ownsRow base r.e r.z r.v r.n r.xs) (hEa : ∀ r ∈ E, ∀ g, v1.ownBlock = some g → r.v.ownBlock ≠ some g) :
    IgB w0 w base H E v2 v3 v4 v5 vl v1 (.slice (some ⟨gC, 0, none⟩) N N) (.slice none 0 0) (.slice none 0 0) (.slice none 0 0) X l I := by
  obtain ⟨e, D', C', dr, pl, st⟩ := I
  simp only at hI hrow hC hN
  obtain ⟨rfl, rfl, rfl, rfl⟩ := hI
  have hgC : W.heap.size ≤ gC := (hC.lt gC rfl).1
  have hd := h.d.kept hg (by cases v1.ownBlock <;> simp)
  have hvl : ∀ g, v1.ownBlock = some g → g < W.heap.size := fun g hg => (h.d.lt g hg).2
  have hR : ∀ r ∈ pgRd v2 v3 v4 v5 vl X l ++ E, W.ownsRow base r.e r.z r.v r.n r.xs := fun r hr => by
    rcases List.mem_append.1 hr with h1 | h1
    · exact h.r r h1
    · exact hE r h1
  have hRa : ∀ r ∈ pgRd v2 v3 v4 v5 vl X l ++ E, ∀ g, v1.ownBlock = some g → r.v.ownBlock ≠ some g := fun r hr => by
    rcases List.mem_append.1 hr with h1 | h1
    · exact h.rap r h1
    · exact hEa r h1
  have hRl : ∀ r ∈ pgRd v2 v3 v4 v5 vl X l ++ E, ∀ g, r.v.ownBlock = some g → g < W.heap.size := fun r hr g hg => ((hR r hr).lt g hg).2
  refine ⟨grown_trans h.g hg, h.lt, Nat.le_trans h.le hH, ?_, ?_, ?_, ?_, fun r hr => (hR r hr).kept hg (by cases r.v.ownBlock <;> simp), ?_, ?_⟩
  · simpa [imRo] using hrow
  · intro r hr
    simp only [imRo, List.mem_cons, List.not_mem_nil, or_false] at hr
    rcases hr with rfl | rfl | rfl | rfl | rfl
    · exact hd
    · rw [← hN] at hC ⊢; exact own_baseL hC h.le
    all_goals exact World.ownsRow_nil _ _ _ _
  · intro r hr
    simp only [imRo, List.mem_cons, List.not_mem_nil, or_false] at hr
    rcases hr with rfl | rfl | rfl | rfl | rfl
    · intro e; have := hvl H e; omega
    · intro e; exact hne (Option.some.inj e)
    all_goals (intro e; cases e)
  · intro i j a b hij ha hb g hga hgb
    have hi := (List.getElem?_eq_some_iff.1 ha).1
    have hj := (List.getElem?_eq_some_iff.1 hb).1
    simp only [imRo, List.length_cons, List.length_nil] at hi hj
    have hi5 : i = 0 ∨ i = 1 ∨ i = 2 ∨ i = 3 ∨ i = 4 := by omega
    have hj5 : j = 0 ∨ j = 1 ∨ j = 2 ∨ j = 3 ∨ j = 4 := by omega
    rcases hi5 with rfl | rfl | rfl | rfl | rfl <;> rcases hj5 with rfl | rfl | rfl | rfl | rfl <;> simp [imRo] at ha hb hij <;> subst ha <;> subst hb <;> simp [Value.ownBlock] at hga hgb
    · have := hvl g (by simpa [Value.ownBlock] using hga); omega
    · have := hvl g (by simpa [Value.ownBlock] using hgb); omega
  · intro r hr e
    have := hRl r hr H e; omega
  · intro r hr a ha g hga
    simp only [imRo, List.mem_cons, List.not_mem_nil, or_false] at ha
    rcases ha with rfl | rfl | rfl | rfl | rfl
    · exact hRa r hr g hga
    · intro e
      have h1 := hRl r hr g e
      have h2 : gC = g := Option.some.inj hga
      omega
    all_goals cases hga
end
section
variable {w0 W w w1 : World} {base H gC c n gl cl gc cc g3 c3 m : Nat} {E : List Ro} {v1 v2 v3 v4 v5 vl vD vC vd vp vs : Value} {X : Wh} {l : Nat → Int} {I : Im}
theorem IgB.addI {v' : Value} (p : Int) (h : IgB w0 w base H E v2 v3 v4 v5 vl vD vC vd vp vs X l I) (ho : w1.ownsRow base 3 1 v' (I.st.length + 1) (I.st.map (Value.int .i64) ++ [.int .i64 p])) (hg : w.grownBy w1 vs.ownBlock) (hat : v'.ownBlock = vs.ownBlock ∨ v'.ownBlock = some w.heap.size) :
    IgB w0 (w1.setCell ⟨H, 5, none⟩ v') base H E v2 v3 v4 v5 vl vD vC vd vp v' X l ⟨I.e, I.D, I.C, I.dr, I.pl, I.st ++ [p]⟩ := by
  have := RosB.step (k := 4) (n' := I.st.length + 1) h rfl ho hg hat
  have e : (imRo vD vC vd vp vs I).set 4 ⟨v', 3, 1, I.st.length + 1, I.st.map (Value.int .i64) ++ [.int .i64 p]⟩ = imRo vD vC vd vp v' ⟨I.e, I.D, I.C, I.dr, I.pl, I.st ++ [p]⟩ := by
    simp [imRo]
  rw [e] at this
  exact this
theorem IgB.addD {v' : Value} (p : Int) (h : IgB w0 w base H E v2 v3 v4 v5 vl vD vC vd vp vs X l I) (ho : w1.ownsRow base 3 1 v' (I.dr.length + 1) (I.dr.map (Value.int .i64) ++ [.int .i64 p])) (hg : w.grownBy w1 vd.ownBlock) (hat : v'.ownBlock = vd.ownBlock ∨ v'.ownBlock = some w.heap.size) :
    IgB w0 (w1.setCell ⟨H, 3, none⟩ v') base H E v2 v3 v4 v5 vl vD vC v' vp vs X l ⟨I.e, I.D, I.C, I.dr ++ [p], I.pl, I.st⟩ := by
  have := RosB.step (k := 2) (n' := I.dr.length + 1) h rfl ho hg hat
  have e : (imRo vD vC vd vp vs I).set 2 ⟨v', 3, 1, I.dr.length + 1, I.dr.map (Value.int .i64) ++ [.int .i64 p]⟩ = imRo vD vC v' vp vs ⟨I.e, I.D, I.C, I.dr ++ [p], I.pl, I.st⟩ := by
    simp [imRo]
  rw [e] at this
  exact this
theorem IgB.setD {gD d : Nat} (hd : I.D.length = d) (h : IgB w0 w base H E v2 v3 v4 v5 vl (.slice (some ⟨gD, 0, none⟩) d c) vC vd vp vs X l I) (A : Nat) (V : Int) :
    IgB w0 (w.setCell ⟨gD, A, none⟩ (.int .u32 V)) base H E v2 v3 v4 v5 vl (.slice (some ⟨gD, 0, none⟩) d c) vC vd vp vs X l ⟨I.e, I.D.set A V, I.C, I.dr, I.pl, I.st⟩ := by
  subst hd
  have := RosB.store (k := 0) h rfl A (.int .u32 V)
  have e : (imRo (.slice (some ⟨gD, 0, none⟩) I.D.length c) vC vd vp vs I).set 0 ⟨.slice (some ⟨gD, 0, none⟩) I.D.length c, 27, 1, I.D.length, (I.D.map (Value.int .u32)).set A (.int .u32 V)⟩ = imRo (.slice (some ⟨gD, 0, none⟩) I.D.length c) vC vd vp vs ⟨I.e, I.D.set A V, I.C, I.dr, I.pl, I.st⟩ := by
    simp [imRo, List.map_set, List.length_set]
  rw [e] at this
  exact this
theorem IgB.cD {gD d : Nat} (hd : I.D.length = d) (h : IgB w0 w base H E v2 v3 v4 v5 vl (.slice (some ⟨gD, 0, none⟩) d c) vC vd vp vs X l I) {A : Nat} (hA : A < d) : (∃ u, w.cell? ⟨gD, A, none⟩ = some u) ∧ w.frozen? ⟨gD, A, none⟩ = false := by
  subst hd
  have h1 := h.at_ (k := 0) (r := ⟨.slice (some ⟨gD, 0, none⟩) I.D.length c, 27, 1, I.D.length, I.D.map (Value.int .u32)⟩) rfl
  simp only at h1
  exact ⟨⟨_, (h1.cellAt A (by omega)).trans (List.getElem?_eq_getElem (by simpa using hA))⟩, h1.frozenAt A⟩
theorem IgB.mk (h : IgB w0 w base H E v2 (.slice (some ⟨g3, 0, none⟩) n c3) v4 v5 vl vD vC vd vp vs X l I) (hn : X.K.length = n) {k : Nat} {x : Int} (hk : X.K[k]? = some x) : w.cell? ⟨g3, k, none⟩ = some (.int .u8 x) := by
  subst hn
  have hr : (⟨.slice (some ⟨g3, 0, none⟩) X.K.length c3, 5, 1, X.K.length, X.K.map (Value.int .u8)⟩ : Ro) ∈ pgRd v2 (.slice (some ⟨g3, 0, none⟩) X.K.length c3) v4 v5 vl X l ++ E := by simp [pgRd]
  exact RosB.rdc h hr k (by rw [List.getElem?_map, hk]; rfl)
theorem IgB.cell (h : IgB w0 w base H E v2 v3 v4 v5 vl vD vC vd vp vs X l I) : RwAt w H 45 #[.int .u32 I.e, vD, vC, vd, vp, vs] := h.row
theorem IgB.bx {b z : Nat} {t : TypeId} {xs : List Value} (h : IgB w0 w base H E v2 v3 v4 v5 vl vD vC vd vp vs X l I) (hr : (⟨.slice (some ⟨b, 0, none⟩) 1 1, t, z, 1, xs⟩ : Ro) ∈ E) : RwAt w b t xs.toArray := own_rw (h.rd _ (List.mem_append_right _ hr))
/-- a repair of a list that is read -/
theorem IgB.r4 (h : IgB w0 w base H E v2 v3 v4 v5 vl vD vC vd vp vs X l I) : CsAt w v4 X.R.length (fxsL X.R) := CsAt.own (h.rd ⟨v4, 106, 5, X.R.length, fxsL X.R⟩ (by simp [pgRd]))
theorem IgB.r5 (h : IgB w0 w base H E v2 v3 v4 v5 vl vD vC vd vp vs X l I) : CsAt w v5 X.Q.length (fxsL X.Q) := CsAt.own (h.rd ⟨v5, 106, 5, X.Q.length, fxsL X.Q⟩ (by simp [pgRd]))
end
/-- what the image asks -/
structure ImQ (M : Mp) (X : Wh) (l : Nat → Int) : Prop where
  inc : LInc l X.C.length
  end_ : l X.C.length ≤ 2048
  dl : X.D.length ≤ 2048
  kl : X.K.length = X.C.length
  r : ∀ r ∈ X.R, FxOk X.C.length X.D.length r
  q : ∀ r ∈ X.Q, FxOk X.C.length X.C.length r
  b : ∀ r ∈ X.Q, r.k = 2 → ∃ c : Nat, r.t.a = c ∧ c < X.C.length
  e : TgtOk X.C.length (lkD M nmMainL)
  pos : 0 < X.C.length
  w : ∀ x ∈ X.C, 0 ≤ x ∧ x < 4294967296
  rl : X.R.length ≤ 1000000
  ql : X.Q.length ≤ 1000000
theorem TgtOk.pl {n : Nat} {t : Sp} {l : Nat → Int} (h : TgtOk n t) (hi : LInc l n) (he : l n ≤ 2048) {N : Nat} (hN : n + 1 = N) : t.i ≠ 1 → ∃ k : Nat, t.a = k ∧ k < N ∧ 0 ≤ l k ∧ l k ≤ 1000000 := fun e => by
  obtain ⟨_, k, h1, h2⟩ := h.2 e
  have := hi.i k n h2 (Nat.le_refl _)
  exact ⟨k, h1, by omega, hi.nn (by omega), by omega⟩
theorem grown_setR (w : World) (R : Nat) (c : Array Value) : w.grownBy (w.setRow R c) (some R) := ⟨rfl, rfl, rfl, by simp [World.setRow], fun i _ hi => setRow_other w R i c (fun e => hi (by rw [e]))⟩
section
variable {w0 W : World} {base gl cl n N : Nat} {v1 v2 v3 v4 v5 vl : Value} {X : Wh} {l : Nat → Int}
theorem PgB.sl' (h : PgB w0 W base v1 v2 v3 v4 v5 vl X l) : SlAt W .i64 vl ((List.range (X.C.length + 1)).map l) := by
  have h1 : W.ownsRow base 3 1 vl (X.C.length + 1) (((List.range (X.C.length + 1)).map l).map (Value.int .i64)) := h.r ⟨vl, 3, 1, X.C.length + 1, ((List.range (X.C.length + 1)).map l).map (Value.int .i64)⟩ (by simp [pgRd])
  have h3 : W.ownsRow base 3 1 vl ((List.range (X.C.length + 1)).map l).length (((List.range (X.C.length + 1)).map l).map (Value.int .i64)) := by rw [List.length_map, List.length_range]; exact h1
  exact SlAt.own h3
theorem PgB.ldc (h : PgB w0 W base v1 v2 v3 v4 v5 (.slice (some ⟨gl, 0, none⟩) N cl) X l) (hn : X.C.length + 1 = N) {k : Nat} (hk : k < N) : W.cell? ⟨gl, k, none⟩ = some (.int .i64 (l k)) := by
  subst hn
  have h1 : W.ownsRow base 3 1 (.slice (some ⟨gl, 0, none⟩) (X.C.length + 1) cl) (X.C.length + 1) (((List.range (X.C.length + 1)).map l).map (Value.int .i64)) := h.r ⟨.slice (some ⟨gl, 0, none⟩) (X.C.length + 1) cl, 3, 1, X.C.length + 1, ((List.range (X.C.length + 1)).map l).map (Value.int .i64)⟩ (by simp [pgRd])
  rw [h1.cellAt k (by omega), List.getElem?_map, List.getElem?_map, List.getElem?_range hk]; rfl
end
theorem zero_rep16 (w : World) : (zeroValue 106).run Tryz.prog w = .ok (.agg #[.int .i64 0, .int .i64 0, .int .i64 0, .int .i64 0, .int .i64 0]) w := by kernel_rfl
theorem foldD_len {l : Nat → Int} : ∀ (R : List Fx) (I : Im), (R.foldl (fxD l) I).D.length = I.D.length ∧ (R.foldl (fxD l) I).dr.length ≤ I.dr.length + R.length ∧ (R.foldl (fxD l) I).C = I.C ∧ (R.foldl (fxD l) I).pl = I.pl
  | [], I => ⟨rfl, Nat.le_refl _, rfl, rfl⟩
  | r :: R, I => by
    obtain ⟨a, b, c, e⟩ := foldD_len R (fxD l I r)
    rw [List.foldl_cons]
    refine ⟨by rw [a]; simp [fxD], ?_, by rw [c]; rfl, by rw [e]; rfl⟩
    have h : (fxD l I r).dr.length ≤ I.dr.length + 1 := by unfold fxD; simp only; split <;> simp
    rw [List.length_cons]; omega
theorem foldC_len {X : Wh} {l : Nat → Int} : ∀ (Q : List Fx) (I : Im), (Q.foldl (fxC X l) I).C.length = I.C.length ∧ (Q.foldl (fxC X l) I).pl.length ≤ I.pl.length + Q.length
  | [], I => ⟨rfl, Nat.le_refl _⟩
  | r :: Q, I => by
    obtain ⟨a, b⟩ := foldC_len Q (fxC X l I r)
    have h : (fxC X l I r).pl.length ≤ I.pl.length + 1 := by
      rw [fxC_is]; simp only [List.length_append]
      have : (pfx l r).length ≤ 1 := by unfold pfx; split <;> split <;> simp
      omega
    have h2 : (fxC X l I r).C.length = I.C.length := by rw [fxC_is]; exact cfx_length _ _
    rw [List.foldl_cons, List.length_cons]
    exact ⟨by rw [a, h2], by omega⟩
set_option maxRecDepth 100000 in
set_option maxHeartbeats 32000000 in
theorem image_any (w0 W : World) (base B : Nat) (v1 v2 v3 v4 v5 vl : Value) (M : Mp) (X : Wh) (l : Nat → Int) (h : PgB w0 W base v1 v2 v3 v4 v5 vl X l) (hm : MpAt W B M) (hq : ImQ M X l) :
    Calls Tryz.prog 28 #[.agg (pgV v1 v2 v3 v4 v5 vl (.map (some B)))] W fun e w' => ∃ vC vd vp vs, e = .returned (.agg #[.int .u32 (imP X M l).e, v1, vC, vd, vp, vs]) ∧ w0.grownBy w' none ∧ ∀ r ∈ imRo v1 vC vd vp vs (imP X M l), w'.ownsRow base r.e r.z r.v r.n r.xs := by
  have o1 := h.d
  obtain ⟨p1, c1, e1⟩ := own_slice o1
  have o2 : W.ownsRow base 27 1 v2 X.C.length (X.C.map (Value.int .u32)) := h.r ⟨v2, 27, 1, X.C.length, X.C.map (Value.int .u32)⟩ (by simp [pgRd])
  obtain ⟨gc, cc, e2⟩ := own_some o2 hq.pos
  have o3 : W.ownsRow base 5 1 v3 X.K.length (X.K.map (Value.int .u8)) := h.r ⟨v3, 5, 1, X.K.length, X.K.map (Value.int .u8)⟩ (by simp [pgRd])
  obtain ⟨g3, c3, e3⟩ := own_some o3 (by rw [hq.kl]; exact hq.pos)
  have o4 : W.ownsRow base 106 5 v4 X.R.length (fxsL X.R) := h.r ⟨v4, 106, 5, X.R.length, fxsL X.R⟩ (by simp [pgRd])
  obtain ⟨p4, c4, e4⟩ := own_slice o4
  have o5 : W.ownsRow base 106 5 v5 X.Q.length (fxsL X.Q) := h.r ⟨v5, 106, 5, X.Q.length, fxsL X.Q⟩ (by simp [pgRd])
  obtain ⟨p5, c5, e5⟩ := own_slice o5
  have o6 : W.ownsRow base 3 1 vl (X.C.length + 1) (((List.range (X.C.length + 1)).map l).map (Value.int .i64)) := h.r ⟨vl, 3, 1, X.C.length + 1, ((List.range (X.C.length + 1)).map l).map (Value.int .i64)⟩ (by simp [pgRd])
  obtain ⟨gl, cl, e6⟩ := own_some o6 (by omega)
  subst e1 e2 e3 e4 e5 e6
  obtain ⟨n, hn⟩ : ∃ n, X.C.length = n := ⟨_, rfl⟩
  obtain ⟨d, hd⟩ : ∃ n, X.D.length = n := ⟨_, rfl⟩
  obtain ⟨q4, hq4⟩ : ∃ n, X.R.length = n := ⟨_, rfl⟩
  obtain ⟨q5, hq5⟩ : ∃ n, X.Q.length = n := ⟨_, rfl⟩
  obtain ⟨N, hN⟩ : ∃ N, n + 1 = N := ⟨_, rfl⟩
  have hk3 := hq.kl
  rw [hn] at hk3
  have Hn := hid hn
  have Hd := hid hd
  have Hq4 := hid hq4
  have Hq5 := hid hq5
  have HN := hid hN
  have HK3 := hid hk3
  have HQ := hid hq
  have HLi : Hid (LInc l n) := hid (by rw [← hn]; exact hq.inc)
  have Hend : Hid (l n ≤ 2048) := hid (by rw [← hn]; exact hq.end_)
  have hge := HLi.out.ge (Nat.le_refl n)
  have hgn := HLi.out.nn (Nat.le_refl n)
  have npos := hq.pos
  have ndl := hq.dl
  have nql := hq.ql
  have nrl := hq.rl
  have he0 := Hend.out
  obtain ⟨m, hm0⟩ : ∃ m : Nat, l n = m := ⟨(l n).toNat, by omega⟩
  have HM := hid hm0
  have m2048 : m ≤ 2048 := by omega
  have Hm2 := hid m2048
  have n2048 : n ≤ 2048 := by omega
  have Hnb : Hid (0 < n ∧ n ≤ 2048 ∧ d ≤ 2048 ∧ q4 ≤ 1000000 ∧ q5 ≤ 1000000) := hid (by omega)
  have HB0 := hid h
  have HBle := hid h.le
  have HMp := hid hm
  obtain ⟨s, hs⟩ : ∃ s, lkD M nmMainL = s := ⟨_, rfl⟩
  have Hs := hid hs
  obtain ⟨e0, he0⟩ : ∃ e, adP l s = e := ⟨_, rfl⟩
  have He0 := hid he0
  obtain ⟨si, sa⟩ := s
  have HA := hid (fun W (h : SlAt W .i64 (.slice (some ⟨gl, 0, none⟩) N cl) ((List.range N).map l)) => adr_any W (.slice p1 d c1) (.slice (some ⟨gc, 0, none⟩) n cc) (.slice (some ⟨g3, 0, none⟩) n c3) (.slice p4 q4 c4) (.slice p5 q5 c5) (.slice (some ⟨gl, 0, none⟩) N cl) (.map (some B)) l N h ⟨si, sa⟩ (by have := hq.e; rw [hs] at this; exact this.1) (by have := hq.e; rw [hs] at this; exact this.pl hq.inc hq.end_ (by omega)))
  rw [he0] at HA
  rw [hd, hk3, hq4, hq5, hn, hN] at HB0 ⊢
  clear h hm hq o1 o2 o3 o4 o5 o6 hn hd hq4 hq5 hN hk3 hge hgn npos ndl nql nrl hm0 m2048 n2048 hs he0
  have n0 : (0 : Int) ≤ (n : Int) := by omega
  have nN : (n : Int) < (N : Int) := by have := HN.out; omega
  have m0 : (0 : Int) ≤ (m : Int) := by omega
  have n1 : (n : Int) ≤ 2048 := by have := Hnb.out; omega
  have m1 : (m : Int) ≤ 2048 := by have := Hm2.out; omega
  unfold pgV
  have hba := two_boxes (W := W) (a := #[.slice p1 d c1, .slice (some ⟨gc, 0, none⟩) n cc, .slice (some ⟨g3, 0, none⟩) n c3, .slice p4 q4 c4, .slice p5 q5 c5, .slice (some ⟨gl, 0, none⟩) N cl, .map (some B)]) (b := #[.int .u32 0, .slice none 0 0, .slice none 0 0, .slice none 0 0, .slice none 0 0, .slice none 0 0]) (t := 78) (u := 45)
  have hlit1 : (W.alloc (.cells #[.slice p1 d c1, .slice (some ⟨gc, 0, none⟩) n cc, .slice (some ⟨g3, 0, none⟩) n c3, .slice p4 q4 c4, .slice p5 q5 c5, .slice (some ⟨gl, 0, none⟩) N cl, .map (some B)] 78)).ownsRow base 78 7 (.slice (some ⟨W.heap.size, 0, none⟩) 1 1) 1 (#[.slice p1 d c1, .slice (some ⟨gc, 0, none⟩) n cc, .slice (some ⟨g3, 0, none⟩) n c3, .slice p4 q4 c4, .slice p5 q5 c5, .slice (some ⟨gl, 0, none⟩) N cl, .map (some B)]).toList := World.ownsRow_lit W #[.slice p1 d c1, .slice (some ⟨gc, 0, none⟩) n cc, .slice (some ⟨g3, 0, none⟩) n c3, .slice p4 q4 c4, .slice p5 q5 c5, .slice (some ⟨gl, 0, none⟩) N cl, .map (some B)] 1 HB0.out.le (by unfold maxLen; omega) rfl
  have hlit2 : ((W.alloc (.cells #[.slice p1 d c1, .slice (some ⟨gc, 0, none⟩) n cc, .slice (some ⟨g3, 0, none⟩) n c3, .slice p4 q4 c4, .slice p5 q5 c5, .slice (some ⟨gl, 0, none⟩) N cl, .map (some B)] 78)).alloc (.cells #[.int .u32 0, .slice none 0 0, .slice none 0 0, .slice none 0 0, .slice none 0 0, .slice none 0 0] 45)).ownsRow base 45 6 (.slice (some ⟨(W.alloc (.cells #[.slice p1 d c1, .slice (some ⟨gc, 0, none⟩) n cc, .slice (some ⟨g3, 0, none⟩) n c3, .slice p4 q4 c4, .slice p5 q5 c5, .slice (some ⟨gl, 0, none⟩) N cl, .map (some B)] 78)).heap.size, 0, none⟩) 1 1) 1 (#[.int .u32 0, .slice none 0 0, .slice none 0 0, .slice none 0 0, .slice none 0 0, .slice none 0 0]).toList := World.ownsRow_lit _ #[.int .u32 0, .slice none 0 0, .slice none 0 0, .slice none 0 0, .slice none 0 0, .slice none 0 0] 1 (by have := HB0.out.le; simp; omega) (by unfold maxLen; omega) rfl
  have hlit1 := hlit1.kept (World.grownBy_alloc _ (.cells #[.int .u32 0, .slice none 0 0, .slice none 0 0, .slice none 0 0, .slice none 0 0, .slice none 0 0] 45) none) (.inr (fun e => by cases e))
  rw [show (W.alloc (.cells #[.slice p1 d c1, .slice (some ⟨gc, 0, none⟩) n cc, .slice (some ⟨g3, 0, none⟩) n c3, .slice p4 q4 c4, .slice p5 q5 c5, .slice (some ⟨gl, 0, none⟩) N cl, .map (some B)] 78)).heap.size = W.heap.size + 1 by simp] at hlit2
  have hv1 : ∀ g, (Value.slice p1 d c1).ownBlock = some g → g < W.heap.size := fun g hg => (HB0.out.d.lt g hg).2
  obtain ⟨b1, hb1⟩ : ∃ b, W.heap.size = b := ⟨_, rfl⟩
  obtain ⟨R, hR⟩ : ∃ R, b1 + 1 = R := ⟨_, rfl⟩
  rw [hb1] at hba hlit1 hlit2 hv1
  rw [hR] at hba hlit2
  have HE : Hid (∀ r ∈ ([⟨.slice (some ⟨b1, 0, none⟩) 1 1, 78, 7, 1, (#[.slice p1 d c1, .slice (some ⟨gc, 0, none⟩) n cc, .slice (some ⟨g3, 0, none⟩) n c3, .slice p4 q4 c4, .slice p5 q5 c5, .slice (some ⟨gl, 0, none⟩) N cl, .map (some B)]).toList⟩, ⟨.slice (some ⟨R, 0, none⟩) 1 1, 45, 6, 1, (#[.int .u32 0, .slice none 0 0, .slice none 0 0, .slice none 0 0, .slice none 0 0, .slice none 0 0]).toList⟩] : List Ro), ((W.alloc (.cells #[.slice p1 d c1, .slice (some ⟨gc, 0, none⟩) n cc, .slice (some ⟨g3, 0, none⟩) n c3, .slice p4 q4 c4, .slice p5 q5 c5, .slice (some ⟨gl, 0, none⟩) N cl, .map (some B)] 78)).alloc (.cells #[.int .u32 0, .slice none 0 0, .slice none 0 0, .slice none 0 0, .slice none 0 0, .slice none 0 0] 45)).ownsRow base r.e r.z r.v r.n r.xs) := hid (fun r hr => by
    simp only [List.mem_cons, List.not_mem_nil, or_false] at hr
    rcases hr with rfl | rfl
    · exact hlit1
    · exact hlit2)
  have HEa : Hid (∀ r ∈ ([⟨.slice (some ⟨b1, 0, none⟩) 1 1, 78, 7, 1, (#[.slice p1 d c1, .slice (some ⟨gc, 0, none⟩) n cc, .slice (some ⟨g3, 0, none⟩) n c3, .slice p4 q4 c4, .slice p5 q5 c5, .slice (some ⟨gl, 0, none⟩) N cl, .map (some B)]).toList⟩, ⟨.slice (some ⟨R, 0, none⟩) 1 1, 45, 6, 1, (#[.int .u32 0, .slice none 0 0, .slice none 0 0, .slice none 0 0, .slice none 0 0, .slice none 0 0]).toList⟩] : List Ro), ∀ g, (Value.slice p1 d c1).ownBlock = some g → r.v.ownBlock ≠ some g) := hid (fun r hr g hg e => by
    have h1 := hv1 g hg
    simp only [List.mem_cons, List.not_mem_nil, or_false] at hr
    rcases hr with rfl | rfl
    · have h2 : b1 = g := Option.some.inj e; omega
    · have h2 : R = g := Option.some.inj e; omega)
  have HP := hid hba.1
  have HB1 := hid (HB0.out.kept0 hba.2.2)
  have HM1 := hid (HMp.out.kept0 hba.2.2)
  have HS2 : Hid (((W.alloc (.cells #[.slice p1 d c1, .slice (some ⟨gc, 0, none⟩) n cc, .slice (some ⟨g3, 0, none⟩) n c3, .slice p4 q4 c4, .slice p5 q5 c5, .slice (some ⟨gl, 0, none⟩) N cl, .map (some B)] 78)).alloc (.cells #[.int .u32 0, .slice none 0 0, .slice none 0 0, .slice none 0 0, .slice none 0 0, .slice none 0 0] 45)).heap.size = R + 1) := hid (by simp; omega)
  have Hb1 := hid hb1
  have HRe := hid hR
  clear hlit1 hlit2 hba hv1 HB0 HMp
  have Hz := zero_image
  go_enter Tryz.func28, Tryz.ntmps28
  go_upto_region 1 with (fail)
  try rw [hb1]
  try rw [hR]
  clear hb1 hR
  generalize (W.alloc (.cells #[.slice p1 d c1, .slice (some ⟨gc, 0, none⟩) n cc, .slice (some ⟨g3, 0, none⟩) n c3, .slice p4 q4 c4, .slice p5 q5 c5, .slice (some ⟨gl, 0, none⟩) N cl, .map (some B)] 78)).alloc (.cells #[.int .u32 0, .slice none 0 0, .slice none 0 0, .slice none 0 0, .slice none 0 0, .slice none 0 0] 45) = w1 at HE HEa HP HB1 HM1 HS2 ⊢
  obtain ⟨E, hE⟩ : ∃ E : List Ro, ([⟨.slice (some ⟨b1, 0, none⟩) 1 1, 78, 7, 1, (#[.slice p1 d c1, .slice (some ⟨gc, 0, none⟩) n cc, .slice (some ⟨g3, 0, none⟩) n c3, .slice p4 q4 c4, .slice p5 q5 c5, .slice (some ⟨gl, 0, none⟩) N cl, .map (some B)]).toList⟩, ⟨.slice (some ⟨R, 0, none⟩) 1 1, 45, 6, 1, (#[.int .u32 0, .slice none 0 0, .slice none 0 0, .slice none 0 0, .slice none 0 0, .slice none 0 0]).toList⟩] : List Ro) = E := ⟨_, rfl⟩
  have HEe := hid hE
  rw [hE] at HE HEa
  clear hE
  have Hx1 : Hid (∀ (w : World) (H : Nat) (vC vd vp vs : Value) (I : Im), IgB w0 w base H E (.slice (some ⟨gc, 0, none⟩) n cc) (.slice (some ⟨g3, 0, none⟩) n c3) (.slice p4 q4 c4) (.slice p5 q5 c5) (.slice (some ⟨gl, 0, none⟩) N cl) (.slice p1 d c1) (vC) (vd) (vp) (vs) X l I → RwAt w b1 78 #[.slice p1 d c1, .slice (some ⟨gc, 0, none⟩) n cc, .slice (some ⟨g3, 0, none⟩) n c3, .slice p4 q4 c4, .slice p5 q5 c5, .slice (some ⟨gl, 0, none⟩) N cl, .map (some B)] ∧ RwAt w R 45 #[.int .u32 0, .slice none 0 0, .slice none 0 0, .slice none 0 0, .slice none 0 0, .slice none 0 0]) := hid (fun w H vC vd vp vs I hI => ⟨hI.bx (z := 7) (xs := (#[.slice p1 d c1, .slice (some ⟨gc, 0, none⟩) n cc, .slice (some ⟨g3, 0, none⟩) n c3, .slice p4 q4 c4, .slice p5 q5 c5, .slice (some ⟨gl, 0, none⟩) N cl, .map (some B)]).toList) (by rw [← HEe.out]; simp), hI.bx (z := 6) (xs := (#[.int .u32 0, .slice none 0 0, .slice none 0 0, .slice none 0 0, .slice none 0 0, .slice none 0 0]).toList) (by rw [← HEe.out]; simp)⟩)
  have hg0 : w1.grownBy w1.drew none := grown_drew (grown_refl _ none)
  replace HP := hid (HP.out.kept0 hg0)
  replace HB1 := hid (HB1.out.kept0 hg0)
  replace HM1 := hid (HM1.out.kept0 hg0)
  have HE2 : Hid (∀ r ∈ E, w1.drew.ownsRow base r.e r.z r.v r.n r.xs) := hid (fun r hr => (HE.out r hr).kept hg0 (by cases r.v.ownBlock <;> simp))
  have HS3 : Hid (w1.drew.heap.size = R + 1) := hid HS2.out
  obtain ⟨iu, hi, hz0, hz1, hz2⟩ := info_u32L
  have Hi := hid hi
  have Hz0 := hid hz0
  have Hz1 := hid hz1
  have Hz2 := hid hz2
  clear hi hz0 hz1 hz2 HE HS2
  go_cut [3] from 10 to 27 (fun u wz => ∃ (H gC : Nat), u = .pointer (some ⟨H, 0, none⟩) ∧ Hid (IgB w0 wz base H E (.slice (some ⟨gc, 0, none⟩) n cc) (.slice (some ⟨g3, 0, none⟩) n c3) (.slice p4 q4 c4) (.slice p5 q5 c5) (.slice (some ⟨gl, 0, none⟩) N cl) (.slice p1 d c1) (.slice (some ⟨gC, 0, none⟩) m m) (.slice none 0 0) (.slice none 0 0) (.slice none 0 0) X l ⟨e0, X.D, imC X l 0, [], [], []⟩))
  case first =>
    rename_i hJ0 hJ
    have HI0 : Hid (imC X l 0 = List.replicate m 0) := hid (by unfold imC; rw [Hn.out, HM.out, Int.toNat_natCast])
    have Hld : Hid (∀ W', w1.drew.grownBy W' none → W'.cell? ⟨gl, n, none⟩ = some (.int .i64 (m : Int))) := hid (fun W' hg => by rw [← HM.out]; exact (HB1.out.kept0 hg).ldc (by rw [Hn.out]; exact HN.out) (by have := HN.out; omega))
    refine wp_region_held_drew (S := fun W => w1.drew.grownBy W none) (by kernel_rfl) (grown_refl _ none) (fun hS0 => ?_)
    generalize w1.drew = wd at HP HB1 HM1 HE2 HS3 Hld hS0 ⊢
    refine wpAnyH_take (i := 0) (v := .agg #[.slice p1 d c1, .slice (some ⟨gc, 0, none⟩) n cc, .slice (some ⟨g3, 0, none⟩) n c3, .slice p4 q4 c4, .slice p5 q5 c5, .slice (some ⟨gl, 0, none⟩) N cl, .map (some B)]) rfl (by kernel_rfl) (by kernel_rfl) (by kernel_rfl) (fun _ _ _ h => h) (Or.inl ⟨by kernel_rfl, fun W hW => run_load_row _ _ rfl rfl (HP.out.kept0 hW).blk rfl Tryz.underlying78 info_program⟩) hS0 ?_
    try simp only [Act.put, List.setIfInBounds_toArray, List.set_cons_zero, List.set_cons_succ, List.getElem_toArray, List.getElem_cons_zero]
    refine wpAnyH_take (i := 1) (v := ?_) rfl (by kernel_rfl) (by kernel_rfl) (by kernel_rfl) (fun _ _ _ h => h) (Or.inl ⟨by kernel_rfl, ?_⟩) hS0 ?_
    rotate_left
    · (intro W hSw; clear hSw; go_simp; try with_reducible rfl)
    try simp only [Act.put, List.setIfInBounds_toArray, List.set_cons_zero, List.set_cons_succ, List.getElem_toArray, List.getElem_cons_succ, List.getElem_cons_zero]
    refine wpAnyH_take (i := 2) (v := ?_) rfl (by kernel_rfl) (by kernel_rfl) (by kernel_rfl) (fun _ _ _ h => h) (Or.inl ⟨by kernel_rfl, ?_⟩) hS0 ?_
    rotate_left
    · (intro W hSw; have hc := (HP.out.kept0 hSw).cell 6 (v := .map (some B)) rfl; clear hSw; go_simp; try with_reducible rfl)
    try simp only [Act.put, List.setIfInBounds_toArray, List.set_cons_zero, List.set_cons_succ, List.getElem_toArray, List.getElem_cons_succ, List.getElem_cons_zero]
    refine wpAnyH_take (i := 3) (v := ?_) rfl (by kernel_rfl) (by kernel_rfl) (by kernel_rfl) (fun _ _ _ h => h) (Or.inl ⟨by kernel_rfl, ?_⟩) hS0 ?_
    rotate_left
    · (intro W hSw; have hc := (HM1.out.kept0 hSw).look_of nmMainL Hs.out; unfold nmMainL at hc; clear hSw; go_simp; try with_reducible rfl)
    try simp only [Act.put, List.setIfInBounds_toArray, List.set_cons_zero, List.set_cons_succ, List.getElem_toArray, List.getElem_cons_succ, List.getElem_cons_zero]
    refine wpAnyH_take (i := 5) (v := ?_) rfl (by kernel_rfl) (by kernel_rfl) (by kernel_rfl) (fun _ _ _ h => h) (Or.inl ⟨by kernel_rfl, ?_⟩) hS0 ?_
    rotate_left
    · (intro W hSw; clear hSw; go_simp; try with_reducible rfl)
    try simp only [Act.put, List.setIfInBounds_toArray, List.set_cons_zero, List.set_cons_succ, List.getElem_toArray, List.getElem_cons_succ, List.getElem_cons_zero]
    refine wpAnyH_take (i := 6) (v := ?_) rfl (by kernel_rfl) (by kernel_rfl) (by kernel_rfl) (fun _ _ _ h => h) (Or.inl ⟨by kernel_rfl, ?_⟩) hS0 ?_
    rotate_left
    · (intro W hSw; clear hSw; go_simp; try with_reducible rfl)
    try simp only [Act.put, List.setIfInBounds_toArray, List.set_cons_zero, List.set_cons_succ, List.getElem_toArray, List.getElem_cons_succ, List.getElem_cons_zero]
    refine wpAnyH_take (i := 7) (v := ?_) rfl (by kernel_rfl) (by kernel_rfl) (by kernel_rfl) (fun _ _ _ h => h) (Or.inl ⟨by kernel_rfl, ?_⟩) hS0 ?_
    rotate_left
    · (intro W hSw; have hc := (HP.out.kept0 hSw).cell 0 (v := .slice p1 d c1) rfl; clear hSw; go_simp; try with_reducible rfl)
    try simp only [Act.put, List.setIfInBounds_toArray, List.set_cons_zero, List.set_cons_succ, List.getElem_toArray, List.getElem_cons_succ, List.getElem_cons_zero]
    refine wpAnyH_take (i := 8) (v := ?_) rfl (by kernel_rfl) (by kernel_rfl) (by kernel_rfl) (fun _ _ _ h => h) (Or.inl ⟨by kernel_rfl, ?_⟩) hS0 ?_
    rotate_left
    · (intro W hSw; clear hSw; go_simp; try with_reducible rfl)
    try simp only [Act.put, List.setIfInBounds_toArray, List.set_cons_zero, List.set_cons_succ, List.getElem_toArray, List.getElem_cons_succ, List.getElem_cons_zero]
    refine wpAnyH_take (i := 9) (v := ?_) rfl (by kernel_rfl) (by kernel_rfl) (by kernel_rfl) (fun _ _ _ h => h) (Or.inl ⟨by kernel_rfl, ?_⟩) hS0 ?_
    rotate_left
    · (intro W hSw; have hc := (HP.out.kept0 hSw).cell 5 (v := .slice (some ⟨gl, 0, none⟩) N cl) rfl; clear hSw; go_simp; try with_reducible rfl)
    try simp only [Act.put, List.setIfInBounds_toArray, List.set_cons_zero, List.set_cons_succ, List.getElem_toArray, List.getElem_cons_succ, List.getElem_cons_zero]
    refine wpAnyH_take (i := 10) (v := ?_) rfl (by kernel_rfl) (by kernel_rfl) (by kernel_rfl) (fun _ _ _ h => h) (Or.inl ⟨by kernel_rfl, ?_⟩) hS0 ?_
    rotate_left
    · (intro W hSw; clear hSw; go_simp; try with_reducible rfl)
    try simp only [Act.put, List.setIfInBounds_toArray, List.set_cons_zero, List.set_cons_succ, List.getElem_toArray, List.getElem_cons_succ, List.getElem_cons_zero]
    refine wpAnyH_take (i := 11) (v := ?_) rfl (by kernel_rfl) (by kernel_rfl) (by kernel_rfl) (fun _ _ _ h => h) (Or.inl ⟨by kernel_rfl, ?_⟩) hS0 ?_
    rotate_left
    · (intro W hSw; clear hSw; go_simp; try with_reducible rfl)
    try simp only [Act.put, List.setIfInBounds_toArray, List.set_cons_zero, List.set_cons_succ, List.getElem_toArray, List.getElem_cons_succ, List.getElem_cons_zero]
    refine wpAnyH_take (i := 12) (v := ?_) rfl (by kernel_rfl) (by kernel_rfl) (by kernel_rfl) (fun _ _ _ h => h) (Or.inl ⟨by kernel_rfl, ?_⟩) hS0 ?_
    rotate_left
    · (intro W hSw; have hc := (HP.out.kept0 hSw).cell 1 (v := .slice (some ⟨gc, 0, none⟩) n cc) rfl; clear hSw; go_simp; try with_reducible rfl)
    try simp only [Act.put, List.setIfInBounds_toArray, List.set_cons_zero, List.set_cons_succ, List.getElem_toArray, List.getElem_cons_succ, List.getElem_cons_zero]
    refine wpAnyH_take (i := 13) (v := ?_) rfl (by kernel_rfl) (by kernel_rfl) (by kernel_rfl) (fun _ _ _ h => h) (Or.inl ⟨by kernel_rfl, ?_⟩) hS0 ?_
    rotate_left
    · (intro W hSw; clear hSw; go_simp; try with_reducible rfl)
    try simp only [Act.put, List.setIfInBounds_toArray, List.set_cons_zero, List.set_cons_succ, List.getElem_toArray, List.getElem_cons_succ, List.getElem_cons_zero]
    refine wpAnyH_take (i := 14) (v := ?_) rfl (by kernel_rfl) (by kernel_rfl) (by kernel_rfl) (fun _ _ _ h => h) (Or.inl ⟨by kernel_rfl, ?_⟩) hS0 ?_
    rotate_left
    · (intro W hSw; clear hSw; go_simp; try with_reducible rfl)
    try simp only [Act.put, List.setIfInBounds_toArray, List.set_cons_zero, List.set_cons_succ, List.getElem_toArray, List.getElem_cons_succ, List.getElem_cons_zero]
    refine wpAnyH_take (i := 15) (v := ?_) rfl (by kernel_rfl) (by kernel_rfl) (by kernel_rfl) (fun _ _ _ h => h) (Or.inl ⟨by kernel_rfl, ?_⟩) hS0 ?_
    rotate_left
    · (intro W hSw; have hc := Hld.out _ hSw; clear hSw; go_simp; try with_reducible rfl)
    try simp only [Act.put, List.setIfInBounds_toArray, List.set_cons_zero, List.set_cons_succ, List.getElem_toArray, List.getElem_cons_succ, List.getElem_cons_zero]
    refine wpAnyH_ready (rs := [4, 16, 18]) (by kernel_rfl) (by simp) ?_
    refine AllReadyH.cons rfl (fun KK hKK => ?_) (AllReadyH.cons rfl (fun KK hKK => ?_) (AllReadyH.cons rfl (fun KK hKK => ?_) (AllReadyH.nil)))
    · go_simp
      refine (HA.out _ ((by have h := (HB1.out.kept0 hS0).sl'; rw [Hn.out, HN.out] at h; exact h))).mono ?_; rintro e' y1a0 ⟨rfl, hg⟩
      have hS1 : wd.grownBy y1a0 none := grown_trans hS0 hg
      clear hg hS0
      refine hKK.out _ _ hS1 (fun _ => ?_)
      clear hKK KK
      have hS0 := hS1
      clear hS1
      try simp only [Act.put, List.setIfInBounds_toArray, List.set_cons_zero, List.set_cons_succ, List.getElem_toArray, List.getElem_cons_succ, List.getElem_cons_zero]
      refine wpAnyH_ready (rs := [16, 18]) (by kernel_rfl) (by simp) ?_
      refine AllReadyH.cons rfl (fun KK hKK => ?_) (AllReadyH.cons rfl (fun KK hKK => ?_) (AllReadyH.nil))
      · refine wp_make_full _ _ 36 rfl (R + 1) 27 iu _ 1 Tryz.underlying36 Hi.out Hz0.out Hz1.out .i64 .i64 _ _ m rfl rfl rfl rfl (by rw [Hz2.out]; have := Hm2.out; omega) (by have := Hm2.out; unfold maxLen; omega) (by rw [← HS3.out]; exact hS0.size) ?_
        intro y2a10 hmk hgr
        rw [show (Value.int .u32 0).cells = Array.replicate 1 (.int .u32 0) from rfl, toList_madeZero _ _ 1 (by omega), Array.toList_replicate, Nat.mul_one, ← List.map_replicate (f := Value.int .u32) (a := 0)] at hmk
        have HG := hid hmk
        have hS1 : wd.grownBy y2a10 none := grown_trans hS0 hgr
        obtain ⟨gC, hgC⟩ : ∃ g, y1a0.heap.size = g := ⟨_, rfl⟩
        rw [hgC] at HG ⊢
        clear hmk hgr hgC hS0
        refine hKK.out _ _ hS1 (fun _ => ?_)
        clear hKK KK
        have hS0 := hS1
        clear hS1
        have HGlt : Hid (gC < y2a10.heap.size) := hid ((HG.out.lt gC rfl).2)
        try simp only [Act.put, List.setIfInBounds_toArray, List.set_cons_zero, List.set_cons_succ, List.getElem_toArray, List.getElem_cons_succ, List.getElem_cons_zero]
        have hbi := build_image e0 p1 (some ⟨gC, 0, none⟩) d c1 m m
        refine wpAnyH_take (i := 17) (v := ?_) rfl (by kernel_rfl) (by kernel_rfl) (by kernel_rfl) (fun _ _ _ h => h) (Or.inl ⟨by kernel_rfl, ?_⟩) hS0 ?_
        rotate_left
        · (intro W hSw; clear hSw; go_simp; try with_reducible rfl)
        try simp only [Act.put, List.setIfInBounds_toArray, List.set_cons_zero, List.set_cons_succ, List.getElem_toArray, List.getElem_cons_succ, List.getElem_cons_zero]
        clear hbi
        refine wpAnyH_ready (rs := [18]) (by kernel_rfl) (by simp) ?_
        refine AllReadyH.cons rfl (fun KK hKK => ?_) (AllReadyH.nil)
        · have HH := hid (RwAt.new y2a10 45 #[.int .u32 0, .slice none 0 0, .slice none 0 0, .slice none 0 0, .slice none 0 0, .slice none 0 0])
          have hgr := World.grownBy_alloc y2a10 (.cells #[.int .u32 0, .slice none 0 0, .slice none 0 0, .slice none 0 0, .slice none 0 0, .slice none 0 0] 45) none
          have hS1 : wd.grownBy (y2a10.alloc (.cells #[.int .u32 0, .slice none 0 0, .slice none 0 0, .slice none 0 0, .slice none 0 0, .slice none 0 0] 45)) none := grown_trans hS0 hgr
          have HHl : Hid (R + 1 ≤ y2a10.heap.size) := hid (by rw [← HS3.out]; exact hS0.size)
          replace HG := hid (HG.out.kept hgr (.inr (fun e => by cases e)))
          have Hne : Hid (gC ≠ y2a10.heap.size) := hid (by have := HGlt.out; omega)
          go_simp
          obtain ⟨H, hH⟩ : ∃ g, y2a10.heap.size = g := ⟨_, rfl⟩
          rw [hH] at HH HHl ⊢
          rw [hH] at Hne
          clear hgr hH hS0
          refine hKK.out _ _ hS1 (fun _ => ?_)
          clear hKK KK
          have hS0 := hS1
          clear hS1
          have HHlt : Hid (H < (y2a10.alloc (.cells #[.int .u32 0, .slice none 0 0, .slice none 0 0, .slice none 0 0, .slice none 0 0, .slice none 0 0] 45)).heap.size) := hid HH.out.lt
          generalize y2a10.alloc (.cells #[.int .u32 0, .slice none 0 0, .slice none 0 0, .slice none 0 0, .slice none 0 0, .slice none 0 0] 45) = y3a201 at HH hS0 HHlt HG ⊢
          have HGlt : Hid (gC < y3a201.heap.size) := hid ((HG.out.lt gC rfl).2)
          try simp only [Act.put, List.setIfInBounds_toArray, List.set_cons_zero, List.set_cons_succ, List.getElem_toArray, List.getElem_cons_succ, List.getElem_cons_zero]
          refine wpAnyH_ready (rs := [19]) (by kernel_rfl) (by simp) ?_
          refine AllReadyH.cons rfl (fun KK hKK => ?_) AllReadyH.nil
          refine wp_store_row 45 (.tmp 3) (.tmp 27) rfl H #[.int .u32 e0, .slice p1 d c1, .slice (some ⟨gC, 0, none⟩) m m, .slice none 0 0, .slice none 0 0, .slice none 0 0] rfl rfl _ _ HH.out.blk info_image rfl (by simp [Value.oneCell']) ?_
          have hS1 : wd.grownBy (y3a201.setRow H #[.int .u32 e0, .slice p1 d c1, .slice (some ⟨gC, 0, none⟩) m m, .slice none 0 0, .slice none 0 0, .slice none 0 0]) none := grown_setRow hS0 (by rw [HS3.out]; exact HHl.out) _
          have HF : Hid (IgB w0 (y3a201.setRow H #[.int .u32 e0, .slice p1 d c1, .slice (some ⟨gC, 0, none⟩) m m, .slice none 0 0, .slice none 0 0, .slice none 0 0]) base H E (.slice (some ⟨gc, 0, none⟩) n cc) (.slice (some ⟨g3, 0, none⟩) n c3) (.slice p4 q4 c4) (.slice p5 q5 c5) (.slice (some ⟨gl, 0, none⟩) N cl) (.slice p1 d c1) (.slice (some ⟨gC, 0, none⟩) m m) (.slice none 0 0) (.slice none 0 0) (.slice none 0 0) X l ⟨e0, X.D, imC X l 0, [], [], []⟩) := hid (IgB.start HB1.out hS1 (by rw [HS3.out]; exact HHl.out) (HH.out.row _) (by dsimp only; rw [HI0.out, HS3.out]; exact HG.out.kept (grown_setR y3a201 H _) (.inr (fun e => Hne.out (Option.some.inj e)))) Hne.out ⟨rfl, rfl, rfl, rfl⟩ (by dsimp only; rw [HI0.out, List.length_replicate]) HE2.out HEa.out)
          refine hKK.out _ _ hS1 (fun _ => ?_)
          clear hKK KK hS0 hS1
          try simp only [Act.put, List.getElem_toArray, List.getElem_cons_succ, List.getElem_cons_zero]
          refine wpAnyH_done (by kernel_rfl) ?_ _
          refine hJ _ _ (Met.intro (hJ0 _ _ ?_))
          repeat apply Exists.intro
          refine ⟨?_, rfl⟩
          exact ⟨H, gC, rfl, HF⟩
      · have HH := hid (RwAt.new y1a0 45 #[.int .u32 0, .slice none 0 0, .slice none 0 0, .slice none 0 0, .slice none 0 0, .slice none 0 0])
        have hgr := World.grownBy_alloc y1a0 (.cells #[.int .u32 0, .slice none 0 0, .slice none 0 0, .slice none 0 0, .slice none 0 0, .slice none 0 0] 45) none
        have hS1 : wd.grownBy (y1a0.alloc (.cells #[.int .u32 0, .slice none 0 0, .slice none 0 0, .slice none 0 0, .slice none 0 0, .slice none 0 0] 45)) none := grown_trans hS0 hgr
        have HHl : Hid (R + 1 ≤ y1a0.heap.size) := hid (by rw [← HS3.out]; exact hS0.size)
        go_simp
        obtain ⟨H, hH⟩ : ∃ g, y1a0.heap.size = g := ⟨_, rfl⟩
        rw [hH] at HH HHl ⊢
        clear hgr hH hS0
        refine hKK.out _ _ hS1 (fun _ => ?_)
        clear hKK KK
        have hS0 := hS1
        clear hS1
        have HHlt : Hid (H < (y1a0.alloc (.cells #[.int .u32 0, .slice none 0 0, .slice none 0 0, .slice none 0 0, .slice none 0 0, .slice none 0 0] 45)).heap.size) := hid HH.out.lt
        generalize y1a0.alloc (.cells #[.int .u32 0, .slice none 0 0, .slice none 0 0, .slice none 0 0, .slice none 0 0, .slice none 0 0] 45) = y2b10 at HH hS0 HHlt ⊢
        try simp only [Act.put, List.setIfInBounds_toArray, List.set_cons_zero, List.set_cons_succ, List.getElem_toArray, List.getElem_cons_succ, List.getElem_cons_zero]
        refine wpAnyH_ready (rs := [16]) (by kernel_rfl) (by simp) ?_
        refine AllReadyH.cons rfl (fun KK hKK => ?_) (AllReadyH.nil)
        · refine wp_make_full _ _ 36 rfl (R + 1) 27 iu _ 1 Tryz.underlying36 Hi.out Hz0.out Hz1.out .i64 .i64 _ _ m rfl rfl rfl rfl (by rw [Hz2.out]; have := Hm2.out; omega) (by have := Hm2.out; unfold maxLen; omega) (by rw [← HS3.out]; exact hS0.size) ?_
          intro y3a202 hmk hgr
          rw [show (Value.int .u32 0).cells = Array.replicate 1 (.int .u32 0) from rfl, toList_madeZero _ _ 1 (by omega), Array.toList_replicate, Nat.mul_one, ← List.map_replicate (f := Value.int .u32) (a := 0)] at hmk
          have HG := hid hmk
          have hS1 : wd.grownBy y3a202 none := grown_trans hS0 hgr
          replace HH := hid (HH.out.kept0 hgr)
          have Hne : Hid (y2b10.heap.size ≠ H) := hid (by have := HHlt.out; omega)
          obtain ⟨gC, hgC⟩ : ∃ g, y2b10.heap.size = g := ⟨_, rfl⟩
          rw [hgC] at HG ⊢
          rw [hgC] at Hne
          clear hmk hgr hgC hS0
          refine hKK.out _ _ hS1 (fun _ => ?_)
          clear hKK KK
          have hS0 := hS1
          clear hS1
          have HHlt : Hid (H < y3a202.heap.size) := hid HH.out.lt
          have HGlt : Hid (gC < y3a202.heap.size) := hid ((HG.out.lt gC rfl).2)
          try simp only [Act.put, List.setIfInBounds_toArray, List.set_cons_zero, List.set_cons_succ, List.getElem_toArray, List.getElem_cons_succ, List.getElem_cons_zero]
          have hbi := build_image e0 p1 (some ⟨gC, 0, none⟩) d c1 m m
          refine wpAnyH_take (i := 17) (v := ?_) rfl (by kernel_rfl) (by kernel_rfl) (by kernel_rfl) (fun _ _ _ h => h) (Or.inl ⟨by kernel_rfl, ?_⟩) hS0 ?_
          rotate_left
          · (intro W hSw; clear hSw; go_simp; try with_reducible rfl)
          try simp only [Act.put, List.setIfInBounds_toArray, List.set_cons_zero, List.set_cons_succ, List.getElem_toArray, List.getElem_cons_succ, List.getElem_cons_zero]
          clear hbi
          refine wpAnyH_ready (rs := [19]) (by kernel_rfl) (by simp) ?_
          refine AllReadyH.cons rfl (fun KK hKK => ?_) AllReadyH.nil
          refine wp_store_row 45 (.tmp 3) (.tmp 27) rfl H #[.int .u32 e0, .slice p1 d c1, .slice (some ⟨gC, 0, none⟩) m m, .slice none 0 0, .slice none 0 0, .slice none 0 0] rfl rfl _ _ HH.out.blk info_image rfl (by simp [Value.oneCell']) ?_
          have hS1 : wd.grownBy (y3a202.setRow H #[.int .u32 e0, .slice p1 d c1, .slice (some ⟨gC, 0, none⟩) m m, .slice none 0 0, .slice none 0 0, .slice none 0 0]) none := grown_setRow hS0 (by rw [HS3.out]; exact HHl.out) _
          have HF : Hid (IgB w0 (y3a202.setRow H #[.int .u32 e0, .slice p1 d c1, .slice (some ⟨gC, 0, none⟩) m m, .slice none 0 0, .slice none 0 0, .slice none 0 0]) base H E (.slice (some ⟨gc, 0, none⟩) n cc) (.slice (some ⟨g3, 0, none⟩) n c3) (.slice p4 q4 c4) (.slice p5 q5 c5) (.slice (some ⟨gl, 0, none⟩) N cl) (.slice p1 d c1) (.slice (some ⟨gC, 0, none⟩) m m) (.slice none 0 0) (.slice none 0 0) (.slice none 0 0) X l ⟨e0, X.D, imC X l 0, [], [], []⟩) := hid (IgB.start HB1.out hS1 (by rw [HS3.out]; exact HHl.out) (HH.out.row _) (by dsimp only; rw [HI0.out, HS3.out]; exact HG.out.kept (grown_setR y3a202 H _) (.inr (fun e => Hne.out (Option.some.inj e)))) Hne.out ⟨rfl, rfl, rfl, rfl⟩ (by dsimp only; rw [HI0.out, List.length_replicate]) HE2.out HEa.out)
          refine hKK.out _ _ hS1 (fun _ => ?_)
          clear hKK KK hS0 hS1
          try simp only [Act.put, List.getElem_toArray, List.getElem_cons_succ, List.getElem_cons_zero]
          refine wpAnyH_done (by kernel_rfl) ?_ _
          refine hJ _ _ (Met.intro (hJ0 _ _ ?_))
          repeat apply Exists.intro
          refine ⟨?_, rfl⟩
          exact ⟨H, gC, rfl, HF⟩
    · refine wp_make_full _ _ 36 rfl (R + 1) 27 iu _ 1 Tryz.underlying36 Hi.out Hz0.out Hz1.out .i64 .i64 _ _ m rfl rfl rfl rfl (by rw [Hz2.out]; have := Hm2.out; omega) (by have := Hm2.out; unfold maxLen; omega) (by rw [← HS3.out]; exact hS0.size) ?_
      intro y1b0 hmk hgr
      rw [show (Value.int .u32 0).cells = Array.replicate 1 (.int .u32 0) from rfl, toList_madeZero _ _ 1 (by omega), Array.toList_replicate, Nat.mul_one, ← List.map_replicate (f := Value.int .u32) (a := 0)] at hmk
      have HG := hid hmk
      have hS1 : wd.grownBy y1b0 none := grown_trans hS0 hgr
      obtain ⟨gC, hgC⟩ : ∃ g, wd.heap.size = g := ⟨_, rfl⟩
      rw [hgC] at HG ⊢
      clear hmk hgr hgC hS0
      refine hKK.out _ _ hS1 (fun _ => ?_)
      clear hKK KK
      have hS0 := hS1
      clear hS1
      have HGlt : Hid (gC < y1b0.heap.size) := hid ((HG.out.lt gC rfl).2)
      try simp only [Act.put, List.setIfInBounds_toArray, List.set_cons_zero, List.set_cons_succ, List.getElem_toArray, List.getElem_cons_succ, List.getElem_cons_zero]
      refine wpAnyH_ready (rs := [4, 18]) (by kernel_rfl) (by simp) ?_
      refine AllReadyH.cons rfl (fun KK hKK => ?_) (AllReadyH.cons rfl (fun KK hKK => ?_) (AllReadyH.nil))
      · go_simp
        refine (HA.out _ ((by have h := (HB1.out.kept0 hS0).sl'; rw [Hn.out, HN.out] at h; exact h))).mono ?_; rintro e' y2a11 ⟨rfl, hg⟩
        have hS1 : wd.grownBy y2a11 none := grown_trans hS0 hg
        replace HG := hid (HG.out.kept hg (.inr (fun e => by cases e)))
        clear hg hS0
        refine hKK.out _ _ hS1 (fun _ => ?_)
        clear hKK KK
        have hS0 := hS1
        clear hS1
        have HGlt : Hid (gC < y2a11.heap.size) := hid ((HG.out.lt gC rfl).2)
        try simp only [Act.put, List.setIfInBounds_toArray, List.set_cons_zero, List.set_cons_succ, List.getElem_toArray, List.getElem_cons_succ, List.getElem_cons_zero]
        have hbi := build_image e0 p1 (some ⟨gC, 0, none⟩) d c1 m m
        refine wpAnyH_take (i := 17) (v := ?_) rfl (by kernel_rfl) (by kernel_rfl) (by kernel_rfl) (fun _ _ _ h => h) (Or.inl ⟨by kernel_rfl, ?_⟩) hS0 ?_
        rotate_left
        · (intro W hSw; clear hSw; go_simp; try with_reducible rfl)
        try simp only [Act.put, List.setIfInBounds_toArray, List.set_cons_zero, List.set_cons_succ, List.getElem_toArray, List.getElem_cons_succ, List.getElem_cons_zero]
        clear hbi
        refine wpAnyH_ready (rs := [18]) (by kernel_rfl) (by simp) ?_
        refine AllReadyH.cons rfl (fun KK hKK => ?_) (AllReadyH.nil)
        · have HH := hid (RwAt.new y2a11 45 #[.int .u32 0, .slice none 0 0, .slice none 0 0, .slice none 0 0, .slice none 0 0, .slice none 0 0])
          have hgr := World.grownBy_alloc y2a11 (.cells #[.int .u32 0, .slice none 0 0, .slice none 0 0, .slice none 0 0, .slice none 0 0, .slice none 0 0] 45) none
          have hS1 : wd.grownBy (y2a11.alloc (.cells #[.int .u32 0, .slice none 0 0, .slice none 0 0, .slice none 0 0, .slice none 0 0, .slice none 0 0] 45)) none := grown_trans hS0 hgr
          have HHl : Hid (R + 1 ≤ y2a11.heap.size) := hid (by rw [← HS3.out]; exact hS0.size)
          replace HG := hid (HG.out.kept hgr (.inr (fun e => by cases e)))
          have Hne : Hid (gC ≠ y2a11.heap.size) := hid (by have := HGlt.out; omega)
          go_simp
          obtain ⟨H, hH⟩ : ∃ g, y2a11.heap.size = g := ⟨_, rfl⟩
          rw [hH] at HH HHl ⊢
          rw [hH] at Hne
          clear hgr hH hS0
          refine hKK.out _ _ hS1 (fun _ => ?_)
          clear hKK KK
          have hS0 := hS1
          clear hS1
          have HHlt : Hid (H < (y2a11.alloc (.cells #[.int .u32 0, .slice none 0 0, .slice none 0 0, .slice none 0 0, .slice none 0 0, .slice none 0 0] 45)).heap.size) := hid HH.out.lt
          generalize y2a11.alloc (.cells #[.int .u32 0, .slice none 0 0, .slice none 0 0, .slice none 0 0, .slice none 0 0, .slice none 0 0] 45) = y3a210 at HH hS0 HHlt HG ⊢
          have HGlt : Hid (gC < y3a210.heap.size) := hid ((HG.out.lt gC rfl).2)
          try simp only [Act.put, List.setIfInBounds_toArray, List.set_cons_zero, List.set_cons_succ, List.getElem_toArray, List.getElem_cons_succ, List.getElem_cons_zero]
          refine wpAnyH_ready (rs := [19]) (by kernel_rfl) (by simp) ?_
          refine AllReadyH.cons rfl (fun KK hKK => ?_) AllReadyH.nil
          refine wp_store_row 45 (.tmp 3) (.tmp 27) rfl H #[.int .u32 e0, .slice p1 d c1, .slice (some ⟨gC, 0, none⟩) m m, .slice none 0 0, .slice none 0 0, .slice none 0 0] rfl rfl _ _ HH.out.blk info_image rfl (by simp [Value.oneCell']) ?_
          have hS1 : wd.grownBy (y3a210.setRow H #[.int .u32 e0, .slice p1 d c1, .slice (some ⟨gC, 0, none⟩) m m, .slice none 0 0, .slice none 0 0, .slice none 0 0]) none := grown_setRow hS0 (by rw [HS3.out]; exact HHl.out) _
          have HF : Hid (IgB w0 (y3a210.setRow H #[.int .u32 e0, .slice p1 d c1, .slice (some ⟨gC, 0, none⟩) m m, .slice none 0 0, .slice none 0 0, .slice none 0 0]) base H E (.slice (some ⟨gc, 0, none⟩) n cc) (.slice (some ⟨g3, 0, none⟩) n c3) (.slice p4 q4 c4) (.slice p5 q5 c5) (.slice (some ⟨gl, 0, none⟩) N cl) (.slice p1 d c1) (.slice (some ⟨gC, 0, none⟩) m m) (.slice none 0 0) (.slice none 0 0) (.slice none 0 0) X l ⟨e0, X.D, imC X l 0, [], [], []⟩) := hid (IgB.start HB1.out hS1 (by rw [HS3.out]; exact HHl.out) (HH.out.row _) (by dsimp only; rw [HI0.out, HS3.out]; exact HG.out.kept (grown_setR y3a210 H _) (.inr (fun e => Hne.out (Option.some.inj e)))) Hne.out ⟨rfl, rfl, rfl, rfl⟩ (by dsimp only; rw [HI0.out, List.length_replicate]) HE2.out HEa.out)
          refine hKK.out _ _ hS1 (fun _ => ?_)
          clear hKK KK hS0 hS1
          try simp only [Act.put, List.getElem_toArray, List.getElem_cons_succ, List.getElem_cons_zero]
          refine wpAnyH_done (by kernel_rfl) ?_ _
          refine hJ _ _ (Met.intro (hJ0 _ _ ?_))
          repeat apply Exists.intro
          refine ⟨?_, rfl⟩
          exact ⟨H, gC, rfl, HF⟩
      · have HH := hid (RwAt.new y1b0 45 #[.int .u32 0, .slice none 0 0, .slice none 0 0, .slice none 0 0, .slice none 0 0, .slice none 0 0])
        have hgr := World.grownBy_alloc y1b0 (.cells #[.int .u32 0, .slice none 0 0, .slice none 0 0, .slice none 0 0, .slice none 0 0, .slice none 0 0] 45) none
        have hS1 : wd.grownBy (y1b0.alloc (.cells #[.int .u32 0, .slice none 0 0, .slice none 0 0, .slice none 0 0, .slice none 0 0, .slice none 0 0] 45)) none := grown_trans hS0 hgr
        have HHl : Hid (R + 1 ≤ y1b0.heap.size) := hid (by rw [← HS3.out]; exact hS0.size)
        replace HG := hid (HG.out.kept hgr (.inr (fun e => by cases e)))
        have Hne : Hid (gC ≠ y1b0.heap.size) := hid (by have := HGlt.out; omega)
        go_simp
        obtain ⟨H, hH⟩ : ∃ g, y1b0.heap.size = g := ⟨_, rfl⟩
        rw [hH] at HH HHl ⊢
        rw [hH] at Hne
        clear hgr hH hS0
        refine hKK.out _ _ hS1 (fun _ => ?_)
        clear hKK KK
        have hS0 := hS1
        clear hS1
        have HHlt : Hid (H < (y1b0.alloc (.cells #[.int .u32 0, .slice none 0 0, .slice none 0 0, .slice none 0 0, .slice none 0 0, .slice none 0 0] 45)).heap.size) := hid HH.out.lt
        generalize y1b0.alloc (.cells #[.int .u32 0, .slice none 0 0, .slice none 0 0, .slice none 0 0, .slice none 0 0, .slice none 0 0] 45) = y2b11 at HH hS0 HHlt HG ⊢
        have HGlt : Hid (gC < y2b11.heap.size) := hid ((HG.out.lt gC rfl).2)
        try simp only [Act.put, List.setIfInBounds_toArray, List.set_cons_zero, List.set_cons_succ, List.getElem_toArray, List.getElem_cons_succ, List.getElem_cons_zero]
        refine wpAnyH_ready (rs := [4]) (by kernel_rfl) (by simp) ?_
        refine AllReadyH.cons rfl (fun KK hKK => ?_) (AllReadyH.nil)
        · go_simp
          refine (HA.out _ ((by have h := (HB1.out.kept0 hS0).sl'; rw [Hn.out, HN.out] at h; exact h))).mono ?_; rintro e' y3a212 ⟨rfl, hg⟩
          have hS1 : wd.grownBy y3a212 none := grown_trans hS0 hg
          replace HG := hid (HG.out.kept hg (.inr (fun e => by cases e)))
          replace HH := hid (HH.out.kept0 hg)
          clear hg hS0
          refine hKK.out _ _ hS1 (fun _ => ?_)
          clear hKK KK
          have hS0 := hS1
          clear hS1
          have HHlt : Hid (H < y3a212.heap.size) := hid HH.out.lt
          have HGlt : Hid (gC < y3a212.heap.size) := hid ((HG.out.lt gC rfl).2)
          try simp only [Act.put, List.setIfInBounds_toArray, List.set_cons_zero, List.set_cons_succ, List.getElem_toArray, List.getElem_cons_succ, List.getElem_cons_zero]
          have hbi := build_image e0 p1 (some ⟨gC, 0, none⟩) d c1 m m
          refine wpAnyH_take (i := 17) (v := ?_) rfl (by kernel_rfl) (by kernel_rfl) (by kernel_rfl) (fun _ _ _ h => h) (Or.inl ⟨by kernel_rfl, ?_⟩) hS0 ?_
          rotate_left
          · (intro W hSw; clear hSw; go_simp; try with_reducible rfl)
          try simp only [Act.put, List.setIfInBounds_toArray, List.set_cons_zero, List.set_cons_succ, List.getElem_toArray, List.getElem_cons_succ, List.getElem_cons_zero]
          clear hbi
          refine wpAnyH_ready (rs := [19]) (by kernel_rfl) (by simp) ?_
          refine AllReadyH.cons rfl (fun KK hKK => ?_) AllReadyH.nil
          refine wp_store_row 45 (.tmp 3) (.tmp 27) rfl H #[.int .u32 e0, .slice p1 d c1, .slice (some ⟨gC, 0, none⟩) m m, .slice none 0 0, .slice none 0 0, .slice none 0 0] rfl rfl _ _ HH.out.blk info_image rfl (by simp [Value.oneCell']) ?_
          have hS1 : wd.grownBy (y3a212.setRow H #[.int .u32 e0, .slice p1 d c1, .slice (some ⟨gC, 0, none⟩) m m, .slice none 0 0, .slice none 0 0, .slice none 0 0]) none := grown_setRow hS0 (by rw [HS3.out]; exact HHl.out) _
          have HF : Hid (IgB w0 (y3a212.setRow H #[.int .u32 e0, .slice p1 d c1, .slice (some ⟨gC, 0, none⟩) m m, .slice none 0 0, .slice none 0 0, .slice none 0 0]) base H E (.slice (some ⟨gc, 0, none⟩) n cc) (.slice (some ⟨g3, 0, none⟩) n c3) (.slice p4 q4 c4) (.slice p5 q5 c5) (.slice (some ⟨gl, 0, none⟩) N cl) (.slice p1 d c1) (.slice (some ⟨gC, 0, none⟩) m m) (.slice none 0 0) (.slice none 0 0) (.slice none 0 0) X l ⟨e0, X.D, imC X l 0, [], [], []⟩) := hid (IgB.start HB1.out hS1 (by rw [HS3.out]; exact HHl.out) (HH.out.row _) (by dsimp only; rw [HI0.out, HS3.out]; exact HG.out.kept (grown_setR y3a212 H _) (.inr (fun e => Hne.out (Option.some.inj e)))) Hne.out ⟨rfl, rfl, rfl, rfl⟩ (by dsimp only; rw [HI0.out, List.length_replicate]) HE2.out HEa.out)
          refine hKK.out _ _ hS1 (fun _ => ?_)
          clear hKK KK hS0 hS1
          try simp only [Act.put, List.getElem_toArray, List.getElem_cons_succ, List.getElem_cons_zero]
          refine wpAnyH_done (by kernel_rfl) ?_ _
          refine hJ _ _ (Met.intro (hJ0 _ _ ?_))
          repeat apply Exists.intro
          refine ⟨?_, rfl⟩
          exact ⟨H, gC, rfl, HF⟩
    · have HH := hid (RwAt.new wd 45 #[.int .u32 0, .slice none 0 0, .slice none 0 0, .slice none 0 0, .slice none 0 0, .slice none 0 0])
      have hgr := World.grownBy_alloc wd (.cells #[.int .u32 0, .slice none 0 0, .slice none 0 0, .slice none 0 0, .slice none 0 0, .slice none 0 0] 45) none
      have hS1 : wd.grownBy (wd.alloc (.cells #[.int .u32 0, .slice none 0 0, .slice none 0 0, .slice none 0 0, .slice none 0 0, .slice none 0 0] 45)) none := grown_trans hS0 hgr
      have HHl : Hid (R + 1 ≤ wd.heap.size) := hid (by rw [← HS3.out]; exact hS0.size)
      go_simp
      obtain ⟨H, hH⟩ : ∃ g, wd.heap.size = g := ⟨_, rfl⟩
      rw [hH] at HH HHl ⊢
      clear hgr hH hS0
      refine hKK.out _ _ hS1 (fun _ => ?_)
      clear hKK KK
      have hS0 := hS1
      clear hS1
      have HHlt : Hid (H < (wd.alloc (.cells #[.int .u32 0, .slice none 0 0, .slice none 0 0, .slice none 0 0, .slice none 0 0, .slice none 0 0] 45)).heap.size) := hid HH.out.lt
      generalize wd.alloc (.cells #[.int .u32 0, .slice none 0 0, .slice none 0 0, .slice none 0 0, .slice none 0 0, .slice none 0 0] 45) = y1c0 at HH hS0 HHlt ⊢
      try simp only [Act.put, List.setIfInBounds_toArray, List.set_cons_zero, List.set_cons_succ, List.getElem_toArray, List.getElem_cons_succ, List.getElem_cons_zero]
      refine wpAnyH_ready (rs := [4, 16]) (by kernel_rfl) (by simp) ?_
      refine AllReadyH.cons rfl (fun KK hKK => ?_) (AllReadyH.cons rfl (fun KK hKK => ?_) (AllReadyH.nil))
      · go_simp
        refine (HA.out _ ((by have h := (HB1.out.kept0 hS0).sl'; rw [Hn.out, HN.out] at h; exact h))).mono ?_; rintro e' y2a12 ⟨rfl, hg⟩
        have hS1 : wd.grownBy y2a12 none := grown_trans hS0 hg
        replace HH := hid (HH.out.kept0 hg)
        clear hg hS0
        refine hKK.out _ _ hS1 (fun _ => ?_)
        clear hKK KK
        have hS0 := hS1
        clear hS1
        have HHlt : Hid (H < y2a12.heap.size) := hid HH.out.lt
        try simp only [Act.put, List.setIfInBounds_toArray, List.set_cons_zero, List.set_cons_succ, List.getElem_toArray, List.getElem_cons_succ, List.getElem_cons_zero]
        refine wpAnyH_ready (rs := [16]) (by kernel_rfl) (by simp) ?_
        refine AllReadyH.cons rfl (fun KK hKK => ?_) (AllReadyH.nil)
        · refine wp_make_full _ _ 36 rfl (R + 1) 27 iu _ 1 Tryz.underlying36 Hi.out Hz0.out Hz1.out .i64 .i64 _ _ m rfl rfl rfl rfl (by rw [Hz2.out]; have := Hm2.out; omega) (by have := Hm2.out; unfold maxLen; omega) (by rw [← HS3.out]; exact hS0.size) ?_
          intro y3a220 hmk hgr
          rw [show (Value.int .u32 0).cells = Array.replicate 1 (.int .u32 0) from rfl, toList_madeZero _ _ 1 (by omega), Array.toList_replicate, Nat.mul_one, ← List.map_replicate (f := Value.int .u32) (a := 0)] at hmk
          have HG := hid hmk
          have hS1 : wd.grownBy y3a220 none := grown_trans hS0 hgr
          replace HH := hid (HH.out.kept0 hgr)
          have Hne : Hid (y2a12.heap.size ≠ H) := hid (by have := HHlt.out; omega)
          obtain ⟨gC, hgC⟩ : ∃ g, y2a12.heap.size = g := ⟨_, rfl⟩
          rw [hgC] at HG ⊢
          rw [hgC] at Hne
          clear hmk hgr hgC hS0
          refine hKK.out _ _ hS1 (fun _ => ?_)
          clear hKK KK
          have hS0 := hS1
          clear hS1
          have HHlt : Hid (H < y3a220.heap.size) := hid HH.out.lt
          have HGlt : Hid (gC < y3a220.heap.size) := hid ((HG.out.lt gC rfl).2)
          try simp only [Act.put, List.setIfInBounds_toArray, List.set_cons_zero, List.set_cons_succ, List.getElem_toArray, List.getElem_cons_succ, List.getElem_cons_zero]
          have hbi := build_image e0 p1 (some ⟨gC, 0, none⟩) d c1 m m
          refine wpAnyH_take (i := 17) (v := ?_) rfl (by kernel_rfl) (by kernel_rfl) (by kernel_rfl) (fun _ _ _ h => h) (Or.inl ⟨by kernel_rfl, ?_⟩) hS0 ?_
          rotate_left
          · (intro W hSw; clear hSw; go_simp; try with_reducible rfl)
          try simp only [Act.put, List.setIfInBounds_toArray, List.set_cons_zero, List.set_cons_succ, List.getElem_toArray, List.getElem_cons_succ, List.getElem_cons_zero]
          clear hbi
          refine wpAnyH_ready (rs := [19]) (by kernel_rfl) (by simp) ?_
          refine AllReadyH.cons rfl (fun KK hKK => ?_) AllReadyH.nil
          refine wp_store_row 45 (.tmp 3) (.tmp 27) rfl H #[.int .u32 e0, .slice p1 d c1, .slice (some ⟨gC, 0, none⟩) m m, .slice none 0 0, .slice none 0 0, .slice none 0 0] rfl rfl _ _ HH.out.blk info_image rfl (by simp [Value.oneCell']) ?_
          have hS1 : wd.grownBy (y3a220.setRow H #[.int .u32 e0, .slice p1 d c1, .slice (some ⟨gC, 0, none⟩) m m, .slice none 0 0, .slice none 0 0, .slice none 0 0]) none := grown_setRow hS0 (by rw [HS3.out]; exact HHl.out) _
          have HF : Hid (IgB w0 (y3a220.setRow H #[.int .u32 e0, .slice p1 d c1, .slice (some ⟨gC, 0, none⟩) m m, .slice none 0 0, .slice none 0 0, .slice none 0 0]) base H E (.slice (some ⟨gc, 0, none⟩) n cc) (.slice (some ⟨g3, 0, none⟩) n c3) (.slice p4 q4 c4) (.slice p5 q5 c5) (.slice (some ⟨gl, 0, none⟩) N cl) (.slice p1 d c1) (.slice (some ⟨gC, 0, none⟩) m m) (.slice none 0 0) (.slice none 0 0) (.slice none 0 0) X l ⟨e0, X.D, imC X l 0, [], [], []⟩) := hid (IgB.start HB1.out hS1 (by rw [HS3.out]; exact HHl.out) (HH.out.row _) (by dsimp only; rw [HI0.out, HS3.out]; exact HG.out.kept (grown_setR y3a220 H _) (.inr (fun e => Hne.out (Option.some.inj e)))) Hne.out ⟨rfl, rfl, rfl, rfl⟩ (by dsimp only; rw [HI0.out, List.length_replicate]) HE2.out HEa.out)
          refine hKK.out _ _ hS1 (fun _ => ?_)
          clear hKK KK hS0 hS1
          try simp only [Act.put, List.getElem_toArray, List.getElem_cons_succ, List.getElem_cons_zero]
          refine wpAnyH_done (by kernel_rfl) ?_ _
          refine hJ _ _ (Met.intro (hJ0 _ _ ?_))
          repeat apply Exists.intro
          refine ⟨?_, rfl⟩
          exact ⟨H, gC, rfl, HF⟩
      · refine wp_make_full _ _ 36 rfl (R + 1) 27 iu _ 1 Tryz.underlying36 Hi.out Hz0.out Hz1.out .i64 .i64 _ _ m rfl rfl rfl rfl (by rw [Hz2.out]; have := Hm2.out; omega) (by have := Hm2.out; unfold maxLen; omega) (by rw [← HS3.out]; exact hS0.size) ?_
        intro y2b12 hmk hgr
        rw [show (Value.int .u32 0).cells = Array.replicate 1 (.int .u32 0) from rfl, toList_madeZero _ _ 1 (by omega), Array.toList_replicate, Nat.mul_one, ← List.map_replicate (f := Value.int .u32) (a := 0)] at hmk
        have HG := hid hmk
        have hS1 : wd.grownBy y2b12 none := grown_trans hS0 hgr
        replace HH := hid (HH.out.kept0 hgr)
        have Hne : Hid (y1c0.heap.size ≠ H) := hid (by have := HHlt.out; omega)
        obtain ⟨gC, hgC⟩ : ∃ g, y1c0.heap.size = g := ⟨_, rfl⟩
        rw [hgC] at HG ⊢
        rw [hgC] at Hne
        clear hmk hgr hgC hS0
        refine hKK.out _ _ hS1 (fun _ => ?_)
        clear hKK KK
        have hS0 := hS1
        clear hS1
        have HHlt : Hid (H < y2b12.heap.size) := hid HH.out.lt
        have HGlt : Hid (gC < y2b12.heap.size) := hid ((HG.out.lt gC rfl).2)
        try simp only [Act.put, List.setIfInBounds_toArray, List.set_cons_zero, List.set_cons_succ, List.getElem_toArray, List.getElem_cons_succ, List.getElem_cons_zero]
        refine wpAnyH_ready (rs := [4]) (by kernel_rfl) (by simp) ?_
        refine AllReadyH.cons rfl (fun KK hKK => ?_) (AllReadyH.nil)
        · go_simp
          refine (HA.out _ ((by have h := (HB1.out.kept0 hS0).sl'; rw [Hn.out, HN.out] at h; exact h))).mono ?_; rintro e' y3a221 ⟨rfl, hg⟩
          have hS1 : wd.grownBy y3a221 none := grown_trans hS0 hg
          replace HG := hid (HG.out.kept hg (.inr (fun e => by cases e)))
          replace HH := hid (HH.out.kept0 hg)
          clear hg hS0
          refine hKK.out _ _ hS1 (fun _ => ?_)
          clear hKK KK
          have hS0 := hS1
          clear hS1
          have HHlt : Hid (H < y3a221.heap.size) := hid HH.out.lt
          have HGlt : Hid (gC < y3a221.heap.size) := hid ((HG.out.lt gC rfl).2)
          try simp only [Act.put, List.setIfInBounds_toArray, List.set_cons_zero, List.set_cons_succ, List.getElem_toArray, List.getElem_cons_succ, List.getElem_cons_zero]
          have hbi := build_image e0 p1 (some ⟨gC, 0, none⟩) d c1 m m
          refine wpAnyH_take (i := 17) (v := ?_) rfl (by kernel_rfl) (by kernel_rfl) (by kernel_rfl) (fun _ _ _ h => h) (Or.inl ⟨by kernel_rfl, ?_⟩) hS0 ?_
          rotate_left
          · (intro W hSw; clear hSw; go_simp; try with_reducible rfl)
          try simp only [Act.put, List.setIfInBounds_toArray, List.set_cons_zero, List.set_cons_succ, List.getElem_toArray, List.getElem_cons_succ, List.getElem_cons_zero]
          clear hbi
          refine wpAnyH_ready (rs := [19]) (by kernel_rfl) (by simp) ?_
          refine AllReadyH.cons rfl (fun KK hKK => ?_) AllReadyH.nil
          refine wp_store_row 45 (.tmp 3) (.tmp 27) rfl H #[.int .u32 e0, .slice p1 d c1, .slice (some ⟨gC, 0, none⟩) m m, .slice none 0 0, .slice none 0 0, .slice none 0 0] rfl rfl _ _ HH.out.blk info_image rfl (by simp [Value.oneCell']) ?_
          have hS1 : wd.grownBy (y3a221.setRow H #[.int .u32 e0, .slice p1 d c1, .slice (some ⟨gC, 0, none⟩) m m, .slice none 0 0, .slice none 0 0, .slice none 0 0]) none := grown_setRow hS0 (by rw [HS3.out]; exact HHl.out) _
          have HF : Hid (IgB w0 (y3a221.setRow H #[.int .u32 e0, .slice p1 d c1, .slice (some ⟨gC, 0, none⟩) m m, .slice none 0 0, .slice none 0 0, .slice none 0 0]) base H E (.slice (some ⟨gc, 0, none⟩) n cc) (.slice (some ⟨g3, 0, none⟩) n c3) (.slice p4 q4 c4) (.slice p5 q5 c5) (.slice (some ⟨gl, 0, none⟩) N cl) (.slice p1 d c1) (.slice (some ⟨gC, 0, none⟩) m m) (.slice none 0 0) (.slice none 0 0) (.slice none 0 0) X l ⟨e0, X.D, imC X l 0, [], [], []⟩) := hid (IgB.start HB1.out hS1 (by rw [HS3.out]; exact HHl.out) (HH.out.row _) (by dsimp only; rw [HI0.out, HS3.out]; exact HG.out.kept (grown_setR y3a221 H _) (.inr (fun e => Hne.out (Option.some.inj e)))) Hne.out ⟨rfl, rfl, rfl, rfl⟩ (by dsimp only; rw [HI0.out, List.length_replicate]) HE2.out HEa.out)
          refine hKK.out _ _ hS1 (fun _ => ?_)
          clear hKK KK hS0 hS1
          try simp only [Act.put, List.getElem_toArray, List.getElem_cons_succ, List.getElem_cons_zero]
          refine wpAnyH_done (by kernel_rfl) ?_ _
          refine hJ _ _ (Met.intro (hJ0 _ _ ?_))
          repeat apply Exists.intro
          refine ⟨?_, rfl⟩
          exact ⟨H, gC, rfl, HF⟩
  case rest =>
    obtain ⟨H, gC, rfl, HI⟩ := hcut
    rename World => w2
    have HRR : Hid (base ≤ b1 ∧ b1 + 1 = R) := hid ⟨by have h1 := HBle.out; have h2 := Hb1.out; omega, HRe.out⟩
    clear HP HM1 HE2 HS3 HA Hi Hz0 Hz1 Hz2 hg0
    have HP2 := hid (Hx1.out _ _ _ _ _ _ _ HI.out).1
    have y1 := HP2.out.cell 1 (v := .slice (some ⟨gc, 0, none⟩) n cc) rfl
    have H0 : Hid (∃ vs, IgB w0 w2 base H E (.slice (some ⟨gc, 0, none⟩) n cc) (.slice (some ⟨g3, 0, none⟩) n c3) (.slice p4 q4 c4) (.slice p5 q5 c5) (.slice (some ⟨gl, 0, none⟩) N cl) (.slice p1 d c1) (.slice (some ⟨gC, 0, none⟩) m m) (.slice none 0 0) (.slice none 0 0) (vs) X l ⟨e0, X.D, imC X l 0, [], [], (imS X l 0)⟩) := hid ⟨_, HI.out⟩
    have HmC : Hid (∀ k, (imC X l k).length = m) := hid (fun k => by rw [imC_length, Hn.out, HM.out, Int.toNat_natCast])
    go_upto_region 3 with (fail)
    clear y1 HP2 HI
    go_loopw [32] (fun i wr => ∃ k : Nat, k ≤ n ∧ i = .int .i64 k ∧ Hid (∃ vs, IgB w0 wr base H E (.slice (some ⟨gc, 0, none⟩) n cc) (.slice (some ⟨g3, 0, none⟩) n c3) (.slice p4 q4 c4) (.slice p5 q5 c5) (.slice (some ⟨gl, 0, none⟩) N cl) (.slice p1 d c1) (.slice (some ⟨gC, 0, none⟩) m m) (.slice none 0 0) (.slice none 0 0) (vs) X l ⟨e0, X.D, imC X l k, [], [], (imS X l k)⟩)) (fun i _ => n - (intOf i).toNat)
    case atStart => exact ⟨0, Nat.zero_le _, rfl, H0⟩
    case round =>
      obtain ⟨k, hk, rfl, HRx⟩ := hrel
      clear H0
      obtain ⟨vs, hR⟩ := HRx.out
      have oS := hR.at_ (k := 4) (r := ⟨vs, 3, 1, (imS X l k).length, (imS X l k).map (Value.int .i64)⟩) rfl
      obtain ⟨ps, cs, eS⟩ := own_slice oS
      simp only at eS
      obtain ⟨sn, hsn⟩ : ∃ q, (imS X l k).length = q := ⟨_, rfl⟩
      have hsk := imS_length X l k
      rw [hsn] at eS hsk
      subst eS
      have Hsn := hid hsn
      have Hsk : Hid (sn ≤ 2048) := hid (by have := Hnb.out; omega)
      have HR := hid hR
      clear hR oS HRx hsn hsk
      have k0 : (0 : Int) ≤ (k : Int) := by omega
      by_cases hlt : k < n
      · have kn : (k : Int) < (n : Int) := by omega
        have kN : (k : Int) < (N : Int) := by omega
        have Hlt := hid hlt
        obtain ⟨x, hx⟩ : ∃ x, X.C[k]? = some x := ⟨_, List.getElem?_eq_getElem (by rw [Hn.out]; exact hlt)⟩
        obtain ⟨mk, hmk⟩ : ∃ x, X.K[k]? = some x := ⟨_, List.getElem?_eq_getElem (by rw [HK3.out]; exact hlt)⟩
        obtain ⟨A, hA⟩ : ∃ A : Nat, l k = A := ⟨(l k).toNat, by have := HLi.out.nn (k := k) (by omega); omega⟩
        have hAm := HLi.out.i k n hlt (Nat.le_refl n)
        rw [hA, HM.out] at hAm
        have HAm : Hid (A < m) := hid (by omega)
        have A0 : (0 : Int) ≤ (A : Int) := by omega
        have Am : (A : Int) < (m : Int) := by omega
        have HA := hid hA
        have Hx := hid hx
        have Hmk := hid hmk
        have hcd : ∀ (w : World) (vC vd vp vs : Value) (I : Im), IgB w0 w base H E (.slice (some ⟨gc, 0, none⟩) n cc) (.slice (some ⟨g3, 0, none⟩) n c3) (.slice p4 q4 c4) (.slice p5 q5 c5) (.slice (some ⟨gl, 0, none⟩) N cl) (.slice p1 d c1) (vC) (vd) (vp) (vs) X l I → w.cell? ⟨gc, k, none⟩ = some (.int .u32 x) ∧ w.cell? ⟨gl, k, none⟩ = some (.int .i64 (A : Int)) ∧ w.cell? ⟨g3, k, none⟩ = some (.int .u8 mk) := fun w vC vd vp vs I h => by
          have hnn := Hn.out
          have hNN := HN.out
          subst hnn
          subst hNN
          exact ⟨h.cd hx, by rw [h.ld (by omega), hA], h.mk HK3.out hmk⟩
        have Hcd := hid hcd
        clear hcd hx hmk hA hAm hlt hk
        have y0 := (Hcd.out _ _ _ _ _ _ HR.out).1
        go_upto_region 5 with (fail)
        clear y0
        have hg0 : wr.grownBy wr.drew none := grown_drew (grown_refl _ none)
        have HR1 := hid (HR.out.kept0 hg0)
        refine wp_region_held_drew (S := fun W => RwAt W b1 78 #[.slice p1 d c1, .slice (some ⟨gc, 0, none⟩) n cc, .slice (some ⟨g3, 0, none⟩) n c3, .slice p4 q4 c4, .slice p5 q5 c5, .slice (some ⟨gl, 0, none⟩) N cl, .map (some B)] ∧ W.cell? ⟨gl, k, none⟩ = some (.int .i64 (A : Int)) ∧ W.cell? ⟨H, 2, none⟩ = some (.slice (some ⟨gC, 0, none⟩) m m)) (by kernel_rfl) ⟨(Hx1.out _ _ _ _ _ _ _ HR1.out).1, (Hcd.out _ _ _ _ _ _ HR1.out).2.1, HR1.out.c2.1⟩ (fun hS0 => ?_)
        clear hg0 HR
        generalize wr.drew = w3 at HR1 hS0 ⊢
        refine wpAnyH_take (i := 0) (v := ?_) rfl (by kernel_rfl) (by kernel_rfl) (by kernel_rfl) (fun _ _ _ h => h) (Or.inl ⟨by kernel_rfl, ?_⟩) hS0 ?_
        rotate_left
        · (intro W hSw; clear hSw; go_simp; try with_reducible rfl)
        try simp only [Act.put, List.setIfInBounds_toArray, List.set_cons_zero, List.set_cons_succ, List.getElem_toArray, List.getElem_cons_zero]
        refine wpAnyH_take (i := 1) (v := ?_) rfl (by kernel_rfl) (by kernel_rfl) (by kernel_rfl) (fun _ _ _ h => h) (Or.inl ⟨by kernel_rfl, ?_⟩) hS0 ?_
        rotate_left
        · (intro W hSw; have hc := hSw.2.2; clear hSw; go_simp; try with_reducible rfl)
        try simp only [Act.put, List.setIfInBounds_toArray, List.set_cons_zero, List.set_cons_succ, List.getElem_toArray, List.getElem_cons_succ, List.getElem_cons_zero]
        refine wpAnyH_take (i := 2) (v := ?_) rfl (by kernel_rfl) (by kernel_rfl) (by kernel_rfl) (fun _ _ _ h => h) (Or.inl ⟨by kernel_rfl, ?_⟩) hS0 ?_
        rotate_left
        · (intro W hSw; clear hSw; go_simp; try with_reducible rfl)
        try simp only [Act.put, List.setIfInBounds_toArray, List.set_cons_zero, List.set_cons_succ, List.getElem_toArray, List.getElem_cons_succ, List.getElem_cons_zero]
        refine wpAnyH_take (i := 3) (v := ?_) rfl (by kernel_rfl) (by kernel_rfl) (by kernel_rfl) (fun _ _ _ h => h) (Or.inl ⟨by kernel_rfl, ?_⟩) hS0 ?_
        rotate_left
        · (intro W hSw; have hc := hSw.1.cell 5 (v := .slice (some ⟨gl, 0, none⟩) N cl) rfl; clear hSw; go_simp; try with_reducible rfl)
        try simp only [Act.put, List.setIfInBounds_toArray, List.set_cons_zero, List.set_cons_succ, List.getElem_toArray, List.getElem_cons_succ, List.getElem_cons_zero]
        refine wpAnyH_take (i := 4) (v := ?_) rfl (by kernel_rfl) (by kernel_rfl) (by kernel_rfl) (fun _ _ _ h => h) (Or.inl ⟨by kernel_rfl, ?_⟩) hS0 ?_
        rotate_left
        · (intro W hSw; clear hSw; go_simp; try with_reducible rfl)
        try simp only [Act.put, List.setIfInBounds_toArray, List.set_cons_zero, List.set_cons_succ, List.getElem_toArray, List.getElem_cons_succ, List.getElem_cons_zero]
        refine wpAnyH_take (i := 5) (v := ?_) rfl (by kernel_rfl) (by kernel_rfl) (by kernel_rfl) (fun _ _ _ h => h) (Or.inl ⟨by kernel_rfl, ?_⟩) hS0 ?_
        rotate_left
        · (intro W hSw; clear hSw; go_simp; try with_reducible rfl)
        try simp only [Act.put, List.setIfInBounds_toArray, List.set_cons_zero, List.set_cons_succ, List.getElem_toArray, List.getElem_cons_succ, List.getElem_cons_zero]
        refine wpAnyH_take (i := 6) (v := ?_) rfl (by kernel_rfl) (by kernel_rfl) (by kernel_rfl) (fun _ _ _ h => h) (Or.inl ⟨by kernel_rfl, ?_⟩) hS0 ?_
        rotate_left
        · (intro W hSw; have hc := hSw.2.1; clear hSw; go_simp; try with_reducible rfl)
        try simp only [Act.put, List.setIfInBounds_toArray, List.set_cons_zero, List.set_cons_succ, List.getElem_toArray, List.getElem_cons_succ, List.getElem_cons_zero]
        refine wpAnyH_take (i := 7) (v := ?_) rfl (by kernel_rfl) (by kernel_rfl) (by kernel_rfl) (fun _ _ _ h => h) (Or.inl ⟨by kernel_rfl, ?_⟩) hS0 ?_
        rotate_left
        · (intro W hSw; clear hSw; go_simp; try with_reducible rfl)
        try simp only [Act.put, List.setIfInBounds_toArray, List.set_cons_zero, List.set_cons_succ, List.getElem_toArray, List.getElem_cons_succ, List.getElem_cons_zero]
        refine wpAnyH_take (i := 8) (v := ?_) rfl (by kernel_rfl) (by kernel_rfl) (by kernel_rfl) (fun _ _ _ h => h) (Or.inl ⟨by kernel_rfl, ?_⟩) hS0 ?_
        rotate_left
        · (intro W hSw; clear hSw; go_simp; try with_reducible rfl)
        try simp only [Act.put, List.setIfInBounds_toArray, List.set_cons_zero, List.set_cons_succ, List.getElem_toArray, List.getElem_cons_succ, List.getElem_cons_zero]
        have HR2 : Hid (IgB w0 (w3.setCell ⟨gC, A, none⟩ (.int .u32 x)) base H E (.slice (some ⟨gc, 0, none⟩) n cc) (.slice (some ⟨g3, 0, none⟩) n c3) (.slice p4 q4 c4) (.slice p5 q5 c5) (.slice (some ⟨gl, 0, none⟩) N cl) (.slice p1 d c1) (.slice (some ⟨gC, 0, none⟩) m m) (.slice none 0 0) (.slice none 0 0) (.slice ps sn cs) X l ⟨e0, X.D, imC X l (k + 1), [], [], imS X l k⟩) := hid (by
          have h := HR1.out.setC (HmC.out k) A x
          have e := imC_succ (l := l) Hx.out
          rw [HA.out, Int.toNat_natCast] at e
          rw [e]; exact h)
        refine wpAnyH_ready (rs := [9]) (by kernel_rfl) (by simp) ?_
        refine AllReadyH.cons rfl (fun KK hKK => ?_) AllReadyH.nil
        obtain ⟨⟨u9, hc9⟩, hf9⟩ := HR1.out.cC (HmC.out k) HAm.out
        go_simp
        have hS1 : RwAt (w3.setCell ⟨gC, A, none⟩ (.int .u32 x)) b1 78 #[.slice p1 d c1, .slice (some ⟨gc, 0, none⟩) n cc, .slice (some ⟨g3, 0, none⟩) n c3, .slice p4 q4 c4, .slice p5 q5 c5, .slice (some ⟨gl, 0, none⟩) N cl, .map (some B)] ∧ (w3.setCell ⟨gC, A, none⟩ (.int .u32 x)).cell? ⟨gl, k, none⟩ = some (.int .i64 (A : Int)) ∧ (w3.setCell ⟨gC, A, none⟩ (.int .u32 x)).cell? ⟨H, 2, none⟩ = some (.slice (some ⟨gC, 0, none⟩) m m) := ⟨(Hx1.out _ _ _ _ _ _ _ HR2.out).1, (Hcd.out _ _ _ _ _ _ HR2.out).2.1, HR2.out.c2.1⟩
        refine hKK.out _ _ hS1 (fun _ => ?_)
        clear hKK KK hS0
        have hS0 := hS1
        clear hS1
        try simp only [Act.put, List.setIfInBounds_toArray, List.set_cons_zero, List.set_cons_succ, List.getElem_toArray, List.getElem_cons_succ, List.getElem_cons_zero]
        clear hc9 hf9 HR1
        generalize w3.setCell ⟨gC, A, none⟩ (.int .u32 x) = w4 at HR2 hS0 ⊢
        refine wpAnyH_done (by kernel_rfl) ?_ _
        have y2 := hS0.1.cell 2 (v := .slice (some ⟨g3, 0, none⟩) n c3) rfl
        have y3 := (Hcd.out _ _ _ _ _ _ HR2.out).2.2
        clear hS0
        by_cases hm1 : mk = 1
        · subst hm1
          have He := hid (imS_yes (l := l) Hmk.out)
          rw [HA.out] at He
          go_upto_region 7 with (fail)
          clear y2 y3
          have HEb : Hid (∀ (ps : Option Addr) (sn cs : Nat) (w5 : World) (I : Im), IgB w0 (w5.alloc (.cells #[.int .i64 (A : Int)] 3)) base H E (.slice (some ⟨gc, 0, none⟩) n cc) (.slice (some ⟨g3, 0, none⟩) n c3) (.slice p4 q4 c4) (.slice p5 q5 c5) (.slice (some ⟨gl, 0, none⟩) N cl) (.slice p1 d c1) (.slice (some ⟨gC, 0, none⟩) m m) (.slice none 0 0) (.slice none 0 0) (.slice ps sn cs) X l I → some b1 ≠ (Value.slice ps sn cs).ownBlock ∧ some gl ≠ (Value.slice ps sn cs).ownBlock ∧ gl < (w5.alloc (.cells #[.int .i64 (A : Int)] 3)).heap.size) := hid (fun ps sn cs w5 I h => by
            have ha : (⟨.slice ps sn cs, 3, 1, I.st.length, I.st.map (Value.int .i64)⟩ : Ro) ∈ imRo (.slice p1 d c1) (.slice (some ⟨gC, 0, none⟩) m m) (.slice none 0 0) (.slice none 0 0) (.slice ps sn cs) I := by simp [imRo]
            refine ⟨fun e => ?_, fun e => ?_, ?_⟩
            · exact h.ra ⟨.slice (some ⟨b1, 0, none⟩) 1 1, 78, 7, 1, (#[.slice p1 d c1, .slice (some ⟨gc, 0, none⟩) n cc, .slice (some ⟨g3, 0, none⟩) n c3, .slice p4 q4 c4, .slice p5 q5 c5, .slice (some ⟨gl, 0, none⟩) N cl, .map (some B)]).toList⟩ (by rw [← HEe.out]; simp) _ ha b1 e.symm rfl
            · exact h.ra ⟨.slice (some ⟨gl, 0, none⟩) N cl, 3, 1, X.C.length + 1, ((List.range (X.C.length + 1)).map l).map (Value.int .i64)⟩ (by simp [pgRd]) _ ha gl e.symm rfl
            · exact ((h.rd ⟨.slice (some ⟨gl, 0, none⟩) N cl, 3, 1, X.C.length + 1, ((List.range (X.C.length + 1)).map l).map (Value.int .i64)⟩ (by simp [pgRd])).lt gl rfl).2)
          have hg0 : w4.grownBy w4.drew none := grown_drew (grown_refl _ none)
          have HR3 := hid (HR2.out.kept0 hg0)
          obtain ⟨i', hi', hy0, hy1, hy2⟩ := info_intF
          have Hi' := hid hi'
          have Hy0 := hid hy0
          have Hy1 := hid hy1
          have Hy2 := hid hy2
          clear hi' hy0 hy1 hy2
          refine wp_region_held_drew (S := fun W => RwAt W b1 78 #[.slice p1 d c1, .slice (some ⟨gc, 0, none⟩) n cc, .slice (some ⟨g3, 0, none⟩) n c3, .slice p4 q4 c4, .slice p5 q5 c5, .slice (some ⟨gl, 0, none⟩) N cl, .map (some B)] ∧ W.cell? ⟨gl, k, none⟩ = some (.int .i64 (A : Int))) (by kernel_rfl) ⟨(Hx1.out _ _ _ _ _ _ _ HR3.out).1, (Hcd.out _ _ _ _ _ _ HR3.out).2.1⟩ (fun hS0 => ?_)
          clear hg0 HR2
          generalize w4.drew = w5 at HR3 hS0 ⊢
          refine wpAnyH_take (i := 0) (v := ?_) rfl (by kernel_rfl) (by kernel_rfl) (by kernel_rfl) (fun _ _ _ h => h) (Or.inl ⟨by kernel_rfl, ?_⟩) hS0 ?_
          rotate_left
          · (intro W hSw; clear hSw; go_simp; try with_reducible rfl)
          try simp only [Act.put, List.setIfInBounds_toArray, List.set_cons_zero, List.set_cons_succ, List.getElem_toArray, List.getElem_cons_zero]
          refine wpAnyH_take (i := 2) (v := ?_) rfl (by kernel_rfl) (by kernel_rfl) (by kernel_rfl) (fun _ _ _ h => h) (Or.inl ⟨by kernel_rfl, ?_⟩) hS0 ?_
          rotate_left
          · (intro W hSw; clear hSw; go_simp; try with_reducible rfl)
          try simp only [Act.put, List.setIfInBounds_toArray, List.set_cons_zero, List.set_cons_succ, List.getElem_toArray, List.getElem_cons_succ, List.getElem_cons_zero]
          refine wpAnyH_take (i := 3) (v := ?_) rfl (by kernel_rfl) (by kernel_rfl) (by kernel_rfl) (fun _ _ _ h => h) (Or.inl ⟨by kernel_rfl, ?_⟩) hS0 ?_
          rotate_left
          · (intro W hSw; have hc := hSw.1.cell 5 (v := .slice (some ⟨gl, 0, none⟩) N cl) rfl; clear hSw; go_simp; try with_reducible rfl)
          try simp only [Act.put, List.setIfInBounds_toArray, List.set_cons_zero, List.set_cons_succ, List.getElem_toArray, List.getElem_cons_succ, List.getElem_cons_zero]
          refine wpAnyH_take (i := 4) (v := ?_) rfl (by kernel_rfl) (by kernel_rfl) (by kernel_rfl) (fun _ _ _ h => h) (Or.inl ⟨by kernel_rfl, ?_⟩) hS0 ?_
          rotate_left
          · (intro W hSw; clear hSw; go_simp; try with_reducible rfl)
          try simp only [Act.put, List.setIfInBounds_toArray, List.set_cons_zero, List.set_cons_succ, List.getElem_toArray, List.getElem_cons_succ, List.getElem_cons_zero]
          refine wpAnyH_take (i := 5) (v := ?_) rfl (by kernel_rfl) (by kernel_rfl) (by kernel_rfl) (fun _ _ _ h => h) (Or.inl ⟨by kernel_rfl, ?_⟩) hS0 ?_
          rotate_left
          · (intro W hSw; clear hSw; go_simp; try with_reducible rfl)
          try simp only [Act.put, List.setIfInBounds_toArray, List.set_cons_zero, List.set_cons_succ, List.getElem_toArray, List.getElem_cons_succ, List.getElem_cons_zero]
          refine wpAnyH_take (i := 6) (v := ?_) rfl (by kernel_rfl) (by kernel_rfl) (by kernel_rfl) (fun _ _ _ h => h) (Or.inl ⟨by kernel_rfl, ?_⟩) hS0 ?_
          rotate_left
          · (intro W hSw; have hc := hSw.2; clear hSw; go_simp; try with_reducible rfl)
          try simp only [Act.put, List.setIfInBounds_toArray, List.set_cons_zero, List.set_cons_succ, List.getElem_toArray, List.getElem_cons_succ, List.getElem_cons_zero]
          refine wpAnyH_ready (rs := [1, 7]) (by kernel_rfl) (by simp) ?_
          refine AllReadyH.cons rfl (fun KK hKK => ?_) (AllReadyH.cons rfl (fun KK hKK => ?_) AllReadyH.nil)
          · have hc := HR3.out.cell.cell 5 (v := .slice ps sn cs) rfl
            go_simp
            refine hKK.out _ _ hS0 (fun _ => ?_)
            clear hKK KK hc
            try simp only [Act.put, List.setIfInBounds_toArray, List.set_cons_zero, List.set_cons_succ, List.getElem_toArray, List.getElem_cons_succ, List.getElem_cons_zero]
            refine wpAnyH_ready (rs := [7]) (by kernel_rfl) (by simp) ?_
            refine AllReadyH.cons rfl (fun KK hKK => ?_) AllReadyH.nil
            have HR4 := hid (HR3.out.kept0 (World.grownBy_alloc w5 (.cells #[.int .i64 (A : Int)] 3) none))
            have HNw : Hid (∀ j u, [Value.int .i64 (A : Int)][j]? = some u → (w5.alloc (.cells #[.int .i64 (A : Int)] 3)).cell? ((⟨w5.heap.size, 0, none⟩ : Addr).add j) = some u) := hid (World.news_of_block (heap_alloc_new w5 _))
            have hS1 : RwAt (w5.alloc (.cells #[.int .i64 (A : Int)] 3)) b1 78 #[.slice p1 d c1, .slice (some ⟨gc, 0, none⟩) n cc, .slice (some ⟨g3, 0, none⟩) n c3, .slice p4 q4 c4, .slice p5 q5 c5, .slice (some ⟨gl, 0, none⟩) N cl, .map (some B)] ∧ (w5.alloc (.cells #[.int .i64 (A : Int)] 3)).cell? ⟨gl, k, none⟩ = some (.int .i64 (A : Int)) := ⟨(Hx1.out _ _ _ _ _ _ _ HR4.out).1, (Hcd.out _ _ _ _ _ _ HR4.out).2.1⟩
            go_simp
            refine hKK.out _ _ hS1 (fun _ => ?_)
            clear hKK KK hS0
            have hS0 := hS1
            clear hS1
            try simp only [Act.put, List.setIfInBounds_toArray, List.set_cons_zero, List.set_cons_succ, List.getElem_toArray, List.getElem_cons_succ, List.getElem_cons_zero]
            have HOw := hid (HR4.out.at_ (k := 4) (r := ⟨.slice ps sn cs, 3, 1, (imS X l k).length, (imS X l k).map (Value.int .i64)⟩) rfl)
            simp only at HOw
            rw [Hsn.out] at HOw
            refine wpAnyH_ready (rs := [8]) (by kernel_rfl) (by simp) ?_
            refine AllReadyH.cons rfl (fun KK hKK => ?_) AllReadyH.nil
            refine wp_append_any _ _ 43 rfl base 3 i' _ 1 8 Tryz.underlying43 Hi'.out Hy0.out Hy1.out Hy2.out rfl (by decide) _ sn _ rfl HOw.out _ 1 [.int .i64 (A : Int)] rfl ⟨rfl, by simp [Value.oneCell'], .inl ⟨⟨w5.heap.size, 0, none⟩, 1, rfl, HNw.out⟩⟩ (by have := Hsk.out; unfold maxLen; omega) (by have := Hsk.out; omega) HR4.out.size ?_
            intro v9 w9 hown hg9 hat
            obtain ⟨p9, c9, rfl⟩ := own_slice hown
            have hne := HR4.out.neH ⟨.slice ps sn cs, 3, 1, (imS X l k).length, (imS X l k).map (Value.int .i64)⟩ (by simp [imRo])
            have HE9 : Hid (IgB w0 (w9.setCell ⟨H, 5, none⟩ (.slice p9 (sn + 1) c9)) base H E (.slice (some ⟨gc, 0, none⟩) n cc) (.slice (some ⟨g3, 0, none⟩) n c3) (.slice p4 q4 c4) (.slice p5 q5 c5) (.slice (some ⟨gl, 0, none⟩) N cl) (.slice p1 d c1) (.slice (some ⟨gC, 0, none⟩) m m) (.slice none 0 0) (.slice none 0 0) (.slice p9 (sn + 1) c9) X l ⟨e0, X.D, imC X l (k + 1), [], [], (imS X l (k + 1))⟩) := hid (by
              rw [He.out]
              exact HR4.out.addI (v' := .slice p9 (sn + 1) c9) (A : Int) (by rw [Hsn.out]; exact hown) hg9 hat)
            have HC9 := hid (HR4.out.row.kept hg9 (Ne.symm hne))
            have hS1 : RwAt w9 b1 78 #[.slice p1 d c1, .slice (some ⟨gc, 0, none⟩) n cc, .slice (some ⟨g3, 0, none⟩) n c3, .slice p4 q4 c4, .slice p5 q5 c5, .slice (some ⟨gl, 0, none⟩) N cl, .map (some B)] ∧ w9.cell? ⟨gl, k, none⟩ = some (.int .i64 (A : Int)) := ⟨hS0.1.kept hg9 (HEb.out ps sn cs w5 _ HR4.out).1, (grown_cell hg9 (p := ⟨gl, k, none⟩) (HEb.out ps sn cs w5 _ HR4.out).2.2 (HEb.out ps sn cs w5 _ HR4.out).2.1).trans hS0.2⟩
            refine hKK.out _ _ hS1 (fun _ => ?_)
            clear hKK KK hS0 hown hg9 hat hne
            have hS0 := hS1
            clear hS1
            try simp only [Act.put, List.setIfInBounds_toArray, List.set_cons_zero, List.set_cons_succ, List.getElem_toArray, List.getElem_cons_succ, List.getElem_cons_zero]
            refine wpAnyH_take (i := 9) (v := ?_) rfl (by kernel_rfl) (by kernel_rfl) (by kernel_rfl) (fun _ _ _ h => h) (Or.inl ⟨by kernel_rfl, ?_⟩) hS0 ?_
            rotate_left
            · (intro W hSw; clear hSw; go_simp; try with_reducible rfl)
            try simp only [Act.put, List.setIfInBounds_toArray, List.set_cons_zero, List.set_cons_succ, List.getElem_toArray, List.getElem_cons_succ, List.getElem_cons_zero]
            refine wpAnyH_ready (rs := [10]) (by kernel_rfl) (by simp) ?_
            refine AllReadyH.cons rfl (fun KK hKK => ?_) AllReadyH.nil
            have hc9 := HC9.out.cell 5 (v := .slice ps sn cs) rfl
            have hf9 := HC9.out.free 5
            go_simp
            have hS1 : RwAt (w9.setCell ⟨H, 5, none⟩ (.slice p9 (sn + 1) c9)) b1 78 #[.slice p1 d c1, .slice (some ⟨gc, 0, none⟩) n cc, .slice (some ⟨g3, 0, none⟩) n c3, .slice p4 q4 c4, .slice p5 q5 c5, .slice (some ⟨gl, 0, none⟩) N cl, .map (some B)] ∧ (w9.setCell ⟨H, 5, none⟩ (.slice p9 (sn + 1) c9)).cell? ⟨gl, k, none⟩ = some (.int .i64 (A : Int)) := ⟨(Hx1.out _ _ _ _ _ _ _ HE9.out).1, (Hcd.out _ _ _ _ _ _ HE9.out).2.1⟩
            refine hKK.out _ _ hS1 (fun _ => ?_)
            clear hKK KK hS0
            have hS0 := hS1
            clear hS1
            try simp only [Act.put, List.setIfInBounds_toArray, List.set_cons_zero, List.set_cons_succ, List.getElem_toArray, List.getElem_cons_succ, List.getElem_cons_zero]
            clear hc9 hf9 HC9 hS0
            generalize w9.setCell ⟨H, 5, none⟩ (.slice p9 (sn + 1) c9) = w10 at HE9 ⊢
            refine wpAnyH_done (by kernel_rfl) ?_ _
            have HEx : Hid (∃ vs, IgB w0 w10 base H E (.slice (some ⟨gc, 0, none⟩) n cc) (.slice (some ⟨g3, 0, none⟩) n c3) (.slice p4 q4 c4) (.slice p5 q5 c5) (.slice (some ⟨gl, 0, none⟩) N cl) (.slice p1 d c1) (.slice (some ⟨gC, 0, none⟩) m m) (.slice none 0 0) (.slice none 0 0) (vs) X l ⟨e0, X.D, imC X l (k + 1), [], [], (imS X l (k + 1))⟩) := hid ⟨_, HE9.out⟩
            clear HE9
            go_wp2
            go_roundw
            case rel => exact ⟨k + 1, Hlt.out, by go_num, HEx⟩
            case measure => simp [intOf]; have := Hlt.out; omega
          · have HR4 := hid (HR3.out.kept0 (World.grownBy_alloc w5 (.cells #[.int .i64 (A : Int)] 3) none))
            have HNw : Hid (∀ j u, [Value.int .i64 (A : Int)][j]? = some u → (w5.alloc (.cells #[.int .i64 (A : Int)] 3)).cell? ((⟨w5.heap.size, 0, none⟩ : Addr).add j) = some u) := hid (World.news_of_block (heap_alloc_new w5 _))
            have hS1 : RwAt (w5.alloc (.cells #[.int .i64 (A : Int)] 3)) b1 78 #[.slice p1 d c1, .slice (some ⟨gc, 0, none⟩) n cc, .slice (some ⟨g3, 0, none⟩) n c3, .slice p4 q4 c4, .slice p5 q5 c5, .slice (some ⟨gl, 0, none⟩) N cl, .map (some B)] ∧ (w5.alloc (.cells #[.int .i64 (A : Int)] 3)).cell? ⟨gl, k, none⟩ = some (.int .i64 (A : Int)) := ⟨(Hx1.out _ _ _ _ _ _ _ HR4.out).1, (Hcd.out _ _ _ _ _ _ HR4.out).2.1⟩
            go_simp
            refine hKK.out _ _ hS1 (fun _ => ?_)
            clear hKK KK hS0
            have hS0 := hS1
            clear hS1
            try simp only [Act.put, List.setIfInBounds_toArray, List.set_cons_zero, List.set_cons_succ, List.getElem_toArray, List.getElem_cons_succ, List.getElem_cons_zero]
            refine wpAnyH_ready (rs := [1]) (by kernel_rfl) (by simp) ?_
            refine AllReadyH.cons rfl (fun KK hKK => ?_) AllReadyH.nil
            have hc := HR4.out.cell.cell 5 (v := .slice ps sn cs) rfl
            go_simp
            refine hKK.out _ _ hS0 (fun _ => ?_)
            clear hKK KK hc
            try simp only [Act.put, List.setIfInBounds_toArray, List.set_cons_zero, List.set_cons_succ, List.getElem_toArray, List.getElem_cons_succ, List.getElem_cons_zero]
            have HOw := hid (HR4.out.at_ (k := 4) (r := ⟨.slice ps sn cs, 3, 1, (imS X l k).length, (imS X l k).map (Value.int .i64)⟩) rfl)
            simp only at HOw
            rw [Hsn.out] at HOw
            refine wpAnyH_ready (rs := [8]) (by kernel_rfl) (by simp) ?_
            refine AllReadyH.cons rfl (fun KK hKK => ?_) AllReadyH.nil
            refine wp_append_any _ _ 43 rfl base 3 i' _ 1 8 Tryz.underlying43 Hi'.out Hy0.out Hy1.out Hy2.out rfl (by decide) _ sn _ rfl HOw.out _ 1 [.int .i64 (A : Int)] rfl ⟨rfl, by simp [Value.oneCell'], .inl ⟨⟨w5.heap.size, 0, none⟩, 1, rfl, HNw.out⟩⟩ (by have := Hsk.out; unfold maxLen; omega) (by have := Hsk.out; omega) HR4.out.size ?_
            intro v9 w9 hown hg9 hat
            obtain ⟨p9, c9, rfl⟩ := own_slice hown
            have hne := HR4.out.neH ⟨.slice ps sn cs, 3, 1, (imS X l k).length, (imS X l k).map (Value.int .i64)⟩ (by simp [imRo])
            have HE9 : Hid (IgB w0 (w9.setCell ⟨H, 5, none⟩ (.slice p9 (sn + 1) c9)) base H E (.slice (some ⟨gc, 0, none⟩) n cc) (.slice (some ⟨g3, 0, none⟩) n c3) (.slice p4 q4 c4) (.slice p5 q5 c5) (.slice (some ⟨gl, 0, none⟩) N cl) (.slice p1 d c1) (.slice (some ⟨gC, 0, none⟩) m m) (.slice none 0 0) (.slice none 0 0) (.slice p9 (sn + 1) c9) X l ⟨e0, X.D, imC X l (k + 1), [], [], (imS X l (k + 1))⟩) := hid (by
              rw [He.out]
              exact HR4.out.addI (v' := .slice p9 (sn + 1) c9) (A : Int) (by rw [Hsn.out]; exact hown) hg9 hat)
            have HC9 := hid (HR4.out.row.kept hg9 (Ne.symm hne))
            have hS1 : RwAt w9 b1 78 #[.slice p1 d c1, .slice (some ⟨gc, 0, none⟩) n cc, .slice (some ⟨g3, 0, none⟩) n c3, .slice p4 q4 c4, .slice p5 q5 c5, .slice (some ⟨gl, 0, none⟩) N cl, .map (some B)] ∧ w9.cell? ⟨gl, k, none⟩ = some (.int .i64 (A : Int)) := ⟨hS0.1.kept hg9 (HEb.out ps sn cs w5 _ HR4.out).1, (grown_cell hg9 (p := ⟨gl, k, none⟩) (HEb.out ps sn cs w5 _ HR4.out).2.2 (HEb.out ps sn cs w5 _ HR4.out).2.1).trans hS0.2⟩
            refine hKK.out _ _ hS1 (fun _ => ?_)
            clear hKK KK hS0 hown hg9 hat hne
            have hS0 := hS1
            clear hS1
            try simp only [Act.put, List.setIfInBounds_toArray, List.set_cons_zero, List.set_cons_succ, List.getElem_toArray, List.getElem_cons_succ, List.getElem_cons_zero]
            refine wpAnyH_take (i := 9) (v := ?_) rfl (by kernel_rfl) (by kernel_rfl) (by kernel_rfl) (fun _ _ _ h => h) (Or.inl ⟨by kernel_rfl, ?_⟩) hS0 ?_
            rotate_left
            · (intro W hSw; clear hSw; go_simp; try with_reducible rfl)
            try simp only [Act.put, List.setIfInBounds_toArray, List.set_cons_zero, List.set_cons_succ, List.getElem_toArray, List.getElem_cons_succ, List.getElem_cons_zero]
            refine wpAnyH_ready (rs := [10]) (by kernel_rfl) (by simp) ?_
            refine AllReadyH.cons rfl (fun KK hKK => ?_) AllReadyH.nil
            have hc9 := HC9.out.cell 5 (v := .slice ps sn cs) rfl
            have hf9 := HC9.out.free 5
            go_simp
            have hS1 : RwAt (w9.setCell ⟨H, 5, none⟩ (.slice p9 (sn + 1) c9)) b1 78 #[.slice p1 d c1, .slice (some ⟨gc, 0, none⟩) n cc, .slice (some ⟨g3, 0, none⟩) n c3, .slice p4 q4 c4, .slice p5 q5 c5, .slice (some ⟨gl, 0, none⟩) N cl, .map (some B)] ∧ (w9.setCell ⟨H, 5, none⟩ (.slice p9 (sn + 1) c9)).cell? ⟨gl, k, none⟩ = some (.int .i64 (A : Int)) := ⟨(Hx1.out _ _ _ _ _ _ _ HE9.out).1, (Hcd.out _ _ _ _ _ _ HE9.out).2.1⟩
            refine hKK.out _ _ hS1 (fun _ => ?_)
            clear hKK KK hS0
            have hS0 := hS1
            clear hS1
            try simp only [Act.put, List.setIfInBounds_toArray, List.set_cons_zero, List.set_cons_succ, List.getElem_toArray, List.getElem_cons_succ, List.getElem_cons_zero]
            clear hc9 hf9 HC9 hS0
            generalize w9.setCell ⟨H, 5, none⟩ (.slice p9 (sn + 1) c9) = w10 at HE9 ⊢
            refine wpAnyH_done (by kernel_rfl) ?_ _
            have HEx : Hid (∃ vs, IgB w0 w10 base H E (.slice (some ⟨gc, 0, none⟩) n cc) (.slice (some ⟨g3, 0, none⟩) n c3) (.slice p4 q4 c4) (.slice p5 q5 c5) (.slice (some ⟨gl, 0, none⟩) N cl) (.slice p1 d c1) (.slice (some ⟨gC, 0, none⟩) m m) (.slice none 0 0) (.slice none 0 0) (vs) X l ⟨e0, X.D, imC X l (k + 1), [], [], (imS X l (k + 1))⟩) := hid ⟨_, HE9.out⟩
            clear HE9
            go_wp2
            go_roundw
            case rel => exact ⟨k + 1, Hlt.out, by go_num, HEx⟩
            case measure => simp [intOf]; have := Hlt.out; omega
        · have hmb : (mk == 1) = false := by simpa using hm1
          have HEx : Hid (∃ vs, IgB w0 w4 base H E (.slice (some ⟨gc, 0, none⟩) n cc) (.slice (some ⟨g3, 0, none⟩) n c3) (.slice p4 q4 c4) (.slice p5 q5 c5) (.slice (some ⟨gl, 0, none⟩) N cl) (.slice p1 d c1) (.slice (some ⟨gC, 0, none⟩) m m) (.slice none 0 0) (.slice none 0 0) (vs) X l ⟨e0, X.D, imC X l (k + 1), [], [], (imS X l (k + 1))⟩) := hid (by rw [imS_no Hmk.out hm1]; exact ⟨_, HR2.out⟩)
          clear hm1 HR2
          go_wp2
          go_roundw
          case rel => exact ⟨k + 1, Hlt.out, by go_num, HEx⟩
          case measure => simp [intOf]; have := Hlt.out; omega
      · obtain rfl : n = k := by omega
        have kn : ¬ ((n : Int) < (n : Int)) := by omega
        clear hlt hk
        obtain ⟨J0, hJ0⟩ : ∃ J, (⟨e0, X.D, imC X l n, [], [], imS X l n⟩ : Im) = J := ⟨_, rfl⟩
        have HJ0 := hid hJ0
        have HJD : Hid (J0.D.length = d ∧ J0.dr.length = 0) := hid (by rw [← hJ0]; exact ⟨Hd.out, rfl⟩)
        have HJC : Hid (J0.C.length = m ∧ J0.pl.length = 0) := hid (by rw [← hJ0]; exact ⟨HmC.out n, rfl⟩)
        have HRj : Hid (IgB w0 wr base H E (.slice (some ⟨gc, 0, none⟩) n cc) (.slice (some ⟨g3, 0, none⟩) n c3) (.slice p4 q4 c4) (.slice p5 q5 c5) (.slice (some ⟨gl, 0, none⟩) N cl) (.slice p1 d c1) (.slice (some ⟨gC, 0, none⟩) m m) (.slice none 0 0) (.slice none 0 0) (.slice ps sn cs) X l J0) := hid (by rw [← hJ0]; exact HR.out)
        have y3 := (Hx1.out _ _ _ _ _ _ _ HRj.out).1.cell 3 (v := .slice p4 q4 c4) rfl
        have qq0 : (0 : Int) ≤ (q4 : Int) := by omega
        have qq1 : (q4 : Int) ≤ 1000000 := by have := Hnb.out; omega
        have H1 : Hid (∃ vd, IgB w0 wr base H E (.slice (some ⟨gc, 0, none⟩) n cc) (.slice (some ⟨g3, 0, none⟩) n c3) (.slice p4 q4 c4) (.slice p5 q5 c5) (.slice (some ⟨gl, 0, none⟩) N cl) (.slice p1 d c1) (.slice (some ⟨gC, 0, none⟩) m m) (vd) (.slice none 0 0) (.slice ps sn cs) X l ((X.R.take 0).foldl (fxD l) J0)) := hid ⟨_, HRj.out⟩
        clear hJ0 HR HRj k0 kn
        go_upto_region 10 with (fail)
        clear y3
        go_loopw [68] (fun i wr => ∃ k : Nat, k ≤ q4 ∧ i = .int .i64 k ∧ Hid (∃ vd, IgB w0 wr base H E (.slice (some ⟨gc, 0, none⟩) n cc) (.slice (some ⟨g3, 0, none⟩) n c3) (.slice p4 q4 c4) (.slice p5 q5 c5) (.slice (some ⟨gl, 0, none⟩) N cl) (.slice p1 d c1) (.slice (some ⟨gC, 0, none⟩) m m) (vd) (.slice none 0 0) (.slice ps sn cs) X l ((X.R.take k).foldl (fxD l) J0))) (fun i _ => q4 - (intOf i).toNat)
        case atStart => exact ⟨0, Nat.zero_le _, rfl, H1⟩
        case round =>
          obtain ⟨k, hk, rfl, HRx⟩ := hrel
          clear H1
          obtain ⟨vd, hR⟩ := HRx.out
          have hlen := foldD_len (X.R.take k) J0 (l := l)
          rw [HJD.out.1, HJD.out.2, List.length_take] at hlen
          obtain ⟨I, hI⟩ : ∃ I, (X.R.take k).foldl (fxD l) J0 = I := ⟨_, rfl⟩
          have HI := hid hI
          rw [hI] at hR hlen
          have oS := hR.at_ (k := 2) (r := ⟨vd, 3, 1, I.dr.length, I.dr.map (Value.int .i64)⟩) rfl
          obtain ⟨pd, cd, eS⟩ := own_slice oS
          simp only at eS
          obtain ⟨dn, hdn⟩ : ∃ q, I.dr.length = q := ⟨_, rfl⟩
          rw [hdn] at eS hlen
          subst eS
          have Hdn := hid hdn
          have HDl : Hid (I.D.length = d ∧ dn ≤ 1000000) := hid (by have := Hnb.out; omega)
          have HR := hid hR
          clear hR oS HRx hdn hlen hI
          have k0 : (0 : Int) ≤ (k : Int) := by omega
          by_cases hlt : k < q4
          · have kq : (k : Int) < (q4 : Int) := by omega
            have Hlt := hid hlt
            obtain ⟨r, hr⟩ : ∃ r, X.R[k]? = some r := ⟨_, List.getElem?_eq_getElem (by rw [Hq4.out]; exact hlt)⟩
            have Hr := hid hr
            have hf := HQ.out.r r (List.mem_of_getElem? hr)
            obtain ⟨b4, o4, cc4, hv4, hb4, g0, g1, g2, g3', g4⟩ := fx_item HR.out.r4 hr
            rw [Hq4.out] at hv4
            simp only [Value.slice.injEq, true_and] at hv4
            obtain ⟨rfl, rfl⟩ := hv4
            obtain ⟨ra, rk, ⟨ti, ta⟩, rd⟩ := r
            obtain ⟨⟨a, ha, hal⟩, fk, ft, fd⟩ := hf
            simp only at ha fk ft fd g0 g1 g2 g3' g4
            subst ha
            have Hal := hid hal
            have Ft := hid ft
            have a0 : (0 : Int) ≤ (a : Int) := by omega
            have hgr := World.grownBy_alloc wr (.cells #[.int .i64 (a : Int), .int .i64 rk, .int .i64 ti, .int .i64 ta, .int .i64 rd] 106) none
            have HR2 := hid (HR.out.kept0 hgr)
            have HX2 := hid (RwAt.new wr 106 #[.int .i64 (a : Int), .int .i64 rk, .int .i64 ti, .int .i64 ta, .int .i64 rd])
            clear hr hb4 hal ft hlt hk hgr HR
            have Hzr := zero_rep16
            obtain ⟨gD, cD, hvD⟩ := own_some (HR2.out.at_ (k := 0) (r := ⟨.slice p1 d c1, 27, 1, I.D.length, I.D.map (Value.int .u32)⟩) rfl) (by simp only; rw [HDl.out.1]; have := Hal.out; have := Hd.out; omega)
            simp only [HDl.out.1, Value.slice.injEq, true_and] at hvD
            obtain ⟨rfl, -⟩ := hvD
            have ad : (a : Int) < (d : Int) := by have := Hal.out; have := Hd.out; omega
            have had : Hid (a < d) := hid (by omega)
            have HW := hid (fun W h => word_lnk W (.slice (some ⟨gD, 0, none⟩) d c1) (.slice (some ⟨gc, 0, none⟩) n cc) (.slice (some ⟨g3, 0, none⟩) n c3) (.slice (some ⟨b4, o4, none⟩) q4 c4) (.slice p5 q5 c5) (.slice (some ⟨gl, 0, none⟩) N cl) (.map (some B)) l N h ⟨(a : Int), rk, ⟨ti, ta⟩, rd⟩ Ft.out.1 (Ft.out.pl HQ.out.inc HQ.out.end_ (by rw [Hn.out]; exact HN.out)))
            obtain ⟨V, hV⟩ : ∃ V, wdP l ⟨(a : Int), rk, ⟨ti, ta⟩, rd⟩ = V := ⟨_, rfl⟩
            have HV := hid hV
            unfold pgV fxL at HW
            simp only [hV] at HW
            clear hV
            have Hbx : Hid (some b1 ≠ some gD ∧ some wr.heap.size ≠ some gD) := hid (by
              have ha : (⟨.slice (some ⟨gD, 0, none⟩) d c1, 27, 1, I.D.length, I.D.map (Value.int .u32)⟩ : Ro) ∈ imRo (.slice (some ⟨gD, 0, none⟩) d c1) (.slice (some ⟨gC, 0, none⟩) m m) (.slice pd dn cd) (.slice none 0 0) (.slice ps sn cs) I := by simp [imRo]
              refine ⟨fun e => ?_, fun e => ?_⟩
              · exact HR2.out.ra ⟨.slice (some ⟨b1, 0, none⟩) 1 1, 78, 7, 1, (#[.slice (some ⟨gD, 0, none⟩) d c1, .slice (some ⟨gc, 0, none⟩) n cc, .slice (some ⟨g3, 0, none⟩) n c3, .slice (some ⟨b4, o4, none⟩) q4 c4, .slice p5 q5 c5, .slice (some ⟨gl, 0, none⟩) N cl, .map (some B)]).toList⟩ (by rw [← HEe.out]; simp) _ ha gD rfl e
              · have h2 := Option.some.inj e
                refine own_aprt9 (HR2.out.own _ ha) HX2.out (by dsimp only; decide) ?_
                rw [h2]; rfl)
            go_upto_region 12 with (fail)
            clear g0 g1 g2 g3' g4 Hzr
            obtain ⟨bx, hbx⟩ : ∃ g, wr.heap.size = g := ⟨_, rfl⟩
            rw [hbx] at HX2 Hbx ⊢
            generalize wr.alloc (.cells #[.int .i64 (a : Int), .int .i64 rk, .int .i64 ti, .int .i64 ta, .int .i64 rd] 106) = w3 at HR2 HX2 ⊢
            clear hbx
            have hg0 : w3.grownBy w3.drew none := grown_drew (grown_refl _ none)
            have HR3 := hid (HR2.out.kept0 hg0)
            refine wp_region_held_drew (S := fun W => RwAt W b1 78 #[.slice (some ⟨gD, 0, none⟩) d c1, .slice (some ⟨gc, 0, none⟩) n cc, .slice (some ⟨g3, 0, none⟩) n c3, .slice (some ⟨b4, o4, none⟩) q4 c4, .slice p5 q5 c5, .slice (some ⟨gl, 0, none⟩) N cl, .map (some B)] ∧ RwAt W bx 106 #[.int .i64 (a : Int), .int .i64 rk, .int .i64 ti, .int .i64 ta, .int .i64 rd] ∧ W.cell? ⟨H, 1, none⟩ = some (.slice (some ⟨gD, 0, none⟩) d c1)) (by kernel_rfl) ⟨(Hx1.out _ _ _ _ _ _ _ HR3.out).1, HX2.out.kept0 hg0, HR3.out.cell.cell 1 (v := .slice (some ⟨gD, 0, none⟩) d c1) rfl⟩ (fun hS0 => ?_)
            clear hg0 HR2 HX2
            generalize w3.drew = w4 at HR3 hS0 ⊢
            refine wpAnyH_take (i := 0) (v := ?_) rfl (by kernel_rfl) (by kernel_rfl) (by kernel_rfl) (fun _ _ _ h => h) (Or.inl ⟨by kernel_rfl, ?_⟩) hS0 ?_
            rotate_left
            · (intro W hSw; clear hSw; go_simp; try with_reducible rfl)
            try simp only [Act.put, List.setIfInBounds_toArray, List.set_cons_zero, List.set_cons_succ, List.getElem_toArray, List.getElem_cons_zero]
            refine wpAnyH_take (i := 1) (v := ?_) rfl (by kernel_rfl) (by kernel_rfl) (by kernel_rfl) (fun _ _ _ h => h) (Or.inl ⟨by kernel_rfl, ?_⟩) hS0 ?_
            rotate_left
            · (intro W hSw; have hc := hSw.2.2; clear hSw; go_simp; try with_reducible rfl)
            try simp only [Act.put, List.setIfInBounds_toArray, List.set_cons_zero, List.set_cons_succ, List.getElem_toArray, List.getElem_cons_succ, List.getElem_cons_zero]
            refine wpAnyH_take (i := 2) (v := ?_) rfl (by kernel_rfl) (by kernel_rfl) (by kernel_rfl) (fun _ _ _ h => h) (Or.inl ⟨by kernel_rfl, ?_⟩) hS0 ?_
            rotate_left
            · (intro W hSw; clear hSw; go_simp; try with_reducible rfl)
            try simp only [Act.put, List.setIfInBounds_toArray, List.set_cons_zero, List.set_cons_succ, List.getElem_toArray, List.getElem_cons_succ, List.getElem_cons_zero]
            refine wpAnyH_take (i := 3) (v := ?_) rfl (by kernel_rfl) (by kernel_rfl) (by kernel_rfl) (fun _ _ _ h => h) (Or.inl ⟨by kernel_rfl, ?_⟩) hS0 ?_
            rotate_left
            · (intro W hSw; have hc := hSw.2.1.cell 0 (v := .int .i64 (a : Int)) rfl; clear hSw; go_simp; try with_reducible rfl)
            try simp only [Act.put, List.setIfInBounds_toArray, List.set_cons_zero, List.set_cons_succ, List.getElem_toArray, List.getElem_cons_succ, List.getElem_cons_zero]
            refine wpAnyH_take (i := 4) (v := .agg #[.slice (some ⟨gD, 0, none⟩) d c1, .slice (some ⟨gc, 0, none⟩) n cc, .slice (some ⟨g3, 0, none⟩) n c3, .slice (some ⟨b4, o4, none⟩) q4 c4, .slice p5 q5 c5, .slice (some ⟨gl, 0, none⟩) N cl, .map (some B)]) rfl (by kernel_rfl) (by kernel_rfl) (by kernel_rfl) (fun _ _ _ h => h) (Or.inl ⟨by kernel_rfl, fun W hW => run_load_row _ _ rfl rfl (hW.1).blk rfl Tryz.underlying78 info_program⟩) hS0 ?_
            try simp only [Act.put, List.setIfInBounds_toArray, List.set_cons_zero, List.set_cons_succ, List.getElem_toArray, List.getElem_cons_succ, List.getElem_cons_zero]
            refine wpAnyH_take (i := 5) (v := .agg #[.int .i64 (a : Int), .int .i64 rk, .int .i64 ti, .int .i64 ta, .int .i64 rd]) rfl (by kernel_rfl) (by kernel_rfl) (by kernel_rfl) (fun _ _ _ h => h) (Or.inl ⟨by kernel_rfl, fun W hW => run_load_row _ _ rfl rfl (hW.2.1).blk rfl Tryz.underlying106 info_repS⟩) hS0 ?_
            try simp only [Act.put, List.setIfInBounds_toArray, List.set_cons_zero, List.set_cons_succ, List.getElem_toArray, List.getElem_cons_succ, List.getElem_cons_zero]
            refine wpAnyH_ready (rs := [6]) (by kernel_rfl) (by simp) ?_
            refine AllReadyH.cons rfl (fun KK hKK => ?_) AllReadyH.nil
            go_simp
            refine (HW.out _ (by have h := HR3.out.sl; rw [Hn.out, HN.out] at h; exact h)).mono ?_; rintro e' w5 ⟨rfl, hg⟩
            have hS1 : RwAt w5 b1 78 #[.slice (some ⟨gD, 0, none⟩) d c1, .slice (some ⟨gc, 0, none⟩) n cc, .slice (some ⟨g3, 0, none⟩) n c3, .slice (some ⟨b4, o4, none⟩) q4 c4, .slice p5 q5 c5, .slice (some ⟨gl, 0, none⟩) N cl, .map (some B)] ∧ RwAt w5 bx 106 #[.int .i64 (a : Int), .int .i64 rk, .int .i64 ti, .int .i64 ta, .int .i64 rd] ∧ w5.cell? ⟨H, 1, none⟩ = some (.slice (some ⟨gD, 0, none⟩) d c1) := ⟨hS0.1.kept0 hg, hS0.2.1.kept0 hg, (HR3.out.kept0 hg).cell.cell 1 rfl⟩
            have HR4 := hid (HR3.out.kept0 hg)
            clear hg HR3
            clear hS0
            have hS0 := hS1
            refine hKK.out _ _ hS1 (fun _ => ?_)
            clear hKK KK hS1
            try simp only [Act.put, List.setIfInBounds_toArray, List.set_cons_zero, List.set_cons_succ, List.getElem_toArray, List.getElem_cons_succ, List.getElem_cons_zero]
            refine wpAnyH_take (i := 7) (v := ?_) rfl (by kernel_rfl) (by kernel_rfl) (by kernel_rfl) (fun _ _ _ h => h) (Or.inl ⟨by kernel_rfl, ?_⟩) hS0 ?_
            rotate_left
            · (intro W hSw; clear hSw; go_simp; try with_reducible rfl)
            try simp only [Act.put, List.setIfInBounds_toArray, List.set_cons_zero, List.set_cons_succ, List.getElem_toArray, List.getElem_cons_succ, List.getElem_cons_zero]
            have HR5 : Hid (IgB w0 (w5.setCell ⟨gD, a, none⟩ (.int .u32 V)) base H E (.slice (some ⟨gc, 0, none⟩) n cc) (.slice (some ⟨g3, 0, none⟩) n c3) (.slice (some ⟨b4, o4, none⟩) q4 c4) (.slice p5 q5 c5) (.slice (some ⟨gl, 0, none⟩) N cl) (.slice (some ⟨gD, 0, none⟩) d c1) (.slice (some ⟨gC, 0, none⟩) m m) (.slice pd dn cd) (.slice none 0 0) (.slice ps sn cs) X l ⟨I.e, I.D.set a V, I.C, I.dr, I.pl, I.st⟩) := hid (HR4.out.setD HDl.out.1 a V)
            refine wpAnyH_ready (rs := [8]) (by kernel_rfl) (by simp) ?_
            refine AllReadyH.cons rfl (fun KK hKK => ?_) AllReadyH.nil
            obtain ⟨⟨u9, hc9⟩, hf9⟩ := HR4.out.cD HDl.out.1 had.out
            go_simp
            have hS1 : RwAt (w5.setCell ⟨gD, a, none⟩ (.int .u32 V)) b1 78 #[.slice (some ⟨gD, 0, none⟩) d c1, .slice (some ⟨gc, 0, none⟩) n cc, .slice (some ⟨g3, 0, none⟩) n c3, .slice (some ⟨b4, o4, none⟩) q4 c4, .slice p5 q5 c5, .slice (some ⟨gl, 0, none⟩) N cl, .map (some B)] ∧ RwAt (w5.setCell ⟨gD, a, none⟩ (.int .u32 V)) bx 106 #[.int .i64 (a : Int), .int .i64 rk, .int .i64 ti, .int .i64 ta, .int .i64 rd] ∧ (w5.setCell ⟨gD, a, none⟩ (.int .u32 V)).cell? ⟨H, 1, none⟩ = some (.slice (some ⟨gD, 0, none⟩) d c1) := ⟨hS0.1.kept (grown_setCell (grown_refl w5 (some gD)) a _) Hbx.out.1, hS0.2.1.kept (grown_setCell (grown_refl w5 (some gD)) a _) Hbx.out.2, HR5.out.cell.cell 1 rfl⟩
            refine hKK.out _ _ hS1 (fun _ => ?_)
            clear hKK KK hS0
            have hS0 := hS1
            clear hS1
            try simp only [Act.put, List.setIfInBounds_toArray, List.set_cons_zero, List.set_cons_succ, List.getElem_toArray, List.getElem_cons_succ, List.getElem_cons_zero]
            clear hc9 hf9 HR4
            generalize w5.setCell ⟨gD, a, none⟩ (.int .u32 V) = w6 at HR5 hS0 ⊢
            refine wpAnyH_done (by kernel_rfl) ?_ _
            have r0 := hS0.2.1.cell 0 (v := .int .i64 (a : Int)) rfl
            have r2 := hS0.2.1.cell 2 (v := .int .i64 ti) rfl
            have HF : Hid ((X.R.take (k + 1)).foldl (fxD l) J0 = ⟨I.e, I.D.set a V, I.C, if ti = 2 then I.dr ++ [(a : Int)] else I.dr, I.pl, I.st⟩) := hid (by
              rw [List.take_add_one, Hr.out, List.foldl_append, HI.out]
              show fxD l I _ = _
              unfold fxD
              simp only [Int.toNat_natCast, HV.out])
            clear hS0
            by_cases hti : ti = 2
            · subst hti
              rw [if_pos rfl] at HF
              have HX := hid (HR5.out.kept0 (World.grownBy_alloc w6 (.cells #[.int .i64 (a : Int)] 3) none))
              have HOw := hid (HX.out.at_ (k := 2) (r := ⟨.slice pd dn cd, 3, 1, I.dr.length, I.dr.map (Value.int .i64)⟩) rfl)
              simp only at HOw
              rw [Hdn.out] at HOw
              have HNw : Hid (∀ j u, [Value.int .i64 (a : Int)][j]? = some u → (w6.alloc (.cells #[.int .i64 (a : Int)] 3)).cell? ((⟨w6.heap.size, 0, none⟩ : Addr).add j) = some u) := hid (World.news_of_block (heap_alloc_new w6 _))
              have d4 := HR5.out.cell.cell 3 (v := .slice pd dn cd) rfl
              obtain ⟨i', hi', hy0, hy1, hy2⟩ := info_intF
              have Hi' := hid hi'
              have Hy0 := hid hy0
              have Hy1 := hid hy1
              have Hy2 := hid hy2
              clear hi' hy0 hy1 hy2
              go_upto_region 15 with (first
                | (refine wpList_append_lies _ rfl _ _ 43 rfl base 3 i' _ 1 8 Tryz.underlying43 Hi'.out Hy0.out Hy1.out Hy2.out rfl (by decide) _ dn _ rfl HOw.out ⟨w6.heap.size, 0, none⟩ 1 1 _ rfl rfl HNw.out (by simp [Value.oneCell']) (by decide) (by have := HDl.out.2; unfold maxLen; omega) (by have := HDl.out.2; omega) HX.out.size _ rfl ?_
                   intro gB capB wB hown hgrow hat hlt2
                   have hg4 : (w6.alloc (.cells #[.int .i64 (a : Int)] 3)).grownBy wB (Value.slice pd dn cd).ownBlock := hgrow
                   have HEd := hid (HX.out.addD (v' := .slice (some ⟨gB, 0, none⟩) (dn + 1) capB) (a : Int) (by rw [Hdn.out]; exact hown) hg4 (by rcases hat with e | e; (exact .inl e.symm); (exact .inr (by rw [← e]; rfl))))
                   have c4' := (HX.out.row.kept hg4 (Ne.symm (HX.out.neH ⟨.slice pd dn cd, 3, 1, I.dr.length, I.dr.map (Value.int .i64)⟩ (by simp [imRo])))).cell 3 (v := .slice pd dn cd) rfl
                   have z4' := (HX.out.row.kept hg4 (Ne.symm (HX.out.neH ⟨.slice pd dn cd, 3, 1, I.dr.length, I.dr.map (Value.int .i64)⟩ (by simp [imRo])))).free 3
                   clear hown hgrow hat hlt2 hg4)
                | fail)
              clear c4' z4' HX HOw HNw d4 r0 r2 HR5
              have HEx : Hid (∃ vd, IgB w0 (wB.setCell ⟨H, 3, none⟩ (.slice (some ⟨gB, 0, none⟩) (dn + 1) capB)) base H E (.slice (some ⟨gc, 0, none⟩) n cc) (.slice (some ⟨g3, 0, none⟩) n c3) (.slice (some ⟨b4, o4, none⟩) q4 c4) (.slice p5 q5 c5) (.slice (some ⟨gl, 0, none⟩) N cl) (.slice (some ⟨gD, 0, none⟩) d c1) (.slice (some ⟨gC, 0, none⟩) m m) (vd) (.slice none 0 0) (.slice ps sn cs) X l ((X.R.take (k + 1)).foldl (fxD l) J0)) := hid (by rw [HF.out]; exact ⟨_, HEd.out⟩)
              clear HEd
              generalize wB.setCell ⟨H, 3, none⟩ (.slice (some ⟨gB, 0, none⟩) (dn + 1) capB) = w10 at HEx ⊢
              go_wp2
              go_roundw
              case rel => exact ⟨k + 1, Hlt.out, by go_num, HEx⟩
              case measure => simp [intOf]; have := Hlt.out; omega
            · have hb2 : (ti == 2) = false := by simpa using hti
              rw [if_neg hti] at HF
              have HEx : Hid (∃ vd, IgB w0 w6 base H E (.slice (some ⟨gc, 0, none⟩) n cc) (.slice (some ⟨g3, 0, none⟩) n c3) (.slice (some ⟨b4, o4, none⟩) q4 c4) (.slice p5 q5 c5) (.slice (some ⟨gl, 0, none⟩) N cl) (.slice (some ⟨gD, 0, none⟩) d c1) (.slice (some ⟨gC, 0, none⟩) m m) (vd) (.slice none 0 0) (.slice ps sn cs) X l ((X.R.take (k + 1)).foldl (fxD l) J0)) := hid (by rw [HF.out]; exact ⟨_, HR5.out⟩)
              clear HR5 hti
              go_wp2
              go_roundw
              case rel => exact ⟨k + 1, Hlt.out, by go_num, HEx⟩
              case measure => simp [intOf]; have := Hlt.out; omega
          · obtain rfl : q4 = k := by omega
            have kn : ¬ ((q4 : Int) < (q4 : Int)) := by omega
            clear hlt hk
            have hlen3 := foldD_len (X.R.take q4) J0 (l := l)
            rw [HI.out] at hlen3
            have HJC1 : Hid (I.C.length = m ∧ I.pl.length = 0) := hid (by rw [hlen3.2.2.1, hlen3.2.2.2]; exact HJC.out)
            have y4 := (Hx1.out _ _ _ _ _ _ _ HR.out).1.cell 4 (v := .slice p5 q5 c5) rfl
            have qz0 : (0 : Int) ≤ (q5 : Int) := by omega
            have qz1 : (q5 : Int) ≤ 1000000 := by have := Hnb.out; omega
            have H2 : Hid (∃ vp, IgB w0 wr base H E (.slice (some ⟨gc, 0, none⟩) n cc) (.slice (some ⟨g3, 0, none⟩) n c3) (.slice p4 q4 c4) (.slice p5 q5 c5) (.slice (some ⟨gl, 0, none⟩) N cl) (.slice p1 d c1) (.slice (some ⟨gC, 0, none⟩) m m) (.slice pd dn cd) (vp) (.slice ps sn cs) X l ((X.Q.take 0).foldl (fxC X l) I)) := hid ⟨_, HR.out⟩
            clear hlen3 HR k0 kn
            go_upto_region 17 with (fail)
            clear y4
            go_loopw [96] (fun i wr => ∃ j : Nat, j ≤ q5 ∧ i = .int .i64 j ∧ Hid (∃ vp, IgB w0 wr base H E (.slice (some ⟨gc, 0, none⟩) n cc) (.slice (some ⟨g3, 0, none⟩) n c3) (.slice p4 q4 c4) (.slice p5 q5 c5) (.slice (some ⟨gl, 0, none⟩) N cl) (.slice p1 d c1) (.slice (some ⟨gC, 0, none⟩) m m) (.slice pd dn cd) (vp) (.slice ps sn cs) X l ((X.Q.take j).foldl (fxC X l) I))) (fun i _ => q5 - (intOf i).toNat)
            case atStart => exact ⟨0, Nat.zero_le _, rfl, H2⟩
            case round =>
              obtain ⟨j, hk, rfl, HRx⟩ := hrel
              clear H2
              obtain ⟨vp, hR⟩ := HRx.out
              have hlen := foldC_len (X.Q.take j) I (X := X) (l := l)
              rw [HJC1.out.1, HJC1.out.2, List.length_take] at hlen
              obtain ⟨I2, hI2⟩ : ∃ I2, (X.Q.take j).foldl (fxC X l) I = I2 := ⟨_, rfl⟩
              have HI2 := hid hI2
              rw [hI2] at hR hlen
              have HDl2 : Hid (I2.C.length = m ∧ I2.pl.length ≤ 2000000) := hid (by have := Hnb.out; omega)
              have HR := hid hR
              clear hR HRx hlen hI2
              have k0 : (0 : Int) ≤ (j : Int) := by omega
              by_cases hlt : j < q5
              · have kq : (j : Int) < (q5 : Int) := by omega
                have Hlt := hid hlt
                obtain ⟨r, hr⟩ : ∃ r, X.Q[j]? = some r := ⟨_, List.getElem?_eq_getElem (by rw [Hq5.out]; exact hlt)⟩
                have Hr := hid hr
                have hf := HQ.out.q r (List.mem_of_getElem? hr)
                obtain ⟨b4, o4, cc4, hv4, hb4, g0, g1, g2, g3', g4⟩ := fx_item HR.out.r5 hr
                rw [Hq5.out] at hv4
                simp only [Value.slice.injEq, true_and] at hv4
                obtain ⟨rfl, rfl⟩ := hv4
                obtain ⟨ra, rk, ⟨ti, ta⟩, rd⟩ := r
                obtain ⟨⟨a, ha, hal⟩, fk, ft, fd⟩ := hf
                simp only at ha fk ft fd g0 g1 g2 g3' g4
                subst ha
                have Hal := hid hal
                have Ft := hid ft
                have a0 : (0 : Int) ≤ (a : Int) := by omega
                have hgr := World.grownBy_alloc wr (.cells #[.int .i64 (a : Int), .int .i64 rk, .int .i64 ti, .int .i64 ta, .int .i64 rd] 106) none
                have HR2 := hid (HR.out.kept0 hgr)
                have HX2 := hid (RwAt.new wr 106 #[.int .i64 (a : Int), .int .i64 rk, .int .i64 ti, .int .i64 ta, .int .i64 rd])
                clear hr hb4 hal ft hlt hk hgr HR
                have Hzr := zero_rep16
                have Hk12 := hid fk
                have Hbr := hid (HQ.out.b _ (List.mem_of_getElem? Hr.out))
                go_upto_region 19 with (fail)
                clear g0 g1 g2 g3' g4 Hzr
                obtain ⟨bx, hbx⟩ : ∃ g, wr.heap.size = g := ⟨_, rfl⟩
                rw [hbx] at HX2 ⊢
                generalize wr.alloc (.cells #[.int .i64 (a : Int), .int .i64 rk, .int .i64 ti, .int .i64 ta, .int .i64 rd] 106) = w3 at HR2 HX2 ⊢
                clear hbx
                have HP3 := hid (Hx1.out _ _ _ _ _ _ _ HR2.out).1
                go_wp2_with (first
                  | (refine wpList_load_rw rfl 78 _ rfl rfl HP3.out rfl Tryz.underlying78 info_program ?_)
                  | (refine wpList_load_rw rfl 106 _ rfl rfl HX2.out rfl Tryz.underlying106 info_repS ?_)
                  | fail)
                refine (fix_any w0 w3 base H E (.slice p1 d c1) (.slice (some ⟨gc, 0, none⟩) n cc) (.slice (some ⟨g3, 0, none⟩) n c3) (.slice p4 q4 c4) (.slice (some ⟨b4, o4, none⟩) q5 c5) (.slice (some ⟨gl, 0, none⟩) N cl) (.map (some B)) (.slice p1 d c1) (.slice (some ⟨gC, 0, none⟩) m m) (.slice pd dn cd) vp (.slice ps sn cs) X l I2 ⟨(a : Int), rk, ⟨ti, ta⟩, rd⟩ HR2.out HQ.out.inc HQ.out.end_ (by rw [HDl2.out.1, Hn.out, HM.out]) HDl2.out.2 a rfl Hal.out Hk12.out Ft.out Hbr.out HQ.out.w).mono ?_
                rintro e' w4 ⟨rfl, vp', hR4⟩
                have HF : Hid ((X.Q.take (j + 1)).foldl (fxC X l) I = fxC X l I2 ⟨(a : Int), rk, ⟨ti, ta⟩, rd⟩) := hid (by
                  rw [List.take_add_one, Hr.out, List.foldl_append, HI2.out]; rfl)
                have HEx : Hid (∃ vp, IgB w0 w4 base H E (.slice (some ⟨gc, 0, none⟩) n cc) (.slice (some ⟨g3, 0, none⟩) n c3) (.slice p4 q4 c4) (.slice (some ⟨b4, o4, none⟩) q5 c5) (.slice (some ⟨gl, 0, none⟩) N cl) (.slice p1 d c1) (.slice (some ⟨gC, 0, none⟩) m m) (.slice pd dn cd) (vp) (.slice ps sn cs) X l ((X.Q.take (j + 1)).foldl (fxC X l) I)) := hid (by rw [HF.out]; exact ⟨_, hR4⟩)
                clear hR4 HR2 HX2 HP3
                go_wp2
                go_roundw
                case rel => exact ⟨j + 1, Hlt.out, by go_num, HEx⟩
                case measure => simp [intOf]; have := Hlt.out; omega
              · obtain rfl : q5 = j := by omega
                have kn : ¬ ((q5 : Int) < (q5 : Int)) := by omega
                clear hlt hk
                have HF : Hid (imP X M l = I2) := hid (by
                  unfold imP
                  rw [Hs.out, He0.out, Hn.out, HJ0.out]
                  rw [← HI2.out, ← HI.out, List.take_of_length_le (by rw [Hq4.out]; exact Nat.le_refl _), List.take_of_length_le (by rw [Hq5.out]; exact Nat.le_refl _)])
                have oP := HR.out.at_ (k := 3) (r := ⟨vp, 3, 1, I2.pl.length, I2.pl.map (Value.int .i64)⟩) rfl
                obtain ⟨pp, cp, eP⟩ := own_slice oP
                simp only at eP
                obtain ⟨pn, hpn⟩ : ∃ q, I2.pl.length = q := ⟨_, rfl⟩
                rw [hpn] at eP
                subst eP
                clear oP hpn
                have HIm := hid HR.out.cell
                have HRr := hid (Hx1.out _ _ _ _ _ _ _ HR.out).2
                obtain ⟨ie, hie⟩ : ∃ e, I2.e = e := ⟨_, rfl⟩
                have Hie := hid hie
                rw [hie] at HIm
                clear hie
                have HE := hid (HRr.out.row #[.int .u32 ie, .slice p1 d c1, .slice (some ⟨gC, 0, none⟩) m m, .slice pd dn cd, .slice pp pn cp, .slice ps sn cs])
                have HRb : Hid (w0.heap.size ≤ R) := hid (by have h1 := HR.out.lt; have h2 := HB1.out.le; have := HRR.out; omega)
                have HG2 := hid (grown_setRow HR.out.g HRb.out #[.int .u32 ie, .slice p1 d c1, .slice (some ⟨gC, 0, none⟩) m m, .slice pd dn cd, .slice pp pn cp, .slice ps sn cs])
                have HO2 : Hid (∀ r ∈ imRo (.slice p1 d c1) (.slice (some ⟨gC, 0, none⟩) m m) (.slice pd dn cd) (.slice pp pn cp) (.slice ps sn cs) I2, (wr.setRow R #[.int .u32 ie, .slice p1 d c1, .slice (some ⟨gC, 0, none⟩) m m, .slice pd dn cd, .slice pp pn cp, .slice ps sn cs]).ownsRow base r.e r.z r.v r.n r.xs) := hid (fun r hr => (HR.out.own r hr).kept (grown_setR wr R _) (.inr (fun e => HR.out.ra ⟨.slice (some ⟨R, 0, none⟩) 1 1, 45, 6, 1, (#[.int .u32 0, .slice none 0 0, .slice none 0 0, .slice none 0 0, .slice none 0 0, .slice none 0 0]).toList⟩ (by rw [← HEe.out]; simp) r hr R e rfl)))
                go_wp2_with (first
                  | (refine wpList_load_rw rfl 45 _ rfl rfl HIm.out rfl Tryz.underlying45 info_image ?_)
                  | (refine wpList_store_rw rfl 45 _ _ rfl rfl rfl HRr.out info_image rfl (by simp [Value.oneCell']) ?_)
                  | fail)
                refine bodyPost_ret (results_cell_row Tryz.results28 _ _ R _ _ _ _ rfl HE.out.blk Tryz.underlying45 rfl info_image) rfl ?_
                refine ⟨.slice (some ⟨gC, 0, none⟩) m m, .slice pd dn cd, .slice pp pn cp, .slice ps sn cs, ?_, HG2.out, ?_⟩
                · rw [HF.out, Hie.out]
                · rw [HF.out]; exact HO2.out
end Go.Proofs.YtnpnafidhcnkhaaGreatDoor

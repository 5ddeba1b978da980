/- Plain facts of the law BareStatus: its code, and how it runs. -/
import Derived.Test.YtkkbhifplbleiaaGreatDoorZBCode
namespace Go.Proofs.YtkkbhifplbleiaaGreatDoor
open Go.RowKit
def chunkS (k c : Int) : List Int := if k = 0 then [1073741824] else if k = 1 then [1090519040] else if k = 2 ∨ k = 3 then [234946560, c, 1124139008] else [16777216]
def onS (k c on : Int) : Int := if k = 0 then 0 else if k = 1 then 1 else if k = 2 ∨ k = 3 then c % 2 else on
def kS (x : Int) : Int := (numB x 5 : Int)
def cS (x : Int) : Int := (numB (x.tdiv 5) 4 : Int)
def codeS : List Int → List Int
  | [] => []
  | x :: r => (chunkS (kS x) (cS x) ++ [1107427328, 587333632]) ++ codeS r
def wantS : Int → List Int → List Int
  | _, [] => []
  | on, x :: r => (2 + onS (kS x) (cS x) on) :: wantS (onS (kS x) (cS x) on) r
def lastS : Int → List Int → Int
  | on, [] => on
  | on, x :: r => lastS (onS (kS x) (cS x) on) r
theorem codeS_snoc : ∀ (l : List Int) (x : Int), codeS (l ++ [x]) = (codeS l ++ chunkS (kS x) (cS x)) ++ [1107427328, 587333632]
  | [], x => by simp [codeS]
  | y :: r, x => by simp only [List.cons_append, codeS, codeS_snoc r x, List.append_assoc]
theorem wantS_snoc : ∀ (l : List Int) (x on : Int), wantS on (l ++ [x]) = wantS on l ++ [2 + onS (kS x) (cS x) (lastS on l)]
  | [], x, on => by simp [wantS, lastS]
  | y :: r, x, on => by simp only [List.cons_append, wantS, lastS, wantS_snoc r x]
theorem lastS_snoc : ∀ (l : List Int) (x on : Int), lastS on (l ++ [x]) = onS (kS x) (cS x) (lastS on l)
  | [], x, on => by simp [lastS]
  | y :: r, x, on => by simp only [List.cons_append, lastS, lastS_snoc r x]
theorem chunkS_len (k c : Int) : (chunkS k c).length ≤ 3 := by unfold chunkS; (repeat' split) <;> simp
theorem codeS_len : ∀ l : List Int, (codeS l).length ≤ 5 * l.length
  | [] => by simp [codeS]
  | x :: r => by
    have h1 := codeS_len r
    have h2 := chunkS_len (kS x) (cS x)
    simp only [codeS, List.length_append, List.length_cons, List.length_nil]
    omega
theorem wantS_len : ∀ (l : List Int) (on : Int), (wantS on l).length = l.length
  | [], _ => rfl
  | x :: r, on => by simp only [wantS, List.length_cons, wantS_len r]
theorem cS_bd (x : Int) : 0 ≤ cS x ∧ cS x < 4 := by have := numB_lt (x.tdiv 5) (k := 4) (by decide); unfold cS; omega
theorem kS_bd (x : Int) : kS x = 0 ∨ kS x = 1 ∨ kS x = 2 ∨ kS x = 3 ∨ kS x = 4 := by have := numB_lt x (k := 5) (by decide); unfold kS; omega
theorem onS_bd {k c on : Int} (h : on = 0 ∨ on = 1) : onS k c on = 0 ∨ onS k c on = 1 := by unfold onS; (repeat' split) <;> omega
theorem lastS_bd : ∀ (l : List Int) {on : Int}, on = 0 ∨ on = 1 → lastS on l = 0 ∨ lastS on l = 1
  | [], _, h => h
  | _ :: r, _, h => lastS_bd r (onS_bd h)
theorem u32s_app {a b : List Int} (ha : U32s a) (hb : U32s b) : U32s (a ++ b) := by
  intro x hx
  rcases List.mem_append.1 hx with h | h
  · exact ha x h
  · exact hb x h
theorem codeS_u32 : ∀ l : List Int, U32s (codeS l)
  | [] => fun x hx => by cases hx
  | x :: r => by
    refine u32s_app (u32s_app ?_ ?_) (codeS_u32 r)
    · have := cS_bd x
      unfold chunkS
      intro y hy
      (repeat' split at hy) <;> simp at hy <;> rcases hy with rfl | rfl | rfl <;> omega
    · intro y hy
      simp at hy
      rcases hy with rfl | rfl <;> omega
theorem getD_at (pre l rest : List Int) {j : Nat} (hj : j < l.length) : (pre ++ (l ++ rest)).getD (pre.length + j) 0 = l.getD j 0 := by
  rw [List.getD_eq_getElem?_getD, List.getD_eq_getElem?_getD, List.getElem?_append_right (by omega), Nat.add_sub_cancel_left, List.getElem?_append_left hj]
theorem reg_set {l : List Int} {a : Nat} (ha : a < l.length) (v : Int) : regI (l.set a v) (a : Int) = v := by
  unfold regI
  rw [Int.toNat_natCast, List.getD_eq_getElem?_getD, List.getElem?_set_self ha]; rfl
section
variable {q : Nat} {q' : Int} {code xs : List Int} {S : List Int} {ws : List (Int × Int)}
/-- a machine that runs code, and where it comes to -/
structure RunS (xs S : List Int) (ws : List (Int × Int)) (i : Nat) (on : Int) (sn : List Sn) (M : Mc) : Prop where
  is : ∃ l t, Regs l ∧ Is xs i (decide (on = 1)) l [] S sn t ws M
  on : on = 0 ∨ on = 1
theorem shows_run (C : CodeIn q code xs) {pre rest : List Int} {on : Int} {sn : List Sn} {M : Mc} (hcode : code = pre ++ ([1107427328, 587333632] ++ rest)) (h : RunS xs S ws pre.length on sn M) :
    RunS xs S ws (pre.length + 2) on (sn ++ [(1, 0, 2 + on)]) (stepP (q + 16) q' (stepP (q + 16) q' M)) := by
  obtain ⟨⟨l, t, hr, hi⟩, ho⟩ := h
  have hlen : pre.length + 2 ≤ code.length := by rw [hcode]; simp
  have h1 := is_gst (q' := q') (a := 2) hi (.inl rfl) C (by omega) (by decide) (by have := getD_at pre [1107427328, 587333632] rest (j := 0) (by decide); rw [← hcode] at this; exact this)
  have h2 := is_out (q' := q') (a := 2) h1 (.inl rfl) C (by omega) (by decide) (by have := getD_at pre [1107427328, 587333632] rest (j := 1) (by decide); rw [← hcode] at this; exact this)
  have e : regI (l.set (2 : Int).toNat (if decide (on = 1) = true then 3 else 2)) 2 = 2 + on := by
    have := reg_set (l := l) (a := 2) (by have := hr.len; omega) (if decide (on = 1) = true then 3 else 2)
    refine this.trans ?_
    rcases ho with rfl | rfl <;> decide
  rw [e] at h2
  refine ⟨⟨_, _, ?_, h2⟩, ho⟩
  refine hr.set _ ?_ ?_ <;> split <;> decide
theorem chunk_run (C : CodeIn q code xs) {pre rest : List Int} {k c on : Int} {sn : List Sn} {M : Mc} (hc0 : 0 ≤ c) (hc1 : c < 4) (hcode : code = pre ++ (chunkS k c ++ rest)) (h : RunS xs S ws pre.length on sn M) :
    ∃ j, j ≤ 2 ∧ RunS xs S ws (pre.length + (chunkS k c).length) (onS k c on) sn (iterP (q + 16) q' j M) := by
  obtain ⟨⟨l, t, hr, hi⟩, ho⟩ := h
  have hget : ∀ j, j < (chunkS k c).length → code.getD (pre.length + j) 0 = (chunkS k c).getD j 0 := fun j hj => by rw [hcode]; exact getD_at pre _ rest hj
  have hlen : pre.length + (chunkS k c).length ≤ code.length := by rw [hcode]; simp
  refine Exists.imp (fun j (hj : _ ∧ _) => ⟨hj.1, hj.2, onS_bd ho⟩) ?_
  unfold chunkS onS at *
  by_cases h0 : k = 0
  · simp only [h0, if_true] at *
    exact ⟨1, by decide, l, _, hr, is_cli hi (.inl rfl) C (by simp at hlen; omega) (hget 0 (by simp))⟩
  · by_cases h1 : k = 1
    · simp only [h1, if_true] at *
      exact ⟨1, by decide, l, _, hr, is_sti hi (.inl rfl) C (by simp at hlen; omega) (hget 0 (by simp))⟩
    · by_cases h2 : k = 2 ∨ k = 3
      · simp only [h0, h1, h2, if_true, if_false] at *
        have e1 := is_li (q' := q') (a := 1) (v := c) hi (.inl rfl) C (by simp at hlen; omega) (by decide) (hget 0 (by simp)) (hget 1 (by simp))
        have e2 := is_sst (q' := q') (a := 1) e1 (.inl rfl) C (by simp at hlen; omega) (by decide) (hget 2 (by simp))
        have e3 : regI (l.set 1 c) 1 = c := reg_set (a := 1) (by have := hr.len; omega) c
        rw [e3] at e2
        exact ⟨2, by decide, _, _, hr.set 1 hc0 (by omega), e2⟩
      · simp only [h0, h1, h2, if_false] at *
        exact ⟨1, by decide, l, _, hr, is_nop hi (.inl rfl) C (by simp at hlen; omega) hr (hget 0 (by simp))⟩
theorem codeS_run (C : CodeIn q code xs) : ∀ (l pre rest : List Int) (on : Int) (sn : List Sn) (M : Mc), code = pre ++ (codeS l ++ rest) → RunS xs S ws pre.length on sn M →
    ∃ j, j ≤ 4 * l.length ∧ RunS xs S ws (pre.length + (codeS l).length) (lastS on l) (sn ++ (wantS on l).map (fun y => ((1, 0, y) : Sn))) (iterP (q + 16) q' j M)
  | [], pre, rest, on, sn, M, _, h => ⟨0, Nat.le_refl _, by simpa [codeS, lastS, wantS, iterP] using h⟩
  | x :: r, pre, rest, on, sn, M, hcode, h => by
    obtain ⟨j1, hj1, h1⟩ := chunk_run (q' := q') C (cS_bd x).1 (cS_bd x).2 (k := kS x) (rest := [1107427328, 587333632] ++ (codeS r ++ rest)) (by rw [hcode]; simp [codeS]) h
    have h2 := shows_run (q' := q') C (pre := pre ++ chunkS (kS x) (cS x)) (rest := codeS r ++ rest) (by rw [hcode]; simp [codeS]) (by rw [List.length_append]; exact h1)
    obtain ⟨j3, hj3, h3⟩ := codeS_run C r (pre ++ (chunkS (kS x) (cS x) ++ [1107427328, 587333632])) rest _ _ _ (by rw [hcode]; simp [codeS]) (by have e : (pre ++ (chunkS (kS x) (cS x) ++ [1107427328, 587333632])).length = (pre ++ chunkS (kS x) (cS x)).length + 2 := (by simp; omega); rw [e]; exact h2)
    refine ⟨j1 + (2 + j3), by simp only [List.length_cons]; omega, ?_⟩
    rw [iter_add, iter_add]
    have e1 : pre.length + (codeS (x :: r)).length = (pre ++ (chunkS (kS x) (cS x) ++ [1107427328, 587333632])).length + (codeS r).length := by simp [codeS]; omega
    have e2 : sn ++ (wantS on (x :: r)).map (fun y => ((1, 0, y) : Sn)) = sn ++ [((1, 0, 2 + onS (kS x) (cS x) on) : Sn)] ++ (wantS (onS (kS x) (cS x) on) r).map (fun y => ((1, 0, y) : Sn)) := by simp [wantS]
    rw [e1, e2]
    exact h3
end
def codeF (l : List Int) : List Int := codeS l ++ [536870912]
theorem status_run (l : List Int) (hl : l.length ≤ 30) : ∃ y, (iterP (24 + 16) 24 200 (initM (memW8 24 [] (codeF l)) (pcP 2048 0))).ov = true ∧
    (iterP (24 + 16) 24 200 (initM (memW8 24 [] (codeF l)) (pcP 2048 0))).d.sn = (wantS 0 l).map (fun y => ((1, 0, y) : Sn)) ++ [(3, 0, y)] := by
  have hlen := codeS_len l
  have hF : (codeF l).length = (codeS l).length + 1 := by simp [codeF]
  have C : CodeIn 24 (codeF l) (memW8 24 [] (codeF l)) := code_mem8 (by decide) (by decide) [] (by omega)
  obtain ⟨j, hj, ⟨⟨l', t, hr, hi⟩, ho⟩⟩ := codeS_run (q' := 24) C l [] [536870912] 0 [] (initM (memW8 24 [] (codeF l)) (pcP 2048 0)) rfl ⟨⟨_, _, zeros_regs, is_init 24 [] (codeF l)⟩, .inl rfl⟩
  have hx := getD_at (codeS l) [536870912] [] (j := 0) (by decide)
  simp only [List.append_nil, Nat.add_zero] at hx
  obtain ⟨h1, h2, _⟩ := is_halt (q' := 24) (a := 0) hi (.inl rfl) C (by simp only [List.length_nil, Nat.zero_add]; omega) (by decide) (by simp only [List.length_nil, Nat.zero_add]; exact hx)
  rw [← iter_snoc] at h1 h2
  have e := iter_stays (k := j + 1) (j := 200) h1 (by omega)
  rw [e]
  exact ⟨_, h1, by simpa using h2⟩
end Go.Proofs.YtkkbhifplbleiaaGreatDoor

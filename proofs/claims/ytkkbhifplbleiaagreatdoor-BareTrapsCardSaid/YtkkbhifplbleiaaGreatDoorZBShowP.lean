/- Plain facts of the law BareShows: its code, and how it runs. -/
import Derived.Test.YtkkbhifplbleiaaGreatDoorZBStatP
namespace Go.Proofs.YtkkbhifplbleiaaGreatDoor
open Go.RowKit
def showC : List Int → List Int
  | [] => []
  | x :: r => [234946560, x, 587268096] ++ showC r
def tailC : List Int := [235012096, 5, 604176384, 620888832, 637796864, 587464704, 671481856, 587595776, 537264128]
theorem showC_snoc : ∀ (l : List Int) (x : Int), showC (l ++ [x]) = showC l ++ [234946560, x, 587268096]
  | [], x => by simp [showC]
  | y :: r, x => by simp only [List.cons_append, showC, showC_snoc r x, List.append_assoc]
theorem showC_len : ∀ l : List Int, (showC l).length = 3 * l.length
  | [] => rfl
  | x :: r => by simp only [showC, List.length_append, List.length_cons, List.length_nil, showC_len r]; omega
theorem showC_u32 : ∀ l : List Int, U32s l → U32s (showC l)
  | [], _ => fun x hx => by cases hx
  | x :: r, h => by
    refine u32s_app ?_ (showC_u32 r (fun y hy => h y (List.mem_cons_of_mem _ hy)))
    intro y hy
    have := h x (List.mem_cons_self ..)
    simp at hy
    rcases hy with rfl | rfl | rfl <;> omega
theorem reg_other {l : List Int} {a b : Nat} (hab : a ≠ b) (v : Int) : regI (l.set a v) (b : Int) = regI l (b : Int) := by
  unfold regI
  rw [Int.toNat_natCast, List.getD_eq_getElem?_getD, List.getElem?_set_ne hab, ← List.getD_eq_getElem?_getD]
section
variable {q : Nat} {q' : Int} {code xs : List Int} {S : List Int} {ws : List (Int × Int)}
theorem showC_run (C : CodeIn q code xs) (key : Int) : ∀ (ls pre rest l : List Int) (sn : List Sn) (t : Int) (M : Mc), code = pre ++ (showC ls ++ rest) → l.length = 16 → Is xs pre.length false l [key] S sn t ws M →
    ∃ l', l'.length = 16 ∧ Is xs (pre.length + (showC ls).length) false l' [key] S (sn ++ ls.map (fun y => ((1, 0, y) : Sn))) (t + 2 * (ls.length : Int)) ws (iterP (q + 16) q' (2 * ls.length) M)
  | [], pre, rest, l, sn, t, M, _, hl, h => ⟨l, hl, by simpa [showC, iterP] using h⟩
  | x :: r, pre, rest, l, sn, t, M, hcode, hl, h => by
    have hget : ∀ j, j < 3 → code.getD (pre.length + j) 0 = [234946560, x, 587268096].getD j 0 := fun j hj => by
      have := getD_at pre [234946560, x, 587268096] (showC r ++ rest) (j := j) hj
      rw [hcode]
      simpa only [showC, List.append_assoc] using this
    have hlen : pre.length + 3 ≤ code.length := by rw [hcode]; simp [showC]
    have h1 := is_li (q' := q') (a := 1) (v := x) h (.inr rfl) C (by omega) (by decide) (hget 0 (by decide)) (hget 1 (by decide))
    have h2 := is_out (q' := q') (a := 1) h1 (.inr rfl) C (by omega) (by decide) (hget 2 (by decide))
    have e3 : regI (l.set 1 x) 1 = x := reg_set (a := 1) (by omega) x
    rw [e3] at h2
    obtain ⟨l', hl', h3⟩ := showC_run C key r (pre ++ [234946560, x, 587268096]) rest (l.set 1 x) _ _ _ (by rw [hcode]; simp [showC]) (by rw [List.length_set]; exact hl) (by
      have e : (pre ++ [234946560, x, 587268096]).length = pre.length + 2 + 1 := by simp
      rw [e]; exact h2)
    refine ⟨l', hl', ?_⟩
    have e1 : pre.length + (showC (x :: r)).length = (pre ++ [234946560, x, 587268096]).length + (showC r).length := by simp [showC]; omega
    have e2 : sn ++ (x :: r).map (fun y => ((1, 0, y) : Sn)) = sn ++ [((1, 0, x) : Sn)] ++ r.map (fun y => ((1, 0, y) : Sn)) := by simp
    have e4 : t + 2 * ((x :: r).length : Int) = t + 1 + 1 + 2 * (r.length : Int) := by simp only [List.length_cons]; omega
    rw [e1, e2, e4, show 2 * (x :: r).length = 2 + 2 * r.length by simp only [List.length_cons]; omega, iter_add]
    exact h3
theorem tailC_run (C : CodeIn q code xs) (key : Int) {pre l : List Int} {sn : List Sn} {t : Int} {M : Mc} (hcode : code = pre ++ tailC) (hl : l.length = 16) (t0 : 0 ≤ t) (t1 : t < 4000000000)
    (h : Is xs pre.length false l [key] (List.replicate 16 0) sn t ws M) :
    (iterP (q + 16) q' 8 M).ov = true ∧ (iterP (q + 16) q' 8 M).d.sn = sn ++ [(2, 5, key), (1, 0, key), (1, 0, t + 5), (3, 0, t + 5)] ∧ (iterP (q + 16) q' 8 M).now = t + 8 := by
  have hget : ∀ j, j < 9 → code.getD (pre.length + j) 0 = tailC.getD j 0 := fun j hj => by
    have := getD_at pre tailC [] (j := j) hj
    rw [List.append_nil] at this
    rw [hcode]
    exact this
  have hlen : pre.length + 9 = code.length := by rw [hcode]; simp [tailC]
  have h1 := is_li (q' := q') (a := 2) (v := 5) h (.inr rfl) C (by omega) (by decide) (hget 0 (by decide)) (hget 1 (by decide))
  have h2 := is_in (q' := q') (a := 3) h1 (.inr rfl) C (by omega) (by decide) (hget 2 (by decide))
  have h3 := is_bwr (q' := q') (a := 2) (b := 3) h2 (.inr rfl) C (by omega) (by decide) (hget 3 (by decide))
  have r2 : regI ((l.set 2 5).set (3 : Int).toNat ([key].headD 0)) 2 = 5 := (reg_other (a := 3) (b := 2) (by decide) _).trans (reg_set (a := 2) (by omega) 5)
  have r3 : regI ((l.set 2 5).set (3 : Int).toNat ([key].headD 0)) 3 = key := reg_set (a := 3) (by rw [List.length_set]; omega) key
  rw [r2, r3] at h3
  have h4 := is_brd (q' := q') (a := 4) (b := 2) h3 (.inr rfl) C (by omega) (by decide) (hget 4 (by decide))
  rw [r2] at h4
  have h5 := is_out (q' := q') (a := 4) h4 (.inr rfl) C (by omega) (by decide) (hget 5 (by decide))
  have r4 : ∀ (l : List Int) (x : Int), l.length = 16 → regI (l.set (4 : Int).toNat x) 4 = x := fun l x hl => reg_set (a := 4) (by omega) x
  rw [r4 _ _ (by simp [hl])] at h5
  have h6 := is_gtm (q' := q') (a := 6) h5 (.inr rfl) C (by omega) (by decide) (hget 6 (by decide))
  have h7 := is_out (q' := q') (a := 6) h6 (.inr rfl) C (by omega) (by decide) (hget 7 (by decide))
  have r6 : ∀ (l : List Int) (x : Int), l.length = 16 → regI (l.set (6 : Int).toNat x) 6 = x := fun l x hl => reg_set (a := 6) (by omega) x
  rw [r6 _ _ (by simp [hl])] at h7
  have h8 := is_halt (q' := q') (a := 6) h7 (.inr rfl) C (by omega) (by decide) (hget 8 (by decide))
  rw [r6 _ _ (by simp [hl])] at h8
  obtain ⟨a1, a2, a3⟩ := h8
  have et : (t + 1 + 1 + 1 + 1 + 1) % 4294967296 = t + 5 := by omega
  rw [et] at a2
  refine ⟨a1, ?_, ?_⟩
  · refine Eq.trans a2 ?_
    simp
  · refine Eq.trans a3 ?_
    omega
end
def codeH (l : List Int) : List Int := showC l ++ tailC
def machH (l : List Int) (key : Int) : Mc := pressM (initM (memW8 24 [] (codeH l)) (pcP 2048 0)) key
theorem show_run (l : List Int) (key : Int) (hl : l.length ≤ 20) :
    (iterP (24 + 16) 24 (2 * l.length + 8) (machH l key)).ov = true ∧ (iterP (24 + 16) 24 (2 * l.length + 8) (machH l key)).now = 2 * (l.length : Int) + 8 ∧
    (iterP (24 + 16) 24 (2 * l.length + 8) (machH l key)).d.sn = l.map (fun y => ((1, 0, y) : Sn)) ++ [(2, 5, key), (1, 0, key), (1, 0, 2 * (l.length : Int) + 5), (3, 0, 2 * (l.length : Int) + 5)] := by
  have hlen := showC_len l
  have hF : (codeH l).length = (showC l).length + 9 := by simp [codeH, tailC]
  have C : CodeIn 24 (codeH l) (memW8 24 [] (codeH l)) := code_mem8 (by decide) (by decide) [] (by omega)
  obtain ⟨l', hl', hi⟩ := showC_run (q' := 24) C key l [] tailC _ [] 0 (machH l key) rfl rfl ⟨rfl, rfl, rfl, rfl, rfl, rfl, rfl, rfl, rfl, rfl, rfl, rfl⟩
  simp only [List.length_nil, Nat.zero_add, Int.zero_add, List.nil_append] at hi
  obtain ⟨h1, h2, h3⟩ := tailC_run (q' := 24) C key rfl hl' (by omega) (by omega) hi
  rw [← iter_add] at h1 h2 h3
  exact ⟨h1, h3, h2⟩
theorem show_before (l : List Int) (key : Int) (hl : l.length ≤ 20) {k : Nat} (hk : k < 2 * l.length + 8) : (iterP (24 + 16) 24 k (machH l key)).ov = false := by
  cases h : (iterP (24 + 16) 24 k (machH l key)).ov with
  | false => rfl
  | true =>
    have h1 := iter_stays h (Nat.le_of_lt hk)
    have h2 := (show_run l key hl).2.1
    rw [h1] at h2
    have h3 := iter_now (n := 24 + 16) (Q := 24) k (machH l key)
    have h4 : (machH l key).now = 0 := rfl
    omega
end Go.Proofs.YtkkbhifplbleiaaGreatDoor

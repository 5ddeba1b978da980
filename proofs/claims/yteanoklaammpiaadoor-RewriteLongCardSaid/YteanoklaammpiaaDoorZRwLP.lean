/- The object of RewriteLong as plain data: it may be, and all of it has to be rewritten. -/
import Derived.Test.YteanoklaammpiaaDoorZGRwA
import Derived.Test.YteanoklaammpiaaDoorZMakeP
namespace Go.Proofs.YteanoklaammpiaaDoor
def lgL (n : Nat) : List Lne := .lab :: List.replicate n (.op 64 0 0 0 0)
def lgO (n : Nat) : PO := ⟨[], List.replicate n 1073741824, List.replicate n 1, [], [], [⟨nmMain, 2, 0, true⟩]⟩
theorem lgL_length (n : Nat) : (lgL n).length = n + 1 := by simp [lgL]
theorem lgL_succ (n : Nat) : lgL (n + 1) = lgL n ++ [.op 64 0 0 0 0] := by
  unfold lgL
  rw [List.replicate_succ', List.cons_append]
theorem lg_word : wordV 64 0 0 0 0 = 1073741824 := by decide +kernel
theorem lg_obj : ∀ n, objL [] (lgL n) = lgO n
  | 0 => rfl
  | n + 1 => by
    rw [lgL_succ, objL_snoc, lg_obj n, lneD_one (by decide), lg_word]
    unfold lgO
    rw [List.replicate_succ', List.replicate_succ']
theorem lg_get {n k : Nat} {v : Int} (h : k < n) : (List.replicate n v).getD k 0 = v := by
  rw [List.getD_eq_getElem?_getD, List.getElem?_replicate, if_pos h]; rfl
theorem lg_map {n k : Nat} (h : k < n) : mapN (lgO n) k = 1 := lg_get h
theorem lg_op {n k : Nat} (h : k < n) : opN (lgO n) k = 64 := by
  unfold opN
  rw [if_pos (lg_map h)]
  show opW ((List.replicate n (1073741824 : Int)).getD k 0) = 64
  rw [lg_get h]
  decide +kernel
theorem lg_valid {n : Nat} (h0 : 0 < n) (h : n ≤ 2048) : validP (lgO n) = none := by
  have hC : (lgO n).C.length = n := by simp [lgO]
  have hM : (lgO n).M.length = n := by simp [lgO]
  unfold validP
  rw [if_neg (by unfold manyB; simp only [hC, decide_eq_true_eq]; simp [lgO]; omega), if_neg (by rw [hC, hM]; simp), hC]
  rw [scanF_none, scanF_none, scanF_none, scanF_none, scanF_none]
  · intro k hk
    unfold unrF
    rw [lg_op hk, if_neg]
    rintro (h | h)
    · exact absurd h.1 (by decide)
    · rcases h.1 with h | h
      · exact absurd h (by decide)
      · exact absurd h (by decide)
  · intro k hk; simp [lgO] at hk
  · intro k hk; simp [lgO] at hk
  · intro k hk
    have : k = 0 := by simp [lgO] at hk; exact hk
    subst this
    have hs : symN (lgO n) 0 = ⟨nmMain, 2, 0, true⟩ := rfl
    unfold symF
    rw [hs, if_neg (by decide), if_neg (by simp [twiceB]), if_pos]
    unfold standsB
    rw [if_neg (by decide), if_pos rfl, hC]
    simp [lg_map h0]
    exact h0
  · intro k hk
    unfold wordF
    rw [if_pos (lg_map hk)]
    unfold firstF
    rw [lg_op hk, if_neg (by decide), if_neg (by intro h; exact absurd h.1 (by decide))]
theorem lg_site {n k : Nat} (h : k < n) : siteB (lgO n) k = true := by
  have hw : wOp (lgO n) k = 64 := by
    unfold wOp
    show (List.replicate n (1073741824 : Int)).getD k 0 / 16777216 = 64
    rw [lg_get h]
    decide
  unfold siteB isT
  simp only [lg_map h, hw]
  decide
theorem lg_pl {n : Nat} : ∀ {k : Nat}, k ≤ n → plN (lgO n) k = 2 * k
  | 0, _ => rfl
  | k + 1, h => by
    rw [pl_yes (lg_site (by omega)), lg_pl (by omega)]
    omega
theorem lg_good (n : Nat) : GoodL (lgL n) := by
  have hm : ∀ x ∈ List.replicate n (Lne.op 64 0 0 0 0), ∃ p a b c m, x = .op p a b c m ∧ insB p a b c m = true := by
    intro x hx
    exact ⟨_, _, _, _, _, List.eq_of_mem_replicate hx, by decide +kernel⟩
  refine ⟨fun k p a b c m h => ?_, fun k h => ?_⟩
  · cases k with
    | zero => rw [lgL, List.getElem?_cons_zero] at h; cases h
    | succ k =>
      rw [lgL, List.getElem?_cons_succ] at h
      obtain ⟨_, _, _, _, _, e, hi⟩ := hm _ (List.mem_of_getElem? h)
      cases e; exact hi
  · cases k with
    | zero => rfl
    | succ k =>
      rw [lgL, List.getElem?_cons_succ] at h
      obtain ⟨_, _, _, _, _, e, _⟩ := hm _ (List.mem_of_getElem? h)
      cases e
end Go.Proofs.YteanoklaammpiaaDoor

/- What package walk's Walk answers: a contract. -/
import Derived.Test.YtpkgckjlhjcdmaaDoorZWalk4
import Derived.Test.YtpkgckjlhjcdmaaDoorZGMem
namespace Go.Proofs.YtpkgckjlhjcdmaaDoor
open Go.RowKit
/-- may it be used so? -/
def mayB (T X U r write user : Bool) : Bool := T && (!write || X) && (!user || U) && r
def placeV (B : Bool) (F addr : Int) : Int := if B = true then F * 16 + addr % 16 else 0
section
variable {m b n c : Nat} {xs : List Int} {W : World}
end
end Go.Proofs.YtpkgckjlhjcdmaaDoor
/- facadelaw3's memory: both memories with these words: a contract. -/
namespace Go.Proofs.YtpkgckjlhjcdmaaDoor
open Go.RowKit
/-- the first k of these words, and behind them nothing -/
def layW (l : List Int) (k : Nat) : List Int := l.take k ++ List.replicate (320 - k) 0
theorem layW_zero (l : List Int) : layW l 0 = List.replicate 320 0 := by unfold layW; rw [List.take_zero, List.nil_append]
theorem layW_length {l : List Int} {k : Nat} (h : k ≤ l.length) (h2 : k ≤ 320) : (layW l k).length = 320 := by
  simp only [layW, List.length_append, List.length_take, List.length_replicate]; omega
theorem layW_succ {l : List Int} {k : Nat} {y : Int} (hy : l[k]? = some y) (h2 : k < 320) : layW l (k + 1) = (layW l k).set k y := by
  have hk : k < l.length := (List.getElem?_eq_some_iff.1 hy).1
  unfold layW
  rw [List.set_append_right _ _ (by simp; omega), List.take_add_one, hy]
  have e : k - (l.take k).length = 0 := by simp; omega
  rw [e]
  obtain ⟨d, hd⟩ : ∃ d, 320 - k = d + 1 := ⟨320 - k - 1, by omega⟩
  rw [hd, show 320 - (k + 1) = d by omega, List.replicate_succ, List.set_cons_zero]
  simp
theorem layW_u32 {l : List Int} {k : Nat} (h : U32s l) : U32s (layW l k) := by
  intro x hx
  unfold layW at hx
  rcases List.mem_append.1 hx with h1 | h1
  · exact h x (List.mem_of_mem_take h1)
  · have := List.eq_of_mem_replicate h1; omega
/-- what memory answers -/
def MemoryAt (W : World) (xs : List Int) (e : Ending) (w' : World) : Prop :=
  ∃ m b m' b', e = .returned (.tuple #[.pointer (some ⟨m, 0, none⟩), .pointer (some ⟨m', 0, none⟩)]) ∧ W.heap.size ≤ m ∧ W.heap.size ≤ b ∧ MemAt w' m b 20 20 xs ∧ RefAt w' m' b' 320 xs ∧ W.grownBy w' none
end Go.Proofs.YtpkgckjlhjcdmaaDoor
/- Walks and tables as the laws meet them: a memory of twenty frames, its first two the tables. -/
namespace Go.Proofs.YtpkgckjlhjcdmaaDoor
open Go.RowKit
theorem wayB_may {xs : List Int} {n root p : Int} {write user : Bool} : wayB (pageO xs n root p) n write user = mayB (oT (pageO xs n root p)) (oW (pageO xs n root p)) (oU (pageO xs n root p)) (decide (0 ≤ oF (pageO xs n root p) ∧ oF (pageO xs n root p) < n)) write user := by
  cases h : pageO xs n root p with
  | none => simp [wayB, mayB, oT]
  | some v =>
    have hl := pageO_live h
    have hb := live_bd hl
    have hF : oF (some v) = v / 256 := rfl
    have hT : oT (some v) = true := tB_live hl
    have hX : oW (some v) = wB v := rfl
    have hU : oU (some v) = uB v := rfl
    have e : decide (0 ≤ v / 256 ∧ v / 256 < n) = decide (v / 256 < n) := by rw [Bool.eq_iff_iff]; simp; omega
    rw [hF, hT, hX, hU, e]
    show ((!write || wB v) && (!user || uB v) && decide (v / 256 < n)) = _
    unfold mayB
    rw [Bool.true_and]
theorem oF_bd {xs : List Int} {n root p : Int} : 0 ≤ oF (pageO xs n root p) ∧ oF (pageO xs n root p) < 1024 := by
  cases h : pageO xs n root p with
  | none => simp [oF]
  | some v =>
    have hb := live_bd (pageO_live h)
    simp only [oF]; omega
section
variable {m b n c : Nat} {xs : List Int} {W : World}
end
/-! ### the first two frames as tables -/
theorem zeros_get {k : Nat} (h : k < 320) : (List.replicate 320 (0 : Int))[k]? = some 0 := by rw [List.getElem?_replicate, if_pos h]
theorem zeros_u32 : U32s (List.replicate 320 0) := fun x hx => by have := List.eq_of_mem_replicate hx; omega
theorem U32s.set {xs : List Int} (h : U32s xs) (k : Nat) {x : Int} (h0 : 0 ≤ x) (h1 : x < 4294967296) : U32s (xs.set k x) := by
  intro y hy
  rcases List.mem_or_eq_of_mem_set hy with h2 | rfl
  · exact h y h2
  · exact ⟨h0, h1⟩
theorem pageO_hit {xs : List Int} {P : Nat} (hP : P < 256) {y : Int} (hx : xs[P / 16]? = some 257) (hy : xs[16 + P % 16]? = some y) : pageO xs 20 0 (P : Int) = liveO y :=
  pageO_in (x := 257) (by omega) (by omega) (by omega) (by omega) (wordI_get hx (by omega)) (by decide) (by decide) (wordI_get hy (by omega))
theorem pageO_miss {xs : List Int} {P : Nat} (hx : xs[P / 16]? = some 0) : pageO xs 20 0 (P : Int) = none :=
  pageO_dead (x := 0) (wordI_get hx (by omega)) (.inl (by decide))
theorem set_hit {xs : List Int} {k : Nat} {x : Int} (h : k < xs.length) : (xs.set k x)[k]? = some x := List.getElem?_set_self h
theorem set_miss {xs : List Int} {k j : Nat} {x : Int} {o : Option Int} (h : k ≠ j) (hx : xs[j]? = o) : (xs.set k x)[j]? = o := by rw [List.getElem?_set_ne h, hx]
theorem way_some {v n : Int} {write user : Bool} {X U : Bool} (hX : wB v = X) (hU : uB v = U) (hn : v / 256 < n) : wayB (some v) n write user = ((!write || X) && (!user || U)) := by
  show ((!write || wB v) && (!user || uB v) && decide (v / 256 < n)) = _
  rw [hX, hU, decide_eq_true hn, Bool.and_true]
end Go.Proofs.YtpkgckjlhjcdmaaDoor

/- facadelaw3's memory: both memories with these words: a contract. -/
import Derived.Test.YthjbbkhnfemikaaDoorWalk5
import Derived.Test.YthjbbkhnfemikaaDoorRMem1
namespace Go.Proofs.YthjbbkhnfemikaaDoor
open Go.RowKit
/-- the first k of these words, and behind them nothing -/
def layW (l : List Int) (k : Nat) : List Int := l.take k ++ List.replicate (320 - k) 0
theorem layW_zero (l : List Int) : layW l 0 = List.replicate 320 0 := by unfold layW; rw [List.take_zero, List.nil_append]
theorem layW_length {l : List Int} {k : Nat} (h : k ≤ l.length) (h2 : k ≤ 320) : (layW l k).length = 320 := by
  simp only [layW, List.length_append, List.length_take, List.length_replicate]; omega
theorem layW_succ {l : List Int} {k : Nat} {y : Int} (hy : l[k]? = some y) (h2 : k < 320) : layW l (k + 1) = (layW l k).set k y := by
  have hk : k < l.length := (List.getElem?_eq_some_iff.1 hy).1
  unfold layW
  rw [List.set_append_right _ _ (by simp; omega), List.take_add_one, hy]
  have e : k - (l.take k).length = 0 := by simp; omega
  rw [e]
  obtain ⟨d, hd⟩ : ∃ d, 320 - k = d + 1 := ⟨320 - k - 1, by omega⟩
  rw [hd, show 320 - (k + 1) = d by omega, List.replicate_succ, List.set_cons_zero]
  simp
theorem layW_u32 {l : List Int} {k : Nat} (h : U32s l) : U32s (layW l k) := by
  intro x hx
  unfold layW at hx
  rcases List.mem_append.1 hx with h1 | h1
  · exact h x (List.mem_of_mem_take h1)
  · have := List.eq_of_mem_replicate h1; omega
/-- what memory answers -/
def MemoryAt (W : World) (xs : List Int) (e : Ending) (w' : World) : Prop :=
  ∃ m b m' b', e = .returned (.tuple #[.pointer (some ⟨m, 0, none⟩), .pointer (some ⟨m', 0, none⟩)]) ∧ W.heap.size ≤ m ∧ W.heap.size ≤ b ∧ MemAt w' m b 20 20 xs ∧ RefAt w' m' b' 320 xs ∧ W.grownBy w' none
set_option maxHeartbeats 2000000 in
theorem memory_any (v : Value) (l : List Int) (W : World) (hv : SlAt W .u32 v l) (hl : l.length ≤ 320) :
    Calls Tryd.prog 9 #[v] W (MemoryAt W (layW l l.length)) := by
  obtain ⟨p, c', rfl⟩ := hv.len
  have Hv := hid hv
  have hl2 : l.length ≤ 320 := hl
  clear hv hl
  go_enter Tryd.func9, Tryd.ntmps9
  go_wp2_with fail
  refine (new_of 20 20 rfl (by omega) (by omega)).mono ?_; rintro e W1 ⟨m, b, rfl, hm, hb, hM, hg⟩
  have HM := hid hM
  have HG := hid hg
  have Hm := hid hm
  have Hb := hid hb
  clear hM hg hm hb
  go_wp2_with fail
  refine (rnew_of 20 20 rfl (by omega)).mono ?_; rintro e W2 ⟨m', b', rfl, hm', hb', hR, hg⟩
  have HM2 := hid (HM.out.kept0 hg)
  have HR2 : Hid (RefAt W2 m' b' 320 (List.replicate 320 0)) := hid hR
  have HG2 := hid (grown_trans HG.out hg)
  have N1 : Hid (m ≠ b') := hid (by have := HM.out.mlt; omega)
  have N2 : Hid (b ≠ b') := hid (by have := HM.out.blt; omega)
  have N3 : Hid (m' ≠ b) := hid (by have := HM.out.blt; omega)
  have Hb' := hid (Nat.le_trans HG.out.size hb')
  clear hR hg hm' hb' HM HG
  go_wp2
  go_loopw [7] (fun i wr => ∃ k : Nat, k ≤ l.length ∧ i = .int .i64 k ∧ Hid (MemAt wr m b 20 20 (layW l k)) ∧ Hid (RefAt wr m' b' 320 (layW l k)) ∧ Hid (W.grownBy wr none)) (fun i _ => l.length - (intOf i).toNat)
  case atStart => exact ⟨0, Nat.zero_le _, rfl, by rw [layW_zero]; exact HM2, by rw [layW_zero]; exact HR2, HG2⟩
  case round =>
    obtain ⟨k, hk, rfl, HMk, HRk, HGk⟩ := hrel
    by_cases hlt : k < l.length
    · have hlt2 : (k : Int) < (l.length : Int) := by omega
      have hk0 : (0 : Int) ≤ (k : Int) := by omega
      obtain ⟨y, Hy⟩ : ∃ y, Hid (l[k]? = some y) := ⟨_, hid (List.getElem?_eq_getElem hlt)⟩
      rcases Hv.out with ⟨_, rfl⟩ | ⟨bl, o, c2, he, hbl, hcl⟩
      · simp at hlt
      · have hp : p = some ⟨bl, o, none⟩ := by injection he
        have Hcl := hid (hcl k y Hy.out)
        have Hbl := hid hbl
        have hc1 := (grown_cell (p := ⟨bl, o + k, none⟩) HGk.out hbl (by simp)).trans (hcl k y Hy.out)
        clear he hcl hbl
        subst hp
        go_wp2_with fail
        refine (write_of HMk.out _ y k rfl (by omega)).mono ?_; rintro e W3 ⟨rfl, hM3, hg3⟩
        have HM3 := hid hM3
        have HR3 := hid (HRk.out.kept hg3 (by simpa using N3.out) (by simpa using N2.out.symm))
        have HG3 := hid (grown_new' (grown_trans (grown_none HGk.out) hg3) (fun q hq => by obtain rfl := Option.some.inj hq; exact Hb.out))
        clear hM3 hg3
        have hc3 := (grown_cell (p := ⟨bl, o + k, none⟩) HG3.out Hbl.out (by simp)).trans Hcl.out
        go_wp2_with fail
        refine (rwrite_yes HR3.out k y (by omega)).mono ?_; rintro e W4 ⟨rfl, hR4, hg4⟩
        have HR4 := hid hR4
        have HM4 := hid (HM3.out.kept hg4 (by simpa using N1.out) (by simpa using N2.out))
        have HG4 := hid (grown_new' (grown_trans (grown_none HG3.out) hg4) (fun q hq => by obtain rfl := Option.some.inj hq; exact Hb'.out))
        clear hR4 hg4
        go_wp2
        go_roundw
        case rel => exact ⟨k + 1, by omega, by go_num, by rw [layW_succ Hy.out (by omega)]; exact HM4, by rw [layW_succ Hy.out (by omega)]; exact HR4, HG4⟩
        case measure => simp [intOf]; omega
    · have hge : (l.length : Int) ≤ (k : Int) := by omega
      go_wp2
      go_ret2
      obtain rfl : k = l.length := by omega
      exact ⟨m, b, m', b', rfl, Hm.out, Hb.out, HMk.out, HRk.out, HGk.out⟩
end Go.Proofs.YthjbbkhnfemikaaDoor

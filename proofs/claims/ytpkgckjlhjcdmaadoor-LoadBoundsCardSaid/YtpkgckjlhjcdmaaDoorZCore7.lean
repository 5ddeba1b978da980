/- core's move: contracts. (Made by a program.) -/
import Derived.Test.YtpkgckjlhjcdmaaDoorZCore6
namespace Go.Proofs.YtpkgckjlhjcdmaaDoor
open Go.RowKit
theorem addr_wrap {R c : Int} (_ : 0 ≤ c) (_ : c ≤ 255) : IntKind.u32.wrap (R + IntKind.u32.wrap c) = (R + c) % 4294967296 := by
  rw [IntKind.wrap_u32, IntKind.wrap_u32]; omega
theorem u32_id {c : Int} (c0 : 0 ≤ c) (c1 : c ≤ 255) : IntKind.u32.wrap c = c := by rw [IntKind.wrap_u32]; omega
theorem addr_wrap2 (R c : Int) : IntKind.u32.wrap (R + c) = (R + c) % 4294967296 := by rw [IntKind.wrap_u32]
theorem MemAt.keptL {w w1 : World} {m b n c : Nat} {xs : List Int} {R : List Nat} (h : MemAt w m b n c xs) (hg : Lv w w1 R) (hm : m ∉ R) (hb : b ∉ R) : MemAt w1 m b n c xs := by
  obtain ⟨cur, hb', hs, ht⟩ := h.hb
  exact { h with hm := (hg.block _ h.mlt hm).trans h.hm, hb := ⟨cur, (hg.block _ h.blt hb).trans hb', hs, ht⟩ }
theorem Lv.afterR {w0 w w1 : World} {R : List Nat} {r : Option Nat} (h0 : w0.grownBy w r) (h : Lv w w1 R) (hR : ∀ i ∈ R, w0.heap.size ≤ i) : w0.grownBy w1 r :=
  ⟨h.os.trans h0.os, h.tape.trans h0.tape, h.output.trans h0.output, Nat.le_trans h0.size h.size, fun i hi hr => (h.block i (Nat.lt_of_lt_of_le hi h0.size) (fun e => by have := hR i e; omega)).trans (h0.block i hi hr)⟩
theorem mem_word {xs : List Int} {n : Nat} (hl : xs.length = n * 16) {root addr : Int} {user : Bool} (hb : atB xs n root addr false user = true) : ∃ k : Nat, atV xs n root addr false user = (k : Int) ∧ xs[k]? = some (rdV xs n root addr user) := by
  obtain ⟨k, hk, hk2⟩ := at_in hb
  refine ⟨k, hk, ?_⟩
  unfold rdV
  rw [if_pos hb]
  have hx : xs[k]? = some xs[k] := List.getElem?_eq_getElem (by omega)
  rw [wordI_get hx hk, hx]
section
variable {m bm n cap : Nat} {xs : List Int} {l : List Int} {pc : Int} {ie eie : Bool} {epc tv cc cd im ln c : Int} {W : World}
end
end Go.Proofs.YtpkgckjlhjcdmaaDoor

/- Zeros behind a row of numbers of a law's own: 'append(x, make([]uint32, k)...)'. -/
import Derived.Test.YtkkbhifplbleiaaGreatDoorZBTrapsP
import Derived.Lib.AppendZeros
import Derived.Lib.AppendZerosOnto
namespace Go.Proofs.YtkkbhifplbleiaaGreatDoor
open Go.RowKit
theorem zerosV_u32 (k : Nat) : (Builtin.zeroCells (Value.int .u32 0).cells k).toList = List.replicate k (Value.int .u32 0) := by
  rw [show (Value.int IntKind.u32 0).cells = #[Value.int IntKind.u32 0] from rfl]
  simp [Builtin.zeroCells]
  apply List.ext_getElem
  · simp
  · intro i h1 h2
    simp [Nat.mod_one]
theorem run_zeros_own {w : World} {base n k g cap : Nat} {xs : List Value} (hown : w.ownsRow base 25 1 (.slice (some ⟨g, 0, none⟩) n cap) n xs) (h0 : 0 < k) (hl : n + k ≤ 100000) (hbase : base ≤ w.heap.size) (ty : TypeId) :
    ∃ v' w', (Builtin.append_ #[24, 3] ty #[.slice (some ⟨g, 0, none⟩) n cap, .int .i64 (k : Int)]).run Tryz.prog w = .ok v' w' ∧ w'.ownsRow base 25 1 v' (n + k) (xs ++ List.replicate k (.int .u32 0)) ∧ w.grownBy w' (some g) := by
  obtain ⟨i, hi, hz0, hz1, hz2⟩ := u32_info
  have hlen : (xs ++ List.replicate k (Value.int .u32 0)).length = (n + k) * 1 := by rw [List.length_append, hown.1, List.length_replicate]; omega
  rcases hown.2 with ⟨h, _⟩ | ⟨g', cap', cur, he, hbg, hg, hnc, hcm, hcs, htake⟩
  · cases h
  · injection he with e1 _ e2
    injection e1 with e1
    injection e1 with e1
    subst e1 e2
    by_cases hroom : n + k ≤ cap
    · have hst := run_storeCells_at Tryz.prog g (n * 1) 25 (List.replicate k (Value.int .u32 0)) 0 cur w hg (by rw [List.length_replicate, hcs]; omega) (fun u hu => by rw [List.eq_of_mem_replicate hu]; rfl)
      simp only [Nat.add_zero, Nat.mul_one, List.length_replicate] at hst
      have hw : IntKind.i64.wrap (k : Int) = k := by rw [IntKind.wrap_i64]; omega
      have hneg : ¬ ((k : Int) < 0) := by omega
      have h48 : ¬ (281474976710656 < (k : Int) * 4) := by omega
      have hk : k ≠ 0 := by omega
      have hZ := zerosV_u32 k
      refine ⟨.slice (some ⟨g, 0, none⟩) (n + k) cap, w.setRow g (cur.toList.take n ++ List.replicate k (Value.int .u32 0) ++ cur.toList.drop (n + k)).toArray, ?_, ⟨hlen, .inr ⟨g, cap, _, rfl, hbg, setRow_heap w g cur _ _ _ hg, hroom, hcm, ?_, ?_⟩⟩, ⟨rfl, rfl, rfl, by simp, fun j _ hj => setRow_other w g j _ (fun e => hj (by simp [e]))⟩⟩
      · simp [Builtin.append_, run_underlying Tryz.underlying24, run_underlying Tryz.underlying3, sizeOf, typeInfo, zeroValue, hi, hz0, hz1, hz2, asInt, asIntOf, hw, hneg, h48, hk, hroom, hZ, Addr.add_lit, hst]
      · simp only [List.size_toArray, List.length_append, List.length_take, List.length_drop, Array.length_toList, List.length_replicate]
        omega
      · rw [Nat.mul_one] at htake
        rw [htake, Nat.mul_one, ← Nat.mul_one (n + k), ← hlen]
        exact List.take_left
    · have hfc := run_firstCells_some (P := Tryz.prog) w.drew i.size n ⟨g, 0, none⟩ n cap xs (by rw [hz1]; exact hown.1) (fun j u hu => hown.cells (g := g) rfl j u hu)
      have hr := Go.Lib.run_append_grow_zeros (P := Tryz.prog) w 24 3 ty 25 i (.int .u32 0) .i64 .i64 Tryz.underlying24 Tryz.underlying3 hi hz0 (some ⟨g, 0, none⟩) n cap xs hfc k h0 (by rw [hz1]; decide) (by omega) (by omega) (by rw [hz2]; omega) (by rw [hz2]; exact growslice_fits (by omega) (by omega))
      have hge := grownCap_ge w (n + k) cap 25
      have hcm2 : grownCap w (n + k) cap 25 ≤ maxLen := grownCap_le_maxLen w (n + k) cap _ (by unfold maxLen; omega)
      refine ⟨_, _, hr, ⟨hlen, .inr ⟨w.heap.size, _, _, rfl, hbase, heap_alloc_new w.drew _, hge, hcm2, ?_, ?_⟩⟩, ⟨rfl, rfl, rfl, by simp, fun j hj _ => heap_alloc_old w.drew _ hj⟩⟩
      · simp only [Array.size_append, List.size_toArray, size_zeroCells, hown.1]
        show _ + k * 1 + _ * 1 = _
        omega
      · simp only [Array.toList_append, List.append_assoc]
        rw [zerosV_u32 k, ← List.append_assoc, ← hlen]
        exact List.take_left
theorem grown_own {W w w1 : World} {e : TypeId} {size n : Nat} {v : Value} {l : List Value} (hg : W.grownBy w none) (ho : w.ownsRow W.heap.size e size v n l) (h : w.grownBy w1 v.ownBlock) : W.grownBy w1 none := by
  have hL : Lv W w1 v.ownBlock.toList := (Lv.of_none hg _).trans (Lv.of_row h)
  exact ⟨hL.os, hL.tape, hL.output, hL.size, fun i hi _ => hL.block i hi (fun hm => by have := (own_ge ho i (Option.mem_toList.1 hm)).1; omega)⟩
theorem cb_of {W w : World} {v : Value} {n : Nat} {l : List Int} {l' : List Value} (hg : W.grownBy w none) (ho : w.ownsRow W.heap.size 25 1 v n l') (hn : n = l.length) (hl : l' = l.map (Value.int .u32)) : CB2 W v l (.slice none 0 0) [] w := by
  subst hn hl
  exact ⟨hg, ho, World.ownsRow_nil _ _ _ _, fun _ _ => by simp [Value.ownBlock]⟩
theorem own_empty {W w : World} (hg : W.grownBy w none) : (w.alloc (.cells #[] 25)).ownsRow W.heap.size 25 1 (.slice (some ⟨w.heap.size, 0, none⟩) 0 0) 0 [] :=
  ⟨rfl, .inr ⟨w.heap.size, 0, #[], rfl, hg.size, heap_alloc_last w _, Nat.le_refl _, Nat.zero_le _, rfl, rfl⟩⟩
end Go.Proofs.YtkkbhifplbleiaaGreatDoor

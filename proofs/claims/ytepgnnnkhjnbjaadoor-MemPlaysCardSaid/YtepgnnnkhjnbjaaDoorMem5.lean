/- What package mem's call Clone does: contracts. -/
import Derived.Test.YtepgnnnkhjnbjaaDoorMem4
namespace Go.Proofs.YtepgnnnkhjnbjaaDoor
open Go.RowKit
section
variable {m b n c : Nat} {xs : List Int} {w : World}
def ClonedAt (w : World) (n : Nat) (xs : List Int) (e : Ending) (w' : World) : Prop :=
  ∃ v, e = .returned v ∧ w'.ownsRow w.heap.size 61 16 v n (xs.map (Value.int .u32)) ∧ w.grownBy w' none
theorem clone_frames (h : MemAt w m b n c xs) :
    Calls Tryd.prog 26 #[.slice (some ⟨b, 0, none⟩) n c] w (ClonedAt w n xs) := by
  obtain ⟨i, hi, hz0, hz1, hz2⟩ := info_parts (P := Tryd.prog) (e := 61) (z := .agg #[.int .u32 0, .int .u32 0, .int .u32 0, .int .u32 0, .int .u32 0, .int .u32 0, .int .u32 0, .int .u32 0, .int .u32 0, .int .u32 0, .int .u32 0, .int .u32 0, .int .u32 0, .int .u32 0, .int .u32 0, .int .u32 0]) (size := 16) (bytes := 64) (by kernel_rfl)
  have H := hid h
  have hnil := @Lib.run_eql_slice_nil Tryd.prog
  have Hi := hid hi
  have Hz0 := hid hz0
  have Hz1 := hid hz1
  have Hz2 := hid hz2
  have Hl : Hid ((xs.map (Value.int .u32)).length = n * 16) := hid (by simpa using h.len)
  have Hnew : Hid (∀ j u, (xs.map (Value.int .u32))[j]? = some u → (w.alloc (.cells #[] 61)).cell? ((⟨b, 0, none⟩ : Addr).add j) = some u) := hid (by
    intro j u hu
    simp only [List.getElem?_map, Option.map_eq_some_iff] at hu
    obtain ⟨x, hx, rfl⟩ := hu
    rw [Addr.add_mid, World.cell?_alloc_lt _ _ _ h.blt, Nat.zero_add]
    exact h.cell hx)
  have H1 : Hid (∀ v ∈ xs.map (Value.int .u32), v.oneCell' = true) := hid (by intro v hv; obtain ⟨x, _, rfl⟩ := List.mem_map.1 hv; rfl)
  have Hown : Hid ((w.alloc (.cells #[] 61)).ownsRow w.heap.size 61 16 (.slice (some ⟨w.heap.size, 0, none⟩) 0 0) 0 []) :=
    hid (World.ownsRow_lit w #[] 0 (Nat.le_refl _) (by unfold maxLen; omega) rfl)
  have h2 := h.n2
  have Hb : Hid ((0 + n) * 64 ≤ 140737488355328) := hid (by omega)
  have Hx : Hid (0 + n ≤ maxLen) := hid (by unfold maxLen; omega)
  have h1 := h.n1
  clear hi hz0 hz1 hz2 h
  go_enter Tryd.func26, Tryd.ntmps26
  go_wp2_with (refine wpList_append_own _ rfl _ _ 54 rfl w.heap.size 61 i _ 16 64 Tryd.underlying54 Hi.out Hz0.out Hz1.out Hz2.out rfl (by decide) (.slice (some ⟨w.heap.size, 0, none⟩) 0 0) 0 [] rfl Hown.out ⟨b, 0, none⟩ n _ (xs.map (Value.int .u32)) rfl Hl.out Hnew.out H1.out Hx.out Hb.out (by simp) ?_; intro v' w2 hown2 hgrow2 _; have HO := hid hown2; have HG := hid hgrow2; clear hown2 hgrow2)
  go_ret
  refine ⟨v', rfl, ?_, ?_⟩
  · have := HO.out; rwa [Nat.zero_add, List.nil_append] at this
  · exact grown_new' (grown_trans (World.grownBy_alloc _ _ _) HG.out) (fun k hk => by simp [Value.ownBlock] at hk; omega)
def CloneAt (w : World) (n : Nat) (xs : List Int) (e : Ending) (w' : World) : Prop :=
  ∃ m b c, e = .returned (.pointer (some ⟨m, 0, none⟩)) ∧ w.heap.size ≤ m ∧ w.heap.size ≤ b ∧ MemAt w' m b n c xs ∧ w.grownBy w' none
theorem mem_of_owned {base : Nat} {v : Value} (h : w.ownsRow base 61 16 v n (xs.map (Value.int .u32))) (h1 : 1 ≤ n) (h2 : n ≤ 1024) :
    ∃ b c, v = .slice (some ⟨b, 0, none⟩) n c ∧ base ≤ b ∧ MemAt (w.alloc (.cells #[v] 56)) w.heap.size b n c xs := by
  obtain ⟨hl, h⟩ := h
  rcases h with ⟨_, h0⟩ | ⟨b, c, cur, rfl, hb, hg, hnc, hcm, hs, ht⟩
  · omega
  · have hlt : b < w.heap.size := (Array.getElem?_eq_some_iff.1 hg).1
    refine ⟨b, c, rfl, hb, ⟨heap_alloc_new _ _, ⟨cur, (Below.heap_alloc _ _ _ hlt).trans hg, hs, fun k x hx => ?_⟩, by simpa using hl, hnc, hcm, h1, h2, by omega⟩⟩
    have hk : k < xs.length := (List.getElem?_eq_some_iff.1 hx).1
    have := congrArg (·[k]?) ht
    simp only [List.length_map] at hl
    simp only [List.getElem?_take, List.getElem?_map, hx] at this
    rw [if_pos (by omega)] at this
    simpa using this
theorem clone_any (h : MemAt w m b n c xs) : Calls Tryd.prog 10 #[.pointer (some ⟨m, 0, none⟩)] w (CloneAt w n xs) := by
  have hm := h.mcell
  have H := hid h
  clear h
  go_enter Tryd.func10, Tryd.ntmps10
  go_wp2_with (go_at_call 26; refine (clone_frames H.out).mono ?_; rintro e w' ⟨v, rfl, hown, hg⟩; obtain ⟨b', c', rfl, hb', hM⟩ := mem_of_owned hown H.out.n1 H.out.n2; have HM := hid hM; have HG := hid hg; have Hb := hid hb'; clear hown hg hM hb')
  go_ret
  exact ⟨_, b', c', rfl, HG.out.size, Hb.out, HM.out, grown_alloc HG.out _⟩
end
end Go.Proofs.YtepgnnnkhjnbjaaDoor

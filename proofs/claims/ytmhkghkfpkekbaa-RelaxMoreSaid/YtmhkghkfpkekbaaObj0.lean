/- Objects (package obj) in a world: slices of structs, an object as a value, an object in a block; what is known of them and how it is carried on. -/
import Derived.Test.YtmhkghkfpkekbaaObjP
import Derived.Test.YtmhkghkfpkekbaaErr1
import Derived.Test.YtmhkghkfpkekbaaCore0
import Derived.Test.YtmhkghkfpkekbaaIsa2
namespace Go.Proofs.Ytmhkghkfpkekbaa
open Go.RowKit
/-! ### cells in a slice -/
/-- the slice value v has n elements, whose cells are these -/
def CsAt (w : World) (v : Value) (n : Nat) (cs : List Value) : Prop :=
  ((∃ p c, v = .slice p 0 c) ∧ n = 0 ∧ cs = []) ∨
  ∃ b o c, v = .slice (some ⟨b, o, none⟩) n c ∧ n ≤ c ∧ b < w.heap.size ∧ ∀ j u, cs[j]? = some u → w.cell? ⟨b, o + j, none⟩ = some u
section
variable {w w1 : World} {v : Value} {n : Nat} {cs : List Value}
theorem CsAt.kept0 (h : CsAt w v n cs) (hg : w.grownBy w1 none) : CsAt w1 v n cs := by
  rcases h with h | ⟨b, o, c, rfl, hn, hb, hc⟩
  · exact .inl h
  · refine .inr ⟨b, o, c, rfl, hn, Nat.lt_of_lt_of_le hb hg.size, fun j x hx => ?_⟩
    rw [grown_cell hg hb (by simp)]
    exact hc j x hx
theorem CsAt.len (h : CsAt w v n cs) : ∃ p c, v = .slice p n c := by
  rcases h with ⟨⟨p, c, rfl⟩, rfl, rfl⟩ | ⟨b, o, c, rfl, _⟩
  · exact ⟨_, _, rfl⟩
  · exact ⟨_, _, rfl⟩
theorem CsAt.own {base : Nat} {t : TypeId} {size : Nat} (h : w.ownsRow base t size v n cs) : CsAt w v n cs := by
  obtain ⟨hl, h⟩ := h
  rcases h with ⟨rfl, h0⟩ | ⟨g, cap, cur, rfl, _, hg, hcl, _, _, ht⟩
  · subst h0
    exact .inl ⟨⟨_, _, rfl⟩, rfl, List.eq_nil_of_length_eq_zero (by omega)⟩
  · refine .inr ⟨g, 0, cap, rfl, hcl, (Array.getElem?_eq_some_iff.1 hg).1, fun j u hu => ?_⟩
    rw [cell_of_row w g _ _ t _ hg, Nat.zero_add]
    have := congrArg (·[j]?) ht
    simp only [List.getElem?_take, hu] at this
    have hj : j < cs.length := (List.getElem?_eq_some_iff.1 hu).1
    rw [hl] at hj
    rw [if_pos hj] at this
    simpa using this
theorem CsAt.at_ (h : CsAt w v n cs) (hn : 0 < n) : ∃ b o c, v = .slice (some ⟨b, o, none⟩) n c ∧ n ≤ c ∧ b < w.heap.size ∧ ∀ j u, cs[j]? = some u → w.cell? ⟨b, o + j, none⟩ = some u := by
  rcases h with ⟨_, h0, _⟩ | h
  · omega
  · exact h
theorem CsAt.toSl {k : IntKind} {xs : List Int} (h : CsAt w v xs.length (xs.map (Value.int k))) : SlAt w k v xs := by
  rcases h with ⟨⟨p, c, rfl⟩, h0, _⟩ | ⟨b, o, c, rfl, _, hb, hc⟩
  · exact .inl ⟨⟨_, _, rfl⟩, List.eq_nil_of_length_eq_zero h0⟩
  · exact .inr ⟨b, o, c, rfl, hb, fun j x hx => hc j _ (by rw [List.getElem?_map, hx]; rfl)⟩
theorem SlAt.at_ {k : IntKind} {xs : List Int} (h : SlAt w k v xs) (hn : 0 < xs.length) : ∃ b o c, v = .slice (some ⟨b, o, none⟩) xs.length c ∧ b < w.heap.size ∧ ∀ j x, xs[j]? = some x → w.cell? ⟨b, o + j, none⟩ = some (.int k x) := by
  rcases h with ⟨_, rfl⟩ | h
  · simp at hn
  · exact h
theorem SlAt.len' {k : IntKind} {ls : List Int} (h : SlAt w k v ls) : ∃ p c', v = .slice p ls.length c' := by
  rcases h with ⟨⟨p, c, rfl⟩, rfl⟩ | ⟨b, o, c, rfl, _⟩
  · exact ⟨_, _, rfl⟩
  · exact ⟨_, _, rfl⟩
end
/-! ### relocations and symbols -/
def rlC (r : Rl) : List Value := [.int .i64 r.a, .int .i64 r.k, .int .i64 r.s, .int .i64 r.d]
def syC (s : Sy) : List Value := [.string s.n, .int .i64 s.i, .int .i64 s.v, .bool s.g]
def rlsC : List Rl → List Value
  | [] => []
  | r :: l => rlC r ++ rlsC l
def sysC : List Sy → List Value
  | [] => []
  | r :: l => syC r ++ sysC l
theorem rlsC_length : ∀ l : List Rl, (rlsC l).length = l.length * 4
  | [] => rfl
  | s :: r => by rw [rlsC, List.length_append, rlsC_length r, List.length_cons]; simp [rlC]; omega
theorem sysC_length : ∀ l : List Sy, (sysC l).length = l.length * 4
  | [] => rfl
  | s :: r => by rw [sysC, List.length_append, sysC_length r, List.length_cons]; simp [syC]; omega
theorem rlsC_append : ∀ l m : List Rl, rlsC (l ++ m) = rlsC l ++ rlsC m
  | [], _ => rfl
  | s :: r, m => by rw [List.cons_append, rlsC, rlsC_append r m, rlsC, List.append_assoc]
theorem sysC_append : ∀ l m : List Sy, sysC (l ++ m) = sysC l ++ sysC m
  | [], _ => rfl
  | s :: r, m => by rw [List.cons_append, sysC, sysC_append r m, sysC, List.append_assoc]
theorem rlsC_get : ∀ (l : List Rl) (k j : Nat) (s : Rl), l[k]? = some s → j < 4 → (rlsC l)[k * 4 + j]? = (rlC s)[j]?
  | [], _, _, _, h, _ => by simp at h
  | x :: r, 0, j, s, h, hj => by
    obtain rfl : x = s := by simpa using h
    rw [rlsC, Nat.zero_mul, Nat.zero_add, List.getElem?_append_left (by simpa [rlC] using hj)]
  | x :: r, k + 1, j, s, h, hj => by
    have := rlsC_get r k j s (by simpa using h) hj
    rw [rlsC, List.getElem?_append_right (by simp [rlC]; omega)]
    rw [← this]
    congr 1
    simp [rlC]; omega
theorem sysC_get : ∀ (l : List Sy) (k j : Nat) (s : Sy), l[k]? = some s → j < 4 → (sysC l)[k * 4 + j]? = (syC s)[j]?
  | [], _, _, _, h, _ => by simp at h
  | x :: r, 0, j, s, h, hj => by
    obtain rfl : x = s := by simpa using h
    rw [sysC, Nat.zero_mul, Nat.zero_add, List.getElem?_append_left (by simpa [syC] using hj)]
  | x :: r, k + 1, j, s, h, hj => by
    have := sysC_get r k j s (by simpa using h) hj
    rw [sysC, List.getElem?_append_right (by simp [syC]; omega)]
    rw [← this]
    congr 1
    simp [syC]; omega
theorem rlsC_one (l : List Rl) : ∀ v ∈ rlsC l, v.oneCell' = true := by
  induction l with
  | nil => simp [rlsC]
  | cons s r ih =>
    intro v hv
    rw [rlsC, List.mem_append] at hv
    rcases hv with hv | hv
    · simp only [rlC, List.mem_cons, List.not_mem_nil, or_false] at hv
      rcases hv with rfl | rfl | rfl | rfl <;> rfl
    · exact ih v hv
theorem sysC_one (l : List Sy) : ∀ v ∈ sysC l, v.oneCell' = true := by
  induction l with
  | nil => simp [sysC]
  | cons s r ih =>
    intro v hv
    rw [sysC, List.mem_append] at hv
    rcases hv with hv | hv
    · simp only [syC, List.mem_cons, List.not_mem_nil, or_false] at hv
      rcases hv with rfl | rfl | rfl | rfl <;> rfl
    · exact ih v hv
abbrev RlAt (w : World) (v : Value) (l : List Rl) : Prop := CsAt w v l.length (rlsC l)
abbrev SyAt (w : World) (v : Value) (l : List Sy) : Prop := CsAt w v l.length (sysC l)
/-! ### objects -/
/-- the six slices of an object -/
structure OV where
  d : Value
  c : Value
  m : Value
  r : Value
  q : Value
  s : Value
def OV.cells (V : OV) : Array Value := #[V.d, V.c, V.m, V.r, V.q, V.s]
abbrev OV.agg (V : OV) : Value := .agg #[V.d, V.c, V.m, V.r, V.q, V.s]
/-- this value is this object -/
structure OAt (w : World) (V : OV) (x : PO) : Prop where
  d : SlAt w .u32 V.d x.D
  c : SlAt w .u32 V.c x.C
  m : SlAt w .u8 V.m x.M
  r : RlAt w V.r x.R
  q : RlAt w V.q x.Q
  s : SyAt w V.s x.S
theorem OAt.kept0 {w w1 : World} {V : OV} {x : PO} (h : OAt w V x) (hg : w.grownBy w1 none) : OAt w1 V x :=
  ⟨h.d.kept0 hg, h.c.kept0 hg, h.m.kept0 hg, h.r.kept0 hg, h.q.kept0 hg, h.s.kept0 hg⟩
/-- its numbers are as wide as they may be -/
structure OFit (x : PO) : Prop where
  d : ∀ n ∈ x.D, 0 ≤ n ∧ n < 4294967296
  c : ∀ n ∈ x.C, 0 ≤ n ∧ n < 4294967296
  m : ∀ n ∈ x.M, 0 ≤ n ∧ n < 256
  l : x.D.length ≤ maxLen ∧ x.C.length ≤ maxLen ∧ x.M.length ≤ maxLen ∧ x.R.length ≤ maxLen ∧ x.Q.length ≤ maxLen ∧ x.S.length ≤ maxLen
end Go.Proofs.Ytmhkghkfpkekbaa

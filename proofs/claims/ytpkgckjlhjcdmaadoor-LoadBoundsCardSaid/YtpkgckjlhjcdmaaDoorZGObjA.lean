/- Objects (package obj) as plain data: which may be, their bytes, what bytes are; no program is named here. -/
import Derived.Test.YtpkgckjlhjcdmaaDoorZGIsaA
import Derived.Test.YtpkgckjlhjcdmaaDoorZGErr
import Derived.Test.YtpkgckjlhjcdmaaDoorZGCore
namespace Go.Proofs.YtpkgckjlhjcdmaaDoor
/-- a relocation: where, its kind, its symbol, so many words more -/
structure Rl where
  a : Int
  k : Int
  s : Int
  d : Int
deriving DecidableEq
structure Sy where
  n : ByteArray
  i : Int
  v : Int
  g : Bool
deriving DecidableEq
structure PO where
  D : List Int
  C : List Int
  M : List Int
  R : List Rl
  Q : List Rl
  S : List Sy
deriving DecidableEq
def rl0 : Rl := ⟨0, 0, 0, 0⟩
def sy0 : Sy := ⟨⟨#[]⟩, 0, 0, false⟩
/-! ### which may be -/
def opW (w : Int) : Int := if insB (w / 16777216) (w / 65536 % 256) (w / 256 % 256) (w % 256) 0 = true then w / 16777216 else 0
def mapN (x : PO) (k : Nat) : Int := x.M.getD k 0
def opN (x : PO) (k : Nat) : Int := if mapN x k = 1 then opW (x.C.getD k 0) else 0
/-- the operation ahead of word k -/
def opB (x : PO) (k : Nat) : Int := if k = 0 then 0 else opN x (k - 1)
def brB (op : Int) : Bool := decide (op = 16 ∨ op = 17 ∨ op = 18)
def farB (op : Int) : Bool := decide (op = 19 ∨ op = 20 ∨ op = 21 ∨ op = 22)
def manyB (x : PO) : Bool := decide (2048 < x.D.length ∨ 2048 < x.C.length ∨ 1024 < x.R.length ∨ 1024 < x.Q.length ∨ 256 < x.S.length)
def firstF (x : PO) (k : Nat) : Option Nat :=
  if opN x k = 0 ∨ clsI (opN x k) = 4 then some 4
  else if twoB (opN x k) = true ∧ (k + 1 = x.C.length ∨ mapN x (k + 1) ≠ 0) then some 8 else none
def wordF (x : PO) (k : Nat) : Option Nat :=
  if mapN x k = 1 then firstF x k
  else if mapN x k = 0 then (if twoB (opB x k) = true then none else some 8)
  else if mapN x k = 2 then none else some 8
def symN (x : PO) (k : Nat) : Sy := x.S.getD k sy0
def standsB (x : PO) (s : Sy) : Bool :=
  if s.i = 1 then decide (0 ≤ s.v ∧ (s.v < x.D.length ∨ s.v < 1))
  else if s.i = 2 then decide (0 ≤ s.v ∧ s.v < x.C.length ∧ mapN x s.v.toNat = 1)
  else if s.i = 3 then decide (s.v = 0 ∧ s.g = true) else false
def twiceB (x : PO) (k : Nat) : Bool := (x.S.take k).any fun s => decide (s.n = (symN x k).n)
def symF (x : PO) (k : Nat) : Option Nat :=
  if (symN x k).n.size = 0 ∨ 32 < (symN x k).n.size then some 2
  else if twiceB x k = true then some 5 else if standsB x (symN x k) = true then none else some 2
def rlN (l : List Rl) (k : Nat) : Rl := l.getD k rl0
def inB (x : PO) (l : List Rl) (k : Nat) (n : Int) : Bool :=
  decide ((k = 0 ∨ (rlN l (k - 1)).a < (rlN l k).a) ∧ 0 ≤ (rlN l k).a ∧ (rlN l k).a < n ∧ 0 ≤ (rlN l k).s ∧ (rlN l k).s < x.S.length ∧ -65536 ≤ (rlN l k).d ∧ (rlN l k).d ≤ 65536)
def toB (x : PO) (r : Rl) : Bool := decide ((symN x r.s.toNat).i = 1)
def outB (x : PO) (r : Rl) : Bool := decide (r.d ≠ 0) && !toB x r
def dataF (x : PO) (k : Nat) : Option Nat :=
  if inB x x.R k x.D.length = false ∨ (rlN x.R k).k ≠ 1 then some 2
  else if outB x (rlN x.R k) = true then some 1 else none
def repB (x : PO) (r : Rl) : Bool :=
  if r.k = 2 then brB (opN x r.a.toNat) && !toB x r
  else if mapN x r.a.toNat = 2 then true
  else decide (opB x r.a.toNat = 14) || decide (opB x r.a.toNat = 15) || (farB (opB x r.a.toNat) && !toB x r)
def codeF (x : PO) (k : Nat) : Option Nat :=
  if inB x x.Q k x.C.length = false ∨ ((rlN x.Q k).k ≠ 1 ∧ (rlN x.Q k).k ≠ 2) then some 2
  else if repB x (rlN x.Q k) = false ∨ outB x (rlN x.Q k) = true then some 1 else none
def hasRB (x : PO) (k : Int) : Bool := x.Q.any fun r => decide (r.a = k)
def unrF (x : PO) (k : Nat) : Option Nat :=
  if (brB (opN x k) = true ∧ hasRB x k = false) ∨ ((opN x k = 15 ∨ farB (opN x k) = true) ∧ hasRB x (k + 1 : Nat) = false) then some 6 else none
/-- the first of n that is wrong -/
def scanP (f : Nat → Option Nat) : Nat → Option (Nat × Nat)
  | 0 => none
  | n + 1 => match scanP f n with
    | some y => some y
    | none => (f n).map fun c => (c, n)
abbrev Fl := Option (Nat × Option Nat)
def scanF (f : Nat → Option Nat) (n : Nat) (rest : Fl) : Fl :=
  match scanP f n with
  | some (c, k) => some (c, some k)
  | none => rest
def validP (x : PO) : Fl :=
  if manyB x = true then some (3, none) else if x.M.length ≠ x.C.length then some (8, none)
  else scanF (wordF x) x.C.length (scanF (symF x) x.S.length (scanF (dataF x) x.R.length (scanF (codeF x) x.Q.length (scanF (unrF x) x.C.length none))))
theorem scanP_none {f : Nat → Option Nat} : ∀ {n : Nat}, (∀ k, k < n → f k = none) → scanP f n = none
  | 0, _ => rfl
  | n + 1, h => by
    rw [scanP, scanP_none (fun k hk => h k (by omega)), h n (by omega)]
    rfl
theorem scanP_some {f : Nat → Option Nat} {c k : Nat} (hc : f k = some c) (h : ∀ j, j < k → f j = none) : ∀ {n : Nat}, k < n → scanP f n = some (c, k)
  | 0, hk => absurd hk (by omega)
  | n + 1, hk => by
    rw [scanP]
    by_cases e : k = n
    · subst e
      rw [scanP_none h, hc]
      rfl
    · rw [scanP_some hc h (by omega)]
theorem scanP_all {f : Nat → Option Nat} : ∀ {n : Nat}, scanP f n = none → ∀ k, k < n → f k = none
  | 0, _, k, hk => absurd hk (by omega)
  | n + 1, h, k, hk => by
    rw [scanP] at h
    cases hs : scanP f n with
    | some y => simp [hs] at h
    | none =>
      simp only [hs, Option.map_eq_none_iff] at h
      by_cases e : k = n
      · rw [e]; exact h
      · exact scanP_all hs k (by omega)
theorem scanF_none {f : Nat → Option Nat} {n : Nat} {r : Fl} (h : ∀ k, k < n → f k = none) : scanF f n r = r := by unfold scanF; rw [scanP_none h]
theorem scanF_some {f : Nat → Option Nat} {n c k : Nat} {r : Fl} (hc : f k = some c) (h : ∀ j, j < k → f j = none) (hk : k < n) : scanF f n r = some (c, some k) := by unfold scanF; rw [scanP_some hc h hk]
theorem scanF_ok {f : Nat → Option Nat} {n : Nat} {r : Fl} (h : scanF f n r = none) : (∀ k, k < n → f k = none) ∧ r = none := by
  unfold scanF at h
  cases hs : scanP f n with
  | some y => simp [hs] at h
  | none => rw [hs] at h; exact ⟨scanP_all hs, h⟩
/-- what is known of one that may be -/
structure OkP (x : PO) : Prop where
  many : manyB x = false
  len : x.M.length = x.C.length
  word : ∀ k, k < x.C.length → wordF x k = none
  sym : ∀ k, k < x.S.length → symF x k = none
  dat : ∀ k, k < x.R.length → dataF x k = none
  cod : ∀ k, k < x.Q.length → codeF x k = none
  unr : ∀ k, k < x.C.length → unrF x k = none
theorem valid_ok {x : PO} (h : validP x = none) : OkP x := by
  unfold validP at h
  by_cases h0 : manyB x = true
  · rw [if_pos h0] at h; cases h
  · rw [if_neg h0] at h
    by_cases h1 : x.M.length ≠ x.C.length
    · rw [if_pos h1] at h; cases h
    · rw [if_neg h1] at h
      obtain ⟨a, h⟩ := scanF_ok h
      obtain ⟨b, h⟩ := scanF_ok h
      obtain ⟨c, h⟩ := scanF_ok h
      obtain ⟨d, h⟩ := scanF_ok h
      obtain ⟨e, _⟩ := scanF_ok h
      exact ⟨by simpa using h0, by simpa using h1, a, b, c, d, e⟩
/-- the codes of what may be wrong -/
theorem code_of {x : PO} {c : Nat} {p : Option Nat} (h : validP x = some (c, p)) : c = 1 ∨ c = 2 ∨ c = 3 ∨ c = 4 ∨ c = 5 ∨ c = 6 ∨ c = 8 := by
  have step : ∀ {f : Nat → Option Nat} {n : Nat} {r : Fl}, scanF f n r = some (c, p) → (∃ k, f k = some c) ∨ r = some (c, p) := by
    intro f n r h
    unfold scanF at h
    cases hs : scanP f n with
    | none => rw [hs] at h; exact .inr h
    | some y =>
      obtain ⟨a, b⟩ := y
      rw [hs] at h
      obtain ⟨rfl, _⟩ : a = c ∧ some b = p := by simpa using h
      left
      clear h
      induction n with
      | zero => simp [scanP] at hs
      | succ n ih =>
        rw [scanP] at hs
        cases ht : scanP f n with
        | some y => rw [ht] at hs; simp only [Option.some.injEq] at hs; subst hs; exact ih ht
        | none =>
          rw [ht] at hs
          simp only [Option.map_eq_some_iff, Prod.mk.injEq] at hs
          obtain ⟨z, hz, rfl, _⟩ := hs
          exact ⟨_, hz⟩
  unfold validP at h
  split at h
  · simp at h; omega
  split at h
  · simp at h; omega
  rcases step h with ⟨k, hk⟩ | h
  · unfold wordF firstF at hk
    repeat' split at hk
    all_goals first | (cases hk; done) | (simp at hk; omega)
  rcases step h with ⟨k, hk⟩ | h
  · unfold symF at hk
    repeat' split at hk
    all_goals first | (cases hk; done) | (simp at hk; omega)
  rcases step h with ⟨k, hk⟩ | h
  · unfold dataF at hk
    repeat' split at hk
    all_goals first | (cases hk; done) | (simp at hk; omega)
  rcases step h with ⟨k, hk⟩ | h
  · unfold codeF at hk
    repeat' split at hk
    all_goals first | (cases hk; done) | (simp at hk; omega)
  rcases step h with ⟨k, hk⟩ | h
  · unfold unrF at hk
    repeat' split at hk
    all_goals first | (cases hk; done) | (simp at hk; omega)
  cases h
end Go.Proofs.YtpkgckjlhjcdmaaDoor
/- Objects (package obj) in a world: slices of structs, an object as a value, an object in a block; what is known of them and how it is carried on. -/
namespace Go.Proofs.YtpkgckjlhjcdmaaDoor
open Go.RowKit
/-! ### cells in a slice -/
/-- the slice value v has n elements, whose cells are these -/
def CsAt (w : World) (v : Value) (n : Nat) (cs : List Value) : Prop :=
  ((∃ p c, v = .slice p 0 c) ∧ n = 0 ∧ cs = []) ∨
  ∃ b o c, v = .slice (some ⟨b, o, none⟩) n c ∧ n ≤ c ∧ b < w.heap.size ∧ ∀ j u, cs[j]? = some u → w.cell? ⟨b, o + j, none⟩ = some u
section
variable {w w1 : World} {v : Value} {n : Nat} {cs : List Value}
theorem CsAt.kept0 (h : CsAt w v n cs) (hg : w.grownBy w1 none) : CsAt w1 v n cs := by
  rcases h with h | ⟨b, o, c, rfl, hn, hb, hc⟩
  · exact .inl h
  · refine .inr ⟨b, o, c, rfl, hn, Nat.lt_of_lt_of_le hb hg.size, fun j x hx => ?_⟩
    rw [grown_cell hg hb (by simp)]
    exact hc j x hx
theorem CsAt.len (h : CsAt w v n cs) : ∃ p c, v = .slice p n c := by
  rcases h with ⟨⟨p, c, rfl⟩, rfl, rfl⟩ | ⟨b, o, c, rfl, _⟩
  · exact ⟨_, _, rfl⟩
  · exact ⟨_, _, rfl⟩
theorem CsAt.own {base : Nat} {t : TypeId} {size : Nat} (h : w.ownsRow base t size v n cs) : CsAt w v n cs := by
  obtain ⟨hl, h⟩ := h
  rcases h with ⟨rfl, h0⟩ | ⟨g, cap, cur, rfl, _, hg, hcl, _, _, ht⟩
  · subst h0
    exact .inl ⟨⟨_, _, rfl⟩, rfl, List.eq_nil_of_length_eq_zero (by omega)⟩
  · refine .inr ⟨g, 0, cap, rfl, hcl, (Array.getElem?_eq_some_iff.1 hg).1, fun j u hu => ?_⟩
    rw [cell_of_row w g _ _ t _ hg, Nat.zero_add]
    have := congrArg (·[j]?) ht
    simp only [List.getElem?_take, hu] at this
    have hj : j < cs.length := (List.getElem?_eq_some_iff.1 hu).1
    rw [hl] at hj
    rw [if_pos hj] at this
    simpa using this
theorem CsAt.at_ (h : CsAt w v n cs) (hn : 0 < n) : ∃ b o c, v = .slice (some ⟨b, o, none⟩) n c ∧ n ≤ c ∧ b < w.heap.size ∧ ∀ j u, cs[j]? = some u → w.cell? ⟨b, o + j, none⟩ = some u := by
  rcases h with ⟨_, h0, _⟩ | h
  · omega
  · exact h
theorem CsAt.toSl {k : IntKind} {xs : List Int} (h : CsAt w v xs.length (xs.map (Value.int k))) : SlAt w k v xs := by
  rcases h with ⟨⟨p, c, rfl⟩, h0, _⟩ | ⟨b, o, c, rfl, _, hb, hc⟩
  · exact .inl ⟨⟨_, _, rfl⟩, List.eq_nil_of_length_eq_zero h0⟩
  · exact .inr ⟨b, o, c, rfl, hb, fun j x hx => hc j _ (by rw [List.getElem?_map, hx]; rfl)⟩
theorem SlAt.at_ {k : IntKind} {xs : List Int} (h : SlAt w k v xs) (hn : 0 < xs.length) : ∃ b o c, v = .slice (some ⟨b, o, none⟩) xs.length c ∧ b < w.heap.size ∧ ∀ j x, xs[j]? = some x → w.cell? ⟨b, o + j, none⟩ = some (.int k x) := by
  rcases h with ⟨_, rfl⟩ | h
  · simp at hn
  · exact h
theorem SlAt.len' {k : IntKind} {ls : List Int} (h : SlAt w k v ls) : ∃ p c', v = .slice p ls.length c' := by
  rcases h with ⟨⟨p, c, rfl⟩, rfl⟩ | ⟨b, o, c, rfl, _⟩
  · exact ⟨_, _, rfl⟩
  · exact ⟨_, _, rfl⟩
end
/-! ### relocations and symbols -/
def rlC (r : Rl) : List Value := [.int .i64 r.a, .int .i64 r.k, .int .i64 r.s, .int .i64 r.d]
def syC (s : Sy) : List Value := [.string s.n, .int .i64 s.i, .int .i64 s.v, .bool s.g]
def rlsC : List Rl → List Value
  | [] => []
  | r :: l => rlC r ++ rlsC l
def sysC : List Sy → List Value
  | [] => []
  | r :: l => syC r ++ sysC l
theorem rlsC_length : ∀ l : List Rl, (rlsC l).length = l.length * 4
  | [] => rfl
  | s :: r => by rw [rlsC, List.length_append, rlsC_length r, List.length_cons]; simp [rlC]; omega
theorem sysC_length : ∀ l : List Sy, (sysC l).length = l.length * 4
  | [] => rfl
  | s :: r => by rw [sysC, List.length_append, sysC_length r, List.length_cons]; simp [syC]; omega
theorem rlsC_append : ∀ l m : List Rl, rlsC (l ++ m) = rlsC l ++ rlsC m
  | [], _ => rfl
  | s :: r, m => by rw [List.cons_append, rlsC, rlsC_append r m, rlsC, List.append_assoc]
theorem sysC_append : ∀ l m : List Sy, sysC (l ++ m) = sysC l ++ sysC m
  | [], _ => rfl
  | s :: r, m => by rw [List.cons_append, sysC, sysC_append r m, sysC, List.append_assoc]
theorem rlsC_get : ∀ (l : List Rl) (k j : Nat) (s : Rl), l[k]? = some s → j < 4 → (rlsC l)[k * 4 + j]? = (rlC s)[j]?
  | [], _, _, _, h, _ => by simp at h
  | x :: r, 0, j, s, h, hj => by
    obtain rfl : x = s := by simpa using h
    rw [rlsC, Nat.zero_mul, Nat.zero_add, List.getElem?_append_left (by simpa [rlC] using hj)]
  | x :: r, k + 1, j, s, h, hj => by
    have := rlsC_get r k j s (by simpa using h) hj
    rw [rlsC, List.getElem?_append_right (by simp [rlC]; omega)]
    rw [← this]
    congr 1
    simp [rlC]; omega
theorem sysC_get : ∀ (l : List Sy) (k j : Nat) (s : Sy), l[k]? = some s → j < 4 → (sysC l)[k * 4 + j]? = (syC s)[j]?
  | [], _, _, _, h, _ => by simp at h
  | x :: r, 0, j, s, h, hj => by
    obtain rfl : x = s := by simpa using h
    rw [sysC, Nat.zero_mul, Nat.zero_add, List.getElem?_append_left (by simpa [syC] using hj)]
  | x :: r, k + 1, j, s, h, hj => by
    have := sysC_get r k j s (by simpa using h) hj
    rw [sysC, List.getElem?_append_right (by simp [syC]; omega)]
    rw [← this]
    congr 1
    simp [syC]; omega
theorem rlsC_one (l : List Rl) : ∀ v ∈ rlsC l, v.oneCell' = true := by
  induction l with
  | nil => simp [rlsC]
  | cons s r ih =>
    intro v hv
    rw [rlsC, List.mem_append] at hv
    rcases hv with hv | hv
    · simp only [rlC, List.mem_cons, List.not_mem_nil, or_false] at hv
      rcases hv with rfl | rfl | rfl | rfl <;> rfl
    · exact ih v hv
theorem sysC_one (l : List Sy) : ∀ v ∈ sysC l, v.oneCell' = true := by
  induction l with
  | nil => simp [sysC]
  | cons s r ih =>
    intro v hv
    rw [sysC, List.mem_append] at hv
    rcases hv with hv | hv
    · simp only [syC, List.mem_cons, List.not_mem_nil, or_false] at hv
      rcases hv with rfl | rfl | rfl | rfl <;> rfl
    · exact ih v hv
abbrev RlAt (w : World) (v : Value) (l : List Rl) : Prop := CsAt w v l.length (rlsC l)
abbrev SyAt (w : World) (v : Value) (l : List Sy) : Prop := CsAt w v l.length (sysC l)
/-! ### objects -/
/-- the six slices of an object -/
structure OV where
  d : Value
  c : Value
  m : Value
  r : Value
  q : Value
  s : Value
def OV.cells (V : OV) : Array Value := #[V.d, V.c, V.m, V.r, V.q, V.s]
abbrev OV.agg (V : OV) : Value := .agg #[V.d, V.c, V.m, V.r, V.q, V.s]
/-- this value is this object -/
structure OAt (w : World) (V : OV) (x : PO) : Prop where
  d : SlAt w .u32 V.d x.D
  c : SlAt w .u32 V.c x.C
  m : SlAt w .u8 V.m x.M
  r : RlAt w V.r x.R
  q : RlAt w V.q x.Q
  s : SyAt w V.s x.S
theorem OAt.kept0 {w w1 : World} {V : OV} {x : PO} (h : OAt w V x) (hg : w.grownBy w1 none) : OAt w1 V x :=
  ⟨h.d.kept0 hg, h.c.kept0 hg, h.m.kept0 hg, h.r.kept0 hg, h.q.kept0 hg, h.s.kept0 hg⟩
/-- its numbers are as wide as they may be -/
structure OFit (x : PO) : Prop where
  d : ∀ n ∈ x.D, 0 ≤ n ∧ n < 4294967296
  c : ∀ n ∈ x.C, 0 ≤ n ∧ n < 4294967296
  m : ∀ n ∈ x.M, 0 ≤ n ∧ n < 256
  l : x.D.length ≤ maxLen ∧ x.C.length ≤ maxLen ∧ x.M.length ≤ maxLen ∧ x.R.length ≤ maxLen ∧ x.Q.length ≤ maxLen ∧ x.S.length ≤ maxLen
theorem info_object : (Tryd.prog.info? 52).map (·.size) = some 6 := by kernel_rfl
theorem info_object' : (Tryd.prog.info? 238).map (·.size) = some 6 := by kernel_rfl
theorem info_rel : (Tryd.prog.info? 109).map (·.size) = some 4 := by kernel_rfl
theorem info_sym : (Tryd.prog.info? 107).map (·.size) = some 4 := by kernel_rfl
/-- nothing is wrong, or this error -/
def evV (A : Nat → Addr) : Option Nat → Value
  | none => .nilIface
  | some c => errV (A c)
/-- the errors of what is wrong lie in their variables -/
structure ErrC (w : World) (A : Nat → Addr) : Prop where
  c1 : w.cell? ⟨4, 0, none⟩ = some (errV (A 1))
  c2 : w.cell? ⟨1, 0, none⟩ = some (errV (A 2))
  c3 : w.cell? ⟨0, 0, none⟩ = some (errV (A 3))
  c4 : w.cell? ⟨6, 0, none⟩ = some (errV (A 4))
  c5 : w.cell? ⟨3, 0, none⟩ = some (errV (A 5))
  c6 : w.cell? ⟨2, 0, none⟩ = some (errV (A 6))
  c8 : w.cell? ⟨8, 0, none⟩ = some (errV (A 8))
theorem ErrC.kept0 {w w1 : World} {A : Nat → Addr} (h : ErrC w A) (hg : w.grownBy w1 none) : ErrC w1 A := by
  have k : ∀ {g : Nat} {v : Value}, w.cell? ⟨g, 0, none⟩ = some v → w1.cell? ⟨g, 0, none⟩ = some v := fun hc => by
    rw [grown_cell hg (World.block_lt_of_cell? w _ hc) (by simp)]; exact hc
  exact ⟨k h.c1, k h.c2, k h.c3, k h.c4, k h.c5, k h.c6, k h.c8⟩
theorem Sents.errc {w : World} {A : Nat → Addr} (h : Sents w A) : ErrC w A :=
  ⟨h.cell 1 _ rfl, h.cell 2 _ rfl, h.cell 3 _ rfl, h.cell 4 _ rfl, h.cell 5 _ rfl, h.cell 6 _ rfl, h.cell 8 _ rfl⟩
end Go.Proofs.YtpkgckjlhjcdmaaDoor

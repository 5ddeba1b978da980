/- The linker (package link) on plain data: objects joined, laid out, the image; no program is named here. -/
import Derived.Test.YtnpnafidhcnkhaaGreatDoorYOOwn0
import Derived.Test.YtnpnafidhcnkhaaGreatDoorYObj12
import Derived.MapKept
import Derived.Carry
import Derived.Laws.BitsAllLaws
import Derived.Deep.Cut
import Derived.Deep.RegionHeld3
import Derived.StillTailTactics
import Derived.Test.YtnpnafidhcnkhaaGreatDoorYIsa2
import Derived.Test.YtnpnafidhcnkhaaGreatDoorYBase
import Derived.Deep.Slices
import Derived.ChangeArms
import Derived.Laws.OwnMore
import Derived.OwnWalk
import Derived.Laws.MakeOwn
import Derived.Deep.RegionLaw
import Derived.Deep.CutRange
namespace Go.Proofs.YtnpnafidhcnkhaaGreatDoor
open Go.RowKit
/-! ### calls of the monitor -/
/-- a call begins at word k -/
def calB (x : PO) (k : Nat) : Bool := decide (k + 1 < min x.C.length x.M.length) && (decide (x.M.getD k 0 = 1) && (decide (x.M.getD (k + 1) 0 = 0) && (bkB (x.C.getD (k + 1) 0) && decide (opW (x.C.getD k 0) = 96))))
def calI (x : PO) (k : Int) : Bool := decide (0 ≤ k) && calB x k.toNat
def woW (x : PO) (k : Nat) : Int := if calB x k = true then 234881024 else x.C.getD k 0
def woQ (x : PO) (r : Rl) : Rl := if r.k = 1 ∧ calI x (r.a - 1) = true then ⟨r.a, 2, r.s, r.d⟩ else r
def woCn (x : PO) (n : Nat) : List Int := (List.range x.C.length).map fun k => if k < n then woW x k else x.C.getD k 0
def woQn (x : PO) (n : Nat) : List Rl := (x.Q.take n).map (woQ x) ++ x.Q.drop n
/-- without its calls -/
def woC (x : PO) : PO := ⟨x.D, woCn x x.C.length, x.M, x.R, woQn x x.Q.length, x.S⟩
theorem woCn_zero (x : PO) : woCn x 0 = x.C := by
  apply List.ext_getElem?
  intro k
  unfold woCn
  by_cases h : k < x.C.length
  · simp [h]
  · rw [List.getElem?_eq_none (by simpa using h), List.getElem?_eq_none (by omega)]
theorem woCn_length (x : PO) (n : Nat) : (woCn x n).length = x.C.length := by simp [woCn]
theorem woCn_get {x : PO} {n k : Nat} (h : k < x.C.length) : (woCn x n)[k]? = some (if k < n then woW x k else x.C.getD k 0) := by
  unfold woCn
  rw [List.getElem?_map, List.getElem?_range h]; rfl
theorem woCn_set {x : PO} {n : Nat} : (woCn x n).set n (woW x n) = woCn x (n + 1) := by
  apply List.ext_getElem?
  intro k
  by_cases h : k < x.C.length
  · rw [List.getElem?_set, woCn_get h, woCn_get h, woCn_length]
    by_cases e : n = k
    · subst e; simp [h]
    · rw [if_neg e]
      by_cases e2 : k < n
      · rw [if_pos e2, if_pos (by omega)]
      · rw [if_neg e2, if_neg (by omega)]
  · rw [List.getElem?_eq_none (by rw [List.length_set, woCn_length]; omega), List.getElem?_eq_none (by rw [woCn_length]; omega)]
theorem woCn_same {x : PO} {n : Nat} (h : calB x n = false) : woCn x (n + 1) = woCn x n := by
  rw [← woCn_set]
  apply List.ext_getElem?
  intro k
  by_cases hk : k < x.C.length
  · rw [List.getElem?_set, woCn_get hk, woCn_length]
    by_cases e : n = k
    · subst e; simp [hk, woW, h]
    · rw [if_neg e]
  · rw [List.getElem?_eq_none (by rw [List.length_set, woCn_length]; omega), List.getElem?_eq_none (by rw [woCn_length]; omega)]
theorem woQn_zero (x : PO) : woQn x 0 = x.Q := by simp [woQn]
theorem woQn_length (x : PO) (n : Nat) : (woQn x n).length = x.Q.length := by simp [woQn]; omega
theorem woQn_get {x : PO} {n k : Nat} {r : Rl} (h : x.Q[k]? = some r) : (woQn x n)[k]? = some (if k < n then woQ x r else r) := by
  have hk := (List.getElem?_eq_some_iff.1 h).1
  unfold woQn
  by_cases e : k < n
  · rw [List.getElem?_append_left (by simp; omega), List.getElem?_map, List.getElem?_take, if_pos e, h, if_pos e]; rfl
  · rw [List.getElem?_append_right (by simp; omega), if_neg e, List.length_map, List.length_take, List.getElem?_drop, ← h]
    congr 1; omega
theorem woQn_set {x : PO} {n : Nat} {r : Rl} (h : x.Q[n]? = some r) : (woQn x n).set n (woQ x r) = woQn x (n + 1) := by
  have hn := (List.getElem?_eq_some_iff.1 h).1
  apply List.ext_getElem?
  intro k
  by_cases hk : k < x.Q.length
  · obtain ⟨s, hs⟩ : ∃ s, x.Q[k]? = some s := ⟨_, List.getElem?_eq_getElem hk⟩
    rw [List.getElem?_set, woQn_get hs, woQn_get hs, woQn_length]
    by_cases e : n = k
    · subst e
      rw [h] at hs; cases hs
      simp [hk]
    · rw [if_neg e]
      by_cases e2 : k < n
      · rw [if_pos e2, if_pos (by omega)]
      · rw [if_neg e2, if_neg (by omega)]
  · rw [List.getElem?_eq_none (by rw [List.length_set, woQn_length]; omega), List.getElem?_eq_none (by rw [woQn_length]; omega)]
theorem woQn_same {x : PO} {n : Nat} {r : Rl} (h : x.Q[n]? = some r) (hc : woQ x r = r) : woQn x (n + 1) = woQn x n := by
  rw [← woQn_set h, hc]
  apply List.ext_getElem?
  intro k
  by_cases hk : k < x.Q.length
  · obtain ⟨s, hs⟩ : ∃ s, x.Q[k]? = some s := ⟨_, List.getElem?_eq_getElem hk⟩
    rw [List.getElem?_set, woQn_get hs, woQn_length]
    by_cases e : n = k
    · subst e; rw [h] at hs; cases hs; simp [hk]
    · rw [if_neg e]
  · rw [List.getElem?_eq_none (by rw [List.length_set, woQn_length]; omega), List.getElem?_eq_none (by rw [woQn_length]; omega)]
/-! ### objects joined -/
structure Sp where
  i : Int
  a : Int
deriving DecidableEq
abbrev Mp := List (ByteArray × Sp)
def lkp (M : Mp) (n : ByteArray) : Option Sp := (M.find? fun p => decide (p.1 = n)).map (·.2)
def lkD (M : Mp) (n : ByteArray) : Sp := (lkp M n).getD ⟨0, 0⟩
structure Pt where
  x : PO
  d : Nat
  c : Nat
def ptSp (p : Pt) (s : Sy) : Sp := if s.i = 1 then ⟨s.i, p.d + s.v⟩ else ⟨s.i, p.c + s.v⟩
def globB (s : Sy) : Bool := s.g && !decide (s.i = 3)
/-- these symbols among all, unless a name is there -/
def addS (p : Pt) : List Sy → Mp → Option Mp
  | [], M => some M
  | s :: r, M => if globB s = false then addS p r M else if (lkp M s.n).isSome = true then none else addS p r (M ++ [(s.n, ptSp p s)])
structure Jn where
  ps : List Pt
  d : Nat
  c : Nat
  M : Mp
def jn0 : Jn := ⟨[], 0, 0, []⟩
def jnAdd (J : Jn) (x : PO) : Fl ⊕ Jn :=
  match validP (woC x) with
  | some f => .inl (some f)
  | none => match addS ⟨x, J.d, J.c⟩ x.S J.M with
    | none => .inl (some (5, none))
    | some M => .inr ⟨J.ps ++ [⟨x, J.d, J.c⟩], J.d + x.D.length, J.c + x.C.length, M⟩
/-- what is wrong: its code, around which object's place, at which place there -/
abbrev Lf := Option (Nat × Option Nat × Option Nat)
def fault (k : Option Nat) : Fl → Lf
  | none => none
  | some (c, p) => some (c, k, p)
def jnRun : List PO → Jn → Lf × Jn
  | [], J => (none, J)
  | x :: r, J => match jnAdd J x with
    | .inl f => (fault (some J.ps.length) f, J)
    | .inr J' => jnRun r J'
def spOf (M : Mp) (p : Pt) (s : Sy) : Sp := if s.i = 3 then lkD M s.n else ptSp p s
def missB (M : Mp) (p : Pt) : Bool := p.x.S.any fun s => !(lkp M s.n).isSome && decide (s.i = 3)
def jumpB (x : PO) (r : Rl) : Bool := if r.k = 2 then true else if x.M.getD r.a.toNat 0 ≠ 0 then false else jmpB (opW (x.C.getD (r.a.toNat - 1) 0))
def leadB (M : Mp) (p : Pt) : Bool := p.x.Q.any fun r => decide ((symN p.x r.s.toNat).i = 3) && (decide ((spOf M p (symN p.x r.s.toNat)).i = 1) && jumpB p.x r)
def nmMainL : ByteArray := ⟨#[109, 97, 105, 110]⟩
def joinP (xs : List PO) : Lf × Jn :=
  if 16 < xs.length then (some (3, none, none), jn0)
  else match jnRun xs jn0 with
    | (some f, J) => (some f, J)
    | (none, J) =>
      match J.ps.findIdx? (missB J.M) with
      | some k => (some (6, some k, none), J)
      | none => match J.ps.findIdx? (leadB J.M) with
        | some k => (some (1, some k, none), J)
        | none => if (lkD J.M nmMainL).i = 2 then (none, J) else (some (6, none, none), J)
/-! ### all as one -/
structure Fx where
  a : Int
  k : Int
  t : Sp
  d : Int
def fxOf (M : Mp) (p : Pt) (b : Nat) (r : Rl) : Fx := ⟨b + r.a, r.k, spOf M p (symN p.x r.s.toNat), r.d⟩
structure Wh where
  D : List Int
  C : List Int
  K : List Int
  R : List Fx
  Q : List Fx
def wh0 : Wh := ⟨[], [], [], [], []⟩
def whAdd (M : Mp) (W : Wh) (p : Pt) : Wh := ⟨W.D ++ p.x.D, W.C ++ p.x.C, W.K ++ p.x.M, W.R ++ p.x.R.map (fxOf M p p.d), W.Q ++ p.x.Q.map (fxOf M p p.c)⟩
def whP (J : Jn) : Wh := J.ps.foldl (whAdd J.M) wh0
/-! ### laid out -/
/-- how many items begin among the first n words -/
def itN (K : List Int) (n : Nat) : Nat := ((K.take n).filter fun m => !decide (m = 0)).length
/-- the item of word k -/
def itOf (K : List Int) (k : Nat) : Nat := itN K (k + 1) - 1
/-- the items of the first n words -/
def itW (K : List Int) : Nat → List RIt
  | 0 => []
  | n + 1 => if K.getD n 0 = 0 then (itW K n).modify (itOf K n) (fun r => ⟨r.s + 1, r.t, r.b⟩) else itW K n ++ [⟨1, 0, false⟩]
def itBr (K : List Int) (I : List RIt) (r : Fx) : List RIt := if r.k = 2 then I.modify (itOf K r.a.toNat) (fun y => ⟨y.s, (itOf K r.t.a.toNat : Int), true⟩) else I
def itsP (W : Wh) : List RIt := W.Q.foldl (itBr W.K) (itW W.K W.C.length)
/-- where word k stands -/
def ldN (W : Wh) (L : List Bool) (k : Nat) : Int := if k < W.C.length then plR (itsP W) L (itOf W.K k) + (if W.K.getD k 0 = 0 then 1 else 0) else plR (itsP W) L (itsP W).length
def ldL (W : Wh) (L : List Bool) : List Int := (List.range (W.C.length + 1)).map (ldN W L)
/-! ### the image -/
structure Im where
  e : Int
  D : List Int
  C : List Int
  dr : List Int
  pl : List Int
  st : List Int
def adP (l : Nat → Int) (s : Sp) : Int := if s.i = 1 then s.a % 4294967296 else (2048 + l s.a.toNat) % 4294967296
def wdP (l : Nat → Int) (r : Fx) : Int := (adP l r.t + r.d) % 4294967296
/-- the jump for a branch -/
def lgW (w : Int) : Int := let o := opW w; let p := if o = 16 then 19 else if o = 17 then 20 else if o = 18 then 21 else o
  wordV p (if o = 0 then 0 else w / 65536 % 256) (if o = 0 then 0 else w / 256 % 256) 0 0
def fxD (l : Nat → Int) (I : Im) (r : Fx) : Im := ⟨I.e, I.D.set r.a.toNat (wdP l r), I.C, if r.t.i = 2 then I.dr ++ [r.a] else I.dr, I.pl, I.st⟩
def fxC (W : Wh) (l : Nat → Int) (I : Im) (r : Fx) : Im :=
  if r.k = 1 then ⟨I.e, I.D, I.C.set (l r.a.toNat).toNat (wdP l r), I.dr, if r.t.i = 2 then I.pl ++ [l r.a.toNat] else I.pl, I.st⟩
  else if l (r.a.toNat + 1) - l r.a.toNat = 2 then ⟨I.e, I.D, (I.C.set (l r.a.toNat).toNat (lgW (W.C.getD r.a.toNat 0))).set ((l r.a.toNat).toNat + 1) (wdP l r), I.dr, I.pl ++ [l r.a.toNat + 1], I.st⟩
  else ⟨I.e, I.D, I.C.set (l r.a.toNat).toNat (W.C.getD r.a.toNat 0 / 256 * 256 + (l r.t.a.toNat - l r.a.toNat) % 256), I.dr, I.pl, I.st⟩
/-- the code of the first n words, laid -/
def imC (W : Wh) (l : Nat → Int) : Nat → List Int
  | 0 => List.replicate (l W.C.length).toNat 0
  | n + 1 => (imC W l n).set (l n).toNat (W.C.getD n 0)
def imS (W : Wh) (l : Nat → Int) : Nat → List Int
  | 0 => []
  | n + 1 => if W.K.getD n 0 = 1 then imS W l n ++ [l n] else imS W l n
def imP (W : Wh) (M : Mp) (l : Nat → Int) : Im :=
  W.Q.foldl (fxC W l) (W.R.foldl (fxD l) ⟨adP l (lkD M nmMainL), W.D, imC W l W.C.length, [], [], imS W l W.C.length⟩)
end Go.Proofs.YtnpnafidhcnkhaaGreatDoor
namespace Go.Proofs.YtnpnafidhcnkhaaGreatDoor
open Go.RowKit
/-! ### lists of structs as cells -/
def csL {α : Type} (C : α → List Value) : List α → List Value
  | [] => []
  | a :: l => C a ++ csL C l
section
variable {α : Type} {C : α → List Value} {n : Nat}
theorem csL_append : ∀ l m : List α, csL C (l ++ m) = csL C l ++ csL C m
  | [], _ => rfl
  | s :: r, m => by rw [List.cons_append, csL, csL_append r m, csL, List.append_assoc]
theorem csL_one (a : α) : csL C [a] = C a := by simp [csL]
theorem csL_get (h : ∀ a, (C a).length = n) : ∀ (l : List α) (k j : Nat) (s : α), l[k]? = some s → j < n → (csL C l)[k * n + j]? = (C s)[j]?
  | [], _, _, _, e, _ => by simp at e
  | x :: r, 0, j, s, e, hj => by
    obtain rfl : x = s := by simpa using e
    rw [csL, Nat.zero_mul, Nat.zero_add, List.getElem?_append_left (by rw [h]; exact hj)]
  | x :: r, k + 1, j, s, e, hj => by
    have := csL_get h r k j s (by simpa using e) hj
    have hx := h x
    rw [csL, Nat.succ_mul, List.getElem?_append_right (by omega), ← this]
    congr 1
    omega
theorem csL_oneC (h : ∀ a, ∀ v ∈ C a, v.oneCell' = true) : ∀ l : List α, ∀ v ∈ csL C l, v.oneCell' = true
  | [], v, hv => by simp [csL] at hv
  | a :: l, v, hv => by
    rw [csL, List.mem_append] at hv
    rcases hv with hv | hv
    · exact h a v hv
    · exact csL_oneC h l v hv
end
/-! ### a map from names to spots -/
abbrev sptV (s : Sp) : Value := .agg #[.int .i64 s.i, .int .i64 s.a]
structure MpAt (w : World) (b : Nat) (M : Mp) : Prop where
  ex : ∃ es clock, w.heap[b]? = some (.map es clock) ∧ es.toList.map (fun e => (e.key, e.val)) = M.map (fun p => (Value.string p.1, sptV p.2))
section
variable {w w1 : World} {b : Nat} {M : Mp}
theorem MpAt.lt (h : MpAt w b M) : b < w.heap.size := by
  obtain ⟨es, clock, hb, _⟩ := h.ex
  exact (Array.getElem?_eq_some_iff.1 hb).1
theorem MpAt.kept {r : Option Nat} (h : MpAt w b M) (hg : w.grownBy w1 r) (hr : some b ≠ r) : MpAt w1 b M := by
  have hl := h.lt
  obtain ⟨es, clock, hb, he⟩ := h.ex
  exact ⟨es, clock, (hg.block _ hl hr).trans hb, he⟩
theorem MpAt.kept0 (h : MpAt w b M) (hg : w.grownBy w1 none) : MpAt w1 b M := h.kept hg (by simp)
theorem MpAt.alloc (h : MpAt w b M) (o : Obj) : MpAt (w.alloc o) b M := h.kept0 (World.grownBy_alloc _ _ _)
theorem MpAt.drew (h : MpAt w b M) : MpAt w.drew b M := ⟨h.ex⟩
theorem MpAt.setCell (h : MpAt w b M) {C k : Nat} {v : Value} (hC : b ≠ C) : MpAt (w.setCell ⟨C, k, none⟩ v) b M := by
  obtain ⟨es, clock, hb, he⟩ := h.ex
  exact ⟨es, clock, (heap_setCell_other _ _ _ _ hC).trans hb, he⟩
theorem mp_new (w : World) : MpAt (w.alloc (.map #[] 0)) w.heap.size [] := ⟨#[], 0, heap_alloc_last w _, rfl⟩
theorem lkp_cons (n : ByteArray) (p : ByteArray × Sp) (M : Mp) : lkp (p :: M) n = if p.1 = n then some p.2 else lkp M n := by
  unfold lkp
  by_cases h : p.1 = n
  · rw [List.find?_cons_of_pos (by simpa using h), if_pos h]; rfl
  · rw [List.find?_cons_of_neg (by simpa using h), if_neg h]
theorem findNow_mp (n : ByteArray) : ∀ (l : List MapEntry) (M : Mp) (i : Nat), l.map (fun e => (e.key, e.val)) = M.map (fun p => (Value.string p.1, sptV p.2)) →
    (lkp M n = none ∧ Instr.findNow .string (.string n) l i = some none) ∨ ∃ j s, lkp M n = some s ∧ Instr.findNow .string (.string n) l i = some (some (j, sptV s))
  | [], [], _, _ => .inl ⟨rfl, rfl⟩
  | [], p :: M, _, h => by simp at h
  | e :: l, [], _, h => by simp at h
  | e :: l, p :: M, i, h => by
    simp only [List.map_cons, List.cons.injEq, Prod.mk.injEq] at h
    obtain ⟨⟨hk, hv⟩, hr⟩ := h
    rw [lkp_cons]
    have hs : Instr.sameNow .string (.string n) e.key = some (n == p.1) := by rw [hk]; rfl
    by_cases hn : p.1 = n
    · have hb : (n == p.1) = true := (MapKept.bytes_beq _ _).2 hn.symm
      rw [if_pos hn]
      exact .inr ⟨i, p.2, rfl, by rw [Instr.findNow, hs, hb, hv]⟩
    · have hb : (n == p.1) = false := by
        cases hc : (n == p.1) with
        | false => rfl
        | true => exact absurd ((MapKept.bytes_beq _ _).1 hc).symm hn
      rw [if_neg hn, Instr.findNow, hs, hb]
      exact findNow_mp n l M (i + 1) hr
theorem zero_spot (w : World) : (zeroValue 83).run Tryz.prog w = .ok (.agg #[.int .i64 0, .int .i64 0]) w := by kernel_rfl
theorem lkD_none {n : ByteArray} (h : lkp M n = none) : lkD M n = ⟨0, 0⟩ := by unfold lkD; rw [h]; rfl
theorem lkD_some {n : ByteArray} {s : Sp} (h : lkp M n = some s) : lkD M n = s := by unfold lkD; rw [h]; rfl
theorem MpAt.look (h : MpAt w b M) (n : ByteArray) (c : Bool) : (Instr.lookup 76 (.map (some b)) (.string n) c).run Tryz.prog w = .ok (if c then .tuple #[sptV (lkD M n), .bool (lkp M n).isSome] else sptV (lkD M n)) w := by
  obtain ⟨es, clock, hb, he⟩ := h.ex
  have hc := @MapKept.run_checkKey Tryz.prog w 9 .string (.string n) Tryz.underlying9 trivial es.isEmpty 9999
  rcases findNow_mp n es.toList M 0 he with ⟨h1, h2⟩ | ⟨j, s, h1, h2⟩
  · have hf := MapKept.run_findKey (P := Tryz.prog) (w := w) Tryz.underlying9 h2
    rw [lkD_none h1, h1]
    simp [Instr.lookup, run_underlying Tryz.underlying76, MapKept.run_getObj_map hb, hc, hf, Result.andThen]
  · have hf := MapKept.run_findKey (P := Tryz.prog) (w := w) Tryz.underlying9 h2
    rw [lkD_some h1, h1]
    simp [Instr.lookup, run_underlying Tryz.underlying76, MapKept.run_getObj_map hb, hc, hf, Result.andThen]
theorem MpAt.look_ok (h : MpAt w b M) (n : ByteArray) {s : Sp} {t : Bool} (hs : lkD M n = s) (ht : (lkp M n).isSome = t) : (Instr.lookup 76 (.map (some b)) (.string n) true).run Tryz.prog w = .ok (.tuple #[sptV s, .bool t]) w := by
  rw [h.look n true, hs, ht]; rfl
theorem MpAt.look_of (h : MpAt w b M) (n : ByteArray) {s : Sp} (hs : lkD M n = s) : (Instr.lookup 76 (.map (some b)) (.string n) false).run Tryz.prog w = .ok (sptV s) w := by
  rw [h.look n false, hs]; rfl
theorem MpAt.put (h : MpAt w b M) {n : ByteArray} (hn : lkp M n = none) (s : Sp) :
    ∃ w', (Instr.mapUpdate 76 (.map (some b)) (.string n) (sptV s)).run Tryz.prog w = .ok () w' ∧ MpAt w' b (M ++ [(n, s)]) ∧ w.grownBy w' (some b) := by
  obtain ⟨es, clock, hb, he⟩ := h.ex
  have hc := @MapKept.run_checkKey Tryz.prog w 9 .string (.string n) Tryz.underlying9 trivial false 9999
  rcases findNow_mp n es.toList M 0 he with ⟨h1, h2⟩ | ⟨j, s, h1, h2⟩
  · have hf := MapKept.run_findKey (P := Tryz.prog) (w := w) Tryz.underlying9 h2
    have hs := MapKept.heap_set (o' := .map (es.push { key := .string n, val := sptV s, born := clock }) (clock + 1)) hb
    refine ⟨{ w with heap := w.heap.setIfInBounds b (.map (es.push { key := .string n, val := sptV s, born := clock }) (clock + 1)) }, ?_, ⟨_, _, hs.1, ?_⟩, ⟨rfl, rfl, rfl, by simp, fun i _ hi => hs.2 i (fun e => hi (by rw [e]))⟩⟩
    · simp [Instr.mapUpdate, run_underlying Tryz.underlying76, MapKept.run_getObj_map hb, hc, hf, MapKept.run_setObj_map _ hb, Result.andThen]
    · rw [Array.toList_push, List.map_append, he, List.map_append]; rfl
  · rw [h1] at hn; cases hn
end
theorem mp_make (w : World) : (Instr.makeMap 76 none).run Tryz.prog w = .ok (.map (some w.heap.size)) (w.alloc (.map #[] 0)) := rfl
/-! ### parts -/
structure Pv where
  V : OV
  p : Pt
def ptC (q : Pv) : List Value := [q.V.d, q.V.c, q.V.m, q.V.r, q.V.q, q.V.s, .int .i64 q.p.d, .int .i64 q.p.c]
theorem ptC_length (q : Pv) : (ptC q).length = 8 := rfl
abbrev ptsC (Q : List Pv) : List Value := csL ptC Q
/-- slices are one cell each -/
theorem OAt.cells {w : World} {V : OV} {x : PO} (h : OAt w V x) : ∃ p1 n1 c1 p2 n2 c2 p3 n3 c3 p4 n4 c4 p5 n5 c5 p6 n6 c6, V = ⟨.slice p1 n1 c1, .slice p2 n2 c2, .slice p3 n3 c3, .slice p4 n4 c4, .slice p5 n5 c5, .slice p6 n6 c6⟩ := by
  obtain ⟨d, c, m, r, q, s⟩ := V
  obtain ⟨p1, c1, rfl⟩ := h.d.len'
  obtain ⟨p2, c2, rfl⟩ := h.c.len'
  obtain ⟨p3, c3, rfl⟩ := h.m.len'
  obtain ⟨p4, c4, rfl⟩ := h.r.len
  obtain ⟨p5, c5, rfl⟩ := h.q.len
  obtain ⟨p6, c6, rfl⟩ := h.s.len
  exact ⟨_, _, _, _, _, _, _, _, _, _, _, _, _, _, _, _, _, _, rfl⟩
/-- what is joined so far: its struct, its map, its parts -/
structure JnAt (b0 : Nat) (w : World) (G B : Nat) (pv : Value) (Q : List Pv) (J : Jn) : Prop where
  row : RwAt w G 99 #[pv, .int .i64 J.d, .int .i64 J.c, .map (some B)]
  ps : w.ownsRow b0 121 8 pv Q.length (ptsC Q)
  mp : MpAt w B J.M
  eq : Q.map (·.p) = J.ps
  neB : G ≠ B
  nvG : pv.ownBlock ≠ some G
  nvB : pv.ownBlock ≠ some B
  geG : b0 ≤ G
  geB : b0 ≤ B
theorem JnAt.kept0 {b0 : Nat} {w w1 : World} {G B : Nat} {pv : Value} {Q : List Pv} {J : Jn} (h : JnAt b0 w G B pv Q J) (hg : w.grownBy w1 none) : JnAt b0 w1 G B pv Q J :=
  ⟨h.row.kept0 hg, h.ps.kept hg (by cases pv.ownBlock <;> simp), h.mp.kept0 hg, h.eq, h.neB, h.nvG, h.nvB, h.geG, h.geB⟩
/-- its struct and its map alone -/
structure MrAt (w : World) (G B : Nat) (pv : Value) (d c : Int) (M : Mp) : Prop where
  row : RwAt w G 99 #[pv, .int .i64 d, .int .i64 c, .map (some B)]
  mp : MpAt w B M
theorem MrAt.kept0 {w w1 : World} {G B : Nat} {pv : Value} {d c : Int} {M : Mp} (h : MrAt w G B pv d c M) (hg : w.grownBy w1 none) : MrAt w1 G B pv d c M := ⟨h.row.kept0 hg, h.mp.kept0 hg⟩
theorem JnAt.mr {b0 : Nat} {w : World} {G B : Nat} {pv : Value} {Q : List Pv} {J : Jn} (h : JnAt b0 w G B pv Q J) : MrAt w G B pv J.d J.c J.M := ⟨h.row, h.mp⟩
/-! ### what is wrong with objects -/
def LftAt (A : Nat → Addr) (w : World) (v : Value) : Lf → Prop
  | none => v = .nilIface
  | some (c, none, p) => FltAt A w v (some (c, p))
  | some (c, some k, p) => ∃ B u, v = atV B ∧ RwAt w B 91 #[.int .i64 k, u] ∧ FltAt A w u (some (c, p))
theorem LftAt.kept0 {A : Nat → Addr} {w w1 : World} {v : Value} {y : Lf} (h : LftAt A w v y) (hg : w.grownBy w1 none) : LftAt A w1 v y := by
  match y, h with
  | none, h => exact h
  | some (c, none, p), h => exact FltAt.kept0 (y := some (c, p)) h hg
  | some (c, some k, p), ⟨B, u, hv, hb, hf⟩ => exact ⟨B, u, hv, hb.kept0 hg, FltAt.kept0 (y := some (c, p)) hf hg⟩
theorem info_joined : (Tryz.prog.info? 99).map (·.size) = some 4 := by kernel_rfl
theorem info_part : (Tryz.prog.info? 121).map (·.size) = some 8 := by kernel_rfl
theorem info_spot : (Tryz.prog.info? 83).map (·.size) = some 2 := by kernel_rfl
end Go.Proofs.YtnpnafidhcnkhaaGreatDoor
namespace Go.Proofs.YtnpnafidhcnkhaaGreatDoor
/-- a line: its instruction, its label, its symbol, whether it is a table's word -/
structure Lx where
  o : Int
  a : Int
  b : Int
  c : Int
  m : Int
  nm : ByteArray
  sy : ByteArray
  t : Bool
deriving DecidableEq
def lxC (l : Lx) : List Value := [.int .i64 l.o, .int .i64 l.a, .int .i64 l.b, .int .i64 l.c, .int .u32 l.m, .string l.nm, .string l.sy, .bool l.t]
theorem lxC_length (l : Lx) : (lxC l).length = 8 := rfl
/-- where a name is among symbols; as many as there are, if it is not -/
def syIx (S : List Sy) (n : ByteArray) : Nat := S.findIdx fun s => decide (s.n = n)
def syS (S : List Sy) (n : ByteArray) : List Sy := if syIx S n < S.length then S else S ++ [⟨n, 3, 0, true⟩]
/-- with a name among the symbols, and a relocation by it -/
def relX (x : PO) (at_ : Nat) (k : Int) (n : ByteArray) : PO := if n = ByteArray.empty then x else ⟨x.D, x.C, x.M, x.R, x.Q ++ [⟨at_, k, syIx x.S n, 0⟩], syS x.S n⟩
def wrdX (x : PO) (ws ms : List Int) : PO := ⟨x.D, x.C ++ ws, x.M ++ ms, x.R, x.Q, x.S⟩
/-- an object, and a line more -/
def lxD (x : PO) (l : Lx) : PO :=
  if l.nm ≠ ByteArray.empty then ⟨x.D, x.C, x.M, x.R, x.Q, (syS x.S l.nm).set (syIx x.S l.nm) ⟨l.nm, 2, x.C.length, true⟩⟩
  else if l.t = true then wrdX (relX x x.C.length 1 l.sy) [l.m] [2]
  else if twoB l.o = true then wrdX (relX x (x.C.length + 1) 1 l.sy) [wordV l.o l.a l.b l.c l.m, l.m] [1, 0]
  else wrdX (relX x x.C.length 2 l.sy) [wordV l.o l.a l.b l.c l.m] [1]
def poX (D : List Int) : PO := ⟨D, [], [], [], [], []⟩
def objX (D : List Int) (ls : List Lx) : PO := ls.foldl lxD (poX D)
theorem objX_succ (D : List Int) {ls : List Lx} {k : Nat} {l : Lx} (h : ls[k]? = some l) : objX D (ls.take (k + 1)) = lxD (objX D (ls.take k)) l := by
  unfold objX
  rw [List.take_add_one, h, List.foldl_append]; rfl
theorem syIx_le (S : List Sy) (n : ByteArray) : syIx S n ≤ S.length := List.findIdx_le_length
theorem syS_length (S : List Sy) (n : ByteArray) : (syS S n).length ≤ S.length + 1 ∧ syIx S n < (syS S n).length ∧ S.length ≤ (syS S n).length := by
  have := syIx_le S n
  unfold syS
  split
  · omega
  · rw [List.length_append, List.length_singleton]; omega
theorem relX_is (x : PO) (a : Nat) (k : Int) (n : ByteArray) : (relX x a k n).D = x.D ∧ (relX x a k n).C = x.C ∧ (relX x a k n).M = x.M ∧ (relX x a k n).R = x.R ∧ (relX x a k n).Q.length ≤ x.Q.length + 1 ∧ (relX x a k n).S.length ≤ x.S.length + 1 := by
  unfold relX
  have := syS_length x.S n
  split
  · exact ⟨rfl, rfl, rfl, rfl, by omega, by omega⟩
  · exact ⟨rfl, rfl, rfl, rfl, by simp, by simp only; omega⟩
/-- what lines make: bounds -/
structure LxOk (n : Nat) (x : PO) : Prop where
  c : x.C.length ≤ 2 * n
  m : x.M.length = x.C.length
  r : x.R = []
  q : x.Q.length ≤ n
  s : x.S.length ≤ n
theorem lxD_ok {n : Nat} {x : PO} (h : LxOk n x) (l : Lx) : LxOk (n + 1) (lxD x l) := by
  have hs := syS_length x.S l.nm
  have hc := h.c
  have hm := h.m
  have hq := h.q
  have hS := h.s
  unfold lxD
  split
  · exact ⟨by simp only; omega, h.m, h.r, by simp only; omega, by simp only [List.length_set]; omega⟩
  · split
    · obtain ⟨_, e1, e2, e3, e4, e5⟩ := relX_is x x.C.length 1 l.sy
      exact ⟨by simp [wrdX, e1]; omega, by simp [wrdX, e1, e2, hm], by simp [wrdX, e3, h.r], by simp only [wrdX]; omega, by simp only [wrdX]; omega⟩
    · split
      · obtain ⟨_, e1, e2, e3, e4, e5⟩ := relX_is x (x.C.length + 1) 1 l.sy
        exact ⟨by simp [wrdX, e1]; omega, by simp [wrdX, e1, e2, hm], by simp [wrdX, e3, h.r], by simp only [wrdX]; omega, by simp only [wrdX]; omega⟩
      · obtain ⟨_, e1, e2, e3, e4, e5⟩ := relX_is x x.C.length 2 l.sy
        exact ⟨by simp [wrdX, e1]; omega, by simp [wrdX, e1, e2, hm], by simp [wrdX, e3, h.r], by simp only [wrdX]; omega, by simp only [wrdX]; omega⟩
theorem objX_ok (D : List Int) (ls : List Lx) : ∀ k, k ≤ ls.length → LxOk k (objX D (ls.take k))
  | 0, _ => ⟨Nat.le_refl 0, rfl, rfl, Nat.le_refl 0, Nat.le_refl 0⟩
  | k + 1, h => by
    rw [objX_succ D (List.getElem?_eq_getElem (show k < ls.length by omega))]
    exact lxD_ok (objX_ok D ls k (by omega)) _
end Go.Proofs.YtnpnafidhcnkhaaGreatDoor
namespace Go.Proofs.YtnpnafidhcnkhaaGreatDoor
theorem nat_andM (n : Nat) (h : n < 4294967296) : n &&& 2147483648 = if n < 2147483648 then 0 else 2147483648 := by
  apply Nat.eq_of_testBit_eq
  intro i
  rw [show 2147483648 = 2 ^ 31 from rfl, Nat.testBit_and, Nat.testBit_two_pow]
  split
  · rename_i h2
    by_cases e : 31 = i
    · subst e
      rw [Nat.testBit_lt_two_pow h2]; simp
    · simp [e]
  · rename_i h2
    rw [Nat.testBit_two_pow]
    by_cases e : 31 = i
    · subst e
      obtain ⟨z, rfl⟩ : ∃ z, n = 2 ^ 31 + z := ⟨n - 2 ^ 31, by omega⟩
      rw [Nat.testBit_two_pow_add_eq, Nat.testBit_lt_two_pow (by omega)]; rfl
    · simp [e]
theorem andM {y : Int} (h0 : 0 ≤ y) (h1 : y < 4294967296) : bits BinOp.and IntKind.u32 y 2147483648 = if y < 2147483648 then 0 else 2147483648 := by
  obtain ⟨n, rfl⟩ := Int.eq_ofNat_of_zero_le h0
  rw [show (2147483648 : Int) = ((2147483648 : Nat) : Int) from rfl, u32_and_nat n 2147483648 (by omega) (by omega), nat_andM n (by omega)]
  by_cases h : n < 2147483648
  · rw [if_pos h, if_pos (by omega)]; rfl
  · rw [if_neg h, if_neg (by omega)]
theorem low_and_not (z : Nat) (h : z < 2147483648) : (BitVec.ofNat 32 (2147483648 + z) &&& ~~~(BitVec.ofNat 32 2147483648)).toNat = z := by
  rw [BitVec.toNat_and, BitVec.toNat_not, BitVec.toNat_ofNat, BitVec.toNat_ofNat, show 2 ^ 32 - 1 - 2147483648 % 2 ^ 32 = 2 ^ 31 - 1 by decide, Nat.and_two_pow_sub_one_eq_mod]
  omega
theorem andnotM {y : Int} (h0 : 2147483648 ≤ y) (h1 : y < 4294967296) : bits BinOp.andNot IntKind.u32 y 2147483648 = y - 2147483648 := by
  obtain ⟨z, rfl⟩ : ∃ z : Nat, y = ((2147483648 + z : Nat) : Int) := ⟨(y - 2147483648).toNat, by omega⟩
  show IntKind.u32.wrap ((BitVec.ofInt 32 ((2147483648 + z : Nat) : Int) &&& ~~~BitVec.ofInt 32 ((2147483648 : Nat) : Int)).toNat : Int) = _
  rw [BitVec.ofInt_natCast, BitVec.ofInt_natCast, low_and_not z (by omega)]
  have e : (z : Int) % 2 ^ 32 = z := Int.emod_eq_of_lt (by omega) (by omega)
  simp only [IntKind.wrap, IntKind.bits, IntKind.signed, e]
  simp
  omega
end Go.Proofs.YtnpnafidhcnkhaaGreatDoor
namespace Go.Proofs.YtnpnafidhcnkhaaGreatDoor
open Go.RowKit
def natC (l : List Nat) : List Value := l.map fun (k : Nat) => Value.int .i64 (k : Int)
structure SRw (W w : World) (G : Nat) (V : OV) (x : PO) (v : Value) (k : Nat) : Prop where
  box : RwAt w G 41 #[V.d, V.c, V.m, V.r, V.q, V.s]
  g : W.grownBy w none
  own : w.ownsRow W.heap.size 3 1 v (stL x k).length (natC (stL x k))
  ne : v.ownBlock ≠ some G
theorem SRw.kept0 {W w w1 : World} {G : Nat} {V : OV} {x : PO} {v : Value} {k : Nat} (h : SRw W w G V x v k) (hg : w.grownBy w1 none) : SRw W w1 G V x v k := ⟨h.box.kept0 hg, grown_trans h.g hg, own_keep0 h.own hg, h.ne⟩
end Go.Proofs.YtnpnafidhcnkhaaGreatDoor
namespace Go.Proofs.YtnpnafidhcnkhaaGreatDoor
open Go.RowKit
/-- where the loop stands: behind j of the starts -/
structure SIw (W w : World) (G : Nat) (V : OV) (x : PO) (sv : Value) (l : List Nat) (v : Value) (j : Nat) : Prop where
  box : RwAt w G 41 #[V.d, V.c, V.m, V.r, V.q, V.s]
  g : W.grownBy w none
  st : CsAt w sv l.length (natC l)
  own : w.ownsRow W.heap.size 136 7 v (siL x (l.take j)).length (sisC x (siL x (l.take j)))
  ne : v.ownBlock ≠ some G ∧ (sv.ownBlock = none ∨ v.ownBlock ≠ sv.ownBlock)
theorem SIw.kept0 {W w w1 : World} {G : Nat} {V : OV} {x : PO} {sv v : Value} {l : List Nat} {j : Nat} (h : SIw W w G V x sv l v j) (hg : w.grownBy w1 none) : SIw W w1 G V x sv l v j := ⟨h.box.kept0 hg, grown_trans h.g hg, h.st.kept0 hg, own_keep0 h.own hg, h.ne⟩
theorem CsAt.kept {w w1 : World} {v : Value} {n : Nat} {cs : List Value} {r : Option Nat} (h : CsAt w v n cs) (hg : w.grownBy w1 r) (hr : v.ownBlock = none ∨ v.ownBlock ≠ r) : CsAt w1 v n cs := by
  rcases h with h | ⟨b, o, c, rfl, hn, hb, hc⟩
  · exact .inl h
  · refine .inr ⟨b, o, c, rfl, hn, Nat.lt_of_lt_of_le hb hg.size, fun j x hx => ?_⟩
    rw [grown_cell hg hb (by rcases hr with h | h; cases h; exact h)]
    exact hc j x hx
end Go.Proofs.YtnpnafidhcnkhaaGreatDoor
namespace Go.Proofs.YtnpnafidhcnkhaaGreatDoor
open Go.RowKit
theorem of_is (x imm : Int) (w : World) (h0 : 0 ≤ x) (h1 : x < 4294967296) : Calls Tryz.prog 73 #[.int .u32 x, .int .u32 imm] w fun e w' => e = .returned (ofV x imm) ∧ w.grownBy w' none := by
  cases h : insB (x / 16777216) (x / 65536 % 256) (x / 256 % 256) (x % 256) (wantImm (x / 16777216) imm)
  · exact (of_no x imm w h0 h1 h).mono fun e w' he => ⟨by rw [he.1]; unfold ofV; rw [h]; rfl, below_is_grown he.2⟩
  · exact (of_yes x imm w h0 h1 h).mono fun e w' he => ⟨by rw [he.1]; unfold ofV; rw [if_pos h], below_is_grown he.2⟩
theorem of_no_zero {x imm a b c d i : Int} {t : Bool} (h : ofV x imm = .tuple #[.agg #[.int .i64 a, .int .i64 b, .int .i64 c, .int .i64 d, .int .u32 i], .bool t]) (ht : t = false) : a = 0 := by
  subst ht
  unfold ofV at h
  split at h
  · simp only [Value.tuple.injEq, Array.mk.injEq, List.cons.injEq, Value.bool.injEq, and_true] at h
    exact absurd h.2 (by decide)
  · simp only [Value.tuple.injEq, Array.mk.injEq, List.cons.injEq, Value.agg.injEq, Value.int.injEq, and_true, true_and] at h
    exact h.1.symm
set_option maxRecDepth 100000 in
set_option maxHeartbeats 4000000 in
theorem wback_is (y : Int) (W : World) (h0 : 0 ≤ y) (h1 : y < 4294967296) : Calls Tryz.prog 121 #[.int .u32 y] W fun e w' => e = .returned (backV y) ∧ W.grownBy w' none := by
  have HR0 := hid (RwAt.new W 29 #[.int .i64 0, .int .i64 0, .int .i64 0, .int .i64 0, .int .u32 0])
  have HG0 := hid (World.grownBy_alloc W (.cells #[.int .i64 0, .int .i64 0, .int .i64 0, .int .i64 0, .int .u32 0] 29) none)
  have Hz := zero_ins9
  have Hb := build_ins0
  have hand := andM h0 h1
  have HY := hid (And.intro h0 h1)
  go_enter Tryz.func121, Tryz.ntmps121
  go_upto_region 1 with (fail)
  obtain ⟨R, hR⟩ : ∃ R, W.heap.size = R := ⟨_, rfl⟩
  have HRe := hid hR
  rw [hR] at HR0 ⊢
  clear hR
  generalize W.alloc (.cells #[.int .i64 0, .int .i64 0, .int .i64 0, .int .i64 0, .int .u32 0] 29) = w1 at HR0 HG0 ⊢
  by_cases hm : y < 2147483648
  · rw [if_pos hm] at hand
    have HM := hid hm
    have E := hid (HR0.out.row #[.int .i64 0, .int .i64 0, .int .i64 0, .int .i64 0, .int .u32 0])
    have EG := hid (grown_setRow HG0.out (Nat.le_of_eq HRe.out) #[.int .i64 0, .int .i64 0, .int .i64 0, .int .i64 0, .int .u32 0])
    have k0 := E.out.cell 0 (v := .int .i64 0) rfl
    have k1 := E.out.cell 1 (v := .int .i64 0) rfl
    have k2 := E.out.cell 2 (v := .int .i64 0) rfl
    have k3 := E.out.cell 3 (v := .int .i64 0) rfl
    have k4 := E.out.cell 4 (v := .int .u32 0) rfl
    go_wp2_with (first
      | (refine wpList_store_rw rfl 29 _ _ rfl rfl rfl HR0.out info_ins9 rfl (by simp [Value.oneCell']) ?_)
      | fail)
    refine bodyPost_ret (v := .tuple #[.agg #[.int .i64 0, .int .i64 0, .int .i64 0, .int .i64 0, .int .u32 0], .bool false]) (by simp [results, Tryz.results121, k0, k1, k2, k3, k4, go_sem]) rfl ?_
    exact ⟨by rw [back_low HM.out]; rfl, EG.out⟩
  · rw [if_neg hm] at hand
    have hm2 : 2147483648 ≤ y := by omega
    have hsub : 0 ≤ y - 2147483648 ∧ y - 2147483648 < 4294967296 := by omega
    have hnot := andnotM hm2 h1
    have HS := hid hsub
    obtain ⟨z, hz⟩ : ∃ z, y - 2147483648 = z := ⟨_, rfl⟩
    rw [hz] at HS hnot
    have z0 := HS.out.1
    have z1 := HS.out.2
    go_wp2_with fail
    refine (of_is z 0 _ z0 z1).mono ?_
    rintro e w2 ⟨rfl, hg⟩
    obtain ⟨a, b, c, d, i, t, hv⟩ := ofV_parts z 0
    have HBv := hid (back_leaf hz hm2 hv)
    have HV0 := hid hv
    rw [hv]
    have HR2 := hid (HR0.out.kept0 hg)
    have HG2 := hid (grown_trans HG0.out hg)
    have al := World.grownBy_alloc w2 (.cells #[.int .i64 a, .int .i64 b, .int .i64 c, .int .i64 d, .int .u32 i] 29) none
    have HX3 := hid (RwAt.new w2 29 #[.int .i64 a, .int .i64 b, .int .i64 c, .int .i64 d, .int .u32 i])
    have HR3 := hid (HR2.out.kept0 al)
    have HG3 := hid (grown_trans HG2.out al)
    clear hg hv al HR0 HG0 HR2 HG2
    go_upto_region 4 with (fail)
    obtain ⟨X, hX⟩ : ∃ X, w2.heap.size = X := ⟨_, rfl⟩
    rw [hX] at HX3 ⊢
    clear hX
    generalize w2.alloc (.cells #[.int .i64 a, .int .i64 b, .int .i64 c, .int .i64 d, .int .u32 i] 29) = w3 at HX3 HR3 HG3 ⊢
    have dr := grown_drew (grown_refl w3 none)
    have HR4 := hid (HR3.out.kept0 dr)
    have HG4 := hid (grown_trans HG3.out dr)
    have HX4 := hid (HX3.out.kept0 dr)
    have c0 := HX4.out.cell 0 (v := .int .i64 a) rfl
    have HQ1 : Hid (∀ W' : World, Calls Tryz.prog 77 #[] W' fun e w' => e = .returned (.agg #[]) ∧ W'.grownBy w' none) := hid (fun W' => (tables_any W').mono fun e w' h => ⟨h.1, h.2 ▸ World.grownBy_alloc W' _ none⟩)
    have HQ2 : Hid (∀ W' : World, Calls Tryz.prog 78 #[.agg #[], .int .i64 a] W' fun e w' => e = .returned (.int .i64 (clsI a)) ∧ W'.grownBy w' none) := hid (fun W' => (class_any a W').mono fun e w' h => ⟨h.1, h.2 ▸ World.grownBy_alloc W' _ none⟩)
    obtain ⟨cl, hcl⟩ : ∃ cl, clsI a = cl := ⟨_, rfl⟩
    rw [hcl] at HQ2 HBv
    clear dr HR3 HG3 HX3
    have HCl := hid hcl
    clear hcl
    go_region_held3 (fun W' => W'.cell? ⟨X, 0, none⟩ = some (.int .i64 a) ∧ w3.drew.grownBy W' none)
      (first | (with_reducible exact ⟨c0, grown_refl _ _⟩) | (go_split_ands; have hgr := grown_trans (w := w3.drew) (r := none) (by assumption) hcb; exact ⟨(HX4.out.kept0 hgr).cell 0 rfl, hgr⟩))
      (first
        | (go_split_ands; go_at_call 77; (with_reducible refine (HQ1.out _).mono ?_); rintro e w' ⟨rfl, hcb⟩)
        | (go_split_ands; go_at_call 78; (with_reducible refine (HQ2.out _).mono ?_); rintro e w' ⟨rfl, hcb⟩))
    go_split_ands
    rename_i hx0 hg8
    clear hcb
    have HR8 := hid (HR4.out.kept0 hg8)
    have HG8 := hid (grown_trans HG4.out hg8)
    have HX8 := hid (HX4.out.kept0 hg8)
    clear hx0 hg8 c0 HQ1 HQ2 HR4 HG4 HX4
    -- of what is no instruction the class is 0
    by_cases h2 : t = true ∧ cl = 2
    · obtain ⟨rfl, rfl⟩ := h2
      have E := hid (HR8.out.row #[.int .i64 a, .int .i64 b, .int .i64 c, .int .i64 d, .int .u32 i])
      have EG := hid (grown_setRow HG8.out (Nat.le_of_eq HRe.out) #[.int .i64 a, .int .i64 b, .int .i64 c, .int .i64 d, .int .u32 i])
      have k0 := E.out.cell 0 (v := .int .i64 a) rfl
      have k1 := E.out.cell 1 (v := .int .i64 b) rfl
      have k2 := E.out.cell 2 (v := .int .i64 c) rfl
      have k3 := E.out.cell 3 (v := .int .i64 d) rfl
      have k4 := E.out.cell 4 (v := .int .u32 i) rfl
      go_wp2_with (first
        | (refine wpList_load_rw rfl 29 _ rfl rfl HX8.out rfl Tryz.underlying29 info_ins9 ?_)
        | (refine wpList_store_rw rfl 29 _ _ rfl rfl rfl HR8.out info_ins9 rfl (by simp [Value.oneCell']) ?_)
        | fail)
      refine bodyPost_ret (v := .tuple #[.agg #[.int .i64 a, .int .i64 b, .int .i64 c, .int .i64 d, .int .u32 i], .bool true]) (by simp [results, Tryz.results121, k0, k1, k2, k3, k4, go_sem]) rfl ?_
      exact ⟨by rw [HBv.out]; rfl, EG.out⟩
    · by_cases h3 : t = true ∧ cl = 3
      · obtain ⟨rfl, rfl⟩ := h3
        have E := hid (HR8.out.row #[.int .i64 a, .int .i64 b, .int .i64 c, .int .i64 d, .int .u32 i])
        have EG := hid (grown_setRow HG8.out (Nat.le_of_eq HRe.out) #[.int .i64 a, .int .i64 b, .int .i64 c, .int .i64 d, .int .u32 i])
        have k0 := E.out.cell 0 (v := .int .i64 a) rfl
        have k1 := E.out.cell 1 (v := .int .i64 b) rfl
        have k2 := E.out.cell 2 (v := .int .i64 c) rfl
        have k3 := E.out.cell 3 (v := .int .i64 d) rfl
        have k4 := E.out.cell 4 (v := .int .u32 i) rfl
        go_wp2_with (first
          | (refine wpList_load_rw rfl 29 _ rfl rfl HX8.out rfl Tryz.underlying29 info_ins9 ?_)
          | (refine wpList_store_rw rfl 29 _ _ rfl rfl rfl HR8.out info_ins9 rfl (by simp [Value.oneCell']) ?_)
          | fail)
        refine bodyPost_ret (v := .tuple #[.agg #[.int .i64 a, .int .i64 b, .int .i64 c, .int .i64 d, .int .u32 i], .bool true]) (by simp [results, Tryz.results121, k0, k1, k2, k3, k4, go_sem]) rfl ?_
        exact ⟨by rw [HBv.out]; rfl, EG.out⟩
      · have hcl0 : t = false → cl = 0 := fun ht => by
          rw [← HCl.out, of_no_zero HV0.out ht]; rfl
        have hc2 : (cl == 2) = false := by
          simp only [beq_eq_false_iff_ne]
          intro e
          cases t with
          | true => exact h2 ⟨rfl, e⟩
          | false => have := hcl0 rfl; omega
        have hc3 : (cl == 3) = false := by
          simp only [beq_eq_false_iff_ne]
          intro e
          cases t with
          | true => exact h3 ⟨rfl, e⟩
          | false => have := hcl0 rfl; omega
        have HN : Hid (backL t cl a b c d i = noneV) := hid (by
          unfold backL
          rw [if_neg]
          simp only [beq_eq_false_iff_ne] at hc2 hc3
          simp [hc2, hc3])
        clear h2 h3 hcl0
        have E := hid (HR8.out.row #[.int .i64 0, .int .i64 0, .int .i64 0, .int .i64 0, .int .u32 0])
        have EG := hid (grown_setRow HG8.out (Nat.le_of_eq HRe.out) #[.int .i64 0, .int .i64 0, .int .i64 0, .int .i64 0, .int .u32 0])
        have k0 := E.out.cell 0 (v := .int .i64 0) rfl
        have k1 := E.out.cell 1 (v := .int .i64 0) rfl
        have k2 := E.out.cell 2 (v := .int .i64 0) rfl
        have k3 := E.out.cell 3 (v := .int .i64 0) rfl
        have k4 := E.out.cell 4 (v := .int .u32 0) rfl
        go_wp2_with (first
          | (refine wpList_store_rw rfl 29 _ _ rfl rfl rfl HR8.out info_ins9 rfl (by simp [Value.oneCell']) ?_)
          | fail)
        refine bodyPost_ret (v := .tuple #[.agg #[.int .i64 0, .int .i64 0, .int .i64 0, .int .i64 0, .int .u32 0], .bool false]) (by simp [results, Tryz.results121, k0, k1, k2, k3, k4, go_sem]) rfl ?_
        exact ⟨by rw [HBv.out, HN.out]; rfl, EG.out⟩
end Go.Proofs.YtnpnafidhcnkhaaGreatDoor
namespace Go.Proofs.YtnpnafidhcnkhaaGreatDoor
open Go.RowKit
theorem calI_neg {x : PO} {k : Int} (h : k < 0) : calI x k = false := by unfold calI; simp; omega
theorem calI_nat (x : PO) (k : Nat) : calI x (k : Int) = calB x k := by unfold calI; simp
theorem calB_far {x : PO} {k : Nat} (h : ¬ k + 1 < min x.C.length x.M.length) : calB x k = false := by unfold calB; rw [decide_eq_false h]; rfl
theorem calB_m1 {x : PO} {k : Nat} {y : Int} (hy : x.M[k]? = some y) (h : y ≠ 1) : calB x k = false := by
  unfold calB; rw [List.getD_eq_getElem?_getD, hy]; simp [h]
theorem calB_m2 {x : PO} {k : Nat} {y : Int} (hy : x.M[k + 1]? = some y) (h : y ≠ 0) : calB x k = false := by
  unfold calB; rw [List.getD_eq_getElem?_getD (i := k + 1), hy]; simp [h]
theorem calB_yes {x : PO} {k : Nat} {u v : Int} (hr : k + 1 < min x.C.length x.M.length) (h1 : x.M[k]? = some 1) (h2 : x.M[k + 1]? = some 0) (hu : x.C[k]? = some u) (hv : x.C[k + 1]? = some v) : calB x k = (bkB v && decide (opW u = 96)) := by
  unfold calB
  rw [decide_eq_true hr]
  simp [List.getD_eq_getElem?_getD, h1, h2, hu, hv]
theorem back_tuple (y : Int) : ∃ a b c d i : Int, backV y = .tuple #[.agg #[.int .i64 a, .int .i64 b, .int .i64 c, .int .i64 d, .int .u32 i], .bool (bkB y)] := by
  unfold backV
  cases h : bkB y
  · exact ⟨0, 0, 0, 0, 0, by rw [if_neg (by simp)]; rfl⟩
  · exact ⟨_, _, _, _, _, by rw [if_pos rfl]; rfl⟩
section
variable {w : World} {V : OV} {x : PO}
theorem iscall_neg (h : OAt w V x) (k : Int) (hk : k < 0) : Calls Tryz.prog 104 #[V.agg, .int .i64 k] w fun e w' => e = .returned (.bool false) ∧ w.grownBy w' none := by
  obtain ⟨d, c, m, r, q, s⟩ := V
  have HG := hid (World.grownBy_alloc w (.cells #[d, c, m, r, q, s] 41) none)
  clear h
  go_enter Tryz.func104, Tryz.ntmps104
  go_wp2
  go_ret
  exact ⟨rfl, HG.out⟩
set_option maxRecDepth 100000 in
theorem iscall_far (h : OAt w V x) (hf : OFit x) (k : Nat) (hk : ¬ k + 1 < min x.C.length x.M.length) : Calls Tryz.prog 104 #[V.agg, .int .i64 k] w fun e w' => e = .returned (.bool false) ∧ w.grownBy w' none := by
  obtain ⟨d, c, m, r, q, s⟩ := V
  have hlc : x.C.length ≤ 9223372036854775807 := hf.l.2.1
  have hlm : x.M.length ≤ 9223372036854775807 := hf.l.2.2.1
  have HG := hid (World.grownBy_alloc w (.cells #[d, c, m, r, q, s] 41) none)
  have HB := hid (RwAt.new w 41 #[d, c, m, r, q, s])
  have H := hid (h.kept0 HG.out)
  obtain ⟨cp, cc, hcv⟩ := h.c.len'
  obtain ⟨mp, mc, hmv⟩ := h.m.len'
  simp only at hcv hmv
  obtain ⟨n, hn⟩ : ∃ n, x.C.length = n := ⟨_, rfl⟩
  obtain ⟨l, hl⟩ : ∃ l, x.M.length = l := ⟨_, rfl⟩
  rw [hn] at hcv
  rw [hl] at hmv
  rw [hn, hl] at hk
  rw [hn] at hlc
  rw [hl] at hlm
  subst hcv; subst hmv
  obtain ⟨N, hN⟩ : ∃ N : Nat, min n l = N := ⟨_, rfl⟩
  have hmin : (if (l : Int) < (n : Int) then (l : Int) else (n : Int)) = (N : Int) := by split <;> omega
  have hmin2 : (if l < n then (l : Int) else (n : Int)) = (N : Int) := by split <;> omega
  obtain ⟨P, hP⟩ : ∃ P : Int, (N : Int) - 1 = P := ⟨_, rfl⟩
  have hP2 : wrap64 ((N : Int) - 1) = P := by rw [IntWalk.wrap64_in _ (by omega)]; exact hP
  have k0 : (0 : Int) ≤ (k : Int) := by omega
  have k1 : P ≤ (k : Int) := by omega
  clear h hk hN hP hlc hlm hn hl
  go_enter Tryz.func104, Tryz.ntmps104
  go_upto_region 1 with (fail)
  generalize w.alloc (.cells #[d, .slice cp n cc, .slice mp l mc, r, q, s] 41) = w1 at HG HB H ⊢
  have e1 := HB.out.cell 1 (v := .slice cp n cc) rfl
  have e2 := HB.out.cell 2 (v := .slice mp l mc) rfl
  go_wp2
  go_ret
  exact ⟨rfl, HG.out⟩
set_option maxRecDepth 100000 in
theorem iscall_m1 (h : OAt w V x) (hf : OFit x) (k : Nat) (hk : k + 1 < min x.C.length x.M.length) {y : Int} (hy : x.M[k]? = some y) (h1 : y ≠ 1) : Calls Tryz.prog 104 #[V.agg, .int .i64 k] w fun e w' => e = .returned (.bool false) ∧ w.grownBy w' none := by
  obtain ⟨d, c, m, r, q, s⟩ := V
  have hlc : x.C.length ≤ 9223372036854775807 := hf.l.2.1
  have hlm : x.M.length ≤ 9223372036854775807 := hf.l.2.2.1
  have HG := hid (World.grownBy_alloc w (.cells #[d, c, m, r, q, s] 41) none)
  have HB := hid (RwAt.new w 41 #[d, c, m, r, q, s])
  have H := hid (h.kept0 HG.out)
  obtain ⟨cp, cc, hcv⟩ := h.c.len'
  obtain ⟨b, o, mc, hmv, _, hcm⟩ := H.out.m.at_ (by omega)
  simp only at hcv hmv
  obtain ⟨n, hn⟩ : ∃ n, x.C.length = n := ⟨_, rfl⟩
  obtain ⟨l, hl⟩ : ∃ l, x.M.length = l := ⟨_, rfl⟩
  rw [hn] at hcv
  rw [hl] at hmv
  rw [hn, hl] at hk
  rw [hn] at hlc
  rw [hl] at hlm
  subst hcv; subst hmv
  obtain ⟨N, hN⟩ : ∃ N : Nat, min n l = N := ⟨_, rfl⟩
  have hmin : (if (l : Int) < (n : Int) then (l : Int) else (n : Int)) = (N : Int) := by split <;> omega
  have hmin2 : (if l < n then (l : Int) else (n : Int)) = (N : Int) := by split <;> omega
  obtain ⟨P, hP⟩ : ∃ P : Int, (N : Int) - 1 = P := ⟨_, rfl⟩
  have hP2 : wrap64 ((N : Int) - 1) = P := by rw [IntWalk.wrap64_in _ (by omega)]; exact hP
  have k0 : (0 : Int) ≤ (k : Int) := by omega
  have ek := hcm k y hy
  have hz : (y != 1) = true := by simpa using h1
  have k1 : (k : Int) < P := by omega
  have k2 : (k : Int) < (l : Int) := by omega
  clear h hk hN hP hlc hlm hn hl hcm hy h1
  go_enter Tryz.func104, Tryz.ntmps104
  go_upto_region 1 with (fail)
  generalize w.alloc (.cells #[d, .slice cp n cc, .slice (some ⟨b, o, none⟩) l mc, r, q, s] 41) = w1 at HG HB H ek ⊢
  have e1 := HB.out.cell 1 (v := .slice cp n cc) rfl
  have e2 := HB.out.cell 2 (v := .slice (some ⟨b, o, none⟩) l mc) rfl
  go_wp2
  go_ret
  exact ⟨rfl, HG.out⟩
set_option maxRecDepth 100000 in
theorem iscall_m2 (h : OAt w V x) (hf : OFit x) (k : Nat) (hk : k + 1 < min x.C.length x.M.length) {y : Int} (hy1 : x.M[k]? = some 1) (hy : x.M[k + 1]? = some y) (h1 : y ≠ 0) : Calls Tryz.prog 104 #[V.agg, .int .i64 k] w fun e w' => e = .returned (.bool false) ∧ w.grownBy w' none := by
  obtain ⟨d, c, m, r, q, s⟩ := V
  have hlc : x.C.length ≤ 9223372036854775807 := hf.l.2.1
  have hlm : x.M.length ≤ 9223372036854775807 := hf.l.2.2.1
  have HG := hid (World.grownBy_alloc w (.cells #[d, c, m, r, q, s] 41) none)
  have HB := hid (RwAt.new w 41 #[d, c, m, r, q, s])
  have H := hid (h.kept0 HG.out)
  obtain ⟨cp, cc, hcv⟩ := h.c.len'
  obtain ⟨b, o, mc, hmv, _, hcm⟩ := H.out.m.at_ (by omega)
  simp only at hcv hmv
  obtain ⟨n, hn⟩ : ∃ n, x.C.length = n := ⟨_, rfl⟩
  obtain ⟨l, hl⟩ : ∃ l, x.M.length = l := ⟨_, rfl⟩
  rw [hn] at hcv
  rw [hl] at hmv
  rw [hn, hl] at hk
  rw [hn] at hlc
  rw [hl] at hlm
  subst hcv; subst hmv
  obtain ⟨N, hN⟩ : ∃ N : Nat, min n l = N := ⟨_, rfl⟩
  have hmin : (if (l : Int) < (n : Int) then (l : Int) else (n : Int)) = (N : Int) := by split <;> omega
  have hmin2 : (if l < n then (l : Int) else (n : Int)) = (N : Int) := by split <;> omega
  obtain ⟨P, hP⟩ : ∃ P : Int, (N : Int) - 1 = P := ⟨_, rfl⟩
  have hP2 : wrap64 ((N : Int) - 1) = P := by rw [IntWalk.wrap64_in _ (by omega)]; exact hP
  have k0 : (0 : Int) ≤ (k : Int) := by omega
  obtain ⟨j, hj⟩ : ∃ j, k + 1 = j := ⟨_, rfl⟩
  have kj : (k : Int) + 1 = (j : Int) := by omega
  have j1 : (j : Int) ≤ 9223372036854775807 := by omega
  have j0 : (0 : Int) ≤ (j : Int) := by omega
  have j2 : (j : Int) < (l : Int) := by omega
  have k1 : (k : Int) < P := by omega
  have k2 : (k : Int) < (l : Int) := by omega
  rw [hj] at hy
  have ek := hcm k 1 hy1
  have ej := hcm j y hy
  have hz : (y != 0) = true := by simpa using h1
  clear h hk hN hP hlc hlm hn hl hcm hy hy1 h1 hj
  go_enter Tryz.func104, Tryz.ntmps104
  go_upto_region 1 with (fail)
  generalize w.alloc (.cells #[d, .slice cp n cc, .slice (some ⟨b, o, none⟩) l mc, r, q, s] 41) = w1 at HG HB H ek ej ⊢
  have e1 := HB.out.cell 1 (v := .slice cp n cc) rfl
  have e2 := HB.out.cell 2 (v := .slice (some ⟨b, o, none⟩) l mc) rfl
  go_wp2
  go_ret
  exact ⟨rfl, HG.out⟩
set_option maxRecDepth 100000 in
set_option maxHeartbeats 1000000 in
theorem iscall_in (h : OAt w V x) (hf : OFit x) (k : Nat) (hk : k + 1 < min x.C.length x.M.length) (hy1 : x.M[k]? = some 1) (hy2 : x.M[k + 1]? = some 0) : Calls Tryz.prog 104 #[V.agg, .int .i64 k] w fun e w' => e = .returned (.bool (calB x k)) ∧ w.grownBy w' none := by
  obtain ⟨d, c, m, r, q, s⟩ := V
  have hlc : x.C.length ≤ 9223372036854775807 := hf.l.2.1
  have hlm : x.M.length ≤ 9223372036854775807 := hf.l.2.2.1
  have HG := hid (World.grownBy_alloc w (.cells #[d, c, m, r, q, s] 41) none)
  have HB := hid (RwAt.new w 41 #[d, c, m, r, q, s])
  have H := hid (h.kept0 HG.out)
  obtain ⟨u, hu⟩ : ∃ u, x.C[k]? = some u := ⟨_, List.getElem?_eq_getElem (by omega)⟩
  obtain ⟨v, hv⟩ : ∃ v, x.C[k + 1]? = some v := ⟨_, List.getElem?_eq_getElem (by omega)⟩
  rw [calB_yes hk hy1 hy2 hu hv]
  have HU := hid (hf.c u (List.mem_of_getElem? hu))
  have HV := hid (hf.c v (List.mem_of_getElem? hv))
  obtain ⟨b, o, mc, hmv, _, hcm⟩ := H.out.m.at_ (by omega)
  obtain ⟨b2, o2, cc, hcv, hb2, hcc⟩ := H.out.c.at_ (by omega)
  simp only at hcv hmv
  obtain ⟨n, hn⟩ : ∃ n, x.C.length = n := ⟨_, rfl⟩
  obtain ⟨l, hl⟩ : ∃ l, x.M.length = l := ⟨_, rfl⟩
  rw [hn] at hcv
  rw [hl] at hmv
  rw [hn, hl] at hk
  rw [hn] at hlc
  rw [hl] at hlm
  subst hcv; subst hmv
  obtain ⟨N, hN⟩ : ∃ N : Nat, min n l = N := ⟨_, rfl⟩
  have hmin : (if (l : Int) < (n : Int) then (l : Int) else (n : Int)) = (N : Int) := by split <;> omega
  have hmin2 : (if l < n then (l : Int) else (n : Int)) = (N : Int) := by split <;> omega
  obtain ⟨P, hP⟩ : ∃ P : Int, (N : Int) - 1 = P := ⟨_, rfl⟩
  have hP2 : wrap64 ((N : Int) - 1) = P := by rw [IntWalk.wrap64_in _ (by omega)]; exact hP
  have k0 : (0 : Int) ≤ (k : Int) := by omega
  obtain ⟨j, hj⟩ : ∃ j, k + 1 = j := ⟨_, rfl⟩
  have kj : (k : Int) + 1 = (j : Int) := by omega
  have j1 : (j : Int) ≤ 9223372036854775807 := by omega
  have j0 : (0 : Int) ≤ (j : Int) := by omega
  have j2 : (j : Int) < (l : Int) := by omega
  have k1 : (k : Int) < P := by omega
  have k2 : (k : Int) < (l : Int) := by omega
  rw [hj] at hy2 hv
  have ek := hcm k 1 hy1
  have ej := hcm j 0 hy2
  have eu := hcc k u hu
  have ev := hcc j v hv
  have j3 : (j : Int) < (n : Int) := by omega
  have k3 : (k : Int) < (n : Int) := by omega
  have HEv := hid (And.intro hb2 ev)
  clear h hk hN hP hlc hlm hn hl hcm hcc hy2 hy1 hj hu hv ev hb2
  go_enter Tryz.func104, Tryz.ntmps104
  go_upto_region 1 with (fail)
  generalize w.alloc (.cells #[d, .slice (some ⟨b2, o2, none⟩) n cc, .slice (some ⟨b, o, none⟩) l mc, r, q, s] 41) = w1 at HG HB H ek ej eu HEv ⊢
  have e1 := HB.out.cell 1 (v := .slice (some ⟨b2, o2, none⟩) n cc) rfl
  have e2 := HB.out.cell 2 (v := .slice (some ⟨b, o, none⟩) l mc) rfl
  go_wp2_with fail
  refine (of_op u w1 HU.out).mono ?_
  rintro e w2 ⟨a', b', c', d', t', rfl, hg⟩
  have HG2 := hid (grown_trans HG.out hg)
  have HB2 := hid (HB.out.kept0 hg)
  have HEv2 : Hid (b2 < w2.heap.size ∧ w2.cell? ⟨b2, o2 + j, none⟩ = some (.int .u32 v)) := hid ⟨Nat.lt_of_lt_of_le HEv.out.1 hg.size, (grown_cell hg HEv.out.1 (by simp)).trans HEv.out.2⟩
  clear hg ek ej eu e1 e2 HB HG HEv H
  obtain ⟨p, Hp⟩ : ∃ p, Hid (opW u = p) := ⟨_, hid rfl⟩
  rw [Hp.out]
  have HI := hid (RwAt.new w2 29 (inC p a' b' c' d'))
  have hal := World.grownBy_alloc w2 (.cells (inC p a' b' c' d') 29) none
  have HB3 := hid (HB2.out.kept0 hal)
  have HG3 := hid (grown_trans HG2.out hal)
  have HEv3 : Hid (b2 < (w2.alloc (.cells (inC p a' b' c' d') 29)).heap.size ∧ (w2.alloc (.cells (inC p a' b' c' d') 29)).cell? ⟨b2, o2 + j, none⟩ = some (.int .u32 v)) := hid ⟨Nat.lt_of_lt_of_le HEv2.out.1 hal.size, (grown_cell hal HEv2.out.1 (by simp)).trans HEv2.out.2⟩
  clear hal
  have Hzi := zero_ins9
  go_upto_region 4 with (fail)
  unfold inC at HI HB3 HG3 HEv3
  obtain ⟨X, hX⟩ : ∃ X, w2.heap.size = X := ⟨_, rfl⟩
  rw [hX] at HI ⊢
  clear hX Hzi
  generalize w2.alloc (.cells #[.int .i64 p, .int .i64 a', .int .i64 b', .int .i64 c', .int .u32 d'] 29) = w3 at HI HB3 HG3 HEv3 ⊢
  have e1 := HB3.out.cell 1 (v := .slice (some ⟨b2, o2, none⟩) n cc) rfl
  have ev := HEv3.out.2
  go_wp2_with fail
  refine (wback_is v w3 HV.out.1 HV.out.2).mono ?_
  rintro e w4 ⟨rfl, hg⟩
  have HG4 := hid (grown_trans HG3.out hg)
  have HI4 := hid (HI.out.kept0 hg)
  clear hg e1 ev
  obtain ⟨a2, b22, c2, d2, i2, hbk⟩ := back_tuple v
  rw [hbk]
  clear hbk
  obtain ⟨bb, Hbb⟩ : ∃ bb, Hid (bkB v = bb) := ⟨_, hid rfl⟩
  rw [Hbb.out]
  have HG5 := hid (grown_trans HG4.out (World.grownBy_alloc w4 (.cells #[.int .i64 a2, .int .i64 b22, .int .i64 c2, .int .i64 d2, .int .u32 i2] 29) none))
  have HI5 := hid (HI4.out.alloc (.cells #[.int .i64 a2, .int .i64 b22, .int .i64 c2, .int .i64 d2, .int .u32 i2] 29))
  have Hzi := zero_ins9
  go_upto_region 5 with (fail)
  clear Hzi
  generalize w4.alloc (.cells #[.int .i64 a2, .int .i64 b22, .int .i64 c2, .int .i64 d2, .int .u32 i2] 29) = w5 at HG5 HI5 ⊢
  have x0 := HI5.out.cell 0 (v := .int .i64 p) rfl
  cases bb with
  | false =>
    go_wp2
    go_ret
    exact ⟨ret_b (by rw [Hbb.out]; rfl), HG5.out⟩
  | true =>
    go_wp2
    go_ret
    exact ⟨ret_b (by rw [Hbb.out, Hp.out, Bool.true_and, Bool.eq_iff_iff]; simp), HG5.out⟩
theorem iscall_any (h : OAt w V x) (hf : OFit x) (k : Int) : Calls Tryz.prog 104 #[V.agg, .int .i64 k] w fun e w' => e = .returned (.bool (calI x k)) ∧ w.grownBy w' none := by
  by_cases h0 : k < 0
  · rw [calI_neg h0]; exact iscall_neg h k h0
  · obtain ⟨n, rfl⟩ := Int.eq_ofNat_of_zero_le (by omega : (0 : Int) ≤ k)
    rw [calI_nat]
    by_cases h1 : n + 1 < min x.C.length x.M.length
    · obtain ⟨y, hy⟩ : ∃ y, x.M[n]? = some y := ⟨_, List.getElem?_eq_getElem (by omega)⟩
      obtain ⟨z, hz⟩ : ∃ z, x.M[n + 1]? = some z := ⟨_, List.getElem?_eq_getElem (by omega)⟩
      by_cases h2 : y = 1
      · subst h2
        by_cases h3 : z = 0
        · subst h3
          exact iscall_in h hf n h1 hy hz
        · rw [calB_m2 hz h3]; exact iscall_m2 h hf n h1 hy hz h3
      · rw [calB_m1 hy h2]; exact iscall_m1 h hf n h1 hy h2
    · rw [calB_far h1]; exact iscall_far h hf n h1
end
end Go.Proofs.YtnpnafidhcnkhaaGreatDoor
namespace Go.Proofs.YtnpnafidhcnkhaaGreatDoor
open Go.RowKit
theorem run_at_eq_nil (B : Nat) (w : World) : (binOp .eql 47 (atV B) .nilIface).run Tryz.prog w = .ok (.bool false) w := by
  have h : ∀ d : Nat, (Op.equalIn (d + 1) 47 (atV B) .nilIface).run Tryz.prog w = .ok false w := fun d => by simp [Op.equalIn, run_underlying Tryz.underlying47]
  simp only [binOp]
  simp [Op.equal, Op.maxDepth, h 9999]
theorem flt_is_e {A : Nat → Addr} {w : World} {v : Value} {y : Fl} (h : FltAt A w v y) (hy : y ≠ none) : ∃ t p, v = .iface t p ∧ (∀ W, (binOp .eql 47 (.iface t p) .nilIface).run Tryz.prog W = .ok (.bool false) W) ∧ ∀ W, (binOp .neq 47 (.iface t p) .nilIface).run Tryz.prog W = .ok (.bool true) W := by
  match y, h with
  | none, _ => exact absurd rfl hy
  | some (c, none), h => exact ⟨_, _, h, fun W => run_err_nil (A c) W, fun W => run_err_neq_nil (A c) W⟩
  | some (c, some p), ⟨B, hv, _⟩ => exact ⟨_, _, hv, fun W => run_at_eq_nil B W, fun W => run_at_neq_nil B W⟩
end Go.Proofs.YtnpnafidhcnkhaaGreatDoor
namespace Go.Proofs.YtnpnafidhcnkhaaGreatDoor
open Go.RowKit
/-- where the loop stands: the row of places in block g is filled in as far as j -/
structure PLw (W w : World) (gb : Nat) (x : PO) (sv : Value) (L N j : Nat) : Prop where
  g : W.grownBy w none
  st : CsAt w sv L (sisC x (siL x (stL x x.C.length)))
  own : w.ownsRow W.heap.size 3 1 (.slice (some ⟨gb, 0, none⟩) N N) N (fillP x N j)
  ne : sv.ownBlock = none ∨ sv.ownBlock ≠ some gb
  ge : W.heap.size ≤ gb
theorem PLw.step {W w : World} {g : Nat} {x : PO} {sv : Value} {L N j : Nat} (h : PLw W w g x sv L N j) (hj : j < N) : PLw W (w.setCell ⟨g, j, none⟩ (.int .i64 (plN x j : Int))) g x sv L N (j + 1) := by
  obtain ⟨h1, h2⟩ := h.own.stored j (.int .i64 (plN x j : Int))
  rw [fill_set x hj] at h1
  exact ⟨grown_new' (grown_trans (grown_none h.g) h2) (fun k hk => by obtain rfl := Option.some.inj hk; exact h.ge), h.st.kept h2 h.ne, h1, h.ne, h.ge⟩
end Go.Proofs.YtnpnafidhcnkhaaGreatDoor
namespace Go.Proofs.YtnpnafidhcnkhaaGreatDoor
open Go.RowKit
/-- two rows of the function's own: numbers, and bytes beside them -/
structure TwoR (W w : World) (vc : Value) (lc : List Int) (vm : Value) (lm : List Int) : Prop where
  c : w.ownsRow W.heap.size 27 1 vc lc.length (lc.map (Value.int .u32))
  m : w.ownsRow W.heap.size 5 1 vm lm.length (lm.map (Value.int .u8))
  g : W.grownBy w none
  ap : Ap vc vm
section
variable {W w w5 : World} {vc vm : Value} {lc lm : List Int}
theorem ap_other {u v : Value} (h : Ap u v) : v.ownBlock = none ∨ v.ownBlock ≠ u.ownBlock := by
  rcases h with h | h
  · rw [h]
    cases v.ownBlock with
    | none => exact .inl rfl
    | some k => exact .inr (by simp)
  · exact .inr (fun e => h e.symm)
theorem TwoR.kept0 (h : TwoR W w vc lc vm lm) (hg : w.grownBy w5 none) : TwoR W w5 vc lc vm lm := ⟨own_keep0 h.c hg, own_keep0 h.m hg, grown_trans h.g hg, h.ap⟩
theorem TwoR.base {W0 : World} (h : TwoR W w vc lc vm lm) (hg : W0.grownBy W none) : TwoR W0 w vc lc vm lm := ⟨own_base h.c hg.size, own_base h.m hg.size, grown_trans hg h.g, h.ap⟩
theorem TwoR.addC (h : TwoR W w vc lc vm lm) {g cap k : Nat} (ys : List Int) (hk : ys.length = k) (hg : w.grownBy w5 vc.ownBlock) (hat : vc.ownBlock = some g ∨ g = w.heap.size)
    (ho : w5.ownsRow W.heap.size 27 1 (.slice (some ⟨g, 0, none⟩) (lc.length + k) cap) (lc.length + k) (lc.map (Value.int .u32) ++ ys.map (Value.int .u32))) :
    TwoR W w5 (.slice (some ⟨g, 0, none⟩) (lc.length + k) cap) (lc ++ ys) vm lm := by
  subst hk
  refine ⟨?_, h.m.kept hg (ap_other h.ap), grown_new' (grown_trans (grown_none h.g) hg) (fun j hj => (h.c.lt j hj).1), ?_⟩
  · rw [List.length_append, List.map_append]; exact ho
  · right
    rcases hat with e | e
    · rcases h.ap with f | f
      · rw [f] at e; cases e
      · exact fun e2 => f (e.trans e2)
    · intro e2
      have := (h.m.lt g e2.symm).2
      omega
theorem TwoR.addM (h : TwoR W w vc lc vm lm) {g cap k : Nat} (ys : List Int) (hk : ys.length = k) (hg : w.grownBy w5 vm.ownBlock) (hat : vm.ownBlock = some g ∨ g = w.heap.size)
    (ho : w5.ownsRow W.heap.size 5 1 (.slice (some ⟨g, 0, none⟩) (lm.length + k) cap) (lm.length + k) (lm.map (Value.int .u8) ++ ys.map (Value.int .u8))) :
    TwoR W w5 vc lc (.slice (some ⟨g, 0, none⟩) (lm.length + k) cap) (lm ++ ys) := by
  subst hk
  have e0 : ∀ j, vc.ownBlock = some j → vc.ownBlock ≠ vm.ownBlock := fun j hj e => by rcases h.ap with f | f; (rw [hj] at f; cases f); exact f e
  refine ⟨h.c.kept hg h.ap, ?_, grown_new' (grown_trans (grown_none h.g) hg) (fun j hj => (h.m.lt j hj).1), ?_⟩
  · rw [List.length_append, List.map_append]; exact ho
  · cases hc : vc.ownBlock with
    | none => exact .inl hc
    | some j =>
      right
      rw [hc]
      rcases hat with e | e
      · intro e2
        exact e0 j hc (by rw [hc, e2, e]; rfl)
      · intro e2
        have := (h.c.lt j hc).2
        have e3 : j = g := Option.some.inj e2
        omega
end
end Go.Proofs.YtnpnafidhcnkhaaGreatDoor

/- The nine objects of ObjWrong, as plain data: what is wrong with each. -/
import Derived.Test.YtgahbpfmiibpeaaGreatDoorZObjQ
import Derived.Test.YtgahbpfmiibpeaaGreatDoorZOBent0
import Derived.Test.YtgahbpfmiibpeaaGreatDoorZObjS
namespace Go.Proofs.YtgahbpfmiibpeaaGreatDoor
/-- behind so many lines, way i -/
def wrP (a i : Nat) : PO :=
  match i with
  | 0 => { objK a (a + 2) with C := (objK a (a + 2)).C ++ [0], M := (objK a (a + 2)).M ++ [1] }
  | 1 => { objK a (a + 2) with C := (objK a (a + 2)).C ++ [1610612736, 1], M := (objK a (a + 2)).M ++ [1, 0] }
  | 2 => { objK a (a + 2) with C := (objK a (a + 2)).C ++ [5], M := (objK a (a + 2)).M ++ [0] }
  | 3 => { objK a (a + 2) with C := (objK a (a + 2)).C ++ [234881024], M := (objK a (a + 2)).M ++ [1] }
  | 4 => { objK a (a + 2) with C := (objK a (a + 2)).C ++ [5] }
  | 5 => { objK a (a + 2) with S := (objK a (a + 2)).S ++ [⟨nmMain, 2, a, true⟩] }
  | 6 => { objK a (a + 2) with C := (objK a (a + 2)).C ++ [268435456], M := (objK a (a + 2)).M ++ [1] }
  | 7 => { objK a (a + 2) with R := [⟨1, 1, 0, 0⟩, ⟨1, 1, 0, 0⟩] }
  | _ => { objK a (a + 2) with Q := [⟨a, 2, 0, 0⟩] }
def wrF (a i : Nat) : Fl :=
  match i with
  | 0 => some (4, some (a + 1))
  | 1 => some (4, some (a + 1))
  | 2 => some (8, some (a + 1))
  | 3 => some (8, some (a + 1))
  | 4 => some (8, none)
  | 5 => some (5, some 1)
  | 6 => some (6, some (a + 1))
  | 7 => some (2, some 1)
  | _ => some (1, some 0)
theorem wr_all : ∀ a, a < 20 → ∀ i, i < 9 → validP (wrP a i) = wrF a i := by decide +kernel
theorem wr_code (a i : Nat) : ∀ c p, wrF a i = some (c, p) → c < 16 := by
  intro c p h
  unfold wrF at h
  split at h <;> (obtain ⟨rfl, -⟩ := Prod.mk.inj (Option.some.inj h); decide)
end Go.Proofs.YtgahbpfmiibpeaaGreatDoor
/- What the law ObjWrong carries. -/
namespace Go.Proofs.YtgahbpfmiibpeaaGreatDoor
open Go.RowKit
theorem info_line : ∃ i : TypeInfo, Tryz.prog.info? 60 = some i ∧ i.zero = some (.agg #[.int .i64 0, .int .i64 0, .int .i64 0, .int .i64 0, .int .u32 0, .string ⟨#[]⟩, .string ⟨#[]⟩, .bool false]) ∧ i.size = 8 ∧ i.bytes = 80 := info_parts (P := Tryz.prog) (e := 60) (z := .agg #[.int .i64 0, .int .i64 0, .int .i64 0, .int .i64 0, .int .u32 0, .string ⟨#[]⟩, .string ⟨#[]⟩, .bool false]) (size := 8) (bytes := 80) (by kernel_rfl)
theorem info_rel4 : ∃ i : TypeInfo, Tryz.prog.info? 90 = some i ∧ i.zero = some (.agg #[.int .i64 0, .int .i64 0, .int .i64 0, .int .i64 0]) ∧ i.size = 4 ∧ i.bytes = 32 := info_parts (P := Tryz.prog) (e := 90) (z := .agg #[.int .i64 0, .int .i64 0, .int .i64 0, .int .i64 0]) (size := 4) (bytes := 32) (by kernel_rfl)
/-- the lines that the loop lays -/
structure LW (W w : World) (v : Value) (k : Nat) : Prop where
  own : w.ownsRow W.heap.size 60 8 v k (nopsC k)
  g : W.grownBy w none
theorem LW.kept0 {W w w1 : World} {v : Value} {k : Nat} (h : LW W w v k) (hg : w.grownBy w1 none) : LW W w1 v k := ⟨own_keep0 h.own hg, grown_trans h.g hg⟩
/-- an object that a call answered, laid into a box -/
theorem OBx.new {W w : World} {B : Nat} {V : OV} {x : PO} (h : OwnO B w V x) (hB : W.heap.size ≤ B) (hg : W.grownBy w none) : OBx W (w.alloc (.cells #[V.d, V.c, V.m, V.r, V.q, V.s] 27)) w.heap.size [] V x := by
  have al := World.grownBy_alloc w (.cells #[V.d, V.c, V.m, V.r, V.q, V.s] 27) none
  have hs := hg.size
  refine ⟨grown_below (grown_trans hg al), RwAt.new w _ _, ⟨own_keep0 (own_base h.d hB) al, own_keep0 (own_base h.c hB) al, own_keep0 (own_base h.m hB) al, own_keep0 (own_base h.r hB) al, own_keep0 (own_base h.q hB) al, own_keep0 (own_base h.s hB) al, h.ap⟩, hs, fun u hu => ⟨fun e => ?_, fun T hT => absurd hT (by simp)⟩, fun T hT => absurd hT (by simp)⟩
  have : w.heap.size < w.heap.size := by
    simp only [List.mem_cons, List.not_mem_nil, or_false] at hu
    rcases hu with rfl | rfl | rfl | rfl | rfl | rfl
    · exact (h.d.lt _ e).2
    · exact (h.c.lt _ e).2
    · exact (h.m.lt _ e).2
    · exact (h.r.lt _ e).2
    · exact (h.q.lt _ e).2
    · exact (h.s.lt _ e).2
  omega
/-- what a way leaves: its object, and what it wants -/
structure WrS (W : World) (a G P i : Nat) (w : World) : Prop where
  ob : ∃ V, OBx W w G [P] V (wrP a i)
  want : RwAt w P 31 #[.int .i64 (fltC (wrF a i)), .bool (fltB (wrF a i)), .int .i64 (fltN (wrF a i))]
def fitB (x : PO) : Bool := x.D.all (fun n => decide (0 ≤ n) && decide (n < 4294967296)) && x.C.all (fun n => decide (0 ≤ n) && decide (n < 4294967296)) && x.M.all (fun n => decide (0 ≤ n) && decide (n < 256)) && decide (x.D.length ≤ 100) && decide (x.C.length ≤ 100) && decide (x.M.length ≤ 100) && decide (x.R.length ≤ 100) && decide (x.Q.length ≤ 100) && decide (x.S.length ≤ 100)
theorem fitB_fit {x : PO} (h : fitB x = true) : OFit x := by
  simp only [fitB, Bool.and_eq_true, decide_eq_true_eq, List.all_eq_true] at h
  obtain ⟨⟨⟨⟨⟨⟨⟨⟨h1, h2⟩, h3⟩, h4⟩, h5⟩, h6⟩, h7⟩, h8⟩, h9⟩ := h
  have m : 100 ≤ maxLen := by decide
  exact ⟨h1, h2, h3, by omega⟩
theorem wrP_all : ∀ a, a < 20 → ∀ i, i < 9 → fitB (wrP a i) = true := by decide +kernel
theorem wrP_fit (a i : Nat) (ha : a < 20) (hi : i < 9) : OFit (wrP a i) := fitB_fit (wrP_all a ha i hi)
theorem OBx.oat {W w : World} {G : Nat} {Ts : List Nat} {V : OV} {x : PO} (h : OBx W w G Ts V x) : OAt w V x := h.own.at_
theorem halt_len (a : Nat) : (objK a (a + 2)).C.length = a + 1 ∧ (objK a (a + 2)).M.length = a + 1 := by constructor <;> simp [objK]
theorem halt_S (a : Nat) : (objK a (a + 2)).S = [⟨nmMain, 2, a, true⟩] := by simp [objK]
theorem halt_RQ (a : Nat) : (objK a (a + 2)).R = [] ∧ (objK a (a + 2)).Q = [] := ⟨rfl, rfl⟩
theorem info_flt : (Tryz.prog.info? 31).map (·.size) = some 3 := by kernel_rfl
/-- what is wanted, written anew -/
theorem OBx.want {W w : World} {G P : Nat} {V : OV} {x : PO} (h : OBx W w G [P] V x) (hP : W.heap.size ≤ P) (hG : P ≠ G) (cs : Array Value) : OBx W (w.setRow P cs) G [P] V x := by
  have hg : w.grownBy (w.setRow P cs) (some P) := ⟨rfl, rfl, rfl, by simp [World.setRow], fun i _ hi => setRow_other w P i cs (fun e => hi (by rw [e]))⟩
  have n := fun u hu => (h.ne u hu).2 P (by simp)
  refine ⟨h.below.grown hg h.le (fun j hj => by obtain rfl := Option.some.inj hj; exact hP), h.g1.kept hg (by simpa using fun e => hG e.symm), ⟨h.own.d.kept hg (.inr (n _ (by simp))), h.own.c.kept hg (.inr (n _ (by simp))), h.own.m.kept hg (.inr (n _ (by simp))), h.own.r.kept hg (.inr (n _ (by simp))), h.own.q.kept hg (.inr (n _ (by simp))), h.own.s.kept hg (.inr (n _ (by simp))), h.own.ap⟩, h.ge1, h.ne, fun T hT => Nat.lt_of_lt_of_le (h.lts T hT) hg.size⟩
end Go.Proofs.YtgahbpfmiibpeaaGreatDoor

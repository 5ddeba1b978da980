/- An object of the law's own, in a box; a part of it that grows. (Made by gowrong0.py.) -/
import Derived.Test.YtogdpaaofihkgaaGreatDoorYObj12
import Derived.Test.YtogdpaaofihkgaaGreatDoorYIsa2
import Derived.Test.YtogdpaaofihkgaaGreatDoorYBase
import Derived.Laws.BytesArg
import Derived.Laws.Rows
import Derived.Deep.RegionHeld3
import Derived.Laws.MakeOwn
namespace Go.Proofs.YtogdpaaofihkgaaGreatDoor
open Go.RowKit
/-- G1: the box of V1, of the law's own; Ts: blocks beside it that none of its rows is -/
structure OBx (W w : World) (G1 : Nat) (Ts : List Nat) (V1 : OV) (x1 : PO) : Prop where
  below : Below W.heap.size W w
  g1 : RwAt w G1 39 #[V1.d, V1.c, V1.m, V1.r, V1.q, V1.s]
  own : OwnO W.heap.size w V1 x1
  ge1 : W.heap.size ≤ G1
  ne : ∀ u ∈ [V1.d, V1.c, V1.m, V1.r, V1.q, V1.s], u.ownBlock ≠ some G1 ∧ ∀ T ∈ Ts, u.ownBlock ≠ some T
  lts : ∀ T ∈ Ts, T < w.heap.size
section
variable {W w w1 : World} {G1 : Nat} {Ts : List Nat} {V1 : OV} {x1 : PO}
theorem OBx.le (h : OBx W w G1 Ts V1 x1) : W.heap.size ≤ w.heap.size := h.below.size
theorem OBx.kept0 (h : OBx W w G1 Ts V1 x1) (hg : w.grownBy w1 none) : OBx W w1 G1 Ts V1 x1 :=
  ⟨h.below.grown hg h.le (by simp), h.g1.kept0 hg, h.own.kept0 hg, h.ge1, h.ne, fun T hT => Nat.lt_of_lt_of_le (h.lts T hT) hg.size⟩
/-- a box more -/
theorem OBx.box (h : OBx W w G1 Ts V1 x1) (o : Obj) : OBx W (w.alloc o) G1 (w.heap.size :: Ts) V1 x1 := by
  have hk := h.kept0 (World.grownBy_alloc w o none)
  refine ⟨hk.below, hk.g1, hk.own, hk.ge1, fun u hu => ⟨(h.ne u hu).1, fun T hT => ?_⟩, fun T hT => ?_⟩
  · rcases List.mem_cons.1 hT with rfl | hT
    · intro e
      simp only [List.mem_cons, List.not_mem_nil, or_false] at hu
      have : w.heap.size < w.heap.size := by
        rcases hu with rfl | rfl | rfl | rfl | rfl | rfl
        · exact (h.own.d.lt _ e).2
        · exact (h.own.c.lt _ e).2
        · exact (h.own.m.lt _ e).2
        · exact (h.own.r.lt _ e).2
        · exact (h.own.q.lt _ e).2
        · exact (h.own.s.lt _ e).2
      omega
    · exact (h.ne u hu).2 T hT
  · rcases List.mem_cons.1 hT with rfl | hT
    · simp
    · exact hk.lts T hT
theorem OBx.drop {T : Nat} (h : OBx W w G1 (T :: Ts) V1 x1) : OBx W w G1 Ts V1 x1 :=
  ⟨h.below, h.g1, h.own, h.ge1, fun u hu => ⟨(h.ne u hu).1, fun S hS => (h.ne u hu).2 S (List.mem_cons_of_mem _ hS)⟩, fun S hS => h.lts S (List.mem_cons_of_mem _ hS)⟩
end
end Go.Proofs.YtogdpaaofihkgaaGreatDoor
namespace Go.Proofs.YtogdpaaofihkgaaGreatDoor
/-- what is left, and what was wrong first -/
structure RS where
  l : List Int
  e : Option Nat
deriving DecidableEq
def takeS (n : Nat) (s : RS) : List Int × RS :=
  if s.e = none then (if s.l.length < n then ([], ⟨s.l, some 0⟩) else (s.l.take n, ⟨s.l.drop n, none⟩)) else ([], s)
def leW : List Int → Int
  | [] => 0
  | b :: l => b + 256 * leW l
def wordS (s : RS) : Int × RS := (leW (takeS 4 s).1, (takeS 4 s).2)
def manyS {α : Type} (f : RS → α × RS) : Nat → RS → List α × RS
  | 0, s => ([], s)
  | n + 1, s => ((manyS f n s).1 ++ [(f (manyS f n s).2).1], (f (manyS f n s).2).2)
abbrev wordsS (n : Nat) (s : RS) := manyS wordS n s
/-! ### an error stays -/
/-! ### the whole -/
def sizS (b : List Int) : List Int × RS := wordsS 5 (wordS ⟨b, none⟩).2
def sz (b : List Int) (k : Nat) : Nat := ((sizS b).1.getD k 0).toNat
def pD (b : List Int) : List Int × RS := wordsS (sz b 0) (sizS b).2
def pC (b : List Int) : List Int × RS := wordsS (sz b 1) (pD b).2
/-! ### forth -/
end Go.Proofs.YtogdpaaofihkgaaGreatDoor
namespace Go.Proofs.YtogdpaaofihkgaaGreatDoor
open Go.RowKit
theorem info_errp : ∃ i, Tryz.prog.info? 189 = some i ∧ i.comparable = true := by
  have h : (Tryz.prog.info? 189).map (·.comparable) = some true := by kernel_rfl
  cases hi : Tryz.prog.info? 189 with
  | none => simp [hi] at h
  | some i => exact ⟨i, rfl, by simpa [hi] using h⟩
theorem info_errs : ∃ i, Tryz.prog.info? 205 = some i ∧ i.size ≠ 0 := by
  have h : (Tryz.prog.info? 205).map (·.size) = some 1 := by kernel_rfl
  cases hi : Tryz.prog.info? 205 with
  | none => simp [hi] at h
  | some i =>
    have : i.size = 1 := by simpa [hi] using h
    exact ⟨i, rfl, by omega⟩
theorem run_err_same (a : Addr) (w : World) : (binOp .eql 45 (errV a) (errV a)).run Tryz.prog w = .ok (.bool true) w := by
  obtain ⟨i, hi, hc⟩ := info_errp
  obtain ⟨j, hj, _⟩ := info_errs
  exact run_eql_iface_ptr_same w a Tryz.underlying45 Tryz.underlying189 hi hc hj
theorem run_err_other {a b : Addr} {w : World} (hne : a ≠ b) (ha : ∃ c t, w.heap[a.block]? = some (.cells c t (0, 0))) (hb : ∃ c t, w.heap[b.block]? = some (.cells c t (0, 0))) : (binOp .eql 45 (errV a) (errV b)).run Tryz.prog w = .ok (.bool false) w := by
  obtain ⟨i, hi, hc⟩ := info_errp
  obtain ⟨j, hj, hs⟩ := info_errs
  obtain ⟨ca, ta, ha⟩ := ha
  obtain ⟨cb, tb, hb⟩ := hb
  exact run_eql_iface_ptr_other w Tryz.underlying45 Tryz.underlying189 hi hc hj hs hne ha hb
theorem run_err_nil (a : Addr) (w : World) : (binOp .eql 45 (errV a) .nilIface).run Tryz.prog w = .ok (.bool false) w := by
  have h : ∀ d : Nat, (Op.equalIn (d + 1) 45 (errV a) .nilIface).run Tryz.prog w = .ok false w := fun d => by simp [errV, Op.equalIn, run_underlying Tryz.underlying45]
  simp only [binOp]
  simp [Op.equal, Op.maxDepth, h 9999]
theorem alike_same (a : Addr) (w : World) : Calls Tryz.prog 49 #[errV a, errV a] w fun e w' => e = .returned (.bool true) ∧ w = w' := by
  have h1 := fun W => run_err_same a W
  have h2 := fun W => run_err_nil a W
  unfold errV at h1 h2 ⊢
  go_enter Tryz.func49, Tryz.ntmps49
  go_wp2
  go_ret
  exact ⟨rfl, rfl⟩
theorem alike_other {a b : Addr} {w : World} (hne : a ≠ b) (ha : ∃ c t, w.heap[a.block]? = some (.cells c t (0, 0))) (hb : ∃ c t, w.heap[b.block]? = some (.cells c t (0, 0))) :
    Calls Tryz.prog 49 #[errV a, errV b] w fun e w' => e = .returned (.bool false) ∧ w = w' := by
  have h1 := run_err_other hne ha hb
  have h2 := fun W => run_err_nil a W
  have h3 := fun W => run_err_nil b W
  unfold errV at h1 h2 h3 ⊢
  clear hne ha hb
  go_enter Tryz.func49, Tryz.ntmps49
  go_wp2
  go_ret
  exact ⟨rfl, rfl⟩
def errs (A : Nat → Addr) : Array Value := ((List.range 16).map fun i => errV (A i)).toArray
theorem errs_get (A : Nat → Addr) {i : Nat} (h : i < 16) : (errs A)[i]? = some (errV (A i)) := by simp [errs, h]
set_option maxHeartbeats 1000000 in
theorem sentinels_any {A : Nat → Addr} {w : World} (h : Sents w A) : Calls Tryz.prog 48 #[] w fun e w' => e = .returned (.slice (some ⟨w.heap.size, 0, none⟩) 16 16) ∧ w' = w.alloc (.cells (errs A) 45) := by
  have c0 := h.cell 0 _ rfl
  have c1 := h.cell 1 _ rfl
  have c2 := h.cell 2 _ rfl
  have c3 := h.cell 3 _ rfl
  have c4 := h.cell 4 _ rfl
  have c5 := h.cell 5 _ rfl
  have c6 := h.cell 6 _ rfl
  have c7 := h.cell 7 _ rfl
  have c8 := h.cell 8 _ rfl
  have c9 := h.cell 9 _ rfl
  have c10 := h.cell 10 _ rfl
  have c11 := h.cell 11 _ rfl
  have c12 := h.cell 12 _ rfl
  have c13 := h.cell 13 _ rfl
  have c14 := h.cell 14 _ rfl
  have c15 := h.cell 15 _ rfl
  clear h
  have He : Hid (errs A = #[errV (A 0), errV (A 1), errV (A 2), errV (A 3), errV (A 4), errV (A 5), errV (A 6), errV (A 7), errV (A 8), errV (A 9), errV (A 10), errV (A 11), errV (A 12), errV (A 13), errV (A 14), errV (A 15)]) := hid rfl
  rw [He.out]
  unfold errV at c0 c1 c2 c3 c4 c5 c6 c7 c8 c9 c10 c11 c12 c13 c14 c15
  clear He
  go_enter Tryz.func48, Tryz.ntmps48
  go_wp2
  go_ret
  exact ⟨rfl, rfl⟩
set_option maxHeartbeats 1000000 in
theorem sentinel_any {A : Nat → Addr} {w : World} (h : Sents w A) (k : Nat) (hk : k < 16) : Calls Tryz.prog 37 #[errV (A k)] w fun e w' => e = .returned (.int .i64 ((101 + k : Nat) : Int)) ∧ w.grownBy w' none := by
  have H := hid h
  clear h
  obtain ⟨v, hv⟩ : ∃ v, errV (A k) = v := ⟨_, rfl⟩
  rw [hv]
  have Hv := hid hv
  clear hv
  go_enter Tryz.func37, Tryz.ntmps37
  go_wp2_with fail
  refine (sentinels_any H.out).mono ?_; rintro e w1 ⟨rfl, hw1⟩
  have Hh : Hid (w1.heap[w.heap.size]? = some (.cells (errs A) 45 (0, 0))) := hid (by rw [hw1]; exact heap_alloc_last _ _)
  have H1 : Hid (Sents w1 A) := hid (H.out.kept0 (by rw [hw1]; exact World.grownBy_alloc w _ none))
  have HG : Hid (w.grownBy w1 none) := hid (by rw [hw1]; exact World.grownBy_alloc w _ none)
  clear hw1
  go_wp2
  go_loop [2, 4] (fun _ i => ∃ j : Nat, j ≤ k ∧ i = .int .i64 j) (fun _ i => k - (intOf i).toNat)
  case atStart => exact ⟨0, Nat.zero_le _, rfl⟩
  case round =>
    obtain ⟨j, hj, rfl⟩ := hrel
    have hc : w1.cell? ⟨w.heap.size, j, none⟩ = some (errV (A j)) := by rw [cell_of_row w1 _ _ _ _ _ Hh.out, errs_get A (by omega)]
    have hj0 : (0 : Int) ≤ (j : Int) := by omega
    have hj1 : (j : Int) < 16 := by omega
    by_cases hjk : j = k
    · have hkk : (101 : Int) + (j : Int) = ((101 + k : Nat) : Int) := by omega
      have Hk := hid hkk
      rw [hjk, Hv.out] at hc
      have hs : Calls Tryz.prog 49 #[v, v] w1 fun e w' => e = .returned (.bool true) ∧ w1 = w' := by rw [← Hv.out]; exact alike_same (A k) w1
      obtain rfl := hjk
      have Hs := hid hs
      clear hs hkk
      go_wp2_with fail
      refine (Hs.out).mono ?_; rintro e w' ⟨rfl, rfl⟩
      go_wp2
      go_ret
      exact ⟨ret_i Hk.out, HG.out⟩
    · have hs : Calls Tryz.prog 49 #[v, errV (A j)] w1 fun e w' => e = .returned (.bool false) ∧ w1 = w' := by rw [← Hv.out]; exact alike_other (fun e => hjk (H1.out.inj _ _ (by omega) (by omega) e).symm) (H1.out.row k hk) (H1.out.row j (by omega))
      have Hs := hid hs
      have Hjk : Hid (j + 1 ≤ k) := hid (by omega)
      clear hs hjk
      go_wp2_with fail
      refine (Hs.out).mono ?_; rintro e w' ⟨rfl, rfl⟩
      go_wp2
      go_round
      case rel => exact ⟨j + 1, Hjk.out, by go_num⟩
      case measure => have := Hjk.out; simp [intOf]; omega
end Go.Proofs.YtogdpaaofihkgaaGreatDoor
namespace Go.Proofs.YtogdpaaofihkgaaGreatDoor
open Go.RowKit
/-- where the errors lie that a reader tells -/
structure ErrR (w : World) (A : Nat → Addr) : Prop where
  c0 : w.cell? ⟨4, 0, none⟩ = some (errV (A 0))
  c1 : w.cell? ⟨3, 0, none⟩ = some (errV (A 1))
  c2 : w.cell? ⟨5, 0, none⟩ = some (errV (A 2))
  c3 : w.cell? ⟨0, 0, none⟩ = some (errV (A 3))
theorem ErrR.kept {w w1 : World} {A : Nat → Addr} {r : Option Nat} (h : ErrR w A) (hg : w.grownBy w1 r) (hr : ∀ k, r = some k → k ≠ 4 ∧ k ≠ 3 ∧ k ≠ 5 ∧ k ≠ 0) : ErrR w1 A := by
  have k : ∀ {g : Nat} {v : Value}, w.cell? ⟨g, 0, none⟩ = some v → some g ≠ r → w1.cell? ⟨g, 0, none⟩ = some v := fun hc hn => by
    rw [grown_cell hg (World.block_lt_of_cell? w _ hc) hn]; exact hc
  exact ⟨k h.c0 (fun e => (hr _ e.symm).1 rfl), k h.c1 (fun e => (hr _ e.symm).2.1 rfl), k h.c2 (fun e => (hr _ e.symm).2.2.1 rfl), k h.c3 (fun e => (hr _ e.symm).2.2.2 rfl)⟩
theorem ErrR.kept0 {w w1 : World} {A : Nat → Addr} (h : ErrR w A) (hg : w.grownBy w1 none) : ErrR w1 A := h.kept hg (by simp)
/-- bytes taken: no block of the reader's -/
def Tk (w : World) (R b : Nat) (v : Value) (l : List Int) : Prop := (v = .slice none 0 0 ∧ l = []) ∨ ∃ o c, v = .slice (some ⟨b, o, none⟩) l.length c ∧ l.length ≤ c ∧ b < w.heap.size ∧ b ≠ R ∧ ∀ j x, l[j]? = some x → w.cell? ⟨b, o + j, none⟩ = some (.int .u8 x)
theorem Tk.sl {w : World} {R b : Nat} {v : Value} {l : List Int} (h : Tk w R b v l) : SlAt w .u8 v l := by
  rcases h with ⟨rfl, rfl⟩ | ⟨o, c, rfl, _, hb, _, hc⟩
  · exact .inl ⟨⟨_, _, rfl⟩, rfl⟩
  · exact .inr ⟨b, o, c, rfl, hb, hc⟩
theorem Tk.kept {w w1 : World} {R b : Nat} {v : Value} {l : List Int} {r : Option Nat} (h : Tk w R b v l) (hg : w.grownBy w1 r) (hr : some b ≠ r) : Tk w1 R b v l := by
  rcases h with h | ⟨o, c, rfl, hn, hb, hne, hc⟩
  · exact .inl h
  · exact .inr ⟨o, c, rfl, hn, Nat.lt_of_lt_of_le hb hg.size, hne, fun j x hx => by rw [grown_cell hg hb hr]; exact hc j x hx⟩
section
variable {w : World} {R : Nat} {A : Nat → Addr} {b o c : Nat} {s : RS}
end
section
variable {w : World} {R : Nat} {A : Nat → Addr} {b o c : Nat} {s : RS}
end
end Go.Proofs.YtogdpaaofihkgaaGreatDoor
namespace Go.Proofs.YtogdpaaofihkgaaGreatDoor
open Go.RowKit
section
variable {w0 w w1 : World} {K : Nat} {T : TypeId} {cs : List Value} {R : Nat} {A : Nat → Addr} {b o c : Nat} {s : RS}
end
/-- so many read, the others as they were made -/
def part {α : Type} (f : RS → α × RS) (z : α) (n k : Nat) (s : RS) : List α := (manyS f k s).1 ++ List.replicate (n - k) z
end Go.Proofs.YtogdpaaofihkgaaGreatDoor
namespace Go.Proofs.YtogdpaaofihkgaaGreatDoor
open Go.RowKit
theorem CsAt.keptO {w w1 : World} {v : Value} {n : Nat} {cs : List Value} {r : Option Nat} (h : CsAt w v n cs) (hg : w.grownBy w1 r) (hr : v.ownBlock = none ∨ v.ownBlock ≠ r) : CsAt w1 v n cs := by
  rcases h with h | ⟨b, o, c, rfl, hn, hb, hc⟩
  · exact .inl h
  · refine .inr ⟨b, o, c, rfl, hn, Nat.lt_of_lt_of_le hb hg.size, fun j x hx => ?_⟩
    rw [grown_cell hg hb (by simpa [Value.ownBlock] using hr)]
    exact hc j x hx
/-- in blocks from B on -/
def AbB (B : Nat) (v : Value) : Prop := ∀ g, v.ownBlock = some g → B ≤ g
theorem AbB.ne {B r : Nat} {v : Value} (h : AbB B v) (hr : r < B) : v.ownBlock = none ∨ v.ownBlock ≠ some r := .inr fun e => by have := h r e; omega
structure SlB (B : Nat) (w : World) (k : IntKind) (v : Value) (xs : List Int) : Prop where
  sl : SlAt w k v xs
  ab : AbB B v
structure CsB (B : Nat) (w : World) (v : Value) (n : Nat) (cs : List Value) : Prop where
  cs : CsAt w v n cs
  ab : AbB B v
theorem SlB.kept {B r : Nat} {w w1 : World} {k : IntKind} {v : Value} {xs : List Int} (h : SlB B w k v xs) (hg : w.grownBy w1 (some r)) (hr : r < B) : SlB B w1 k v xs := ⟨h.sl.kept hg (h.ab.ne hr), h.ab⟩
theorem CsB.kept {B r : Nat} {w w1 : World} {v : Value} {n : Nat} {cs : List Value} (h : CsB B w v n cs) (hg : w.grownBy w1 (some r)) (hr : r < B) : CsB B w1 v n cs := ⟨h.cs.keptO hg (h.ab.ne hr), h.ab⟩
section
variable {w0 w w1 : World} {B S H G : Nat} {nn gc : Array Value} {R : Nat} {A : Nat → Addr} {b o c : Nat} {s : RS}
end
end Go.Proofs.YtogdpaaofihkgaaGreatDoor
namespace Go.Proofs.YtogdpaaofihkgaaGreatDoor
open Go.RowKit
/-- a slice of these bytes -/
def BvAt (w : World) (v : Value) (l : List Int) : Prop := (∃ p c, v = .slice p 0 c ∧ l = []) ∨
  ∃ b o c, v = .slice (some ⟨b, o, none⟩) l.length c ∧ l.length ≤ c ∧ c ≤ 9223372036854775807 ∧ b < w.heap.size ∧ ∀ j x, l[j]? = some x → w.cell? ⟨b, o + j, none⟩ = some (.int .u8 x)
theorem BvAt.kept0 {w w1 : World} {v : Value} {l : List Int} (h : BvAt w v l) (hg : w.grownBy w1 none) : BvAt w1 v l := by
  rcases h with h | ⟨b, o, c, rfl, h1, h2, hb, hc⟩
  · exact .inl h
  · exact .inr ⟨b, o, c, rfl, h1, h2, Nat.lt_of_lt_of_le hb hg.size, fun j x hx => by rw [grown_cell hg hb (by simp)]; exact hc j x hx⟩
theorem BvAt.len {w : World} {v : Value} {l : List Int} (h : BvAt w v l) : ∃ p c, v = .slice p l.length c := by
  rcases h with ⟨p, c, rfl, rfl⟩ | ⟨b, o, c, rfl, _⟩
  · exact ⟨_, _, rfl⟩
  · exact ⟨_, _, rfl⟩
end Go.Proofs.YtogdpaaofihkgaaGreatDoor
namespace Go.Proofs.YtogdpaaofihkgaaGreatDoor
open Go.RowKit Go.WideShapes Go.ChangeShapes
section
variable {H : Type} {enc : TypeId × Value → H} {W : World} {P : Program}
end
theorem BvAt.sl {w : World} {v : Value} {l : List Int} (h : BvAt w v l) : SlAt w .u8 v l := by
  rcases h with ⟨p, c, rfl, rfl⟩ | ⟨b, o, c, rfl, _, _, hb, hc⟩
  · exact .inl ⟨⟨_, _, rfl⟩, rfl⟩
  · exact .inr ⟨b, o, c, rfl, hb, hc⟩
end Go.Proofs.YtogdpaaofihkgaaGreatDoor
namespace Go.Proofs.YtogdpaaofihkgaaGreatDoor
open Go.RowKit
section
variable {ops : Array Oper} {rest : List Oper} {o : Oper} {A : Act} {w : World} {Q : Exit → Act → World → Prop}
end
theorem own_keep0 {w w1 : World} {B size n : Nat} {t : TypeId} {v : Value} {cs : List Value} (h : w.ownsRow B t size v n cs) (hg : w.grownBy w1 none) : w1.ownsRow B t size v n cs := h.kept hg (by cases v.ownBlock <;> simp)
end Go.Proofs.YtogdpaaofihkgaaGreatDoor
namespace Go.Proofs.YtogdpaaofihkgaaGreatDoor
open Go.RowKit
/-- where instructions begin, below n -/
def stL (x : PO) (n : Nat) : List Nat := (List.range n).filter fun k => decide (mapN x k = 1)
/-- the operation of word k -/
def wOp (x : PO) (k : Nat) : Int := x.C.getD k 0 / 16777216
def isT (x : PO) (k : Nat) : Bool := decide (clsI (wOp x k) = 2 ∨ clsI (wOp x k) = 3)
/-- what has to be rewritten, of these -/
def siL (x : PO) (l : List Nat) : List Nat := l.filter (isT x)
def secN (x : PO) (k : Nat) : Int := x.C.getD (k + 1) 0
/-- the instruction that begins at word k -/
def begC (x : PO) (k : Nat) : List Value := [.int .i64 (x.C.getD k 0 / 16777216), .int .i64 (x.C.getD k 0 / 65536 % 256), .int .i64 (x.C.getD k 0 / 256 % 256), .int .i64 (x.C.getD k 0 % 256), .int .u32 (wantImm (x.C.getD k 0 / 16777216) (secN x k))]
def siC (x : PO) (k : Nat) : List Value := .int .i64 k :: .int .i64 (clsI (wOp x k)) :: begC x k
def sisC (x : PO) : List Nat → List Value
  | [] => []
  | k :: l => siC x k ++ sisC x l
end Go.Proofs.YtogdpaaofihkgaaGreatDoor
namespace Go.Proofs.YtogdpaaofihkgaaGreatDoor
open Go.RowKit
def cntN (x : PO) (k : Nat) : Nat := (siL x (stL x k)).length
/-- where word k stands then -/
def plN (x : PO) (k : Nat) : Nat := k + cntN x k
def plL (x : PO) (n : Nat) : List Int := (List.range n).map fun k => (plN x k : Int)
theorem plL_length (x : PO) (n : Nat) : (plL x n).length = n := by simp [plL]
theorem plL_succ (x : PO) (n : Nat) : plL x (n + 1) = plL x n ++ [(plN x n : Int)] := by
  unfold plL
  rw [List.range_succ, List.map_append]; rfl
/-- the places, so far filled in -/
def fillP (x : PO) (N j : Nat) : List Value := (plL x j).map (Value.int .i64) ++ List.replicate (N - j) (.int .i64 0)
theorem fill_set (x : PO) {N j : Nat} (h : j < N) : (fillP x N j).set j (.int .i64 (plN x j : Int)) = fillP x N (j + 1) := by
  unfold fillP
  obtain ⟨m, hm⟩ : ∃ m, N - j = m + 1 := ⟨N - j - 1, by omega⟩
  have e : j = ((plL x j).map (Value.int .i64)).length + 0 := by simp [plL_length]
  rw [hm, show N - (j + 1) = m by omega, plL_succ, List.map_append, List.append_assoc, List.replicate_succ]
  conv => lhs; arg 2; rw [e]
  rw [List.set_append_right _ _ (by omega)]
  simp
/-! ### where nothing is to be rewritten -/
/-! ### the first one is told -/
theorem getD_some {l : List Int} {k : Nat} {v d : Int} (h : l[k]? = some v) : l.getD k d = v := by rw [List.getD_eq_getElem?_getD, h]; rfl
end Go.Proofs.YtogdpaaofihkgaaGreatDoor
namespace Go.Proofs.YtogdpaaofihkgaaGreatDoor
structure RIt where
  s : Int
  t : Int
  b : Bool
def okRI (n : Nat) (it : RIt) : Bool := decide (0 ≤ it.s ∧ it.s ≤ 2048) && (!it.b || decide (0 ≤ it.t ∧ it.t ≤ (n : Int)))
def okR (L : List RIt) : Bool := L.all (okRI L.length)
def validR (L : List RIt) : Bool := decide (L.length ≤ 4096) && okR L
def sR : Option RIt → Int
  | some it => it.s
  | none => 0
/-- how much an item takes -/
def szR (L : List RIt) (B : List Bool) (k : Nat) : Int := sR L[k]? + (if B.getD k false then 1 else 0)
def plR (L : List RIt) (B : List Bool) : Nat → Int
  | 0 => 0
  | k + 1 => plR L B k + szR L B k
def plsR (L : List RIt) (B : List Bool) (n : Nat) : List Int := (List.range n).map (plR L B)
def nearR (d : Int) : Bool := decide (-128 ≤ d) && decide (d ≤ 127)
def tooB (L : List RIt) (B : List Bool) (k : Nat) : Bool :=
  match L[k]? with
  | some it => it.b && !(B.getD k false) && !(nearR (plR L B it.t.toNat - plR L B k))
  | none => false
def farR (L : List RIt) (B : List Bool) : Nat → List Int
  | 0 => []
  | k + 1 => farR L B k ++ (if tooB L B k then [(k : Int)] else [])
def nextR (L : List RIt) (B : List Bool) : List Bool := (List.range L.length).map fun k => B.getD k false || tooB L B k
def itR (L : List RIt) : Nat → List Bool
  | 0 => List.replicate L.length false
  | j + 1 => nextR L (itR L j)
section
variable {L L' : List RIt} {B B' : List Bool} {n k : Nat}
theorem nextR_length : (nextR L B).length = L.length := by simp [nextR]
theorem itR_length : ∀ j, (itR L j).length = L.length
  | 0 => by simp [itR]
  | _ + 1 => nextR_length
theorem plsR_length : (plsR L B n).length = n := by simp [plsR]
theorem plsR_get (h : k < n) : (plsR L B n)[k]? = some (plR L B k) := by simp [plsR, h]
theorem nextR_getD (h : k < L.length) : (nextR L B).getD k false = (B.getD k false || tooB L B k) := by
  simp [nextR, List.getD_eq_getElem?_getD, h]
theorem farR_succ_yes (h : tooB L B k = true) : farR L B (k + 1) = farR L B k ++ [(k : Int)] := by simp [farR, h]
theorem farR_succ_no (h : tooB L B k = false) : farR L B (k + 1) = farR L B k := by simp [farR, h]
theorem farR_length {L : List RIt} {B : List Bool} : ∀ n, (farR L B n).length ≤ n
  | 0 => by simp [farR]
  | n + 1 => by
    have := @farR_length L B n
    cases h : tooB L B n
    · rw [farR_succ_no h]; omega
    · rw [farR_succ_yes h, List.length_append, List.length_singleton]; omega
theorem farR_mem {L : List RIt} {B : List Bool} : ∀ {n : Nat} {x : Int}, x ∈ farR L B n ↔ ∃ k : Nat, k < n ∧ x = k ∧ tooB L B k = true
  | 0, x => by simp [farR]
  | n + 1, x => by
    cases h : tooB L B n
    · rw [farR_succ_no h, farR_mem]
      constructor
      · rintro ⟨k, h1, h2, h3⟩; exact ⟨k, by omega, h2, h3⟩
      · rintro ⟨k, h1, h2, h3⟩
        refine ⟨k, ?_, h2, h3⟩
        rcases Nat.lt_succ_iff_lt_or_eq.1 h1 with h4 | rfl
        · exact h4
        · rw [h] at h3; cases h3
    · rw [farR_succ_yes h, List.mem_append, farR_mem, List.mem_singleton]
      constructor
      · rintro (⟨k, h1, h2, h3⟩ | rfl)
        · exact ⟨k, by omega, h2, h3⟩
        · exact ⟨n, by omega, rfl, h⟩
      · rintro ⟨k, h1, h2, h3⟩
        rcases Nat.lt_succ_iff_lt_or_eq.1 h1 with h4 | rfl
        · exact .inl ⟨k, h4, h2, h3⟩
        · exact .inr h2
/-! ### how many rounds -/
def cntP (p : Nat → Bool) : Nat → Nat
  | 0 => 0
  | k + 1 => cntP p k + (if p k then 1 else 0)
theorem cntP_le {p q : Nat → Bool} : ∀ n, (∀ k, k < n → p k = true → q k = true) → cntP p n ≤ cntP q n
  | 0, _ => Nat.le_refl _
  | n + 1, h => by
    have h1 := cntP_le n (fun k hk => h k (by omega)) (p := p) (q := q)
    have h2 := h n (by omega)
    unfold cntP
    cases hp : p n <;> cases hq : q n <;> simp_all <;> omega
theorem cntP_lt {p q : Nat → Bool} : ∀ n, (∀ k, k < n → p k = true → q k = true) → (∃ k, k < n ∧ q k = true ∧ p k = false) → cntP p n < cntP q n
  | 0, _, ⟨k, h, _⟩ => by omega
  | n + 1, h, ⟨k, hk, h1, h2⟩ => by
    have hle := cntP_le n (fun k hk => h k (by omega)) (p := p) (q := q)
    by_cases e : k = n
    · subst e; unfold cntP; rw [h1, h2]; simp; omega
    · have hlt := cntP_lt n (fun k hk => h k (by omega)) ⟨k, by omega, h1, h2⟩ (p := p) (q := q)
      have h3 := h n (by omega)
      unfold cntP
      cases hp : p n <;> cases hq : q n <;> simp_all <;> omega
theorem cntP_bound (p : Nat → Bool) : ∀ n, cntP p n ≤ n
  | 0 => Nat.le_refl _
  | n + 1 => by have := cntP_bound p n; unfold cntP; split <;> omega
def isBr (L : List RIt) (k : Nat) : Bool := match L[k]? with | some it => it.b | none => false
theorem far_br (h : tooB L B k = true) : isBr L k = true ∧ B.getD k false = false := by
  unfold tooB at h; unfold isBr
  split at h
  · simp only [Bool.and_eq_true, Bool.not_eq_true'] at h; rename_i e; exact ⟨h.1.1, h.1.2⟩
  · cases h
theorem itR_getD_lt {j : Nat} (h : (itR L j).getD k false = true) : k < L.length := by
  by_cases hk : k < L.length
  · exact hk
  · rw [List.getD_eq_getElem?_getD, List.getElem?_eq_none (by rw [itR_length]; omega)] at h; cases h
theorem itR_zero_getD : (itR L 0).getD k false = false := by
  unfold itR; rw [List.getD_eq_getElem?_getD, List.getElem?_replicate]; split <;> rfl
theorem itR_br : ∀ j, (itR L j).getD k false = true → isBr L k = true
  | 0, h => by rw [itR_zero_getD] at h; cases h
  | j + 1, h => by
    have hk := itR_getD_lt h
    rw [itR, nextR_getD hk, Bool.or_eq_true] at h
    rcases h with h | h
    · exact itR_br j h
    · exact (far_br h).1
theorem itR_count : ∀ j, (∀ i, i < j → farR L (itR L i) L.length ≠ []) → j ≤ cntP (fun k => (itR L j).getD k false) L.length
  | 0, _ => Nat.zero_le _
  | j + 1, h => by
    have h1 := itR_count j (fun i hi => h i (by omega))
    have h2 := h j (by omega)
    have h3 : cntP (fun k => (itR L j).getD k false) L.length < cntP (fun k => (itR L (j + 1)).getD k false) L.length := by
      refine cntP_lt _ (fun k hk hp => ?_) ?_
      · rw [itR, nextR_getD hk]; simp only [hp, Bool.true_or]
      · obtain ⟨x, r, hx⟩ := List.exists_cons_of_ne_nil h2
        obtain ⟨k, hk, _, hf⟩ := (farR_mem (x := x) (n := L.length)).1 (by rw [hx]; simp)
        exact ⟨k, hk, by rw [itR, nextR_getD hk, hf]; simp, (far_br hf).2⟩
    omega
/-- the number of rounds -/
theorem rounds_ex (L : List RIt) : ∃ K, K ≤ cntP (isBr L) L.length ∧ farR L (itR L K) L.length = [] ∧ ∀ i, i < K → farR L (itR L i) L.length ≠ [] := by
  have least : ∀ m : Nat, (∃ K, K < m ∧ farR L (itR L K) L.length = [] ∧ ∀ i, i < K → farR L (itR L i) L.length ≠ []) ∨ ∀ i, i < m → farR L (itR L i) L.length ≠ [] := by
    intro m
    induction m with
    | zero => exact .inr (fun i hi => by omega)
    | succ m ih =>
      rcases ih with ⟨K, h1, h2⟩ | h
      · exact .inl ⟨K, by omega, h2⟩
      · by_cases e : farR L (itR L m) L.length = []
        · exact .inl ⟨m, by omega, e, h⟩
        · refine .inr (fun i hi => ?_)
          rcases Nat.lt_succ_iff_lt_or_eq.1 hi with h1 | rfl
          · exact h i h1
          · exact e
  rcases least (cntP (isBr L) L.length + 1) with ⟨K, h1, h2⟩ | h
  · exact ⟨K, by omega, h2⟩
  · have h1 := itR_count _ h
    have h2 := cntP_le (p := fun k => (itR L (cntP (isBr L) L.length + 1)).getD k false) (q := isBr L) L.length (fun k _ hp => itR_br _ hp)
    omega
/-- so many rounds, and then all fit -/
def RndR (L : List RIt) (K : Nat) : Prop := farR L (itR L K) L.length = [] ∧ ∀ i, i < K → farR L (itR L i) L.length ≠ []
theorem rnd_unique {K K' : Nat} (h : RndR L K) (h' : RndR L K') : K = K' := by
  rcases Nat.lt_trichotomy K K' with e | e | e
  · exact absurd h.1 (h'.2 _ e)
  · exact e
  · exact absurd h'.1 (h.2 _ e)
theorem rnd_bound {K : Nat} (h : RndR L K) : K ≤ L.length := by
  obtain ⟨K', h1, h2⟩ := rounds_ex L
  rw [rnd_unique h h2]
  exact Nat.le_trans h1 (cntP_bound _ _)
/-! ### places grow -/
theorem szR_nonneg (h : okR L = true) : 0 ≤ szR L B k := by
  unfold szR
  have h1 : (0 : Int) ≤ sR L[k]? := by
    cases e : L[k]? with
    | none => exact Int.le_refl _
    | some it =>
      have := List.all_eq_true.1 h it (List.mem_of_getElem? e)
      simp only [okRI, Bool.and_eq_true, decide_eq_true_eq] at this
      show 0 ≤ it.s
      omega
  split <;> omega
theorem szR_small (h : okR L = true) : szR L B k ≤ 2049 := by
  unfold szR
  have h1 : sR L[k]? ≤ 2048 := by
    cases e : L[k]? with
    | none => show (0 : Int) ≤ 2048; omega
    | some it =>
      have := List.all_eq_true.1 h it (List.mem_of_getElem? e)
      simp only [okRI, Bool.and_eq_true, decide_eq_true_eq] at this
      show it.s ≤ 2048
      omega
  split <;> omega
theorem plR_succ (k : Nat) : plR L B (k + 1) = plR L B k + szR L B k := rfl
theorem plR_bd {L : List RIt} {B : List Bool} (h : okR L = true) : ∀ k : Nat, 0 ≤ plR L B k ∧ plR L B k ≤ 2049 * k
  | 0 => by simp [plR]
  | k + 1 => by
    have h1 := @plR_bd L B h k
    have h2 := szR_nonneg h (B := B) (k := k)
    have h3 := szR_small h (B := B) (k := k)
    rw [plR_succ]
    omega
theorem plR_mono (h : okR L = true) {i j : Nat} (hij : i ≤ j) : plR L B i ≤ plR L B j := by
  obtain ⟨d, rfl⟩ := Nat.exists_eq_add_of_le hij
  induction d with
  | zero => exact Int.le_refl _
  | succ d ih =>
    have h1 := ih (by omega)
    have h2 := szR_nonneg h (B := B) (k := i + d)
    rw [show i + (d + 1) = i + d + 1 from rfl, plR_succ]
    omega
/-- no smaller, to the same places -/
structure LeR (L L' : List RIt) : Prop where
  len : L.length = L'.length
  ok : okR L = true
  s : ∀ k : Nat, sR L[k]? ≤ sR L'[k]?
  tb : ∀ (k : Nat) (it it' : RIt), L[k]? = some it → L'[k]? = some it' → it.b = it'.b ∧ (it.b = true → it.t = it'.t)
theorem LeR.refl (h : okR L = true) : LeR L L := ⟨rfl, h, fun _ => Int.le_refl _, fun k it it' h1 h2 => by rw [h1] at h2; cases h2; exact ⟨rfl, fun _ => rfl⟩⟩
end
end Go.Proofs.YtogdpaaofihkgaaGreatDoor
namespace Go.Proofs.YtogdpaaofihkgaaGreatDoor
open Go.RowKit
def wordV (op a b c imm : Int) : Int := if insB op a b c imm = true then wrdI op a b c else 0
theorem wordV_yes {op a b c imm : Int} (h : insB op a b c imm = true) : wordV op a b c imm = wrdI op a b c := by unfold wordV; rw [if_pos h]
theorem wordV_no {op a b c imm : Int} (h : insB op a b c imm = false) : wordV op a b c imm = 0 := by unfold wordV; rw [if_neg (by simp [h])]
theorem word_any (op a b c imm : Int) (w : World) :
    Calls Tryz.prog 63 #[.agg #[.int .i64 op, .int .i64 a, .int .i64 b, .int .i64 c, .int .u32 imm]] w fun e w' => e = .returned (.tuple #[.int .u32 (wordV op a b c imm), .bool (insB op a b c imm)]) ∧ Below w.heap.size w w' := by
  cases h : insB op a b c imm
  · rw [wordV_no h]; exact word_no op a b c imm w h
  · rw [wordV_yes h]; exact word_yes op a b c imm w h
end Go.Proofs.YtogdpaaofihkgaaGreatDoor
namespace Go.Proofs.YtogdpaaofihkgaaGreatDoor
open Go.RowKit
def faultV (c : Int) : Value := .agg #[.int .i64 c, .bool false, .int .i64 0]
theorem bare_any (c : Int) (w : World) : Calls Tryz.prog 24 #[.int .i64 c] w fun e w' => e = .returned (faultV c) ∧ w.grownBy w' none := by
  have Hr := hid (grown_refl w none)
  go_enter Tryz.func24, Tryz.ntmps24
  go_wp2
  refine bodyPost_ret (v := .agg #[.int .i64 c, .bool false, .int .i64 0]) (by simp [results, Tryz.results24, go_sem]) rfl ⟨rfl, grown_alloc Hr.out _⟩
theorem run_not_at (v : Value) (W : World) : (Instr.typeAssert (.iface 189 v) 45 99 true).run Tryz.prog W = .ok (.tuple #[.pointer none, .bool false]) W := by
  have hz : (Tryz.prog.info? 99).map (·.zero) = some (some (.pointer none)) := by kernel_rfl
  cases hi : Tryz.prog.info? 99 with
  | none => simp [hi] at hz
  | some i =>
    have h1 : i.zero = some (.pointer none) := by simpa [hi] using hz
    simp [Instr.typeAssert, run_underlying Tryz.underlying99, zeroValue, typeInfo, hi, h1]
set_option maxHeartbeats 1000000 in
theorem fault_sent {A : Nat → Addr} {w : World} (h : Sents w A) (k : Nat) (hk : k < 16) : Calls Tryz.prog 26 #[errV (A k)] w fun e w' => e = .returned (faultV ((101 + k : Nat) : Int)) ∧ w.grownBy w' none := by
  have H := hid (h.kept0 (World.grownBy_alloc w (.cells #[.int .i64 0, .bool false, .int .i64 0] 52) none))
  have hnil := fun W => run_err_nil (A k) W
  have hat := run_not_at
  have Hs := hid (sentinel_any H.out k hk)
  unfold errV at hnil Hs ⊢
  obtain ⟨C, hC⟩ : ∃ C, ((101 + k : Nat) : Int) = C := ⟨_, rfl⟩
  rw [hC] at Hs ⊢
  clear h hC
  go_enter Tryz.func26, Tryz.ntmps26
  go_wp2_with fail
  refine (Hs.out).mono ?_; rintro e w1 ⟨rfl, hg⟩
  have HG1 := hid hg
  have hfr : w.heap.size < w1.heap.size := by have := hg.size; simp at this; omega
  have hblk : w1.heap[w.heap.size]? = some (.cells #[.int .i64 0, .bool false, .int .i64 0] 52 (0, 0)) := (hg.block _ (by simp) (by simp)).trans (heap_alloc_last _ _)
  have Hblk := hid hblk
  clear hg hblk
  go_wp2_with fail
  refine (bare_any C _).mono ?_; rintro e w2 ⟨rfl, hg⟩
  have HG2 := hid (grown_trans HG1.out hg)
  have hblk : w2.heap[w.heap.size]? = some (.cells #[.int .i64 0, .bool false, .int .i64 0] 52 (0, 0)) := (hg.block _ hfr (by simp)).trans Hblk.out
  have c0 : w2.cell? ⟨w.heap.size, 0, none⟩ = some (.int .i64 0) := by rw [cell_of_row w2 _ _ _ _ _ hblk]; rfl
  have c1 : w2.cell? ⟨w.heap.size, 1, none⟩ = some (.bool false) := by rw [cell_of_row w2 _ _ _ _ _ hblk]; rfl
  have c2 : w2.cell? ⟨w.heap.size, 2, none⟩ = some (.int .i64 0) := by rw [cell_of_row w2 _ _ _ _ _ hblk]; rfl
  have z0 := frozen_of_row w2 w.heap.size 0 _ _ hblk
  have z1 := frozen_of_row w2 w.heap.size 1 _ _ hblk
  have z2 := frozen_of_row w2 w.heap.size 2 _ _ hblk
  clear hblk hg
  unfold faultV
  go_wp2
  refine bodyPost_ret (v := .agg #[.int .i64 C, .bool false, .int .i64 0]) ?_ rfl ⟨rfl, ?_⟩
  · simp [results, Tryz.results26, go_sem, c0, c1, c2]
  · exact grown_new' (grown_setCell (grown_setCell (grown_setCell (grown_none (grown_trans (World.grownBy_alloc _ _ _) HG2.out)) _ _) _ _) _ _) (fun k hk => by obtain rfl := Option.some.inj hk; exact Nat.le_refl _)
end Go.Proofs.YtogdpaaofihkgaaGreatDoor

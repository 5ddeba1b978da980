/- The row's last step where of the world that the call leaves 'Below' is known. -/
import Derived.Test.YtnpnafidhcnkhaaGreatDoorRows
import Derived.WalkKit
import Derived.ProofKit
import Derived.OpenShut
import Derived.Below
import Derived.ChangeSame
import Derived.Laws.MakeOwn
import Derived.Deep.MidRow
import Derived.Deep.Draws
import Derived.WalkSpells
import Derived.WalkLawsBesides
import Derived.Handy
import Derived.RegionTactic
import Derived.Deep.QuietTactic
import Derived.Deep.WholeRow
import Derived.BigQuiet
import Derived.IntWalk
import Derived.Outline
import Derived.Laws.AppendOwn
import Derived.Carry
import Derived.ChangeSlices
import Derived.WideKeyArgs
import Derived.Lib.SmallJoins
import Derived.Deep.AppendLies
import Derived.Laws.BitsLemmas
import Derived.LoopTactic
import Derived.StillTailTactics
import Derived.Deep.Cut
import Derived.ChangeKeysEq
import Derived.OwnWalk
import Derived.Laws.CopyOwn
import Derived.Deep.RegionHeld3
import Derived.LaidEql
import Derived.Stop.LaidErr
import Derived.Laws.ResultCell
namespace Go.Proofs.YtnpnafidhcnkhaaGreatDoor
open Go.RowKit Go.WideShapes Go.ChangeShapes
theorem hid {p : Prop} (h : p) : Hid p := h
theorem ret_i {k : IntKind} {a b : Int} (h : a = b) : Ending.returned (.int k a) = .returned (.int k b) := by rw [h]
theorem ret_b {a b : Bool} (h : a = b) : Ending.returned (.bool a) = .returned (.bool b) := by rw [h]
/-! ### what a step leaves alone -/
section
variable {w w1 w2 : World}
theorem grown_refl (w : World) (r : Option Nat) : w.grownBy w r := ⟨rfl, rfl, rfl, Nat.le_refl _, fun _ _ _ => rfl⟩
theorem grown_trans {r : Option Nat} (h : w.grownBy w1 r) (k : w1.grownBy w2 r) : w.grownBy w2 r :=
  ⟨k.os.trans h.os, k.tape.trans h.tape, k.output.trans h.output, Nat.le_trans h.size k.size, fun i hi hr => (k.block i (Nat.lt_of_lt_of_le hi h.size) hr).trans (h.block i hi hr)⟩
theorem grown_none {r : Option Nat} (h : w.grownBy w1 none) : w.grownBy w1 r := ⟨h.os, h.tape, h.output, h.size, fun i hi _ => h.block i hi (by simp)⟩
theorem grown_drew {r : Option Nat} (h : w.grownBy w1 r) : w.grownBy w1.drew r := ⟨h.os, h.tape, h.output, h.size, h.block⟩
theorem grown_drewN {r : Option Nat} (h : w.grownBy w1 r) (n : Nat) : w.grownBy (w1.drewN n) r := ⟨h.os, h.tape, h.output, h.size, h.block⟩
theorem grown_alloc {r : Option Nat} (h : w.grownBy w1 r) (o : Obj) : w.grownBy (w1.alloc o) r := grown_trans h (World.grownBy_alloc _ _ _)
theorem grown_setCell {b : Nat} (h : w.grownBy w1 (some b)) (k : Nat) (v : Value) : w.grownBy (w1.setCell ⟨b, k, none⟩ v) (some b) :=
  grown_trans h ⟨rfl, rfl, rfl, by simp, fun i _ hi => heap_setCell_other _ _ _ _ (by simpa using hi)⟩
theorem grown_new' {r : Option Nat} (h : w.grownBy w1 r) (hb : ∀ k, r = some k → w.heap.size ≤ k) : w.grownBy w1 none :=
  ⟨h.os, h.tape, h.output, h.size, fun i hi _ => h.block i hi (fun e => by have := hb i e.symm; omega)⟩
theorem grown_below (h : w.grownBy w1 none) : Below w.heap.size w w1 := (Below.refl _ _).grown h (Nat.le_refl _) (by simp)
theorem below_is_grown (h : Below w.heap.size w w1) : w.grownBy w1 none := ⟨h.os, h.tape, h.output, h.size, fun i hi _ => h.block i hi⟩
theorem grown_cell {r : Option Nat} {p : Addr} (h : w.grownBy w1 r) (hp : p.block < w.heap.size) (hr : some p.block ≠ r) : w1.cell? p = w.cell? p := World.cell?_of_block (h.block _ hp hr)
end
/-- words' cells -/
def wA (l : List Int) : Array Value := (l.map (Value.int .u32)).toArray
/-- a block of five cells of the call's own, known -/
structure At5 (w : World) (B : Nat) (v0 v1 v2 v3 v4 : Value) : Prop where
  lt : B < w.heap.size
  c0 : w.cell? ⟨B, 0, none⟩ = some v0
  c1 : w.cell? ⟨B, 1, none⟩ = some v1
  c2 : w.cell? ⟨B, 2, none⟩ = some v2
  c3 : w.cell? ⟨B, 3, none⟩ = some v3
  c4 : w.cell? ⟨B, 4, none⟩ = some v4
theorem At5.new (w : World) (v0 v1 v2 v3 v4 : Value) (t : TypeId) : At5 (w.alloc (.cells #[v0, v1, v2, v3, v4] t)) w.heap.size v0 v1 v2 v3 v4 :=
  ⟨by simp, by simp, by simp, by simp, by simp, by simp⟩
theorem At5.below {w w' : World} {B : Nat} {v0 v1 v2 v3 v4 : Value} (h : At5 w B v0 v1 v2 v3 v4) (hb : Below w.heap.size w w') : At5 w' B v0 v1 v2 v3 v4 :=
  ⟨Nat.lt_of_lt_of_le h.lt hb.size, (hb.cell h.lt).trans h.c0, (hb.cell h.lt).trans h.c1, (hb.cell h.lt).trans h.c2, (hb.cell h.lt).trans h.c3, (hb.cell h.lt).trans h.c4⟩
theorem At5.alloc {w : World} {B : Nat} {v0 v1 v2 v3 v4 : Value} (h : At5 w B v0 v1 v2 v3 v4) (o : Obj) : At5 (w.alloc o) B v0 v1 v2 v3 v4 :=
  h.below ((Below.refl _ _).alloc (Nat.le_refl _) o)
theorem i64_bd {n : Int} (h : (Lit.int .i64 n).wf = true) : -9223372036854775808 ≤ n ∧ n ≤ 9223372036854775807 := by
  have h' := (Bool.and_eq_true _ _).mp h
  exact ⟨of_decide_eq_true h'.1, of_decide_eq_true h'.2⟩
section
variable {H : Type} {enc : TypeId × Value → H} {P : Program}
theorem post_of_below {f : Func} {s : ChangeSpec} {apart fresh handsOn again : Bool} {W W' : World} {args : Array Value} {v : Value} {ds gs : List (DataW H)} {before pa pv : List MemPlace}
    (hW : DataW.Whole enc P f.params.toList s.vars apart W args.toList ds gs before)
    (hres : ∀ (b : Nat) (sp : Nat → Bool) (hd : Bool), DataW.TrodAll enc P W' b sp hd f.resultTypes.toList (v.resultList f.resultTypes.size) (s.fn H (ds ++ gs)).results [])
    (hargs : ∀ sp : Nat → Bool, (∀ p ∈ before, sp p.block = true) → DataW.TrodAll enc P W' 0 sp true f.params.toList args.toList (s.fn H (ds ++ gs)).args pa)
    (hvars : ∀ sp : Nat → Bool, (∀ p ∈ before, sp p.block = true) → DataW.TrodVars enc P W' sp s.vars (s.fn H (ds ++ gs)).vars pv)
    (hps : before = pa ++ pv) (hb : Below W.heap.size W W')
    (hok : ∀ (j : Nat) (t : TypeId) (r : Value), f.resultTypes[j]? = some t → (v.resultList f.resultTypes.size)[j]? = some r → Value.okWide P W' .any 0 t r) :
    s.post enc P f apart fresh handsOn again W args v W' := by
  have old : ∀ p ∈ before, p.block < W.heap.size := fun p hp => hW.lt p hp
  have told : ∀ p ∈ before, (fun b => decide (b < W.heap.size)) p.block = true := fun p hp => decide_eq_true (old p hp)
  refine ⟨ds, gs, before, [], pa, pv, hW, hres _ _ _, hargs _ told, hvars _ told, ?_, ?_⟩
  · refine World.keptBut_mono (fun p hp => ⟨hp, Or.inr ?_⟩) (hb.frame (· ∈ before))
    rw [hps] at hp; exact List.mem_append.1 hp
  · intro _
    obtain ⟨_, _, _, _, _, hz, hn⟩ := hW
    refine ⟨hok, _, _, ([] ++ pa) ++ pv, ⟨[] ++ pa, pv, trodAll_append (hargs _ (fun _ _ => rfl)) (hres _ _ _), hvars _ (fun _ _ => rfl), rfl, ?_, ?_⟩, ?_⟩
    · intro b off hp
      have hin : MemPlace.cell b off ∈ before := by rw [hps]; simpa using hp
      exact (hb.frozen (old _ hin)).trans (hz b off hin)
    · intro ha
      have h := hn ha
      rw [hps] at h
      simpa using h
    · intro p hp _
      rw [hps]
      simpa using hp
end
end Go.Proofs.YtnpnafidhcnkhaaGreatDoor
namespace Go.Proofs.YtnpnafidhcnkhaaGreatDoor
open Go.RowKit
theorem grown_setRow {w w1 : World} (h : w.grownBy w1 none) {B : Nat} (hB : w.heap.size ≤ B) (cs : Array Value) : w.grownBy (w1.setRow B cs) none :=
  ⟨h.os, h.tape, h.output, by have := h.size; simpa [World.setRow] using this, fun i hi hr => (setRow_other w1 B i cs (by omega)).trans (h.block i hi hr)⟩
/-! ### registers -/
/-- sixteen words -/
structure Regs (l : List Int) : Prop where
  len : l.length = 16
  bd : ∀ x ∈ l, 0 ≤ x ∧ x < 4294967296
section
variable {l : List Int}
theorem Regs.set (h : Regs l) (k : Nat) {x : Int} (h0 : 0 ≤ x) (h1 : x < 4294967296) : Regs (l.set k x) :=
  ⟨by rw [List.length_set]; exact h.len, fun y hy => by
    rcases List.mem_or_eq_of_mem_set hy with h2 | rfl
    · exact h.bd y h2
    · exact ⟨h0, h1⟩⟩
end
/-! ### a step -/
section
variable {w w1 : World} {B : Nat} {op a b c imm : Int} {l : List Int}
end
end Go.Proofs.YtnpnafidhcnkhaaGreatDoor
namespace Go.Proofs.YtnpnafidhcnkhaaGreatDoor
open Go.RowKit
/-! ### numbers in a slice -/
/-- the slice value v reads as these numbers -/
def SlAt (w : World) (k : IntKind) (v : Value) (xs : List Int) : Prop :=
  ((∃ p c, v = .slice p 0 c) ∧ xs = []) ∨
  ∃ b o c, v = .slice (some ⟨b, o, none⟩) xs.length c ∧ b < w.heap.size ∧ ∀ j x, xs[j]? = some x → w.cell? ⟨b, o + j, none⟩ = some (.int k x)
theorem SlAt.kept {w w1 : World} {k : IntKind} {v : Value} {xs : List Int} {r : Option Nat} (h : SlAt w k v xs) (hg : w.grownBy w1 r) (hr : v.ownBlock = none ∨ v.ownBlock ≠ r) : SlAt w1 k v xs := by
  rcases h with h | ⟨b, o, c, rfl, hb, hc⟩
  · exact .inl h
  · refine .inr ⟨b, o, c, rfl, Nat.lt_of_lt_of_le hb hg.size, fun j x hx => ?_⟩
    rw [grown_cell hg hb (by simpa [Value.ownBlock] using hr)]
    exact hc j x hx
theorem SlAt.kept0 {w w1 : World} {k : IntKind} {v : Value} {xs : List Int} (h : SlAt w k v xs) (hg : w.grownBy w1 none) : SlAt w1 k v xs :=
  h.kept hg (by cases v.ownBlock <;> simp)
/-- a block of numbers, known whole -/
theorem SlAt.whole {w : World} {k : IntKind} {b c : Nat} {t : TypeId} {xs : List Int} {fr : Nat × Nat} (h : w.heap[b]? = some (.cells (xs.map (Value.int k)).toArray t fr)) : SlAt w k (.slice (some ⟨b, 0, none⟩) xs.length c) xs := by
  refine .inr ⟨b, 0, c, rfl, (Array.getElem?_eq_some_iff.1 h).1, fun j x hx => ?_⟩
  rw [cell_of_row w b _ _ t fr h]
  simp [hx]
theorem SlAt.own {w : World} {k : IntKind} {base : Nat} {t : TypeId} {v : Value} {n : Nat} {xs : List Int} (h : w.ownsRow base t 1 v n (xs.map (Value.int k))) : SlAt w k v xs := by
  obtain ⟨hl, h⟩ := h
  have hl : xs.length = n := by simpa using hl
  rcases h with ⟨rfl, h0⟩ | ⟨g, cap, cur, rfl, _, hg, _, _, _, ht⟩
  · exact .inl ⟨⟨_, _, rfl⟩, List.eq_nil_of_length_eq_zero (by omega)⟩
  · refine .inr ⟨g, 0, cap, by rw [hl], (Array.getElem?_eq_some_iff.1 hg).1, fun j x hx => ?_⟩
    rw [cell_of_row w g _ _ t _ hg, Nat.zero_add]
    have hj : j < xs.length := (List.getElem?_eq_some_iff.1 hx).1
    have := congrArg (·[j]?) ht
    simp only [Nat.mul_one, List.getElem?_take, List.getElem?_map, hx] at this
    rw [if_pos (by omega)] at this
    simpa using this
/-! ### a memory -/
section
variable {w w1 : World} {m b n c : Nat} {xs : List Int}
end
end Go.Proofs.YtnpnafidhcnkhaaGreatDoor
namespace Go.Proofs.YtnpnafidhcnkhaaGreatDoor
open Go.RowKit Go.WideShapes Go.ChangeShapes
theorem u64_bd {n : Int} (h : (Lit.int .u64 n).wf = true) : 0 ≤ n ∧ n ≤ 18446744073709551615 := by
  have h' := (Bool.and_eq_true _ _).mp h
  exact ⟨of_decide_eq_true h'.1, of_decide_eq_true h'.2⟩
section
variable {H : Type} {enc : TypeId × Value → H} {P : Program} {W W' : World}
theorem args_again (hl : laidOutB P = true) {sp : Nat → Bool} : ∀ (ts : List TypeId) (vs : List Value) (ds : List (DataW H)) (ps : List MemPlace), (∀ t ∈ ts, P.readableRec t = true ∧ t < P.types.size) →
    DataW.TrodAll enc P W 0 (fun _ => true) true ts vs ds ps → (∀ p ∈ ps, W.sameAt W' p) → (∀ p ∈ ps, sp p.block = true) → DataW.TrodAll enc P W' 0 sp true ts vs ds ps
  | [], [], [], _, _, h, _, _ => h
  | [], [], _ :: _, _, _, h, _, _ => h
  | [], _ :: _, _, _, _, h, _, _ => h
  | _ :: _, [], _, _, _, h, _, _ => h
  | _ :: _, _ :: _, [], _, _, h, _, _ => h
  | t :: ts, v :: vs, d :: ds, _, ht, ⟨p, q, h, hs, rfl⟩, hsame, hsp =>
    ⟨p, q, Go.WideElems.Trod_stays hl (ht t (by simp)).1 (ht t (by simp)).2 h (fun x hx => hsame x (by simp [hx])) (fun x hx => hsp x (by simp [hx])),
      args_again hl ts vs ds q (fun u hu => ht u (by simp [hu])) hs (fun x hx => hsame x (by simp [hx])) (fun x hx => hsp x (by simp [hx])), rfl⟩
theorem slat_of_cells {t e : TypeId} {k : IntKind} {fuel : Nat} {p : Option Addr} {len cap : Nat} {x : DataW H × List MemPlace} (ht : P.underlying t = some (.slice e)) (he : P.underlying e = some (.int k)) (hc : P.cellsOf e = 1)
    (h : DataW.trod enc P W 0 (fun _ => true) true fuel t [.slice p len cap] = some x) :
    ∃ xs : List Int, SlAt W k (.slice p len cap) xs ∧ (∀ n ∈ xs, (Lit.int k n).wf = true) ∧ xs.length ≤ maxLen := by
  rcases open_ints ht he hc h with ⟨hcs, hx⟩ | ⟨a, len', cap', zs, hcs, _, hl, hm, hz, hx, hcell, hw⟩
  · simp at hcs
    obtain ⟨rfl, rfl, rfl⟩ := hcs
    exact ⟨[], .inl ⟨⟨_, _, rfl⟩, rfl⟩, by simp, by simp⟩
  · simp only [List.cons.injEq, Value.slice.injEq, and_true] at hcs
    obtain ⟨rfl, rfl, rfl⟩ := hcs
    simp only [if_true] at hz
    have hlen : (zs.take len).length = len := by simp; omega
    refine ⟨zs.take len, ?_, fun n hn => hw n (List.mem_of_mem_take hn), by rw [hlen]; omega⟩
    by_cases h0 : len = 0
    · subst h0
      exact .inl ⟨⟨_, _, rfl⟩, by simp⟩
    · obtain ⟨b, off, spot⟩ := a
      have hspot : spot = none := by simpa [Addr.add] using World.cell?_spot (hcell 0 (by omega))
      subst hspot
      have h00 := hcell 0 (by omega)
      refine .inr ⟨b, off, cap, by rw [hlen], ?_, fun j x hx => ?_⟩
      · exact World.block_lt_of_cell? W _ h00
      · have hj : j < len := by have := (List.getElem?_eq_some_iff.1 hx).1; omega
        rw [List.getElem?_take, if_pos hj] at hx
        have := hcell j (by omega)
        rw [Addr.add_mid] at this
        rw [this]
        simp [List.getD, hx]
/-- a slice of numbers that came in -/
theorem slat_of {t e : TypeId} {k : IntKind} {base : Nat} {v : Value} {d : DataW H} {ps : List MemPlace} (ht : P.underlying t = some (.slice e)) (he : P.underlying e = some (.int k)) (hc : P.cellsOf e = 1)
    (hv : Value.okWide P W .any base t v) (h : DataW.Trod enc P W 0 (fun _ => true) true t v d ps) :
    ∃ xs : List Int, SlAt W k v xs ∧ (∀ n ∈ xs, (Lit.int k n).wf = true) ∧ xs.length ≤ maxLen := by
  obtain ⟨p, len, cap, rfl⟩ := okWide_slice ht hv
  obtain ⟨fuel, hf⟩ := h
  exact slat_of_cells (fuel := fuel) ht he hc (by simpa [Value.cells] using hf)
end
end Go.Proofs.YtnpnafidhcnkhaaGreatDoor
namespace Go.Proofs.YtnpnafidhcnkhaaGreatDoor
open Go.RowKit
/-! ### what a step leaves alone, but for some blocks -/
structure Lv (w w' : World) (R : List Nat) : Prop where
  os : w'.os = w.os
  tape : w'.tape = w.tape
  output : w'.output = w.output
  size : w.heap.size ≤ w'.heap.size
  block : ∀ k, k < w.heap.size → k ∉ R → w'.heap[k]? = w.heap[k]?
section
variable {w w0 w1 w2 : World} {R R' : List Nat}
theorem Lv.refl (w : World) (R : List Nat) : Lv w w R := ⟨rfl, rfl, rfl, Nat.le_refl _, fun _ _ _ => rfl⟩
theorem Lv.trans (h : Lv w w1 R) (k : Lv w1 w2 R) : Lv w w2 R :=
  ⟨k.os.trans h.os, k.tape.trans h.tape, k.output.trans h.output, Nat.le_trans h.size k.size, fun i hi hr => (k.block i (Nat.lt_of_lt_of_le hi h.size) hr).trans (h.block i hi hr)⟩
theorem Lv.mono (h : Lv w w1 R) (k : ∀ i ∈ R, i ∈ R') : Lv w w1 R' := ⟨h.os, h.tape, h.output, h.size, fun i hi hr => h.block i hi (fun e => hr (k i e))⟩
theorem Lv.of_none (h : w.grownBy w1 none) (R : List Nat) : Lv w w1 R := ⟨h.os, h.tape, h.output, h.size, fun i hi _ => h.block i hi (by simp)⟩
theorem Lv.old (h : Lv w w1 R) (hR : ∀ i ∈ R, w.heap.size ≤ i) : w.grownBy w1 none :=
  ⟨h.os, h.tape, h.output, h.size, fun i hi _ => h.block i hi (fun e => by have := hR i e; omega)⟩
theorem Lv.cell (h : Lv w w1 R) {p : Addr} (hp : p.block < w.heap.size) (hr : p.block ∉ R) : w1.cell? p = w.cell? p := World.cell?_of_block (h.block _ hp hr)
theorem Lv.drew (h : Lv w w1 R) : Lv w w1.drew R := ⟨h.os, h.tape, h.output, h.size, h.block⟩
theorem Lv.drewN (h : Lv w w1 R) (n : Nat) : Lv w (w1.drewN n) R := ⟨h.os, h.tape, h.output, h.size, h.block⟩
theorem Lv.alloc (h : Lv w w1 R) (o : Obj) : Lv w (w1.alloc o) R := h.trans (Lv.of_none (World.grownBy_alloc _ _ _) _)
theorem Lv.set (h : Lv w w1 R) {b : Nat} (hb : b ∈ R) (k : Nat) (v : Value) : Lv w (w1.setCell ⟨b, k, none⟩ v) R :=
  h.trans ⟨rfl, rfl, rfl, by simp, fun i _ hi => heap_setCell_other _ _ _ _ (fun e => hi (by rw [e]; exact hb))⟩
theorem own_base {B B' : Nat} {e : TypeId} {size : Nat} {v : Value} {n : Nat} {l : List Value} (h : w.ownsRow B' e size v n l) (hB : B ≤ B') : w.ownsRow B e size v n l := by
  refine ⟨h.1, ?_⟩
  rcases h.2 with hn | ⟨g, cap, cur, rfl, hb, rest⟩
  · exact .inl hn
  · exact .inr ⟨g, cap, cur, rfl, Nat.le_trans hB hb, rest⟩
end
theorem wrap_i64_id {n : Int} (h0 : -9223372036854775808 ≤ n) (h1 : n ≤ 9223372036854775807) : IntKind.i64.wrap n = n := by
  rw [IntKind.wrap_i64]; omega
/-! ### what is seen -/
abbrev Sn := Int × Int × Int
def snCells : List Sn → List Value
  | [] => []
  | s :: r => .int .i64 s.1 :: .int .u32 s.2.1 :: .int .u32 s.2.2 :: snCells r
/-- the slice value v reads as what is seen -/
def SnAt (w : World) (v : Value) (l : List Sn) : Prop :=
  ((∃ p c, v = .slice p 0 c) ∧ l = []) ∨
  ∃ b c, v = .slice (some ⟨b, 0, none⟩) l.length c ∧ b < w.heap.size ∧ ∀ j u, (snCells l)[j]? = some u → w.cell? ⟨b, j, none⟩ = some u
theorem SnAt.keptL {w w1 : World} {v : Value} {l : List Sn} {R : List Nat} (h : SnAt w v l) (hg : Lv w w1 R) (hr : ∀ g, v.ownBlock = some g → g ∉ R) : SnAt w1 v l := by
  rcases h with h | ⟨b, c, rfl, hb, hc⟩
  · exact .inl h
  · refine .inr ⟨b, c, rfl, Nat.lt_of_lt_of_le hb hg.size, fun j x hx => ?_⟩
    rw [hg.cell hb (hr b rfl)]
    exact hc j x hx
theorem SnAt.kept0 {w w1 : World} {v : Value} {l : List Sn} (h : SnAt w v l) (hg : w.grownBy w1 none) : SnAt w1 v l := h.keptL (Lv.of_none hg []) (by simp)
theorem SnAt.own {w : World} {B : Nat} {t : TypeId} {v : Value} {l : List Sn} (h : w.ownsRow B t 3 v l.length (snCells l)) : SnAt w v l := by
  obtain ⟨hl, h⟩ := h
  rcases h with ⟨rfl, h0⟩ | ⟨g, cap, cur, rfl, _, hg, _, _, _, ht⟩
  · exact .inl ⟨⟨_, _, rfl⟩, List.eq_nil_of_length_eq_zero h0⟩
  · refine .inr ⟨g, cap, rfl, (Array.getElem?_eq_some_iff.1 hg).1, fun j u hu => ?_⟩
    rw [cell_of_row w g _ _ t _ hg]
    have := congrArg (·[j]?) ht
    simp only [List.getElem?_take, hu] at this
    have hj : j < (snCells l).length := (List.getElem?_eq_some_iff.1 hu).1
    rw [hl] at hj
    rw [if_pos hj] at this
    simpa using this
theorem SnAt.len {w : World} {v : Value} {l : List Sn} (h : SnAt w v l) : ∃ p c, v = .slice p l.length c := by
  rcases h with ⟨⟨p, c, rfl⟩, rfl⟩ | ⟨b, c, rfl, _⟩
  · exact ⟨_, _, rfl⟩
  · exact ⟨_, _, rfl⟩
/-! ### devices -/
structure DvS where
  Q : List Int
  S : List Int
  fr : Int
  af : Int
  sn : List Sn
structure DevIs (cur : Array Value) (f : Nat) (x : DvS) (v : Value) : Prop where
  size : cur.size = 85
  one : ∀ (k : Nat) (u : Value), cur[k]? = some u → u.oneCell' = true
  f64 : f < 64
  first : cur[64]? = some (.int .i64 f)
  ring : ∀ (j : Nat) (y : Int), x.Q[j]? = some y → cur[(f + j) % 64]? = some (.int .u32 y)
  count : cur[65]? = some (.int .i64 x.Q.length)
  q64 : x.Q.length ≤ 64
  sec : ∀ (k : Nat) (y : Int), x.S[k]? = some y → cur[66 + k]? = some (.int .u32 y)
  s16 : x.S.length = 16
  frm : cur[82]? = some (.int .i64 x.fr)
  aft : cur[83]? = some (.int .u32 x.af)
  seen : cur[84]? = some v
theorem set_ne {cur : Array Value} {k j : Nat} (u : Value) (h : k ≠ j) : (cur.setIfInBounds k u)[j]? = cur[j]? := by
  rw [Array.getElem?_setIfInBounds, if_neg h]
theorem set_eq {cur : Array Value} {k : Nat} (u : Value) (h : k < cur.size) : (cur.setIfInBounds k u)[k]? = some u := by
  rw [Array.getElem?_setIfInBounds, if_pos rfl, if_pos h]
theorem set_one {cur : Array Value} (h : ∀ (k : Nat) (u : Value), cur[k]? = some u → u.oneCell' = true) (k : Nat) {v : Value} (hv : v.oneCell' = true) : ∀ (j : Nat) (u : Value), (cur.setIfInBounds k v)[j]? = some u → u.oneCell' = true := by
  intro j u hu
  rw [Array.getElem?_setIfInBounds] at hu
  split at hu
  · split at hu
    · obtain rfl := Option.some.inj hu; exact hv
    · cases hu
  · exact h j u hu
section
variable {cur : Array Value} {f : Nat} {x : DvS} {v : Value}
theorem DevIs.push (h : DevIs cur f x v) (hq : x.Q.length < 64) (key : Int) :
    DevIs ((cur.setIfInBounds ((f + x.Q.length) % 64) (.int .u32 key)).setIfInBounds 65 (.int .i64 (x.Q.length + 1 : Nat))) f { x with Q := x.Q ++ [key] } v := by
  have hs := h.size
  have hf := h.f64
  refine ⟨by simp [hs], set_one (set_one h.one _ rfl) _ rfl, h.f64, ?_, ?_, ?_, by simp; omega, ?_, h.s16, ?_, ?_, ?_⟩
  · rw [set_ne _ (by omega), set_ne _ (by omega)]; exact h.first
  · intro j y hy
    rw [set_ne _ (by omega)]
    simp only [List.getElem?_append] at hy
    split at hy
    · rename_i hj
      rw [set_ne _ (by omega)]
      exact h.ring j y hy
    · rename_i hj
      have e : j = x.Q.length := by
        have := (List.getElem?_eq_some_iff.1 hy).1
        simp at this; omega
      subst e
      simp at hy
      subst hy
      rw [set_eq _ (by omega)]
  · rw [set_eq _ (by simp; omega)]; simp
  · intro k y hy
    have hk := (List.getElem?_eq_some_iff.1 hy).1
    have := h.s16
    rw [set_ne _ (by omega), set_ne _ (by omega)]; exact h.sec k y hy
  · rw [set_ne _ (by omega), set_ne _ (by omega)]; exact h.frm
  · rw [set_ne _ (by omega), set_ne _ (by omega)]; exact h.aft
  · rw [set_ne _ (by omega), set_ne _ (by omega)]; exact h.seen
theorem DevIs.put (h : DevIs cur f x v) {k : Nat} (hk : k < 16) (y : Int) : DevIs (cur.setIfInBounds (66 + k) (.int .u32 y)) f { x with S := x.S.set k y } v := by
  have hs := h.size
  have hf := h.f64
  refine ⟨by simp [hs], set_one h.one _ rfl, h.f64, ?_, ?_, ?_, h.q64, ?_, by simpa using h.s16, ?_, ?_, ?_⟩
  · rw [set_ne _ (by omega)]; exact h.first
  · intro j z hz
    rw [set_ne _ (by omega)]; exact h.ring j z hz
  · rw [set_ne _ (by omega)]; exact h.count
  · intro j z hz
    rw [List.getElem?_set] at hz
    by_cases e : k = j
    · subst e
      rw [if_pos rfl, if_pos (by rw [h.s16]; exact hk)] at hz
      rw [set_eq _ (by omega), Option.some.inj hz]
    · rw [if_neg e] at hz
      rw [set_ne _ (by omega)]; exact h.sec j z hz
  · rw [set_ne _ (by omega)]; exact h.frm
  · rw [set_ne _ (by omega)]; exact h.aft
  · rw [set_ne _ (by omega)]; exact h.seen
theorem DevIs.show (h : DevIs cur f x v) {u : Value} (hu : u.oneCell' = true) (l : List Sn) : DevIs (cur.setIfInBounds 84 u) f { x with sn := l } u := by
  have hs := h.size
  have hf := h.f64
  refine ⟨by simp [hs], set_one h.one _ hu, h.f64, ?_, ?_, ?_, h.q64, ?_, h.s16, ?_, ?_, ?_⟩
  · rw [set_ne _ (by omega)]; exact h.first
  · intro j z hz
    rw [set_ne _ (by omega)]; exact h.ring j z hz
  · rw [set_ne _ (by omega)]; exact h.count
  · intro j z hz
    have hk : j < x.S.length := (List.getElem?_eq_some_iff.1 hz).1
    have := h.s16
    rw [set_ne _ (by omega)]; exact h.sec j z hz
  · rw [set_ne _ (by omega)]; exact h.frm
  · rw [set_ne _ (by omega)]; exact h.aft
  · rw [set_eq _ (by omega)]
end
def foot (d : Nat) (v : Value) : List Nat := d :: v.ownBlock.toList
theorem mem_foot {d i : Nat} {v : Value} : i ∈ foot d v ↔ i = d ∨ v.ownBlock = some i := by
  unfold foot
  rw [List.mem_cons, Option.mem_toList]
section
variable {w w1 : World} {B B' d : Nat} {x : DvS} {v : Value} {R : List Nat}
end
/-- what was written is new, or was its own -/
def Mine (w : World) (v v' : Value) : Prop := v'.ownBlock = v.ownBlock ∨ ∀ g, v'.ownBlock = some g → w.heap.size ≤ g
/-- two that share nothing -/
def Apart (R R' : List Nat) : Prop := ∀ i ∈ R, i ∉ R'
theorem Apart.symm {R R' : List Nat} (h : Apart R R') : Apart R' R := fun i hi k => h i k hi
theorem Apart.mine {w : World} {d : Nat} {v v' : Value} {R : List Nat} (h : Apart (foot d v) R) (hm : Mine w v v') (hR : ∀ i ∈ R, i < w.heap.size) : Apart (foot d v') R := by
  intro i hi hi2
  rcases mem_foot.1 hi with rfl | hi
  · exact h _ (mem_foot.2 (.inl rfl)) hi2
  · rcases hm with hm | hm
    · exact h i (mem_foot.2 (.inr (hm.symm.trans hi))) hi2
    · have := hm i hi; have := hR i hi2; omega
end Go.Proofs.YtnpnafidhcnkhaaGreatDoor
namespace Go.Proofs.YtnpnafidhcnkhaaGreatDoor
open Go.RowKit
/-- a processor -/
structure Cp where
  l : List Int
  pc : Int
  ie : Bool
  eie : Bool
  epc : Int
  tv : Int
  ca : Int
  ad : Int
section
variable {x : Cp} (h : x.l.length = 16)
include h
end
section
variable {w w1 : World} {B : Nat} {x : Cp}
end
/-! ### whole processors, loaded and stored -/
section
variable {ops : Array Oper} {rest : List Oper} {o : Oper} {a : Act} {w : World} {Q : Exit → Act → World → Prop} {g : Nat} {y : Cp}
end
/-! ### what the calls make of a processor -/
end Go.Proofs.YtnpnafidhcnkhaaGreatDoor
namespace Go.Proofs.YtnpnafidhcnkhaaGreatDoor
open Go.RowKit
/-- a block holds these cells -/
structure RwAt (w : World) (B : Nat) (t : TypeId) (cs : Array Value) : Prop where
  blk : w.heap[B]? = some (.cells cs t (0, 0))
section
variable {w w1 : World} {B : Nat} {t : TypeId} {cs : Array Value}
theorem RwAt.lt (h : RwAt w B t cs) : B < w.heap.size := (Array.getElem?_eq_some_iff.1 h.blk).1
theorem RwAt.kept {r : Option Nat} (h : RwAt w B t cs) (hg : w.grownBy w1 r) (hr : some B ≠ r) : RwAt w1 B t cs := ⟨(hg.block _ h.lt hr).trans h.blk⟩
theorem RwAt.kept0 (h : RwAt w B t cs) (hg : w.grownBy w1 none) : RwAt w1 B t cs := h.kept hg (by simp)
theorem RwAt.keptL {R : List Nat} (h : RwAt w B t cs) (hg : Lv w w1 R) (hr : B ∉ R) : RwAt w1 B t cs := ⟨(hg.block _ h.lt hr).trans h.blk⟩
theorem RwAt.alloc (h : RwAt w B t cs) (o : Obj) : RwAt (w.alloc o) B t cs := ⟨(heap_alloc_old _ _ h.lt).trans h.blk⟩
theorem RwAt.new (w : World) (t : TypeId) (cs : Array Value) : RwAt (w.alloc (.cells cs t)) w.heap.size t cs := ⟨heap_alloc_last w _⟩
theorem RwAt.new2 (w : World) (o : Obj) (t : TypeId) (cs : Array Value) : RwAt ((w.alloc o).alloc (.cells cs t)) (w.heap.size + 1) t cs := ⟨heap_alloc2_new w _ _⟩
theorem RwAt.other (h : RwAt w B t cs) (C k : Nat) (v : Value) (hC : B ≠ C) : RwAt (w.setCell ⟨C, k, none⟩ v) B t cs := ⟨(heap_setCell_other _ _ _ _ hC).trans h.blk⟩
theorem RwAt.set (h : RwAt w B t cs) (k : Nat) (v : Value) : RwAt (w.setCell ⟨B, k, none⟩ v) B t (cs.setIfInBounds k v) := ⟨heap_setCell_same w B k _ _ _ h.blk⟩
theorem RwAt.row (h : RwAt w B t cs) (c : Array Value) : RwAt (w.setRow B c) B t c := ⟨setRow_heap _ _ _ _ _ _ h.blk⟩
theorem RwAt.cell (h : RwAt w B t cs) (k : Nat) {v : Value} (hv : cs[k]? = some v) : w.cell? ⟨B, k, none⟩ = some v := by
  rw [cell_of_row w B k _ _ _ h.blk, hv]
theorem RwAt.free (h : RwAt w B t cs) (k : Nat) : w.frozen? ⟨B, k, none⟩ = false := frozen_of_row w B k _ _ h.blk
end
/-! ### regions that load whole structs first -/
section
variable {P : Program} {ops : Array Oper} {rest : List Oper} {o : Oper} {a : Act} {w : World} {Q : Act → Prop}
theorem run_load_row (t : TypeId) (p : Operand) (ho : o.op = .load t p) {g : Nat} (hx : a.eval p = .pointer (some ⟨g, 0, none⟩)) {t' : TypeId} {cs : Array Value} {fr : Nat × Nat} {d : TypeDesc}
    (hg : w.heap[g]? = some (.cells cs t' fr)) (hd : d.isRow = true) (hu : P.underlying t = some d) (hi : (P.info? t).map (·.size) = some cs.size) :
    (execOp a.eval o).run P w = .ok (.value (.agg cs)) w := by
  have hv := run_loadVar_row (P := P) w g t' t cs fr d hg hu (by cases d <;> first | rfl | cases hd) hi
  unfold execOp
  simp only [ho, hx, Instr.loadAt, Instr.sureAddr, Sem.run_bind, Sem.run_pure, Result.andThen_ok, hv]
end
section
variable {ops : Array Oper} {rest : List Oper} {o : Oper} {a : Act} {w : World}
theorem wpList_load_rw {Q : Exit → Act → World → Prop} (hgd : o.guard = none) (t : TypeId) (p : Operand) (ho : o.op = .load t p) {g : Nat} (hx : a.eval p = .pointer (some ⟨g, 0, none⟩)) {cs : Array Value} (hg : RwAt w g t cs) {d : TypeDesc}
    (hd : d.isRow = true) (hu : Tryz.prog.underlying t = some d) (hi : (Tryz.prog.info? t).map (·.size) = some cs.size)
    (h : wpList Tryz.prog ops Q rest (a.put o.dst (.agg cs)) w) : wpList Tryz.prog ops Q (o :: rest) a w :=
  wpList_load_row hgd t p ho g hx _ _ _ d hg.blk hu (by cases d <;> first | rfl | cases hd) hi h
theorem wpList_store_rw {Q : Exit → Act → World → Prop} (hgd : o.guard = none) (t : TypeId) (p q : Operand) (ho : o.op = .store t p q) {g : Nat} (hx : a.eval p = .pointer (some ⟨g, 0, none⟩)) {cs : Array Value} (hy : a.eval q = .agg cs) {z : Array Value} (hz : RwAt w g t z)
    (hi : (Tryz.prog.info? t).map (·.size) = some cs.size) (hs : z.size = cs.size) (h1 : cs.all (·.oneCell') = true)
    (h : wpList Tryz.prog ops Q rest (a.put o.dst undef) (w.setRow g cs)) : wpList Tryz.prog ops Q (o :: rest) a w :=
  wpList_store_row hgd t p q ho g _ hx hy _ _ hz.blk hi hs h1 h
end
/-! ### stops and instructions -/
def inC (op a b c im : Int) : Array Value := #[.int .i64 op, .int .i64 a, .int .i64 b, .int .i64 c, .int .u32 im]
section
variable {w : World} {B : Nat} {t : TypeId} {ca ad op a b c im ln : Int}
end
/-! ### registers of a processor in a block, written -/
section
variable {w : World} {B : Nat}
theorem RwAt.rowOther {t : TypeId} {cs : Array Value} (h : RwAt w B t cs) (C : Nat) (c : Array Value) (hC : B ≠ C) : RwAt (w.setRow C c) B t cs :=
  ⟨(setRow_other w C B c hC).trans h.blk⟩
end
end Go.Proofs.YtnpnafidhcnkhaaGreatDoor
namespace Go.Proofs.YtnpnafidhcnkhaaGreatDoor
open Go.RowKit
/-- a line of an instruction -/
def lnC (op a : Int) : Array Value := #[.int .i64 op, .int .i64 a, .int .i64 0, .int .i64 0, .int .u32 0, .string ByteArray.empty, .string ByteArray.empty, .bool false]
theorem zero_line (w : World) : (zeroValue 31).run Tryz.prog w = .ok (.agg (lnC 0 0)) w := by kernel_rfl
theorem build_line (op : Int) (w : World) : (Instr.build 31 #[(0, .agg (inC op 0 0 0 0))]).run Tryz.prog w = .ok (.agg (lnC op 0)) w := by kernel_rfl
theorem build_op (op : Int) (w : World) : (Instr.build 29 #[(0, .int .i64 op)]).run Tryz.prog w = .ok (.agg (inC op 0 0 0 0)) w := by kernel_rfl
theorem line_one (op a : Int) : (lnC op a).all (·.oneCell') = true := by simp [lnC, Value.oneCell']
section
variable {ops : Array Oper} {rest : List Oper} {o : Oper} {A : Act} {w : World} {Q : Exit → Act → World → Prop}
theorem wpList_build_op (hgd : o.guard = none) (x : Operand) (ho : o.op = .build 29 #[(0, x)]) {op : Int} (hx : A.eval x = .int .i64 op) (h : wpList Tryz.prog ops Q rest (A.put o.dst (.agg (inC op 0 0 0 0))) w) : wpList Tryz.prog ops Q (o :: rest) A w := by
  refine wpList_plain hgd fun K hK => ?_
  unfold Oper.wp
  simp [execOp, ho, hx, build_op op w, Result.andThen]
  exact hK _ _ h
theorem wpList_build_line (hgd : o.guard = none) (x : Operand) (ho : o.op = .build 31 #[(0, x)]) {op : Int} (hx : A.eval x = .agg (inC op 0 0 0 0)) (h : wpList Tryz.prog ops Q rest (A.put o.dst (.agg (lnC op 0))) w) : wpList Tryz.prog ops Q (o :: rest) A w := by
  refine wpList_plain hgd fun K hK => ?_
  unfold Oper.wp
  simp [execOp, ho, hx, build_line op w, Result.andThen]
  exact hK _ _ h
end
set_option maxRecDepth 100000 in
set_option maxHeartbeats 1000000 in
theorem op_nil (op : Int) (W : World) : Calls Tryz.prog 11 #[.int .i64 op, .slice none 0 0] W fun e w' => e = .returned (.agg (lnC op 0)) ∧ W.grownBy w' none := by
  have Hz := zero_line
  obtain ⟨b1, b2, e1, e2⟩ : ∃ b1 b2, b1 = W.heap.size ∧ b2 = b1 + 1 := ⟨_, _, rfl, rfl⟩
  have hg : W.grownBy (((W.alloc (.cells (lnC 0 0) 31)).alloc (.cells (lnC 0 0) 31)).setRow (W.heap.size + 1) (lnC op 0)) none := grown_setRow (grown_alloc (grown_alloc (grown_refl _ _) _) _) (Nat.le_succ _) _
  have H1 : Hid (RwAt (((W.alloc (.cells (lnC 0 0) 31)).alloc (.cells (lnC 0 0) 31)).setRow (W.heap.size + 1) (lnC op 0)) W.heap.size 31 (lnC 0 0)) := hid (((RwAt.new W _ _).alloc _).rowOther _ _ (by omega))
  have H2 : Hid (RwAt (((W.alloc (.cells (lnC 0 0) 31)).alloc (.cells (lnC 0 0) 31)).setRow (W.heap.size + 1) (lnC op 0)) (W.heap.size + 1) 31 (lnC op 0)) := hid ((RwAt.new2 W _ _ _).row _)
  have HG := hid hg
  clear hg
  go_enter Tryz.func11, Tryz.ntmps11
  go_upto_region 2 with (first
    | (refine wpList_build_op rfl _ rfl rfl ?_)
    | (refine wpList_build_line rfl _ rfl rfl ?_)
    | (refine wpList_store_rw rfl 31 _ _ rfl rfl rfl (RwAt.new2 _ _ _ _) (by kernel_rfl) rfl (line_one _ _) ?_)
    | fail)
  generalize (((W.alloc (.cells (lnC 0 0) 31)).alloc (.cells (lnC 0 0) 31)).setRow (W.heap.size + 1) (lnC op 0)) = w2 at H1 H2 HG ⊢
  have HB : Hid (W.heap.size ≤ b1) := hid (Nat.le_of_eq e1.symm)
  rw [← e1, ← e2] at H2
  rw [← e1] at H1
  rw [← e1, ← e2]
  clear e1 e2
  have E1 := hid (H1.out.row (lnC op 0))
  have EG := hid (grown_setRow HG.out HB.out (lnC op 0))
  go_wp2_with (first
    | (refine wpList_load_rw rfl 31 _ rfl rfl H2.out rfl Tryz.underlying31 (by kernel_rfl) ?_)
    | (refine wpList_store_rw rfl 31 _ _ rfl rfl rfl H1.out (by kernel_rfl) rfl (line_one _ _) ?_)
    | fail)
  refine bodyPost_ret (results_cell_row Tryz.results11 _ _ b1 _ _ _ _ rfl E1.out.blk Tryz.underlying31 rfl (by kernel_rfl)) rfl ?_
  exact ⟨rfl, EG.out⟩
end Go.Proofs.YtnpnafidhcnkhaaGreatDoor
namespace Go.Proofs.YtnpnafidhcnkhaaGreatDoor
def clsI (op : Int) : Int :=
  if 1 ≤ op ∧ op ≤ 24 then 1 else if 32 ≤ op ∧ op ≤ 44 then 2 else if 64 ≤ op ∧ op ≤ 67 then 3 else if op = 96 then 4 else 0
def twoB (op : Int) : Bool := decide (op = 14 ∨ op = 15 ∨ op = 19 ∨ op = 20 ∨ op = 21 ∨ op = 22 ∨ op = 96)
def jmpB (op : Int) : Bool := decide (op = 16 ∨ op = 17 ∨ op = 18 ∨ op = 19 ∨ op = 20 ∨ op = 21 ∨ op = 22 ∨ op = 23)
/-- the kind of C where an instruction has one -/
def thirdI (op : Int) : Int := if 16 ≤ op ∧ op ≤ 23 ∨ op = 12 ∨ op = 13 then 2 else 1
/-- kinds of A, B, C: 0 none, 1 a register, 2 a number -/
def hasA (op : Int) : Int :=
  if op = 14 ∨ op = 15 ∨ op = 20 ∨ op = 21 ∨ op = 23 ∨ op = 32 ∨ op = 33 ∨ op = 35 ∨ op = 36 ∨ op = 39 ∨ op = 40 ∨ op = 43 ∨ op = 44 ∨ op = 66 ∨ op = 67 ∨ op = 2 ∨ op = 37 ∨ op = 38 ∨ op = 41 ∨ (3 ≤ op ∧ op ≤ 13) ∨ op = 24 ∨ op = 17 ∨ op = 18 then 1 else 0
def hasB (op : Int) : Int := if op = 2 ∨ op = 37 ∨ op = 38 ∨ op = 41 ∨ (3 ≤ op ∧ op ≤ 13) ∨ op = 24 then 1 else 0
def hasC (op : Int) : Int := if op = 12 ∨ op = 13 ∨ op = 16 ∨ op = 17 ∨ op = 18 then 2 else if (3 ≤ op ∧ op ≤ 11) ∨ op = 24 then 1 else 0
def alwB (k n : Int) : Bool := if k = 1 then decide (0 ≤ n ∧ n < 16) else if k = 2 then decide (0 ≤ n ∧ n ≤ 255) else decide (n = 0)
/-- an instruction that may be -/
def insB (op a b c imm : Int) : Bool := decide (clsI op ≠ 0) && alwB (hasA op) a && alwB (hasB op) b && alwB (hasC op) c && (decide (imm = 0) || twoB op)
def wrdI (op a b c : Int) : Int := op * 16777216 + a * 65536 + b * 256 + c
theorem alw_bd {k n : Int} (h : alwB k n = true) : 0 ≤ n ∧ n ≤ 255 := by
  unfold alwB at h
  split at h
  · have := of_decide_eq_true h; omega
  · split at h
    · exact of_decide_eq_true h
    · have := of_decide_eq_true h; omega
theorem cls_bd {op : Int} (h : clsI op ≠ 0) : 1 ≤ op ∧ op ≤ 96 := by
  unfold clsI at h
  split at h
  · omega
  · split at h
    · omega
    · split at h
      · omega
      · split at h <;> omega
theorem ins_parts {op a b c imm : Int} (h : insB op a b c imm = true) :
    clsI op ≠ 0 ∧ alwB (hasA op) a = true ∧ alwB (hasB op) b = true ∧ alwB (hasC op) c = true ∧ (imm = 0 ∨ twoB op = true) := by
  unfold insB at h
  simp only [Bool.and_eq_true, Bool.or_eq_true, decide_eq_true_eq] at h
  exact ⟨h.1.1.1.1, h.1.1.1.2, h.1.1.2, h.1.2, h.2⟩
theorem ins_bd {op a b c imm : Int} (h : insB op a b c imm = true) :
    (1 ≤ op ∧ op ≤ 96) ∧ (0 ≤ a ∧ a ≤ 255) ∧ (0 ≤ b ∧ b ≤ 255) ∧ (0 ≤ c ∧ c ≤ 255) := by
  obtain ⟨h1, h2, h3, h4, _⟩ := ins_parts h
  exact ⟨cls_bd h1, alw_bd h2, alw_bd h3, alw_bd h4⟩
end Go.Proofs.YtnpnafidhcnkhaaGreatDoor
namespace Go.Proofs.YtnpnafidhcnkhaaGreatDoor
/-- a relocation: where, its kind, its symbol, so many words more -/
structure Rl where
  a : Int
  k : Int
  s : Int
  d : Int
deriving DecidableEq
structure Sy where
  n : ByteArray
  i : Int
  v : Int
  g : Bool
deriving DecidableEq
structure PO where
  D : List Int
  C : List Int
  M : List Int
  R : List Rl
  Q : List Rl
  S : List Sy
deriving DecidableEq
def rl0 : Rl := ⟨0, 0, 0, 0⟩
def sy0 : Sy := ⟨⟨#[]⟩, 0, 0, false⟩
/-! ### which may be -/
def opW (w : Int) : Int := if insB (w / 16777216) (w / 65536 % 256) (w / 256 % 256) (w % 256) 0 = true then w / 16777216 else 0
def mapN (x : PO) (k : Nat) : Int := x.M.getD k 0
def opN (x : PO) (k : Nat) : Int := if mapN x k = 1 then opW (x.C.getD k 0) else 0
/-- the operation ahead of word k -/
def opB (x : PO) (k : Nat) : Int := if k = 0 then 0 else opN x (k - 1)
def brB (op : Int) : Bool := decide (op = 16 ∨ op = 17 ∨ op = 18)
def farB (op : Int) : Bool := decide (op = 19 ∨ op = 20 ∨ op = 21 ∨ op = 22)
def manyB (x : PO) : Bool := decide (2048 < x.D.length ∨ 2048 < x.C.length ∨ 1024 < x.R.length ∨ 1024 < x.Q.length ∨ 256 < x.S.length)
def firstF (x : PO) (k : Nat) : Option Nat :=
  if opN x k = 0 ∨ clsI (opN x k) = 4 then some 4
  else if twoB (opN x k) = true ∧ (k + 1 = x.C.length ∨ mapN x (k + 1) ≠ 0) then some 8 else none
def wordF (x : PO) (k : Nat) : Option Nat :=
  if mapN x k = 1 then firstF x k
  else if mapN x k = 0 then (if twoB (opB x k) = true then none else some 8)
  else if mapN x k = 2 then none else some 8
def symN (x : PO) (k : Nat) : Sy := x.S.getD k sy0
def standsB (x : PO) (s : Sy) : Bool :=
  if s.i = 1 then decide (0 ≤ s.v ∧ (s.v < x.D.length ∨ s.v < 1))
  else if s.i = 2 then decide (0 ≤ s.v ∧ s.v < x.C.length ∧ mapN x s.v.toNat = 1)
  else if s.i = 3 then decide (s.v = 0 ∧ s.g = true) else false
def twiceB (x : PO) (k : Nat) : Bool := (x.S.take k).any fun s => decide (s.n = (symN x k).n)
def symF (x : PO) (k : Nat) : Option Nat :=
  if (symN x k).n.size = 0 ∨ 32 < (symN x k).n.size then some 2
  else if twiceB x k = true then some 5 else if standsB x (symN x k) = true then none else some 2
def rlN (l : List Rl) (k : Nat) : Rl := l.getD k rl0
def inB (x : PO) (l : List Rl) (k : Nat) (n : Int) : Bool :=
  decide ((k = 0 ∨ (rlN l (k - 1)).a < (rlN l k).a) ∧ 0 ≤ (rlN l k).a ∧ (rlN l k).a < n ∧ 0 ≤ (rlN l k).s ∧ (rlN l k).s < x.S.length ∧ -65536 ≤ (rlN l k).d ∧ (rlN l k).d ≤ 65536)
def toB (x : PO) (r : Rl) : Bool := decide ((symN x r.s.toNat).i = 1)
def outB (x : PO) (r : Rl) : Bool := decide (r.d ≠ 0) && !toB x r
def dataF (x : PO) (k : Nat) : Option Nat :=
  if inB x x.R k x.D.length = false ∨ (rlN x.R k).k ≠ 1 then some 2
  else if outB x (rlN x.R k) = true then some 1 else none
def repB (x : PO) (r : Rl) : Bool :=
  if r.k = 2 then brB (opN x r.a.toNat) && !toB x r
  else if mapN x r.a.toNat = 2 then true
  else decide (opB x r.a.toNat = 14) || decide (opB x r.a.toNat = 15) || (farB (opB x r.a.toNat) && !toB x r)
def codeF (x : PO) (k : Nat) : Option Nat :=
  if inB x x.Q k x.C.length = false ∨ ((rlN x.Q k).k ≠ 1 ∧ (rlN x.Q k).k ≠ 2) then some 2
  else if repB x (rlN x.Q k) = false ∨ outB x (rlN x.Q k) = true then some 1 else none
def hasRB (x : PO) (k : Int) : Bool := x.Q.any fun r => decide (r.a = k)
def unrF (x : PO) (k : Nat) : Option Nat :=
  if (brB (opN x k) = true ∧ hasRB x k = false) ∨ ((opN x k = 15 ∨ farB (opN x k) = true) ∧ hasRB x (k + 1 : Nat) = false) then some 6 else none
/-- the first of n that is wrong -/
def scanP (f : Nat → Option Nat) : Nat → Option (Nat × Nat)
  | 0 => none
  | n + 1 => match scanP f n with
    | some y => some y
    | none => (f n).map fun c => (c, n)
abbrev Fl := Option (Nat × Option Nat)
def scanF (f : Nat → Option Nat) (n : Nat) (rest : Fl) : Fl :=
  match scanP f n with
  | some (c, k) => some (c, some k)
  | none => rest
def validP (x : PO) : Fl :=
  if manyB x = true then some (3, none) else if x.M.length ≠ x.C.length then some (8, none)
  else scanF (wordF x) x.C.length (scanF (symF x) x.S.length (scanF (dataF x) x.R.length (scanF (codeF x) x.Q.length (scanF (unrF x) x.C.length none))))
theorem scanP_none {f : Nat → Option Nat} : ∀ {n : Nat}, (∀ k, k < n → f k = none) → scanP f n = none
  | 0, _ => rfl
  | n + 1, h => by
    rw [scanP, scanP_none (fun k hk => h k (by omega)), h n (by omega)]
    rfl
theorem scanP_some {f : Nat → Option Nat} {c k : Nat} (hc : f k = some c) (h : ∀ j, j < k → f j = none) : ∀ {n : Nat}, k < n → scanP f n = some (c, k)
  | 0, hk => absurd hk (by omega)
  | n + 1, hk => by
    rw [scanP]
    by_cases e : k = n
    · subst e
      rw [scanP_none h, hc]
      rfl
    · rw [scanP_some hc h (by omega)]
theorem scanP_all {f : Nat → Option Nat} : ∀ {n : Nat}, scanP f n = none → ∀ k, k < n → f k = none
  | 0, _, k, hk => absurd hk (by omega)
  | n + 1, h, k, hk => by
    rw [scanP] at h
    cases hs : scanP f n with
    | some y => simp [hs] at h
    | none =>
      simp only [hs, Option.map_eq_none_iff] at h
      by_cases e : k = n
      · rw [e]; exact h
      · exact scanP_all hs k (by omega)
theorem scanF_none {f : Nat → Option Nat} {n : Nat} {r : Fl} (h : ∀ k, k < n → f k = none) : scanF f n r = r := by unfold scanF; rw [scanP_none h]
theorem scanF_some {f : Nat → Option Nat} {n c k : Nat} {r : Fl} (hc : f k = some c) (h : ∀ j, j < k → f j = none) (hk : k < n) : scanF f n r = some (c, some k) := by unfold scanF; rw [scanP_some hc h hk]
theorem scanF_ok {f : Nat → Option Nat} {n : Nat} {r : Fl} (h : scanF f n r = none) : (∀ k, k < n → f k = none) ∧ r = none := by
  unfold scanF at h
  cases hs : scanP f n with
  | some y => simp [hs] at h
  | none => rw [hs] at h; exact ⟨scanP_all hs, h⟩
/-- what is known of one that may be -/
structure OkP (x : PO) : Prop where
  many : manyB x = false
  len : x.M.length = x.C.length
  word : ∀ k, k < x.C.length → wordF x k = none
  sym : ∀ k, k < x.S.length → symF x k = none
  dat : ∀ k, k < x.R.length → dataF x k = none
  cod : ∀ k, k < x.Q.length → codeF x k = none
  unr : ∀ k, k < x.C.length → unrF x k = none
theorem valid_ok {x : PO} (h : validP x = none) : OkP x := by
  unfold validP at h
  by_cases h0 : manyB x = true
  · rw [if_pos h0] at h; cases h
  · rw [if_neg h0] at h
    by_cases h1 : x.M.length ≠ x.C.length
    · rw [if_pos h1] at h; cases h
    · rw [if_neg h1] at h
      obtain ⟨a, h⟩ := scanF_ok h
      obtain ⟨b, h⟩ := scanF_ok h
      obtain ⟨c, h⟩ := scanF_ok h
      obtain ⟨d, h⟩ := scanF_ok h
      obtain ⟨e, _⟩ := scanF_ok h
      exact ⟨by simpa using h0, by simpa using h1, a, b, c, d, e⟩
end Go.Proofs.YtnpnafidhcnkhaaGreatDoor
namespace Go.Proofs.YtnpnafidhcnkhaaGreatDoor
open Go.RowKit
section
variable {m b n c : Nat} {xs : List Int} {w : World}
end
theorem toList_madeZero (z : Value) (k n : Nat) (hn : 0 < n) : madeCells (Array.replicate n z) k = Array.replicate k z := by
  apply Array.ext
  · simp [madeCells]
  · intro i h1 h2
    have : i % n < n := Nat.mod_lt _ hn
    simp [madeCells, this]
end Go.Proofs.YtnpnafidhcnkhaaGreatDoor
namespace Go.Proofs.YtnpnafidhcnkhaaGreatDoor
open Go.RowKit
section
variable {m b n c : Nat} {xs : List Int} {w : World}
theorem SlAt.len {k : IntKind} {v : Value} {ls : List Int} (h : SlAt w k v ls) : ∃ p c', v = .slice p ls.length c' := by
  rcases h with ⟨⟨p, c, rfl⟩, rfl⟩ | ⟨b, o, c, rfl, _⟩
  · exact ⟨_, _, rfl⟩
  · exact ⟨_, _, rfl⟩
end
end Go.Proofs.YtnpnafidhcnkhaaGreatDoor
namespace Go.Proofs.YtnpnafidhcnkhaaGreatDoor
open Go.RowKit
/-- a number from 0 to below a bound -/
def numB (n : Int) (k : Nat) : Nat := (n % (k : Int)).toNat
theorem numB_lt (n : Int) {k : Nat} (hk : 0 < k) : numB n k < k := by unfold numB; have := Int.emod_lt_of_pos n (show (0 : Int) < k by omega); have := Int.emod_nonneg n (show (k : Int) ≠ 0 by omega); omega
theorem number_up (n : Int) (k : Nat) (hk : 0 < k) (hk2 : (k : Int) ≤ 9223372036854775807) (h0 : 0 ≤ n) (h1 : n ≤ 9223372036854775807) (w : World) :
    Calls Tryz.prog 7 #[.int .i64 n, .int .i64 k] w fun e w' => e = .returned (.int .i64 (numB n k)) ∧ w = w' := by
  have hn : ((numB n k : Nat) : Int) = n % (k : Int) := by
    unfold numB
    have := Int.emod_nonneg n (show (k : Int) ≠ 0 by omega)
    omega
  have Hn := hid hn
  have hz : (0 : Int) < (k : Int) := by omega
  have hm := Int.emod_nonneg n (show (k : Int) ≠ 0 by omega)
  have hm2 := Int.emod_lt_of_pos n hz
  clear hn
  go_enter Tryz.func7, Tryz.ntmps7
  go_wp2
  go_ret
  exact ⟨ret_i Hn.out.symm, rfl⟩
theorem tmod_down {n : Int} {k : Nat} (hk : 0 < k) (h : n < 0) : -(k : Int) < n.tmod k ∧ n.tmod k ≤ 0 ∧ n % (k : Int) = if n.tmod k < 0 then n.tmod k + k else n.tmod k := by
  obtain ⟨a, rfl⟩ : ∃ a, n = -a := ⟨-n, by omega⟩
  have hz : (0 : Int) < (k : Int) := by omega
  have h1 := Int.emod_nonneg a (show (k : Int) ≠ 0 by omega)
  have h2 := Int.emod_lt_of_pos a hz
  have h3 := Int.mul_ediv_add_emod a k
  rw [Int.neg_tmod, Int.tmod_eq_emod_of_nonneg (by omega)]
  refine ⟨by omega, by omega, ?_⟩
  split
  · refine ((Int.ediv_emod_unique hz (q := -(a / k) - 1)).2 ⟨?_, by omega, by omega⟩).2
    rw [Int.mul_sub, Int.mul_neg]
    omega
  · refine ((Int.ediv_emod_unique hz (q := -(a / k))).2 ⟨?_, by omega, by omega⟩).2
    rw [Int.mul_neg]
    omega
theorem number_down (n : Int) (k : Nat) (hk : 0 < k) (hk2 : (k : Int) ≤ 9223372036854775807) (h0 : n < 0) (_h1 : -9223372036854775808 ≤ n) (w : World) :
    Calls Tryz.prog 7 #[.int .i64 n, .int .i64 k] w fun e w' => e = .returned (.int .i64 (numB n k)) ∧ w = w' := by
  have hn : ((numB n k : Nat) : Int) = n % (k : Int) := by
    unfold numB
    have := Int.emod_nonneg n (show (k : Int) ≠ 0 by omega)
    omega
  obtain ⟨t1, t2, ht⟩ := tmod_down hk h0
  rw [ht] at hn
  have Hn := hid hn
  have hz : (0 : Int) < (k : Int) := by omega
  clear hn ht
  by_cases hs : n.tmod k < 0
  · have Hs := hid hs
    go_enter Tryz.func7, Tryz.ntmps7
    go_wp2
    go_ret
    exact ⟨ret_i (by rw [Hn.out, if_pos Hs.out]), rfl⟩
  · have Hs := hid hs
    have hs2 : 0 ≤ n.tmod k := by omega
    clear hs
    go_enter Tryz.func7, Tryz.ntmps7
    go_wp2
    go_ret
    exact ⟨ret_i (by rw [Hn.out, if_neg (by omega)]), rfl⟩
theorem number_any (n : Int) (k : Nat) (hk : 0 < k) (hk2 : (k : Int) ≤ 9223372036854775807) (h0 : -9223372036854775808 ≤ n) (h1 : n ≤ 9223372036854775807) (w : World) :
    Calls Tryz.prog 7 #[.int .i64 n, .int .i64 k] w fun e w' => e = .returned (.int .i64 (numB n k)) ∧ w = w' := by
  by_cases h : 0 ≤ n
  · exact number_up n k hk hk2 h h1 w
  · exact number_down n k hk hk2 (by omega) h0 w
end Go.Proofs.YtnpnafidhcnkhaaGreatDoor
namespace Go.Proofs.YtnpnafidhcnkhaaGreatDoor
open Go.RowKit
section
variable {m b n c : Nat} {xs : List Int} {w : World}
theorem number_of (x a : Int) (k r : Nat) (ha : a = (k : Int)) (hr : numB x k = r) (hk : 0 < k) (hk2 : (k : Int) ≤ 9223372036854775807) (h0 : -9223372036854775808 ≤ x) (h1 : x ≤ 9223372036854775807) :
    Calls Tryz.prog 7 #[.int .i64 x, .int .i64 a] w fun e w' => e = .returned (.int .i64 r) ∧ w = w' := by
  subst ha; subst hr
  exact number_any x k hk hk2 h0 h1 w
end
theorem SlAt.frame {w : World} {g : Nat} {l : List Int} {t : TypeId} {fr : Nat × Nat} (hl : l.length = 16) (h : w.heap[g]? = some (.cells (wA l) t fr)) (c : Nat) : SlAt w .u32 (.slice (some ⟨g, 0, none⟩) 16 c) l := by
  have := SlAt.whole (k := .u32) (c := c) (xs := l) h
  rwa [hl] at this
end Go.Proofs.YtnpnafidhcnkhaaGreatDoor
namespace Go.Proofs.YtnpnafidhcnkhaaGreatDoor
open Go.RowKit Go.ChangeShapes
def errV (a : Addr) : Value := .iface 200 (.pointer (some a))
/-! ### out of what the row lists -/
section
variable {P : Program} {W : World}
theorem laid_sents {nm : String} {ti tp te ts : TypeId} {ms : Array (String × TypeId)} {f : Field}
    (hi : P.underlying ti = some (.interface ms)) (hrow : ∀ u, P.typeName? 3 u = some nm → u = tp)
    (hp : P.underlying tp = some (.pointer te)) (he : P.underlying te = some (.struct #[f])) (hft : f.type = ts) (hfo : f.offset = 0) (hs : P.underlying ts = some .string) (hc : P.cellsOf te = 1) (hcs : P.cellsOf ts = 1) :
    ∀ (l : List (String × List UInt8)) (ps : List MemPlace), DataW.LaidVars P W (l.map fun x => (x.1, .iface nm (.ptr (.agg [.lit (.string x.2)])))) ps →
      (∀ b off, MemPlace.cell b off ∈ ps → (∃ c t, W.heap[b]? = some (.cells c t (0, 0))) ∧ ∀ u v, W.cell? ⟨b, off, none⟩ = some (.iface u v) → Value.okWide P W .any 0 u v) → ps.Nodup →
      (∀ x ∈ l, (P.globalNamed x.1).bind (fun g => (P.globals[g]?).map (·.type)) = some ti) →
      ∃ al : List Addr, al.length = l.length ∧ al.Nodup ∧ (∀ a ∈ al, MemPlace.cell a.block a.off ∈ ps) ∧ ∀ (i : Nat) (x : String × List UInt8), l[i]? = some x → ∃ a, al[i]? = some a ∧ ∃ g, P.globalNamed x.1 = some g ∧ W.cell? ⟨g, 0, none⟩ = some (.iface tp (.pointer (some a)))
  | [], _, _, _, _, _ => ⟨[], rfl, List.nodup_nil, by simp, by simp⟩
  | (n, text) :: l, ps, h, hrows, hnd, hty => by
    obtain ⟨g, t, cs, fuel, p, q, hg, ht, hv, hd, hq, rfl⟩ := h
    have htt : t = ti := by
      have := hty (n, text) (by simp)
      simp only [hg, Option.bind_some, ht, Option.some.injEq] at this
      exact this
    subst htt
    rw [List.nodup_append] at hnd
    obtain ⟨_, hq2, hdis⟩ := hnd
    obtain ⟨al, hl, hn, hin, hall⟩ := laid_sents hi hrow hp he hft hfo hs hc hcs l q hq (fun b off hm => hrows b off (List.mem_append_right _ hm)) hq2 (fun x hx => hty x (by simp [hx]))
    obtain ⟨cl⟩ := cs
    have ok0 : ∀ u v, cl = [.iface u v] → Value.okWide P W .any 0 u v := fun u v e => by
      subst e
      exact (hrows g 0 (by simp [MemPlace.row])).2 u v (by simpa using World.var?_cell hg hv 0)
    obtain ⟨a, s, rfl, _, _, _, rfl⟩ := errorString_of_trod hi hrow hp he hft hfo hs hc hcs hd ok0
    have ha : MemPlace.cell a.block a.off ∈ MemPlace.row (⟨g, 0, none⟩ : Addr) 1 ++ MemPlace.row a 1 := by simp [MemPlace.row]
    refine ⟨a :: al, by simp [hl], List.nodup_cons.2 ⟨fun hm => ?_, hn⟩, fun b hb => ?_, fun i x hx => ?_⟩
    · exact hdis _ (by simpa using ha) _ (hin a hm) rfl
    · rcases List.mem_cons.1 hb with rfl | hb
      · exact List.mem_append_left _ (by simpa using ha)
      · exact List.mem_append_right _ (hin b hb)
    · cases i with
      | zero =>
        simp only [List.getElem?_cons_zero, Option.some.injEq] at hx
        subst hx
        exact ⟨a, rfl, g, hg, by simpa using World.var?_cell hg hv 0⟩
      | succ i =>
        simp only [List.getElem?_cons_succ] at hx ⊢
        exact hall i x hx
end
end Go.Proofs.YtnpnafidhcnkhaaGreatDoor
namespace Go.Proofs.YtnpnafidhcnkhaaGreatDoor
open Go.RowKit
theorem ret_3 {k : IntKind} {a b c a' b' c' : Int} (h : a = a') (h1 : b = b') (h2 : c = c') : Ending.returned (.agg #[.int k a, .int k b, .int k c]) = .returned (.agg #[.int k a', .int k b', .int k c']) := by rw [h, h1, h2]
theorem bcell {W w1 : World} (hb : Below W.heap.size W w1) : (∀ b o, b < W.heap.size → w1.cell? ⟨b, o, none⟩ = W.cell? ⟨b, o, none⟩) ∧ (∀ b o, b < W.heap.size → w1.frozen? ⟨b, o, none⟩ = W.frozen? ⟨b, o, none⟩) :=
  ⟨fun b o h => hb.cell (p := ⟨b, o, none⟩) h, fun b o h => hb.frozen (p := ⟨b, o, none⟩) h⟩
set_option maxHeartbeats 400000 in
theorem class_any (op : Int) (w : World) :
    Calls Tryz.prog 78 #[.agg #[], .int .i64 op] w fun e w' => e = .returned (.int .i64 (clsI op)) ∧ w' = w.alloc (.cells #[] 161) := by
  go_enter Tryz.func78, Tryz.ntmps78
  go_wp2
  all_goals
    go_ret
    refine ⟨ret_i ?_, rfl⟩
    try simp only [beq_iff_eq, beq_eq_false_iff_ne, ne_eq] at *
    unfold clsI
    repeat' split
    all_goals omega
set_option maxHeartbeats 400000 in
theorem two_any (op : Int) (w : World) :
    Calls Tryz.prog 91 #[.agg #[], .int .i64 op] w fun e w' => e = .returned (.bool (twoB op)) ∧ w' = w.alloc (.cells #[] 161) := by
  go_enter Tryz.func91, Tryz.ntmps91
  go_wp2
  all_goals
    go_ret
    refine ⟨ret_b ?_, rfl⟩
    try simp only [beq_iff_eq, beq_eq_false_iff_ne, ne_eq] at *
    unfold twoB
    simp only [true_eq_decide_iff, false_eq_decide_iff]
    omega
set_option maxHeartbeats 400000 in
theorem jumps_any (op : Int) (w : World) :
    Calls Tryz.prog 86 #[.agg #[], .int .i64 op] w fun e w' => e = .returned (.bool (jmpB op)) ∧ w' = w.alloc (.cells #[] 161) := by
  go_enter Tryz.func86, Tryz.ntmps86
  go_wp2
  all_goals
    go_ret
    refine ⟨ret_b ?_, rfl⟩
    try simp only [beq_iff_eq, beq_eq_false_iff_ne, ne_eq] at *
    unfold jmpB
    simp only [true_eq_decide_iff, false_eq_decide_iff]
    omega
set_option maxHeartbeats 400000 in
theorem allows_any (k n : Int) (w : World) :
    Calls Tryz.prog 101 #[.int .i64 k, .int .i64 n] w fun e w' => e = .returned (.bool (alwB k n)) ∧ w = w' := by
  go_enter Tryz.func101, Tryz.ntmps101
  go_wp2
  all_goals
    go_ret
    refine ⟨ret_b ?_, rfl⟩
    try simp only [beq_iff_eq, beq_eq_false_iff_ne, ne_eq] at *
    unfold alwB
    repeat' split
    all_goals first | omega | (symm; rw [decide_eq_false_iff_not]; omega) | (rw [Bool.eq_iff_iff]; simp only [decide_eq_true_eq, beq_iff_eq]; omega) | (rw [Bool.eq_iff_iff]; simp only [decide_eq_true_eq, beq_iff_eq])
set_option maxHeartbeats 400000 in
theorem tables_any (w : World) :
    Calls Tryz.prog 77 #[] w fun e w' => e = .returned (.agg #[]) ∧ w' = w.alloc (.cells #[] 161) := by
  go_enter Tryz.func77, Tryz.ntmps77
  go_wp2
  go_returns
  refine ⟨rfl, rfl⟩
set_option maxHeartbeats 400000 in
theorem askc_any (op : Int) (w : World) :
    Calls Tryz.prog 99 #[.func (.func 78) #[] #[], .int .i64 op] w fun e w' => e = .returned (.int .i64 (clsI op)) ∧ w' = (w.alloc (.cells #[] 161)).alloc (.cells #[] 161) := by
  go_enter Tryz.func99, Tryz.ntmps99
  go_wp2_with (first | (go_at_call 77; refine (tables_any _).mono ?_; rintro e w' ⟨rfl, rfl⟩) | (go_at_call 78; refine (class_any _ _).mono ?_; rintro e w' ⟨rfl, rfl⟩))
  go_ret
  exact ⟨rfl, rfl⟩
set_option maxHeartbeats 400000 in
theorem askt_any (op : Int) (w : World) :
    Calls Tryz.prog 90 #[.func (.func 91) #[] #[], .int .i64 op] w fun e w' => e = .returned (.bool (twoB op)) ∧ w' = (w.alloc (.cells #[] 161)).alloc (.cells #[] 161) := by
  go_enter Tryz.func90, Tryz.ntmps90
  go_wp2_with (first | (go_at_call 77; refine (tables_any _).mono ?_; rintro e w' ⟨rfl, rfl⟩) | (go_at_call 91; refine (two_any _ _).mono ?_; rintro e w' ⟨rfl, rfl⟩))
  go_ret
  exact ⟨rfl, rfl⟩
set_option maxHeartbeats 400000 in
theorem askj_any (op : Int) (w : World) :
    Calls Tryz.prog 90 #[.func (.func 86) #[] #[], .int .i64 op] w fun e w' => e = .returned (.bool (jmpB op)) ∧ w' = (w.alloc (.cells #[] 161)).alloc (.cells #[] 161) := by
  go_enter Tryz.func90, Tryz.ntmps90
  go_wp2_with (first | (go_at_call 77; refine (tables_any _).mono ?_; rintro e w' ⟨rfl, rfl⟩) | (go_at_call 86; refine (jumps_any _ _).mono ?_; rintro e w' ⟨rfl, rfl⟩))
  go_ret
  exact ⟨rfl, rfl⟩
set_option maxHeartbeats 400000 in
theorem third_any (op : Int) (w : World) :
    Calls Tryz.prog 120 #[.int .i64 op] w fun e w' => e = .returned (.int .i64 (thirdI op)) ∧ w' = (w.alloc (.cells #[] 161)).alloc (.cells #[] 161) := by
  by_cases hj : jmpB op = true
  · go_enter Tryz.func120, Tryz.ntmps120
    go_wp2_with (go_at_call 90; refine (askj_any _ _).mono ?_; rintro e w' ⟨rfl, rfl⟩)
    go_ret
    refine ⟨ret_i ?_, rfl⟩
    unfold jmpB at hj; have := of_decide_eq_true hj
    unfold thirdI; rw [if_pos (by omega)]
  · have hj' : jmpB op = false := by simpa using hj
    clear hj
    go_enter Tryz.func120, Tryz.ntmps120
    go_wp2_with (go_at_call 90; refine (askj_any _ _).mono ?_; rintro e w' ⟨rfl, rfl⟩)
    all_goals
      go_ret
      refine ⟨ret_i ?_, rfl⟩
      unfold jmpB at hj'; have := of_decide_eq_false hj'
      try simp only [beq_iff_eq, beq_eq_false_iff_ne, ne_eq] at *
      unfold thirdI
      split <;> omega
set_option maxHeartbeats 1000000 in
theorem operands_any (op : Int) (w : World) :
    Calls Tryz.prog 100 #[.int .i64 op] w fun e w' => e = .returned (.agg #[.int .i64 (hasA op), .int .i64 (hasB op), .int .i64 (hasC op)]) ∧ Below w.heap.size w w' := by
  go_enter Tryz.func100, Tryz.ntmps100
  go_wp2_with (go_at_call 120; refine (third_any _ _).mono ?_; rintro e w' ⟨rfl, rfl⟩)
  all_goals
    go_returns
    simp only [beq_iff_eq, beq_eq_false_iff_ne, ne_eq] at *
    refine ⟨ret_3 ?_ ?_ ?_, by go_grown⟩
    · unfold hasA; split <;> omega
    · unfold hasB; split <;> omega
    · unfold hasC; try unfold thirdI
      repeat' split
      all_goals omega
end Go.Proofs.YtnpnafidhcnkhaaGreatDoor

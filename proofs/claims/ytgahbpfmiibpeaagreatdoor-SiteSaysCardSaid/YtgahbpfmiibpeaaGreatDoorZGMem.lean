/- The row's last step where of the world that the call leaves 'Below' is known. -/
import Derived.Test.YtgahbpfmiibpeaaGreatDoorRows
import Derived.WalkKit
import Derived.ProofKit
import Derived.OpenShut
import Derived.Below
import Derived.ChangeSame
import Derived.Laws.MakeOwn
import Derived.Deep.MidRow
import Derived.Deep.Draws
import Derived.Carry
import Derived.ChangeSlices
import Derived.WideKeyArgs
import Derived.Lib.SmallJoins
import Derived.WalkSpells
import Derived.WalkLawsBesides
import Derived.Handy
import Derived.RegionTactic
import Derived.Deep.QuietTactic
import Derived.BigQuiet
import Derived.IntWalk
import Derived.Outline
import Derived.ChangeKeysEq
import Derived.Deep.WholeRow
import Derived.OwnWalk
import Derived.Laws.CopyOwn
import Derived.Deep.RegionHeld3
import Derived.LoopTactic
namespace Go.Proofs.YtgahbpfmiibpeaaGreatDoor
open Go.RowKit Go.WideShapes Go.ChangeShapes
theorem hid {p : Prop} (h : p) : Hid p := h
theorem ret_i {k : IntKind} {a b : Int} (h : a = b) : Ending.returned (.int k a) = .returned (.int k b) := by rw [h]
theorem ret_b {a b : Bool} (h : a = b) : Ending.returned (.bool a) = .returned (.bool b) := by rw [h]
/-! ### what a step leaves alone -/
section
variable {w w1 w2 : World}
theorem grown_refl (w : World) (r : Option Nat) : w.grownBy w r := ⟨rfl, rfl, rfl, Nat.le_refl _, fun _ _ _ => rfl⟩
theorem grown_trans {r : Option Nat} (h : w.grownBy w1 r) (k : w1.grownBy w2 r) : w.grownBy w2 r :=
  ⟨k.os.trans h.os, k.tape.trans h.tape, k.output.trans h.output, Nat.le_trans h.size k.size, fun i hi hr => (k.block i (Nat.lt_of_lt_of_le hi h.size) hr).trans (h.block i hi hr)⟩
theorem grown_none {r : Option Nat} (h : w.grownBy w1 none) : w.grownBy w1 r := ⟨h.os, h.tape, h.output, h.size, fun i hi _ => h.block i hi (by simp)⟩
theorem grown_drew {r : Option Nat} (h : w.grownBy w1 r) : w.grownBy w1.drew r := ⟨h.os, h.tape, h.output, h.size, h.block⟩
theorem grown_drewN {r : Option Nat} (h : w.grownBy w1 r) (n : Nat) : w.grownBy (w1.drewN n) r := ⟨h.os, h.tape, h.output, h.size, h.block⟩
theorem grown_alloc {r : Option Nat} (h : w.grownBy w1 r) (o : Obj) : w.grownBy (w1.alloc o) r := grown_trans h (World.grownBy_alloc _ _ _)
theorem grown_setCell {b : Nat} (h : w.grownBy w1 (some b)) (k : Nat) (v : Value) : w.grownBy (w1.setCell ⟨b, k, none⟩ v) (some b) :=
  grown_trans h ⟨rfl, rfl, rfl, by simp, fun i _ hi => heap_setCell_other _ _ _ _ (by simpa using hi)⟩
/-- what was written is new -/
theorem grown_new {b : Nat} (h : w.grownBy w1 (some b)) (hb : w.heap.size ≤ b) : w.grownBy w1 none :=
  ⟨h.os, h.tape, h.output, h.size, fun i hi _ => h.block i hi (by simp; omega)⟩
theorem grown_new' {r : Option Nat} (h : w.grownBy w1 r) (hb : ∀ k, r = some k → w.heap.size ≤ k) : w.grownBy w1 none :=
  ⟨h.os, h.tape, h.output, h.size, fun i hi _ => h.block i hi (fun e => by have := hb i e.symm; omega)⟩
theorem below_grown {B : Nat} {a : World} {r : Option Nat} (h : Below B a w) (hg : w.grownBy w1 r) (hB : B ≤ w.heap.size) (hr : ∀ k, r = some k → B ≤ k) : Below B a w1 := h.grown hg hB hr
theorem grown_below (h : w.grownBy w1 none) : Below w.heap.size w w1 := (Below.refl _ _).grown h (Nat.le_refl _) (by simp)
theorem below_is_grown (h : Below w.heap.size w w1) : w.grownBy w1 none := ⟨h.os, h.tape, h.output, h.size, fun i hi _ => h.block i hi⟩
theorem grown_cell {r : Option Nat} {p : Addr} (h : w.grownBy w1 r) (hp : p.block < w.heap.size) (hr : some p.block ≠ r) : w1.cell? p = w.cell? p := World.cell?_of_block (h.block _ hp hr)
end
/-- words' cells -/
def wA (l : List Int) : Array Value := (l.map (Value.int .u32)).toArray
theorem wA_size (l : List Int) : (wA l).size = l.length := by simp [wA]
theorem wA_get (l : List Int) (i : Nat) : (wA l)[i]? = (l[i]?).map (Value.int .u32) := by simp [wA]
theorem wA_one (l : List Int) : (wA l).all (·.oneCell') = true := by
  rw [Array.all_eq_true_iff_forall_mem]
  intro v hv
  simp only [wA, List.mem_toArray, List.mem_map] at hv
  obtain ⟨x, _, rfl⟩ := hv
  rfl
theorem wA_set (l : List Int) (k : Nat) (x : Int) : (wA l).setIfInBounds k (.int .u32 x) = wA (l.set k x) := by
  simp [wA, List.map_set]
/-- a block of five cells of the call's own, known -/
structure At5 (w : World) (B : Nat) (v0 v1 v2 v3 v4 : Value) : Prop where
  lt : B < w.heap.size
  c0 : w.cell? ⟨B, 0, none⟩ = some v0
  c1 : w.cell? ⟨B, 1, none⟩ = some v1
  c2 : w.cell? ⟨B, 2, none⟩ = some v2
  c3 : w.cell? ⟨B, 3, none⟩ = some v3
  c4 : w.cell? ⟨B, 4, none⟩ = some v4
theorem At5.new (w : World) (v0 v1 v2 v3 v4 : Value) (t : TypeId) : At5 (w.alloc (.cells #[v0, v1, v2, v3, v4] t)) w.heap.size v0 v1 v2 v3 v4 :=
  ⟨by simp, by simp, by simp, by simp, by simp, by simp⟩
theorem At5.below {w w' : World} {B : Nat} {v0 v1 v2 v3 v4 : Value} (h : At5 w B v0 v1 v2 v3 v4) (hb : Below w.heap.size w w') : At5 w' B v0 v1 v2 v3 v4 :=
  ⟨Nat.lt_of_lt_of_le h.lt hb.size, (hb.cell h.lt).trans h.c0, (hb.cell h.lt).trans h.c1, (hb.cell h.lt).trans h.c2, (hb.cell h.lt).trans h.c3, (hb.cell h.lt).trans h.c4⟩
theorem At5.alloc {w : World} {B : Nat} {v0 v1 v2 v3 v4 : Value} (h : At5 w B v0 v1 v2 v3 v4) (o : Obj) : At5 (w.alloc o) B v0 v1 v2 v3 v4 :=
  h.below ((Below.refl _ _).alloc (Nat.le_refl _) o)
theorem u32_bd {n : Int} (h : (Lit.int .u32 n).wf = true) : 0 ≤ n ∧ n ≤ 4294967295 := by
  have h' := (Bool.and_eq_true _ _).mp h
  exact ⟨of_decide_eq_true h'.1, of_decide_eq_true h'.2⟩
theorem i64_bd {n : Int} (h : (Lit.int .i64 n).wf = true) : -9223372036854775808 ≤ n ∧ n ≤ 9223372036854775807 := by
  have h' := (Bool.and_eq_true _ _).mp h
  exact ⟨of_decide_eq_true h'.1, of_decide_eq_true h'.2⟩
section
variable {H : Type} {enc : TypeId × Value → H} {P : Program}
theorem post_of_below {f : Func} {s : ChangeSpec} {apart fresh handsOn again : Bool} {W W' : World} {args : Array Value} {v : Value} {ds gs : List (DataW H)} {before pa pv : List MemPlace}
    (hW : DataW.Whole enc P f.params.toList s.vars apart W args.toList ds gs before)
    (hres : ∀ (b : Nat) (sp : Nat → Bool) (hd : Bool), DataW.TrodAll enc P W' b sp hd f.resultTypes.toList (v.resultList f.resultTypes.size) (s.fn H (ds ++ gs)).results [])
    (hargs : ∀ sp : Nat → Bool, (∀ p ∈ before, sp p.block = true) → DataW.TrodAll enc P W' 0 sp true f.params.toList args.toList (s.fn H (ds ++ gs)).args pa)
    (hvars : ∀ sp : Nat → Bool, (∀ p ∈ before, sp p.block = true) → DataW.TrodVars enc P W' sp s.vars (s.fn H (ds ++ gs)).vars pv)
    (hps : before = pa ++ pv) (hb : Below W.heap.size W W')
    (hok : ∀ (j : Nat) (t : TypeId) (r : Value), f.resultTypes[j]? = some t → (v.resultList f.resultTypes.size)[j]? = some r → Value.okWide P W' .any 0 t r) :
    s.post enc P f apart fresh handsOn again W args v W' := by
  have old : ∀ p ∈ before, p.block < W.heap.size := fun p hp => hW.lt p hp
  have told : ∀ p ∈ before, (fun b => decide (b < W.heap.size)) p.block = true := fun p hp => decide_eq_true (old p hp)
  refine ⟨ds, gs, before, [], pa, pv, hW, hres _ _ _, hargs _ told, hvars _ told, ?_, ?_⟩
  · refine World.keptBut_mono (fun p hp => ⟨hp, Or.inr ?_⟩) (hb.frame (· ∈ before))
    rw [hps] at hp; exact List.mem_append.1 hp
  · intro _
    obtain ⟨_, _, _, _, _, hz, hn⟩ := hW
    refine ⟨hok, _, _, ([] ++ pa) ++ pv, ⟨[] ++ pa, pv, trodAll_append (hargs _ (fun _ _ => rfl)) (hres _ _ _), hvars _ (fun _ _ => rfl), rfl, ?_, ?_⟩, ?_⟩
    · intro b off hp
      have hin : MemPlace.cell b off ∈ before := by rw [hps]; simpa using hp
      exact (hb.frozen (old _ hin)).trans (hz b off hin)
    · intro ha
      have h := hn ha
      rw [hps] at h
      simpa using h
    · intro p hp _
      rw [hps]
      simpa using hp
end
end Go.Proofs.YtgahbpfmiibpeaaGreatDoor
/- A memory (package mem): what is known of it in a world; how that is carried on. -/
namespace Go.Proofs.YtgahbpfmiibpeaaGreatDoor
open Go.RowKit
/-! ### numbers in a slice -/
/-- the slice value v reads as these numbers -/
def SlAt (w : World) (k : IntKind) (v : Value) (xs : List Int) : Prop :=
  ((∃ p c, v = .slice p 0 c) ∧ xs = []) ∨
  ∃ b o c, v = .slice (some ⟨b, o, none⟩) xs.length c ∧ b < w.heap.size ∧ ∀ j x, xs[j]? = some x → w.cell? ⟨b, o + j, none⟩ = some (.int k x)
theorem SlAt.kept {w w1 : World} {k : IntKind} {v : Value} {xs : List Int} {r : Option Nat} (h : SlAt w k v xs) (hg : w.grownBy w1 r) (hr : v.ownBlock = none ∨ v.ownBlock ≠ r) : SlAt w1 k v xs := by
  rcases h with h | ⟨b, o, c, rfl, hb, hc⟩
  · exact .inl h
  · refine .inr ⟨b, o, c, rfl, Nat.lt_of_lt_of_le hb hg.size, fun j x hx => ?_⟩
    rw [grown_cell hg hb (by simpa [Value.ownBlock] using hr)]
    exact hc j x hx
theorem SlAt.kept0 {w w1 : World} {k : IntKind} {v : Value} {xs : List Int} (h : SlAt w k v xs) (hg : w.grownBy w1 none) : SlAt w1 k v xs :=
  h.kept hg (by cases v.ownBlock <;> simp)
/-- a block of numbers, known whole -/
theorem SlAt.whole {w : World} {k : IntKind} {b c : Nat} {t : TypeId} {xs : List Int} {fr : Nat × Nat} (h : w.heap[b]? = some (.cells (xs.map (Value.int k)).toArray t fr)) : SlAt w k (.slice (some ⟨b, 0, none⟩) xs.length c) xs := by
  refine .inr ⟨b, 0, c, rfl, (Array.getElem?_eq_some_iff.1 h).1, fun j x hx => ?_⟩
  rw [cell_of_row w b _ _ t fr h]
  simp [hx]
theorem SlAt.own {w : World} {k : IntKind} {base : Nat} {t : TypeId} {v : Value} {n : Nat} {xs : List Int} (h : w.ownsRow base t 1 v n (xs.map (Value.int k))) : SlAt w k v xs := by
  obtain ⟨hl, h⟩ := h
  have hl : xs.length = n := by simpa using hl
  rcases h with ⟨rfl, h0⟩ | ⟨g, cap, cur, rfl, _, hg, _, _, _, ht⟩
  · exact .inl ⟨⟨_, _, rfl⟩, List.eq_nil_of_length_eq_zero (by omega)⟩
  · refine .inr ⟨g, 0, cap, by rw [hl], (Array.getElem?_eq_some_iff.1 hg).1, fun j x hx => ?_⟩
    rw [cell_of_row w g _ _ t _ hg, Nat.zero_add]
    have hj : j < xs.length := (List.getElem?_eq_some_iff.1 hx).1
    have := congrArg (·[j]?) ht
    simp only [Nat.mul_one, List.getElem?_take, List.getElem?_map, hx] at this
    rw [if_pos (by omega)] at this
    simpa using this

/-! ### a memory -/
section
variable {w w1 : World} {m b n c : Nat} {xs : List Int}
/-- frame f of these words -/
def frameOf (xs : List Int) (f : Nat) : List Int := (xs.drop (f * 16)).take 16
theorem frameOf_length (hl : xs.length = n * 16) {f : Nat} (hf : f < n) : (frameOf xs f).length = 16 := by
  unfold frameOf; simp only [List.length_take, List.length_drop]; omega
/-- these words with those from o on made these -/
def setMany (xs : List Int) (o : Nat) : List Int → List Int
  | [] => xs
  | x :: r => setMany (xs.set o x) (o + 1) r
theorem setMany_length : ∀ (l : List Int) (xs : List Int) (o : Nat), (setMany xs o l).length = xs.length
  | [], _, _ => rfl
  | x :: r, xs, o => by rw [setMany, setMany_length r]; simp
theorem setMany_get : ∀ (l : List Int) (xs : List Int) (o k : Nat), o + l.length ≤ xs.length → (setMany xs o l)[k]? = if o ≤ k ∧ k < o + l.length then l[k - o]? else xs[k]?
  | [], xs, o, k, _ => by simp [setMany]; intro h1 h2; omega
  | x :: r, xs, o, k, h => by
    simp only [List.length_cons] at h
    rw [setMany, setMany_get r _ _ _ (by simp; omega)]
    simp only [List.length_cons]
    by_cases e : k = o
    · subst e
      rw [if_neg (by omega), if_pos (by omega), List.getElem?_set_self (by omega)]
      simp
    · by_cases h1 : o ≤ k ∧ k < o + (r.length + 1)
      · rw [if_pos (by omega), if_pos h1]
        obtain ⟨d, rfl⟩ : ∃ d, k = o + 1 + d := ⟨k - (o + 1), by omega⟩
        rw [show o + 1 + d - o = d + 1 by omega, show o + 1 + d - (o + 1) = d by omega]
        rfl
      · rw [if_neg (by omega), if_neg h1, List.getElem?_set_ne (by omega)]
theorem grown_setCells {b : Nat} : ∀ (vs : List Value) (o : Nat) {w w1 : World}, w.grownBy w1 (some b) → w.grownBy (w1.setCells b o vs) (some b)
  | [], _, _, _, h => h
  | v :: r, o, _, _, h => grown_setCells r (o + 1) (grown_setCell h o v)
end
end Go.Proofs.YtgahbpfmiibpeaaGreatDoor
/- Arguments of a law: slices of numbers opened; that what was there when the call began reads as it did. -/
namespace Go.Proofs.YtgahbpfmiibpeaaGreatDoor
open Go.RowKit Go.WideShapes Go.ChangeShapes
theorem u64_bd {n : Int} (h : (Lit.int .u64 n).wf = true) : 0 ≤ n ∧ n ≤ 18446744073709551615 := by
  have h' := (Bool.and_eq_true _ _).mp h
  exact ⟨of_decide_eq_true h'.1, of_decide_eq_true h'.2⟩
section
variable {H : Type} {enc : TypeId × Value → H} {P : Program} {W W' : World}
theorem args_again (hl : laidOutB P = true) {sp : Nat → Bool} : ∀ (ts : List TypeId) (vs : List Value) (ds : List (DataW H)) (ps : List MemPlace), (∀ t ∈ ts, P.readableRec t = true ∧ t < P.types.size) →
    DataW.TrodAll enc P W 0 (fun _ => true) true ts vs ds ps → (∀ p ∈ ps, W.sameAt W' p) → (∀ p ∈ ps, sp p.block = true) → DataW.TrodAll enc P W' 0 sp true ts vs ds ps
  | [], [], [], _, _, h, _, _ => h
  | [], [], _ :: _, _, _, h, _, _ => h
  | [], _ :: _, _, _, _, h, _, _ => h
  | _ :: _, [], _, _, _, h, _, _ => h
  | _ :: _, _ :: _, [], _, _, h, _, _ => h
  | t :: ts, v :: vs, d :: ds, _, ht, ⟨p, q, h, hs, rfl⟩, hsame, hsp =>
    ⟨p, q, Go.WideElems.Trod_stays hl (ht t (by simp)).1 (ht t (by simp)).2 h (fun x hx => hsame x (by simp [hx])) (fun x hx => hsp x (by simp [hx])),
      args_again hl ts vs ds q (fun u hu => ht u (by simp [hu])) hs (fun x hx => hsame x (by simp [hx])) (fun x hx => hsp x (by simp [hx])), rfl⟩
theorem slat_of_cells {t e : TypeId} {k : IntKind} {fuel : Nat} {p : Option Addr} {len cap : Nat} {x : DataW H × List MemPlace} (ht : P.underlying t = some (.slice e)) (he : P.underlying e = some (.int k)) (hc : P.cellsOf e = 1)
    (h : DataW.trod enc P W 0 (fun _ => true) true fuel t [.slice p len cap] = some x) :
    ∃ xs : List Int, SlAt W k (.slice p len cap) xs ∧ (∀ n ∈ xs, (Lit.int k n).wf = true) ∧ xs.length ≤ maxLen := by
  rcases open_ints ht he hc h with ⟨hcs, hx⟩ | ⟨a, len', cap', zs, hcs, _, hl, hm, hz, hx, hcell, hw⟩
  · simp at hcs
    obtain ⟨rfl, rfl, rfl⟩ := hcs
    exact ⟨[], .inl ⟨⟨_, _, rfl⟩, rfl⟩, by simp, by simp⟩
  · simp only [List.cons.injEq, Value.slice.injEq, and_true] at hcs
    obtain ⟨rfl, rfl, rfl⟩ := hcs
    simp only [if_true] at hz
    have hlen : (zs.take len).length = len := by simp; omega
    refine ⟨zs.take len, ?_, fun n hn => hw n (List.mem_of_mem_take hn), by rw [hlen]; omega⟩
    by_cases h0 : len = 0
    · subst h0
      exact .inl ⟨⟨_, _, rfl⟩, by simp⟩
    · obtain ⟨b, off, spot⟩ := a
      have hspot : spot = none := by simpa [Addr.add] using World.cell?_spot (hcell 0 (by omega))
      subst hspot
      have h00 := hcell 0 (by omega)
      refine .inr ⟨b, off, cap, by rw [hlen], ?_, fun j x hx => ?_⟩
      · exact World.block_lt_of_cell? W _ h00
      · have hj : j < len := by have := (List.getElem?_eq_some_iff.1 hx).1; omega
        rw [List.getElem?_take, if_pos hj] at hx
        have := hcell j (by omega)
        rw [Addr.add_mid] at this
        rw [this]
        simp [List.getD, hx]
/-- a slice of numbers that came in -/
theorem slat_of {t e : TypeId} {k : IntKind} {base : Nat} {v : Value} {d : DataW H} {ps : List MemPlace} (ht : P.underlying t = some (.slice e)) (he : P.underlying e = some (.int k)) (hc : P.cellsOf e = 1)
    (hv : Value.okWide P W .any base t v) (h : DataW.Trod enc P W 0 (fun _ => true) true t v d ps) :
    ∃ xs : List Int, SlAt W k v xs ∧ (∀ n ∈ xs, (Lit.int k n).wf = true) ∧ xs.length ≤ maxLen := by
  obtain ⟨p, len, cap, rfl⟩ := okWide_slice ht hv
  obtain ⟨fuel, hf⟩ := h
  exact slat_of_cells (fuel := fuel) ht he hc (by simpa [Value.cells] using hf)
end
end Go.Proofs.YtgahbpfmiibpeaaGreatDoor
/- What the small calls of package mem do: contracts. -/
namespace Go.Proofs.YtgahbpfmiibpeaaGreatDoor
open Go.RowKit

section
variable {m b n c : Nat} {xs : List Int} {w : World}
end
end Go.Proofs.YtgahbpfmiibpeaaGreatDoor
/- Frames as values: read, stored, compared. -/
namespace Go.Proofs.YtgahbpfmiibpeaaGreatDoor
open Go.RowKit
theorem eq_of_range {l k : List Int} {n : Nat} (hl : l.length = n) (hk : k.length = n) : ((List.range n).all fun i => l[i]? == k[i]?) = decide (l = k) := by
  by_cases h : l = k
  · subst h; simp
  · rw [decide_eq_false h, Bool.eq_false_iff]
    intro ha
    apply h
    apply List.ext_getElem?
    intro i
    by_cases hi : i < n
    · have := List.all_eq_true.1 ha i (List.mem_range.2 hi)
      simpa using this
    · rw [List.getElem?_eq_none (by omega), List.getElem?_eq_none (by omega)]
theorem run_eqItems_words (d : Nat) (l k : List Int) (w : World) : ∀ (is : List Nat), (∀ i ∈ is, i < l.length ∧ i < k.length) →
    (Op.eqItems (d + 1) 46 1 (wA l) (wA k) is).run Tryz.prog w = .ok (is.all fun i => l[i]? == k[i]?) w
  | [], _ => by simp [Op.eqItems]
  | i :: is, h => by
    obtain ⟨h1, h2⟩ := h i (by simp)
    have hp : Tryz.prog.plainKey 46 = true := by kernel_rfl
    have p1 := run_part_plain (P := Tryz.prog) w hp (xs := wA l) (off := i * 1) (v := .int .u32 l[i]) (by rw [wA_get]; simp [h1])
    have p2 := run_part_plain (P := Tryz.prog) w hp (xs := wA k) (off := i * 1) (v := .int .u32 k[i]) (by rw [wA_get]; simp [h2])
    have ih := run_eqItems_words d l k w is (fun j hj => h j (by simp [hj]))
    simp only [Op.eqItems, Sem.run_bind, p1, p2, Result.andThen_ok, run_equalIn_int w d 46 .u32 .u32 _ _ Tryz.underlying46]
    by_cases e : l[i] = k[i]
    · simp [e, h1, h2, ih]
    · simp [e, h1, h2]
end Go.Proofs.YtgahbpfmiibpeaaGreatDoor
/- What package mem's calls do: New, Read, Write, Frame: contracts. -/
namespace Go.Proofs.YtgahbpfmiibpeaaGreatDoor
open Go.RowKit
section
variable {m b n c : Nat} {xs : List Int} {w : World}
end
theorem toList_madeZero (z : Value) (k n : Nat) (hn : 0 < n) : madeCells (Array.replicate n z) k = Array.replicate k z := by
  apply Array.ext
  · simp [madeCells]
  · intro i h1 h2
    have : i % n < n := Nat.mod_lt _ hn
    simp [madeCells, this]
end Go.Proofs.YtgahbpfmiibpeaaGreatDoor
/- What package mem's call Fill does: contracts. -/
namespace Go.Proofs.YtgahbpfmiibpeaaGreatDoor
open Go.RowKit
section
variable {m b n c : Nat} {xs : List Int} {w : World}
theorem SlAt.len {k : IntKind} {v : Value} {ls : List Int} (h : SlAt w k v ls) : ∃ p c', v = .slice p ls.length c' := by
  rcases h with ⟨⟨p, c, rfl⟩, rfl⟩ | ⟨b, o, c, rfl, _⟩
  · exact ⟨_, _, rfl⟩
  · exact ⟨_, _, rfl⟩
/-- what a frame is filled with -/
def padded (ls : List Int) : List Int := ls ++ List.replicate (16 - ls.length) 0
theorem padded_length {ls : List Int} (h : ls.length ≤ 16) : (padded ls).length = 16 := by simp [padded]; omega
theorem splice_rep {α : Type} (N : Nat) (z : α) (l : List α) : splice (List.replicate N z) 0 l = l ++ List.replicate (N - l.length) z := by
  simp [splice]
theorem splice_padded (ls : List Int) : (splice (List.replicate 16 (Value.int .u32 0)) 0 (ls.map (Value.int .u32))) = (padded ls).map (Value.int .u32) := by
  rw [splice_rep, padded]; simp
end
end Go.Proofs.YtgahbpfmiibpeaaGreatDoor
/- What package mem's call Clone does: contracts. -/
namespace Go.Proofs.YtgahbpfmiibpeaaGreatDoor
open Go.RowKit
section
variable {m b n c : Nat} {xs : List Int} {w : World}
end
end Go.Proofs.YtgahbpfmiibpeaaGreatDoor
/- The document's own comparisons of lists, and a number below a bound: contracts. (Made by genSame.py.) -/
namespace Go.Proofs.YtgahbpfmiibpeaaGreatDoor
open Go.RowKit
/-- a number from 0 to below a bound -/
def numB (n : Int) (k : Nat) : Nat := (n % (k : Int)).toNat
theorem numB_lt (n : Int) {k : Nat} (hk : 0 < k) : numB n k < k := by unfold numB; have := Int.emod_lt_of_pos n (show (0 : Int) < k by omega); have := Int.emod_nonneg n (show (k : Int) ≠ 0 by omega); omega
theorem number_up (n : Int) (k : Nat) (hk : 0 < k) (hk2 : (k : Int) ≤ 9223372036854775807) (h0 : 0 ≤ n) (h1 : n ≤ 9223372036854775807) (w : World) :
    Calls Tryz.prog 22 #[.int .i64 n, .int .i64 k] w fun e w' => e = .returned (.int .i64 (numB n k)) ∧ w = w' := by
  have hn : ((numB n k : Nat) : Int) = n % (k : Int) := by
    unfold numB
    have := Int.emod_nonneg n (show (k : Int) ≠ 0 by omega)
    omega
  have Hn := hid hn
  have hz : (0 : Int) < (k : Int) := by omega
  have hm := Int.emod_nonneg n (show (k : Int) ≠ 0 by omega)
  have hm2 := Int.emod_lt_of_pos n hz
  clear hn
  go_enter Tryz.func22, Tryz.ntmps22
  go_wp2
  go_ret
  exact ⟨ret_i Hn.out.symm, rfl⟩
theorem tmod_down {n : Int} {k : Nat} (hk : 0 < k) (h : n < 0) : -(k : Int) < n.tmod k ∧ n.tmod k ≤ 0 ∧ n % (k : Int) = if n.tmod k < 0 then n.tmod k + k else n.tmod k := by
  obtain ⟨a, rfl⟩ : ∃ a, n = -a := ⟨-n, by omega⟩
  have hz : (0 : Int) < (k : Int) := by omega
  have h1 := Int.emod_nonneg a (show (k : Int) ≠ 0 by omega)
  have h2 := Int.emod_lt_of_pos a hz
  have h3 := Int.mul_ediv_add_emod a k
  rw [Int.neg_tmod, Int.tmod_eq_emod_of_nonneg (by omega)]
  refine ⟨by omega, by omega, ?_⟩
  split
  · refine ((Int.ediv_emod_unique hz (q := -(a / k) - 1)).2 ⟨?_, by omega, by omega⟩).2
    rw [Int.mul_sub, Int.mul_neg]
    omega
  · refine ((Int.ediv_emod_unique hz (q := -(a / k))).2 ⟨?_, by omega, by omega⟩).2
    rw [Int.mul_neg]
    omega
theorem number_down (n : Int) (k : Nat) (hk : 0 < k) (hk2 : (k : Int) ≤ 9223372036854775807) (h0 : n < 0) (_h1 : -9223372036854775808 ≤ n) (w : World) :
    Calls Tryz.prog 22 #[.int .i64 n, .int .i64 k] w fun e w' => e = .returned (.int .i64 (numB n k)) ∧ w = w' := by
  have hn : ((numB n k : Nat) : Int) = n % (k : Int) := by
    unfold numB
    have := Int.emod_nonneg n (show (k : Int) ≠ 0 by omega)
    omega
  obtain ⟨t1, t2, ht⟩ := tmod_down hk h0
  rw [ht] at hn
  have Hn := hid hn
  have hz : (0 : Int) < (k : Int) := by omega
  clear hn ht
  by_cases hs : n.tmod k < 0
  · have Hs := hid hs
    go_enter Tryz.func22, Tryz.ntmps22
    go_wp2
    go_ret
    exact ⟨ret_i (by rw [Hn.out, if_pos Hs.out]), rfl⟩
  · have Hs := hid hs
    have hs2 : 0 ≤ n.tmod k := by omega
    clear hs
    go_enter Tryz.func22, Tryz.ntmps22
    go_wp2
    go_ret
    exact ⟨ret_i (by rw [Hn.out, if_neg (by omega)]), rfl⟩
theorem number_any (n : Int) (k : Nat) (hk : 0 < k) (hk2 : (k : Int) ≤ 9223372036854775807) (h0 : -9223372036854775808 ≤ n) (h1 : n ≤ 9223372036854775807) (w : World) :
    Calls Tryz.prog 22 #[.int .i64 n, .int .i64 k] w fun e w' => e = .returned (.int .i64 (numB n k)) ∧ w = w' := by
  by_cases h : 0 ≤ n
  · exact number_up n k hk hk2 h h1 w
  · exact number_down n k hk hk2 (by omega) h0 w


theorem si_parted {w : World} {p q : Option Addr} {c d : Nat} {la lb : List Int} (h : la.length ≠ lb.length) :
    Calls Tryz.prog 19 #[.slice p la.length c, .slice q lb.length d] w fun e w' => e = .returned (.bool false) ∧ w.grownBy w' none := by
  have hz : ((la.length : Int) == (lb.length : Int)) = false := by simp; omega
  have hz2 : (la.length == lb.length) = false := by simpa using h
  have Hr := hid (grown_refl w none)
  go_enter Tryz.func19, Tryz.ntmps19
  go_wp2
  go_ret
  exact ⟨rfl, Hr.out⟩
theorem si_empty {w : World} {p q : Option Addr} {c d : Nat} :
    Calls Tryz.prog 19 #[.slice p 0 c, .slice q 0 d] w fun e w' => e = .returned (.bool true) ∧ w.grownBy w' none := by
  have Hr := hid (grown_refl w none)
  go_enter Tryz.func19, Tryz.ntmps19
  go_wp2
  go_loop [5] (fun i => i = .int .i64 0) (fun _ => 0)
  case atStart => rfl
  case round =>
    obtain rfl := hrel
    go_wp2
    go_ret
    exact ⟨rfl, Hr.out⟩
set_option maxHeartbeats 1000000 in
theorem si_some {w : World} {b o b' o' c d N : Nat} {la lb : List Int} (hla : la.length = N) (hlb : lb.length = N) (h1 : N ≤ 4611686018427387904)
    (hb : b < w.heap.size) (hb' : b' < w.heap.size)
    (ha : ∀ j x, la[j]? = some x → w.cell? ⟨b, o + j, none⟩ = some (.int .i64 x)) (hc : ∀ j x, lb[j]? = some x → w.cell? ⟨b', o' + j, none⟩ = some (.int .i64 x)) (r : Bool) (hr : decide (la = lb) = r) :
    Calls Tryz.prog 19 #[.slice (some ⟨b, o, none⟩) N c, .slice (some ⟨b', o', none⟩) N d] w fun e w' => e = .returned (.bool r) ∧ w.grownBy w' none := by
  have Ha := hid ha
  have Hc := hid hc
  have Hla := hid hla
  have Hlb := hid hlb
  have Hr := hid hr
  clear ha hc hla hlb hr
  go_enter Tryz.func19, Tryz.ntmps19
  go_wp2
  go_loopw [5, 6] (fun i _ wr => ∃ k : Nat, k ≤ N ∧ i = .int .i64 k ∧ Hid (la.take k = lb.take k) ∧ Hid (w.grownBy wr none)) (fun i _ _ => N - (intOf i).toNat)
  case atStart => exact ⟨0, Nat.zero_le _, rfl, hid (by simp), hid (grown_refl _ _)⟩
  case round =>
    obtain ⟨k, hk, rfl, Hk, Hg⟩ := hrel
    by_cases hlt : k < N
    · obtain ⟨x, Hx⟩ : ∃ x, Hid (la[k]? = some x) := ⟨_, hid (List.getElem?_eq_getElem (by rw [Hla.out]; exact hlt))⟩
      obtain ⟨y, Hy⟩ : ∃ y, Hid (lb[k]? = some y) := ⟨_, hid (List.getElem?_eq_getElem (by rw [Hlb.out]; exact hlt))⟩
      have cx := (grown_cell (p := ⟨b, o + k, none⟩) Hg.out hb (by simp)).trans (Ha.out k x Hx.out)
      have cy := (grown_cell (p := ⟨b', o' + k, none⟩) Hg.out hb' (by simp)).trans (Hc.out k y Hy.out)
      have hk0 : (0 : Int) ≤ (k : Int) := by omega
      have hk1 : (k : Int) < (N : Int) := by omega
      by_cases hxy : x = y
      · subst hxy
        go_wp2
        go_quiet (fail)
        go_wp2
        go_roundw
        case rel =>
          refine ⟨k + 1, by omega, by go_num, hid ?_, hid (grown_drewN Hg.out _)⟩
          rw [List.take_add_one, List.take_add_one, Hk.out, Hx.out, Hy.out]
        case measure => simp [intOf]; omega
      · have hxy2 : (x == y) = false := by simpa using hxy
        go_wp2
        go_quiet (fail)
        go_wp2
        go_ret
        refine ⟨ret_b ?_, grown_drewN Hg.out _⟩
        rw [← Hr.out, eq_comm, decide_eq_false_iff_not]
        intro e
        have e1 := Hx.out
        have e2 := Hy.out
        rw [e, e2] at e1
        exact hxy (Option.some.inj e1).symm
    · go_wp2
      go_ret
      refine ⟨ret_b ?_, Hg.out⟩
      have hn : k = N := by omega
      have e := Hk.out
      rw [hn, List.take_of_length_le (by rw [Hla.out]; omega), List.take_of_length_le (by rw [Hlb.out]; omega)] at e
      rw [← Hr.out, e]
      simp
/-- two lists are told to be the same, just if they are -/
theorem si_any {w : World} {va vb : Value} {la lb : List Int} (ha : SlAt w .i64 va la) (hb : SlAt w .i64 vb lb) (h1 : la.length ≤ 4611686018427387904) (_h2 : lb.length ≤ 4611686018427387904) (r : Bool) (hr : decide (la = lb) = r) :
    Calls Tryz.prog 19 #[va, vb] w fun e w' => e = .returned (.bool r) ∧ w.grownBy w' none := by
  by_cases hl : la.length = lb.length
  · by_cases h0 : la.length = 0
    · obtain rfl := List.eq_nil_of_length_eq_zero h0
      obtain rfl := List.eq_nil_of_length_eq_zero (hl.symm.trans h0)
      obtain ⟨p, c, rfl⟩ := ha.len
      obtain ⟨q, d, rfl⟩ := hb.len
      subst hr
      exact si_empty
    · rcases ha with ⟨_, rfl⟩ | ⟨b, o, c, rfl, hbl, hc⟩
      · simp at h0
      · rcases hb with ⟨_, rfl⟩ | ⟨b', o', d, rfl, hbl', hc'⟩
        · simp at hl; simp [hl] at h0
        · rw [← hl]
          exact si_some rfl hl.symm h1 hbl hbl' hc hc' r hr
  · obtain ⟨p, c, rfl⟩ := ha.len
    obtain ⟨q, d, rfl⟩ := hb.len
    have : r = false := by rw [← hr, decide_eq_false_iff_not]; intro e; exact hl (by rw [e])
    subst this
    exact si_parted hl
end Go.Proofs.YtgahbpfmiibpeaaGreatDoor
/- What package mem's call Differ does: a contract. (Made by genDiffer.py.) -/
namespace Go.Proofs.YtgahbpfmiibpeaaGreatDoor
open Go.RowKit
/-- the frames in which two memories differ -/
def diffB (n n' : Nat) (xs ys : List Int) (f : Nat) : Bool := !(decide (f < n)) || (!(decide (f < n')) || !(decide (frameOf xs f = frameOf ys f)))
def diffs (n n' : Nat) (xs ys : List Int) (k : Nat) : List Int := ((List.range k).filter (diffB n n' xs ys)).map Int.ofNat
theorem diffs_yes {n n' : Nat} {xs ys : List Int} {k : Nat} (h : diffB n n' xs ys k = true) : diffs n n' xs ys (k + 1) = diffs n n' xs ys k ++ [(k : Int)] := by
  unfold diffs
  rw [List.range_succ, List.filter_append, List.map_append]
  simp [h]
theorem diffs_no {n n' : Nat} {xs ys : List Int} {k : Nat} (h : diffB n n' xs ys k = false) : diffs n n' xs ys (k + 1) = diffs n n' xs ys k := by
  unfold diffs
  rw [List.range_succ, List.filter_append, List.map_append]
  simp [h]
theorem diffs_length (n n' : Nat) (xs ys : List Int) (k : Nat) : (diffs n n' xs ys k).length ≤ k := by
  unfold diffs
  rw [List.length_map]
  exact Nat.le_trans (List.length_filter_le _ _) (by simp)
def DiffAt (w : World) (ls : List Int) (e : Ending) (w' : World) : Prop := ∃ v, e = .returned v ∧ SlAt w' .i64 v ls ∧ w.grownBy w' none
/-- what a round's head knows -/
structure DRel (w : World) (n n' : Nat) (xs ys : List Int) (v : Value) (k : Nat) (wr : World) : Prop where
  own : wr.ownsRow w.heap.size 3 1 v (diffs n n' xs ys k).length ((diffs n n' xs ys k).map (Value.int .i64))
  grown : w.grownBy wr none
theorem own_append {w : World} {base : Nat} {v : Value} {l : List Int} {k : Int} (h : w.ownsRow base 3 1 v (l.length + 1) (l.map (Value.int .i64) ++ [Value.int .i64 k])) : w.ownsRow base 3 1 v (l ++ [k]).length ((l ++ [k]).map (Value.int .i64)) := by
  simpa using h
theorem own_kept0 {w w1 : World} {base : Nat} {e : TypeId} {size : Nat} {v : Value} {n : Nat} {xs : List Value} (h : w.ownsRow base e size v n xs) (hg : w.grownBy w1 none) : w1.ownsRow base e size v n xs :=
  h.kept hg (by cases v.ownBlock <;> simp)
theorem one_new (W : World) (v : Value) (t : TypeId) : ∀ j u, [v][j]? = some u → (W.alloc (.cells #[v] t)).cell? ((⟨W.heap.size, 0, none⟩ : Addr).add j) = some u := by
  intro j u hj
  match j, hj with
  | 0, hj => simp at hj; subst hj; simp [Addr.add]



end Go.Proofs.YtgahbpfmiibpeaaGreatDoor
/- Package mem's calls in the form in which the laws meet them; the chapter's examples. -/
namespace Go.Proofs.YtgahbpfmiibpeaaGreatDoor
open Go.RowKit
section
variable {m b n c : Nat} {xs : List Int} {w : World}
theorem number_of (x a : Int) (k r : Nat) (ha : a = (k : Int)) (hr : numB x k = r) (hk : 0 < k) (hk2 : (k : Int) ≤ 9223372036854775807) (h0 : -9223372036854775808 ≤ x) (h1 : x ≤ 9223372036854775807) :
    Calls Tryz.prog 22 #[.int .i64 x, .int .i64 a] w fun e w' => e = .returned (.int .i64 r) ∧ w = w' := by
  subst ha; subst hr
  exact number_any x k hk hk2 h0 h1 w
end
theorem frame_get {xs : List Int} {f j : Nat} (hj : j < 16) : (frameOf xs f)[j]? = xs[f * 16 + j]? := by
  unfold frameOf
  rw [List.getElem?_take, if_pos hj, List.getElem?_drop]
theorem frame_ext {xs ys : List Int} {f : Nat} (h : ∀ j, j < 16 → xs[f * 16 + j]? = ys[f * 16 + j]?) : frameOf xs f = frameOf ys f := by
  apply List.ext_getElem?
  intro j
  by_cases hj : j < 16
  · rw [frame_get hj, frame_get hj]; exact h j hj
  · unfold frameOf
    rw [List.getElem?_take, List.getElem?_take, if_neg hj, if_neg hj]
theorem SlAt.frame {w : World} {g : Nat} {l : List Int} {t : TypeId} {fr : Nat × Nat} (hl : l.length = 16) (h : w.heap[g]? = some (.cells (wA l) t fr)) (c : Nat) : SlAt w .u32 (.slice (some ⟨g, 0, none⟩) 16 c) l := by
  have := SlAt.whole (k := .u32) (c := c) (xs := l) h
  rwa [hl] at this
theorem diffs_none {n n' : Nat} {xs ys : List Int} : ∀ k, (∀ f, f < k → diffB n n' xs ys f = false) → diffs n n' xs ys k = []
  | 0, _ => rfl
  | k + 1, h => by rw [diffs_no (h k (by omega)), diffs_none k (fun f hf => h f (by omega))]
theorem diffB_same {n : Nat} {xs : List Int} {f : Nat} (hf : f < n) : diffB n n xs xs f = false := by simp [diffB, hf]
end Go.Proofs.YtgahbpfmiibpeaaGreatDoor

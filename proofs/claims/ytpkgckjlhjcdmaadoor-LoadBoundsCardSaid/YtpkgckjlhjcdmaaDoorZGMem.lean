/- The row's last step where of the world that the call leaves 'Below' is known. -/
import Derived.Test.YtpkgckjlhjcdmaaDoorRows
import Derived.WalkKit
import Derived.ProofKit
import Derived.OpenShut
import Derived.Below
import Derived.ChangeSame
import Derived.Laws.MakeOwn
import Derived.Deep.MidRow
import Derived.Deep.Draws
import Derived.Carry
import Derived.ChangeSlices
import Derived.WideKeyArgs
import Derived.Lib.SmallJoins
import Derived.WalkSpells
import Derived.WalkLawsBesides
import Derived.Handy
import Derived.RegionTactic
import Derived.Deep.QuietTactic
import Derived.BigQuiet
import Derived.IntWalk
import Derived.Outline
import Derived.ChangeKeysEq
import Derived.Deep.WholeRow
import Derived.OwnWalk
import Derived.Laws.CopyOwn
import Derived.Deep.RegionHeld3
import Derived.LoopTactic
namespace Go.Proofs.YtpkgckjlhjcdmaaDoor
open Go.RowKit Go.WideShapes Go.ChangeShapes
theorem hid {p : Prop} (h : p) : Hid p := h
theorem ret_i {k : IntKind} {a b : Int} (h : a = b) : Ending.returned (.int k a) = .returned (.int k b) := by rw [h]
theorem ret_b {a b : Bool} (h : a = b) : Ending.returned (.bool a) = .returned (.bool b) := by rw [h]
/-! ### what a step leaves alone -/
section
variable {w w1 w2 : World}
theorem grown_refl (w : World) (r : Option Nat) : w.grownBy w r := ⟨rfl, rfl, rfl, Nat.le_refl _, fun _ _ _ => rfl⟩
theorem grown_trans {r : Option Nat} (h : w.grownBy w1 r) (k : w1.grownBy w2 r) : w.grownBy w2 r :=
  ⟨k.os.trans h.os, k.tape.trans h.tape, k.output.trans h.output, Nat.le_trans h.size k.size, fun i hi hr => (k.block i (Nat.lt_of_lt_of_le hi h.size) hr).trans (h.block i hi hr)⟩
theorem grown_none {r : Option Nat} (h : w.grownBy w1 none) : w.grownBy w1 r := ⟨h.os, h.tape, h.output, h.size, fun i hi _ => h.block i hi (by simp)⟩
theorem grown_drew {r : Option Nat} (h : w.grownBy w1 r) : w.grownBy w1.drew r := ⟨h.os, h.tape, h.output, h.size, h.block⟩
theorem grown_drewN {r : Option Nat} (h : w.grownBy w1 r) (n : Nat) : w.grownBy (w1.drewN n) r := ⟨h.os, h.tape, h.output, h.size, h.block⟩
theorem grown_alloc {r : Option Nat} (h : w.grownBy w1 r) (o : Obj) : w.grownBy (w1.alloc o) r := grown_trans h (World.grownBy_alloc _ _ _)
theorem grown_setCell {b : Nat} (h : w.grownBy w1 (some b)) (k : Nat) (v : Value) : w.grownBy (w1.setCell ⟨b, k, none⟩ v) (some b) :=
  grown_trans h ⟨rfl, rfl, rfl, by simp, fun i _ hi => heap_setCell_other _ _ _ _ (by simpa using hi)⟩
/-- what was written is new -/
theorem grown_new {b : Nat} (h : w.grownBy w1 (some b)) (hb : w.heap.size ≤ b) : w.grownBy w1 none :=
  ⟨h.os, h.tape, h.output, h.size, fun i hi _ => h.block i hi (by simp; omega)⟩
theorem grown_new' {r : Option Nat} (h : w.grownBy w1 r) (hb : ∀ k, r = some k → w.heap.size ≤ k) : w.grownBy w1 none :=
  ⟨h.os, h.tape, h.output, h.size, fun i hi _ => h.block i hi (fun e => by have := hb i e.symm; omega)⟩
theorem below_grown {B : Nat} {a : World} {r : Option Nat} (h : Below B a w) (hg : w.grownBy w1 r) (hB : B ≤ w.heap.size) (hr : ∀ k, r = some k → B ≤ k) : Below B a w1 := h.grown hg hB hr
theorem grown_below (h : w.grownBy w1 none) : Below w.heap.size w w1 := (Below.refl _ _).grown h (Nat.le_refl _) (by simp)
theorem below_is_grown (h : Below w.heap.size w w1) : w.grownBy w1 none := ⟨h.os, h.tape, h.output, h.size, fun i hi _ => h.block i hi⟩
theorem grown_cell {r : Option Nat} {p : Addr} (h : w.grownBy w1 r) (hp : p.block < w.heap.size) (hr : some p.block ≠ r) : w1.cell? p = w.cell? p := World.cell?_of_block (h.block _ hp hr)
end
/-- words' cells -/
def wA (l : List Int) : Array Value := (l.map (Value.int .u32)).toArray
theorem wA_size (l : List Int) : (wA l).size = l.length := by simp [wA]
theorem wA_get (l : List Int) (i : Nat) : (wA l)[i]? = (l[i]?).map (Value.int .u32) := by simp [wA]
theorem wA_one (l : List Int) : (wA l).all (·.oneCell') = true := by
  rw [Array.all_eq_true_iff_forall_mem]
  intro v hv
  simp only [wA, List.mem_toArray, List.mem_map] at hv
  obtain ⟨x, _, rfl⟩ := hv
  rfl
theorem wA_set (l : List Int) (k : Nat) (x : Int) : (wA l).setIfInBounds k (.int .u32 x) = wA (l.set k x) := by
  simp [wA, List.map_set]
/-- a block of five cells of the call's own, known -/
structure At5 (w : World) (B : Nat) (v0 v1 v2 v3 v4 : Value) : Prop where
  lt : B < w.heap.size
  c0 : w.cell? ⟨B, 0, none⟩ = some v0
  c1 : w.cell? ⟨B, 1, none⟩ = some v1
  c2 : w.cell? ⟨B, 2, none⟩ = some v2
  c3 : w.cell? ⟨B, 3, none⟩ = some v3
  c4 : w.cell? ⟨B, 4, none⟩ = some v4
theorem At5.new (w : World) (v0 v1 v2 v3 v4 : Value) (t : TypeId) : At5 (w.alloc (.cells #[v0, v1, v2, v3, v4] t)) w.heap.size v0 v1 v2 v3 v4 :=
  ⟨by simp, by simp, by simp, by simp, by simp, by simp⟩
theorem At5.below {w w' : World} {B : Nat} {v0 v1 v2 v3 v4 : Value} (h : At5 w B v0 v1 v2 v3 v4) (hb : Below w.heap.size w w') : At5 w' B v0 v1 v2 v3 v4 :=
  ⟨Nat.lt_of_lt_of_le h.lt hb.size, (hb.cell h.lt).trans h.c0, (hb.cell h.lt).trans h.c1, (hb.cell h.lt).trans h.c2, (hb.cell h.lt).trans h.c3, (hb.cell h.lt).trans h.c4⟩
theorem At5.alloc {w : World} {B : Nat} {v0 v1 v2 v3 v4 : Value} (h : At5 w B v0 v1 v2 v3 v4) (o : Obj) : At5 (w.alloc o) B v0 v1 v2 v3 v4 :=
  h.below ((Below.refl _ _).alloc (Nat.le_refl _) o)
theorem u32_bd {n : Int} (h : (Lit.int .u32 n).wf = true) : 0 ≤ n ∧ n ≤ 4294967295 := by
  have h' := (Bool.and_eq_true _ _).mp h
  exact ⟨of_decide_eq_true h'.1, of_decide_eq_true h'.2⟩
theorem i64_bd {n : Int} (h : (Lit.int .i64 n).wf = true) : -9223372036854775808 ≤ n ∧ n ≤ 9223372036854775807 := by
  have h' := (Bool.and_eq_true _ _).mp h
  exact ⟨of_decide_eq_true h'.1, of_decide_eq_true h'.2⟩
section
variable {H : Type} {enc : TypeId × Value → H} {P : Program}
theorem post_of_below {f : Func} {s : ChangeSpec} {apart fresh handsOn again : Bool} {W W' : World} {args : Array Value} {v : Value} {ds gs : List (DataW H)} {before pa pv : List MemPlace}
    (hW : DataW.Whole enc P f.params.toList s.vars apart W args.toList ds gs before)
    (hres : ∀ (b : Nat) (sp : Nat → Bool) (hd : Bool), DataW.TrodAll enc P W' b sp hd f.resultTypes.toList (v.resultList f.resultTypes.size) (s.fn H (ds ++ gs)).results [])
    (hargs : ∀ sp : Nat → Bool, (∀ p ∈ before, sp p.block = true) → DataW.TrodAll enc P W' 0 sp true f.params.toList args.toList (s.fn H (ds ++ gs)).args pa)
    (hvars : ∀ sp : Nat → Bool, (∀ p ∈ before, sp p.block = true) → DataW.TrodVars enc P W' sp s.vars (s.fn H (ds ++ gs)).vars pv)
    (hps : before = pa ++ pv) (hb : Below W.heap.size W W')
    (hok : ∀ (j : Nat) (t : TypeId) (r : Value), f.resultTypes[j]? = some t → (v.resultList f.resultTypes.size)[j]? = some r → Value.okWide P W' .any 0 t r) :
    s.post enc P f apart fresh handsOn again W args v W' := by
  have old : ∀ p ∈ before, p.block < W.heap.size := fun p hp => hW.lt p hp
  have told : ∀ p ∈ before, (fun b => decide (b < W.heap.size)) p.block = true := fun p hp => decide_eq_true (old p hp)
  refine ⟨ds, gs, before, [], pa, pv, hW, hres _ _ _, hargs _ told, hvars _ told, ?_, ?_⟩
  · refine World.keptBut_mono (fun p hp => ⟨hp, Or.inr ?_⟩) (hb.frame (· ∈ before))
    rw [hps] at hp; exact List.mem_append.1 hp
  · intro _
    obtain ⟨_, _, _, _, _, hz, hn⟩ := hW
    refine ⟨hok, _, _, ([] ++ pa) ++ pv, ⟨[] ++ pa, pv, trodAll_append (hargs _ (fun _ _ => rfl)) (hres _ _ _), hvars _ (fun _ _ => rfl), rfl, ?_, ?_⟩, ?_⟩
    · intro b off hp
      have hin : MemPlace.cell b off ∈ before := by rw [hps]; simpa using hp
      exact (hb.frozen (old _ hin)).trans (hz b off hin)
    · intro ha
      have h := hn ha
      rw [hps] at h
      simpa using h
    · intro p hp _
      rw [hps]
      simpa using hp
end
end Go.Proofs.YtpkgckjlhjcdmaaDoor
/- A memory (package mem): what is known of it in a world; how that is carried on. -/
namespace Go.Proofs.YtpkgckjlhjcdmaaDoor
open Go.RowKit
/-! ### numbers in a slice -/
/-- the slice value v reads as these numbers -/
def SlAt (w : World) (k : IntKind) (v : Value) (xs : List Int) : Prop :=
  ((∃ p c, v = .slice p 0 c) ∧ xs = []) ∨
  ∃ b o c, v = .slice (some ⟨b, o, none⟩) xs.length c ∧ b < w.heap.size ∧ ∀ j x, xs[j]? = some x → w.cell? ⟨b, o + j, none⟩ = some (.int k x)
theorem SlAt.kept {w w1 : World} {k : IntKind} {v : Value} {xs : List Int} {r : Option Nat} (h : SlAt w k v xs) (hg : w.grownBy w1 r) (hr : v.ownBlock = none ∨ v.ownBlock ≠ r) : SlAt w1 k v xs := by
  rcases h with h | ⟨b, o, c, rfl, hb, hc⟩
  · exact .inl h
  · refine .inr ⟨b, o, c, rfl, Nat.lt_of_lt_of_le hb hg.size, fun j x hx => ?_⟩
    rw [grown_cell hg hb (by simpa [Value.ownBlock] using hr)]
    exact hc j x hx
theorem SlAt.kept0 {w w1 : World} {k : IntKind} {v : Value} {xs : List Int} (h : SlAt w k v xs) (hg : w.grownBy w1 none) : SlAt w1 k v xs :=
  h.kept hg (by cases v.ownBlock <;> simp)
/-- a block of numbers, known whole -/
theorem SlAt.whole {w : World} {k : IntKind} {b c : Nat} {t : TypeId} {xs : List Int} {fr : Nat × Nat} (h : w.heap[b]? = some (.cells (xs.map (Value.int k)).toArray t fr)) : SlAt w k (.slice (some ⟨b, 0, none⟩) xs.length c) xs := by
  refine .inr ⟨b, 0, c, rfl, (Array.getElem?_eq_some_iff.1 h).1, fun j x hx => ?_⟩
  rw [cell_of_row w b _ _ t fr h]
  simp [hx]
theorem SlAt.own {w : World} {k : IntKind} {base : Nat} {t : TypeId} {v : Value} {n : Nat} {xs : List Int} (h : w.ownsRow base t 1 v n (xs.map (Value.int k))) : SlAt w k v xs := by
  obtain ⟨hl, h⟩ := h
  have hl : xs.length = n := by simpa using hl
  rcases h with ⟨rfl, h0⟩ | ⟨g, cap, cur, rfl, _, hg, _, _, _, ht⟩
  · exact .inl ⟨⟨_, _, rfl⟩, List.eq_nil_of_length_eq_zero (by omega)⟩
  · refine .inr ⟨g, 0, cap, by rw [hl], (Array.getElem?_eq_some_iff.1 hg).1, fun j x hx => ?_⟩
    rw [cell_of_row w g _ _ t _ hg, Nat.zero_add]
    have hj : j < xs.length := (List.getElem?_eq_some_iff.1 hx).1
    have := congrArg (·[j]?) ht
    simp only [Nat.mul_one, List.getElem?_take, List.getElem?_map, hx] at this
    rw [if_pos (by omega)] at this
    simpa using this

/-! ### a memory -/
/-- at block m the memory: n frames in block b, of capacity c; its words -/
structure MemAt (w : World) (m b n c : Nat) (xs : List Int) : Prop where
  hm : w.heap[m]? = some (.cells #[.slice (some ⟨b, 0, none⟩) n c] 138 (0, 0))
  hb : ∃ cur : Array Value, w.heap[b]? = some (.cells cur 181 (0, 0)) ∧ cur.size = c * 16 ∧ ∀ (k : Nat) (x : Int), xs[k]? = some x → cur[k]? = some (.int .u32 x)
  len : xs.length = n * 16
  nc : n ≤ c
  cm : c ≤ maxLen
  n1 : 1 ≤ n
  n2 : n ≤ 1024
  ne : m ≠ b
section
variable {w w1 : World} {m b n c : Nat} {xs : List Int}
theorem MemAt.mlt (h : MemAt w m b n c xs) : m < w.heap.size := (Array.getElem?_eq_some_iff.1 h.hm).1
theorem MemAt.blt (h : MemAt w m b n c xs) : b < w.heap.size := by
  obtain ⟨cur, hb, _⟩ := h.hb
  exact (Array.getElem?_eq_some_iff.1 hb).1
theorem MemAt.mcell (h : MemAt w m b n c xs) : w.cell? ⟨m, 0, none⟩ = some (.slice (some ⟨b, 0, none⟩) n c) := by
  rw [cell_of_row w m 0 _ _ _ h.hm]; rfl
theorem MemAt.cell (h : MemAt w m b n c xs) {k : Nat} {x : Int} (hx : xs[k]? = some x) : w.cell? ⟨b, k, none⟩ = some (.int .u32 x) := by
  obtain ⟨cur, hb, _, ht⟩ := h.hb
  rw [cell_of_row w b _ _ _ _ hb]
  exact ht k x hx
theorem MemAt.free (h : MemAt w m b n c xs) (k : Nat) : w.frozen? ⟨b, k, none⟩ = false := by
  obtain ⟨cur, hb, _⟩ := h.hb
  exact frozen_of_row w b k cur _ hb
theorem MemAt.kept {r : Option Nat} (h : MemAt w m b n c xs) (hg : w.grownBy w1 r) (hm : some m ≠ r) (hb : some b ≠ r) : MemAt w1 m b n c xs := by
  obtain ⟨cur, hb', hs, ht⟩ := h.hb
  exact { h with hm := (hg.block _ h.mlt hm).trans h.hm, hb := ⟨cur, (hg.block _ h.blt hb).trans hb', hs, ht⟩ }
theorem MemAt.kept0 (h : MemAt w m b n c xs) (hg : w.grownBy w1 none) : MemAt w1 m b n c xs := h.kept hg (by simp) (by simp)
theorem MemAt.set (h : MemAt w m b n c xs) {k : Nat} (hk : k < n * 16) (x : Int) : MemAt (w.setCell ⟨b, k, none⟩ (.int .u32 x)) m b n c (xs.set k x) := by
  obtain ⟨cur, hb', hs, ht⟩ := h.hb
  have hn := h.nc
  have hl := h.len
  refine { h with hm := ?_, hb := ⟨cur.setIfInBounds k (.int .u32 x), heap_setCell_same w b k cur _ _ hb', by simpa using hs, fun j y hy => ?_⟩, len := by simpa using h.len }
  · rw [heap_setCell_other _ _ _ _ h.ne]; exact h.hm
  · rw [Array.getElem?_setIfInBounds]
    rw [List.getElem?_set] at hy
    split
    · rename_i e
      subst e
      rw [if_pos rfl, if_pos (by omega)] at hy
      rw [if_pos (by omega)]
      rw [← Option.some.inj hy]
    · rename_i e
      rw [if_neg e] at hy
      exact ht j y hy
/-- frame f of these words -/
def frameOf (xs : List Int) (f : Nat) : List Int := (xs.drop (f * 16)).take 16
theorem frameOf_length (hl : xs.length = n * 16) {f : Nat} (hf : f < n) : (frameOf xs f).length = 16 := by
  unfold frameOf; simp only [List.length_take, List.length_drop]; omega
theorem MemAt.range (h : MemAt w m b n c xs) (f : Nat) : w.rangeAt b (f * 16) ((frameOf xs f).map (Value.int .u32)) := fun j v hv => by
  unfold frameOf at hv
  simp only [List.getElem?_map, List.getElem?_take, List.getElem?_drop, Option.map_eq_some_iff] at hv
  obtain ⟨x, hx, rfl⟩ := hv
  split at hx
  · exact h.cell hx
  · cases hx
theorem MemAt.there (h : MemAt w m b n c xs) {f : Nat} (hf : f < n) : w.there b (f * 16) 16 := fun j hj => by
  refine ⟨?_, h.free _⟩
  have hl := h.len
  have : f * 16 + j < xs.length := by omega
  rw [h.cell (List.getElem?_eq_getElem this)]; rfl
/-- these words with those from o on made these -/
def setMany (xs : List Int) (o : Nat) : List Int → List Int
  | [] => xs
  | x :: r => setMany (xs.set o x) (o + 1) r
theorem setMany_length : ∀ (l : List Int) (xs : List Int) (o : Nat), (setMany xs o l).length = xs.length
  | [], _, _ => rfl
  | x :: r, xs, o => by rw [setMany, setMany_length r]; simp
theorem setMany_get : ∀ (l : List Int) (xs : List Int) (o k : Nat), o + l.length ≤ xs.length → (setMany xs o l)[k]? = if o ≤ k ∧ k < o + l.length then l[k - o]? else xs[k]?
  | [], xs, o, k, _ => by simp [setMany]; intro h1 h2; omega
  | x :: r, xs, o, k, h => by
    simp only [List.length_cons] at h
    rw [setMany, setMany_get r _ _ _ (by simp; omega)]
    simp only [List.length_cons]
    by_cases e : k = o
    · subst e
      rw [if_neg (by omega), if_pos (by omega), List.getElem?_set_self (by omega)]
      simp
    · by_cases h1 : o ≤ k ∧ k < o + (r.length + 1)
      · rw [if_pos (by omega), if_pos h1]
        obtain ⟨d, rfl⟩ : ∃ d, k = o + 1 + d := ⟨k - (o + 1), by omega⟩
        rw [show o + 1 + d - o = d + 1 by omega, show o + 1 + d - (o + 1) = d by omega]
        rfl
      · rw [if_neg (by omega), if_neg h1, List.getElem?_set_ne (by omega)]
theorem MemAt.fill : ∀ (l : List Int) (o : Nat) (w : World) (xs : List Int), MemAt w m b n c xs → o + l.length ≤ n * 16 → MemAt (w.setCells b o (l.map (Value.int .u32))) m b n c (setMany xs o l)
  | [], _, _, _, h, _ => h
  | x :: r, o, w, xs, h, hl => by
    simp only [List.length_cons] at hl
    exact MemAt.fill r (o + 1) _ _ (h.set (by omega) x) (by omega)
theorem grown_setCells {b : Nat} : ∀ (vs : List Value) (o : Nat) {w w1 : World}, w.grownBy w1 (some b) → w.grownBy (w1.setCells b o vs) (some b)
  | [], _, _, _, h => h
  | v :: r, o, _, _, h => grown_setCells r (o + 1) (grown_setCell h o v)
end
end Go.Proofs.YtpkgckjlhjcdmaaDoor
/- Arguments of a law: slices of numbers opened; that what was there when the call began reads as it did. -/
namespace Go.Proofs.YtpkgckjlhjcdmaaDoor
open Go.RowKit Go.WideShapes Go.ChangeShapes
theorem u64_bd {n : Int} (h : (Lit.int .u64 n).wf = true) : 0 ≤ n ∧ n ≤ 18446744073709551615 := by
  have h' := (Bool.and_eq_true _ _).mp h
  exact ⟨of_decide_eq_true h'.1, of_decide_eq_true h'.2⟩
section
variable {H : Type} {enc : TypeId × Value → H} {P : Program} {W W' : World}
theorem args_again (hl : laidOutB P = true) {sp : Nat → Bool} : ∀ (ts : List TypeId) (vs : List Value) (ds : List (DataW H)) (ps : List MemPlace), (∀ t ∈ ts, P.readableRec t = true ∧ t < P.types.size) →
    DataW.TrodAll enc P W 0 (fun _ => true) true ts vs ds ps → (∀ p ∈ ps, W.sameAt W' p) → (∀ p ∈ ps, sp p.block = true) → DataW.TrodAll enc P W' 0 sp true ts vs ds ps
  | [], [], [], _, _, h, _, _ => h
  | [], [], _ :: _, _, _, h, _, _ => h
  | [], _ :: _, _, _, _, h, _, _ => h
  | _ :: _, [], _, _, _, h, _, _ => h
  | _ :: _, _ :: _, [], _, _, h, _, _ => h
  | t :: ts, v :: vs, d :: ds, _, ht, ⟨p, q, h, hs, rfl⟩, hsame, hsp =>
    ⟨p, q, Go.WideElems.Trod_stays hl (ht t (by simp)).1 (ht t (by simp)).2 h (fun x hx => hsame x (by simp [hx])) (fun x hx => hsp x (by simp [hx])),
      args_again hl ts vs ds q (fun u hu => ht u (by simp [hu])) hs (fun x hx => hsame x (by simp [hx])) (fun x hx => hsp x (by simp [hx])), rfl⟩
theorem slat_of_cells {t e : TypeId} {k : IntKind} {fuel : Nat} {p : Option Addr} {len cap : Nat} {x : DataW H × List MemPlace} (ht : P.underlying t = some (.slice e)) (he : P.underlying e = some (.int k)) (hc : P.cellsOf e = 1)
    (h : DataW.trod enc P W 0 (fun _ => true) true fuel t [.slice p len cap] = some x) :
    ∃ xs : List Int, SlAt W k (.slice p len cap) xs ∧ (∀ n ∈ xs, (Lit.int k n).wf = true) ∧ xs.length ≤ maxLen := by
  rcases open_ints ht he hc h with ⟨hcs, hx⟩ | ⟨a, len', cap', zs, hcs, _, hl, hm, hz, hx, hcell, hw⟩
  · simp at hcs
    obtain ⟨rfl, rfl, rfl⟩ := hcs
    exact ⟨[], .inl ⟨⟨_, _, rfl⟩, rfl⟩, by simp, by simp⟩
  · simp only [List.cons.injEq, Value.slice.injEq, and_true] at hcs
    obtain ⟨rfl, rfl, rfl⟩ := hcs
    simp only [if_true] at hz
    have hlen : (zs.take len).length = len := by simp; omega
    refine ⟨zs.take len, ?_, fun n hn => hw n (List.mem_of_mem_take hn), by rw [hlen]; omega⟩
    by_cases h0 : len = 0
    · subst h0
      exact .inl ⟨⟨_, _, rfl⟩, by simp⟩
    · obtain ⟨b, off, spot⟩ := a
      have hspot : spot = none := by simpa [Addr.add] using World.cell?_spot (hcell 0 (by omega))
      subst hspot
      have h00 := hcell 0 (by omega)
      refine .inr ⟨b, off, cap, by rw [hlen], ?_, fun j x hx => ?_⟩
      · exact World.block_lt_of_cell? W _ h00
      · have hj : j < len := by have := (List.getElem?_eq_some_iff.1 hx).1; omega
        rw [List.getElem?_take, if_pos hj] at hx
        have := hcell j (by omega)
        rw [Addr.add_mid] at this
        rw [this]
        simp [List.getD, hx]
/-- a slice of numbers that came in -/
theorem slat_of {t e : TypeId} {k : IntKind} {base : Nat} {v : Value} {d : DataW H} {ps : List MemPlace} (ht : P.underlying t = some (.slice e)) (he : P.underlying e = some (.int k)) (hc : P.cellsOf e = 1)
    (hv : Value.okWide P W .any base t v) (h : DataW.Trod enc P W 0 (fun _ => true) true t v d ps) :
    ∃ xs : List Int, SlAt W k v xs ∧ (∀ n ∈ xs, (Lit.int k n).wf = true) ∧ xs.length ≤ maxLen := by
  obtain ⟨p, len, cap, rfl⟩ := okWide_slice ht hv
  obtain ⟨fuel, hf⟩ := h
  exact slat_of_cells (fuel := fuel) ht he hc (by simpa [Value.cells] using hf)
end
end Go.Proofs.YtpkgckjlhjcdmaaDoor
/- What the small calls of package mem do: contracts. -/
namespace Go.Proofs.YtpkgckjlhjcdmaaDoor
open Go.RowKit

section
variable {m b n c : Nat} {xs : List Int} {w : World}
theorem frames_any (h : MemAt w m b n c xs) : Calls Tryd.prog 40 #[.pointer (some ⟨m, 0, none⟩)] w fun e w' => e = .returned (.int .i64 n) ∧ w = w' := by
  have hm := h.mcell
  go_enter Tryd.func40, Tryd.ntmps40
  go_wp2
  go_ret
  exact ⟨rfl, rfl⟩
theorem has_any (h : MemAt w m b n c xs) (f : Int) (r : Bool) (hr : decide (0 ≤ f ∧ f < (n : Int)) = r) :
    Calls Tryd.prog 86 #[.pointer (some ⟨m, 0, none⟩), .int .i64 f] w fun e w' => e = .returned (.bool r) ∧ w = w' := by
  have hm := h.mcell
  by_cases h0 : 0 ≤ f
  · go_enter Tryd.func86, Tryd.ntmps86
    go_wp2
    go_ret
    exact ⟨ret_b (by rw [← hr]; simp [h0]), rfl⟩
  · have h1 : decide (0 ≤ f) = false := by simpa using h0
    go_enter Tryd.func86, Tryd.ntmps86
    go_wp2
    go_ret
    exact ⟨ret_b (by rw [← hr]; simp; omega), rfl⟩
theorem mword_no (h : MemAt w m b n c xs) (a : Int) (ha : a < 0 ∨ (n : Int) * 16 ≤ a) (hb : a ≤ 9223372036854775807) :
    Calls Tryd.prog 68 #[.pointer (some ⟨m, 0, none⟩), .int .i64 a] w fun e w' => e = .returned (.pointer none) ∧ w = w' := by
  have hn := h.n2
  rcases ha with ha | ha
  · go_enter Tryd.func68, Tryd.ntmps68
    go_wp2
    go_ret
    exact ⟨rfl, rfl⟩
  · have h0 : ¬ a < 0 := by omega
    have h2 : 0 ≤ a := by omega
    have hq : decide (0 ≤ a / 16 ∧ a / 16 < (n : Int)) = false := by simp; omega
    have hq := hid hq
    go_enter Tryd.func68, Tryd.ntmps68
    go_wp2_with (go_at_call 86; refine (has_any h _ false hq.out).mono ?_; rintro e w' ⟨rfl, rfl⟩)
    go_ret
    exact ⟨rfl, rfl⟩
theorem mword_yes (h : MemAt w m b n c xs) (k : Nat) (hk : k < n * 16) :
    Calls Tryd.prog 68 #[.pointer (some ⟨m, 0, none⟩), .int .i64 k] w fun e w' => e = .returned (.pointer (some ⟨b, k, none⟩)) ∧ w = w' := by
  have hn := h.n2
  have hm := h.mcell
  have hq : decide (0 ≤ (k : Int) / 16 ∧ (k : Int) / 16 < (n : Int)) = true := by simp; omega
  have hq := hid hq
  have h0 : ¬ (k : Int) < 0 := by omega
  have h2 : 0 ≤ (k : Int) := by omega
  have h3 : 0 ≤ (k : Int) / 16 := by omega
  have h4 : (k : Int) / 16 < n := by omega
  have h5 : 0 ≤ (k : Int) % 16 := by omega
  have h6 : (k : Int) % 16 < 16 := by omega
  go_enter Tryd.func68, Tryd.ntmps68
  go_wp2_with (go_at_call 86; refine (has_any h _ true hq.out).mono ?_; rintro e w' ⟨rfl, rfl⟩)
  go_ret
  refine ⟨?_, rfl⟩
  simp
end
end Go.Proofs.YtpkgckjlhjcdmaaDoor
/- Frames as values: read, stored, compared. -/
namespace Go.Proofs.YtpkgckjlhjcdmaaDoor
open Go.RowKit
theorem eq_of_range {l k : List Int} {n : Nat} (hl : l.length = n) (hk : k.length = n) : ((List.range n).all fun i => l[i]? == k[i]?) = decide (l = k) := by
  by_cases h : l = k
  · subst h; simp
  · rw [decide_eq_false h, Bool.eq_false_iff]
    intro ha
    apply h
    apply List.ext_getElem?
    intro i
    by_cases hi : i < n
    · have := List.all_eq_true.1 ha i (List.mem_range.2 hi)
      simpa using this
    · rw [List.getElem?_eq_none (by omega), List.getElem?_eq_none (by omega)]
theorem run_eqItems_words (d : Nat) (l k : List Int) (w : World) : ∀ (is : List Nat), (∀ i ∈ is, i < l.length ∧ i < k.length) →
    (Op.eqItems (d + 1) 25 1 (wA l) (wA k) is).run Tryd.prog w = .ok (is.all fun i => l[i]? == k[i]?) w
  | [], _ => by simp [Op.eqItems]
  | i :: is, h => by
    obtain ⟨h1, h2⟩ := h i (by simp)
    have hp : Tryd.prog.plainKey 25 = true := by kernel_rfl
    have p1 := run_part_plain (P := Tryd.prog) w hp (xs := wA l) (off := i * 1) (v := .int .u32 l[i]) (by rw [wA_get]; simp [h1])
    have p2 := run_part_plain (P := Tryd.prog) w hp (xs := wA k) (off := i * 1) (v := .int .u32 k[i]) (by rw [wA_get]; simp [h2])
    have ih := run_eqItems_words d l k w is (fun j hj => h j (by simp [hj]))
    simp only [Op.eqItems, Sem.run_bind, p1, p2, Result.andThen_ok, run_equalIn_int w d 25 .u32 .u32 _ _ Tryd.underlying25]
    by_cases e : l[i] = k[i]
    · simp [e, h1, h2, ih]
    · simp [e, h1, h2]
theorem run_neq_frame (l k : List Int) (hl : l.length = 16) (hk : k.length = 16) (w : World) : (binOp .neq 181 (.agg (wA l)) (.agg (wA k))).run Tryd.prog w = .ok (.bool (!decide (l = k))) w := by
  obtain ⟨i, hi⟩ : ∃ i, Tryd.prog.info? 25 = some i := by
    have : (Tryd.prog.info? 25).isSome = true := by kernel_rfl
    exact Option.isSome_iff_exists.1 this
  have hc : Tryd.prog.cellsOf 25 = 1 := by kernel_rfl
  rw [run_neq_struct, run_equalIn_array w 9999 _ _ Tryd.underlying181 hi, hc, run_eqItems_words 9998 l k w _ (by intro i hi; rw [List.mem_range] at hi; omega)]
  simp only [Result.andThen_ok]
  rw [eq_of_range hl hk]
theorem frame_info : (Tryd.prog.info? 181).map (·.size) = some 16 := by kernel_rfl
end Go.Proofs.YtpkgckjlhjcdmaaDoor
/- What package mem's calls do: New, Read, Write, Frame: contracts. -/
namespace Go.Proofs.YtpkgckjlhjcdmaaDoor
open Go.RowKit
section
variable {m b n c : Nat} {xs : List Int} {w : World}
theorem write_no (h : MemAt w m b n c xs) (a x : Int) (ha : a < 0 ∨ (n : Int) * 16 ≤ a) (hb : a ≤ 9223372036854775807) :
    Calls Tryd.prog 103 #[.pointer (some ⟨m, 0, none⟩), .int .i64 a, .int .u32 x] w fun e w' => e = .returned (.bool false) ∧ w = w' := by
  go_enter Tryd.func103, Tryd.ntmps103
  go_wp2_with (go_at_call 68; refine (mword_no h _ ha hb).mono ?_; rintro e w' ⟨rfl, rfl⟩)
  go_ret
  exact ⟨rfl, rfl⟩
theorem write_yes (h : MemAt w m b n c xs) (k : Nat) (x : Int) (hk : k < n * 16) :
    Calls Tryd.prog 103 #[.pointer (some ⟨m, 0, none⟩), .int .i64 k, .int .u32 x] w fun e w' => e = .returned (.bool true) ∧ MemAt w' m b n c (xs.set k x) ∧ w.grownBy w' (some b) := by
  have hl := h.len
  have hc := h.cell (List.getElem?_eq_getElem (by omega : k < xs.length))
  have hf := h.free k
  go_enter Tryd.func103, Tryd.ntmps103
  go_wp2_with (go_at_call 68; refine (mword_yes h _ hk).mono ?_; rintro e w' ⟨rfl, rfl⟩)
  go_ret
  exact ⟨rfl, h.set hk x, grown_setCell (grown_refl _ _) _ _⟩
theorem read_no (h : MemAt w m b n c xs) (a : Int) (ha : a < 0 ∨ (n : Int) * 16 ≤ a) (hb : a ≤ 9223372036854775807) :
    Calls Tryd.prog 41 #[.pointer (some ⟨m, 0, none⟩), .int .i64 a] w fun e w' => e = .returned (.tuple #[.int .u32 0, .bool false]) ∧ w = w' := by
  go_enter Tryd.func41, Tryd.ntmps41
  go_wp2_with (go_at_call 68; refine (mword_no h _ ha hb).mono ?_; rintro e w' ⟨rfl, rfl⟩)
  go_ret2
  exact ⟨rfl, rfl⟩
theorem read_yes (h : MemAt w m b n c xs) (k : Nat) (x : Int) (hx : xs[k]? = some x) :
    Calls Tryd.prog 41 #[.pointer (some ⟨m, 0, none⟩), .int .i64 k] w fun e w' => e = .returned (.tuple #[.int .u32 x, .bool true]) ∧ w = w' := by
  have hl := h.len
  have hk : k < n * 16 := by have := (List.getElem?_eq_some_iff.1 hx).1; omega
  have hc := h.cell hx
  go_enter Tryd.func41, Tryd.ntmps41
  go_wp2_with (go_at_call 68; refine (mword_yes h _ hk).mono ?_; rintro e w' ⟨rfl, rfl⟩)
  go_ret2
  exact ⟨rfl, rfl⟩
theorem frame_no (h : MemAt w m b n c xs) (f : Int) (hf : f < 0 ∨ (n : Int) ≤ f) :
    Calls Tryd.prog 65 #[.pointer (some ⟨m, 0, none⟩), .int .i64 f] w fun e w' => e = .returned (.tuple #[.slice none 0 0, .bool false]) ∧ w = w' := by
  go_enter Tryd.func65, Tryd.ntmps65
  go_wp2_with (go_at_call 86; refine (has_any h _ false (by simp; omega)).mono ?_; rintro e w' ⟨rfl, rfl⟩)
  go_ret2
  exact ⟨rfl, rfl⟩
theorem frame_yes (h : MemAt w m b n c xs) (f : Nat) (hf : f < n) :
    Calls Tryd.prog 65 #[.pointer (some ⟨m, 0, none⟩), .int .i64 f] w fun e w' => e = .returned (.tuple #[.slice (some ⟨w.heap.size, 0, none⟩) 16 16, .bool true]) ∧ w' = w.alloc (.cells (wA (frameOf xs f)) 181) := by
  have hm := h.mcell
  have hn := h.n2
  have Hr := hid (h.range f)
  have hlen := frameOf_length h.len hf
  have Hs1 : Hid ((Tryd.prog.info? 181).map (·.size) = some ((frameOf xs f).map (Value.int .u32)).length) := hid (by rw [frame_info]; simp [hlen])
  have Hs2 : Hid ((Tryd.prog.info? 181).map (·.size) = some (wA (frameOf xs f)).size) := hid (by rw [frame_info]; simp [wA_size, hlen])
  have Ho := hid (wA_one (frameOf xs f))
  have Hz : Hid (16 = (wA (frameOf xs f)).size) := hid (by rw [wA_size, hlen])
  clear hlen
  go_enter Tryd.func65, Tryd.ntmps65
  go_wp2_with (first
    | (go_at_call 86; refine (has_any h _ true (by simp; omega)).mono ?_; rintro e w' ⟨rfl, rfl⟩)
    | (refine wpList_load_mid rfl 181 _ rfl b (f * 16) rfl _ _ Hr.out Tryd.underlying181 rfl Hs1.out ?_)
    | (refine wpList_store_row rfl 181 _ _ rfl w.heap.size _ rfl rfl _ _ (heap_alloc_last w _) Hs2.out Hz.out Ho.out ?_; rw [World.setRow_alloc_new]))
  go_ret2
  exact ⟨rfl, rfl⟩
end
theorem toList_madeZero (z : Value) (k n : Nat) (hn : 0 < n) : madeCells (Array.replicate n z) k = Array.replicate k z := by
  apply Array.ext
  · simp [madeCells]
  · intro i h1 h2
    have : i % n < n := Nat.mod_lt _ hn
    simp [madeCells, this]
theorem new_yes (k : Nat) (h1 : 1 ≤ k) (h2 : k ≤ 1024) (w : World) :
    Calls Tryd.prog 81 #[.int .i64 k] w fun e w' => e = .returned (.tuple #[.pointer (some ⟨w.heap.size + 1, 0, none⟩), .nilIface]) ∧ MemAt w' (w.heap.size + 1) w.heap.size k k (List.replicate (k * 16) 0) ∧ w.grownBy w' none := by
  obtain ⟨i, hi, hz0, hz1, hz2⟩ := info_parts (P := Tryd.prog) (e := 181) (z := .agg #[.int .u32 0, .int .u32 0, .int .u32 0, .int .u32 0, .int .u32 0, .int .u32 0, .int .u32 0, .int .u32 0, .int .u32 0, .int .u32 0, .int .u32 0, .int .u32 0, .int .u32 0, .int .u32 0, .int .u32 0, .int .u32 0]) (size := 16) (bytes := 64) (by kernel_rfl)
  have hmk : (Instr.makeSlice 136 (.int .i64 k) (.int .i64 k)).run Tryd.prog w = .ok (.slice (some ⟨w.heap.size, 0, none⟩) k k) (w.alloc (.cells (Array.replicate (k * 16) (.int .u32 0)) 181)) := by
    have := run_make (P := Tryd.prog) w 136 181 i _ Tryd.underlying136 hi hz0 .i64 .i64 k k (by omega) (by omega) (by rw [hz2]; omega) (by omega)
    rw [this, hz1]
    have e := toList_madeZero (.int .u32 0) (k * 16) 16 (by omega)
    simp only [Int.toNat_natCast]
    rw [← e]
    rfl
  clear hi hz0 hz1 hz2
  have a1 : ¬ (k : Int) < 1 := by omega
  have a2 : ¬ (k : Int) > 1024 := by omega
  go_enter Tryd.func81, Tryd.ntmps81
  go_wp2
  go_ret2
  refine ⟨by simp, ⟨?_, ⟨Array.replicate (k * 16) (.int .u32 0), ?_, by simp, ?_⟩, by simp, Nat.le_refl _, by unfold maxLen; omega, h1, h2, by omega⟩, ?_⟩
  · simpa using heap_alloc_new (w.alloc (.cells (Array.replicate (k * 16) (.int .u32 0)) 181)) (.cells #[.slice (some ⟨w.heap.size, 0, none⟩) k k] 138)
  · exact (Below.heap_alloc _ _ _ (by simp)).trans (heap_alloc_new _ _)
  · intro j x hx
    rw [List.getElem?_replicate] at hx
    rw [Array.getElem?_replicate]
    split at hx
    · rename_i hj
      rw [if_pos hj, ← Option.some.inj hx]
    · cases hx
  · exact grown_alloc (grown_alloc (grown_refl _ _) _) _
end Go.Proofs.YtpkgckjlhjcdmaaDoor
/- What package mem's call Fill does: contracts. -/
namespace Go.Proofs.YtpkgckjlhjcdmaaDoor
open Go.RowKit
section
variable {m b n c : Nat} {xs : List Int} {w : World}
theorem SlAt.len {k : IntKind} {v : Value} {ls : List Int} (h : SlAt w k v ls) : ∃ p c', v = .slice p ls.length c' := by
  rcases h with ⟨⟨p, c, rfl⟩, rfl⟩ | ⟨b, o, c, rfl, _⟩
  · exact ⟨_, _, rfl⟩
  · exact ⟨_, _, rfl⟩
theorem fill_no (h : MemAt w m b n c xs) (f : Int) (v : Value) (hf : f < 0 ∨ (n : Int) ≤ f) :
    Calls Tryd.prog 104 #[.pointer (some ⟨m, 0, none⟩), .int .i64 f, v] w fun e w' => e = .returned (.bool false) ∧ w = w' := by
  go_enter Tryd.func104, Tryd.ntmps104
  go_wp2_with (go_at_call 86; refine (has_any h _ false (by simp; omega)).mono ?_; rintro e w' ⟨rfl, rfl⟩)
  go_ret
  exact ⟨rfl, rfl⟩
theorem fill_many (h : MemAt w m b n c xs) (f : Nat) (v : Value) (ls : List Int) (hf : f < n) (hv : SlAt w .u32 v ls) (hl : 16 < ls.length) :
    Calls Tryd.prog 104 #[.pointer (some ⟨m, 0, none⟩), .int .i64 f, v] w fun e w' => e = .returned (.bool false) ∧ w = w' := by
  obtain ⟨p, c', rfl⟩ := hv.len
  go_enter Tryd.func104, Tryd.ntmps104
  go_wp2_with (go_at_call 86; refine (has_any h _ true (by simp; omega)).mono ?_; rintro e w' ⟨rfl, rfl⟩)
  go_ret
  exact ⟨rfl, rfl⟩
/-- what a frame is filled with -/
def padded (ls : List Int) : List Int := ls ++ List.replicate (16 - ls.length) 0
theorem padded_length {ls : List Int} (h : ls.length ≤ 16) : (padded ls).length = 16 := by simp [padded]; omega
theorem splice_rep {α : Type} (N : Nat) (z : α) (l : List α) : splice (List.replicate N z) 0 l = l ++ List.replicate (N - l.length) z := by
  simp [splice]
theorem splice_padded (ls : List Int) : (splice (List.replicate 16 (Value.int .u32 0)) 0 (ls.map (Value.int .u32))) = (padded ls).map (Value.int .u32) := by
  rw [splice_rep, padded]; simp
set_option maxRecDepth 100000 in
set_option maxHeartbeats 1000000 in
theorem fill_yes (h : MemAt w m b n c xs) (f : Nat) (v : Value) (ls : List Int) (hf : f < n) (hv : SlAt w .u32 v ls) (hl : ls.length ≤ 16) :
    Calls Tryd.prog 104 #[.pointer (some ⟨m, 0, none⟩), .int .i64 f, v] w fun e w' => e = .returned (.bool true) ∧ MemAt w' m b n c (setMany xs (f * 16) (padded ls)) ∧ w.grownBy w' (some b) := by
  have hv0 := hv
  obtain ⟨p, c', rfl⟩ := hv.len
  have Hu : Hid ((Tryd.prog.info? 25).map (·.size) = some 1) := hid (by kernel_rfl)
  have Hn : Hid ((ls.map (Value.int .u32)).length = Nat.min ls.length 16) := hid (by simp only [List.length_map]; exact (Nat.min_eq_left hl).symm)
  have Hfit : Hid (0 + (ls.map (Value.int .u32)).length ≤ (List.replicate 16 (Value.int .u32 0)).length) := hid (by simp; omega)
  have H1 : Hid (∀ v ∈ ls.map (Value.int .u32), v.oneCell' = true) := hid (by intro v hv; obtain ⟨x, _, rfl⟩ := List.mem_map.1 hv; rfl)
  have Hpos : Hid (0 < (ls.map (Value.int .u32)).length → ∃ ad, p = some ad ∧ ∀ j v, (ls.map (Value.int .u32))[j]? = some v → (w.alloc (.cells (List.replicate 16 (Value.int .u32 0)).toArray 181)).cell? (ad.add j) = some v) := hid (by
    intro h0
    rcases hv0 with ⟨_, rfl⟩ | ⟨b', o, c2, he, hb', hc⟩
    · simp at h0
    · obtain ⟨rfl, _⟩ : p = some ⟨b', o, none⟩ ∧ True := by simp at he; exact ⟨he.1, trivial⟩
      refine ⟨_, rfl, fun j v hv => ?_⟩
      obtain ⟨x, hx, rfl⟩ : ∃ x, ls[j]? = some x ∧ v = .int .u32 x := by
        simp only [List.getElem?_map, Option.map_eq_some_iff] at hv
        obtain ⟨x, hx, rfl⟩ := hv
        exact ⟨x, hx, rfl⟩
      rw [Addr.add_mid, World.cell?_alloc_lt _ _ _ hb']
      exact hc j x hx)
  clear hv hv0
  go_enter Tryd.func104, Tryd.ntmps104
  go_wp2_with (first
    | (go_at_call 86; refine (has_any h _ true (by simp; omega)).mono ?_; rintro e w' ⟨rfl, rfl⟩)
    | (refine wpList_copy_splice rfl _ _ _ _ rfl 25 Tryd.underlying26 Hu.out _ _ _ _ _ _ rfl rfl w.heap.size 0 (List.replicate 16 (Value.int .u32 0)) 181 (heap_alloc_last w _) (ls.map (Value.int .u32)) Hn.out (fun h0 => ⟨rfl, Hpos.out h0⟩) Hfit.out H1.out w.heap.size w ((Below.refl _ _).alloc (Nat.le_refl _) _) (Nat.le_refl _) ?_; intro w2 HG2 hB2))
  have hg2 : w.grownBy w2 none := below_is_grown hB2
  have h2 : MemAt w2 m b n c xs := h.kept0 hg2
  have hbB : b < w.heap.size := h.blt
  obtain ⟨cs, Hcs⟩ : ∃ cs, Hid (cs = (padded ls).map (Value.int .u32)) := ⟨_, hid rfl⟩
  have hrg : w2.rangeAt w.heap.size 0 cs := by
    have := World.rangeAt_of_block HG2.out 0 16
    rw [splice_padded] at this
    rw [Hcs.out]
    intro j v hv
    refine this j v ?_
    have hj := (List.getElem?_eq_some_iff.1 hv).1
    have hp := padded_length hl
    simp only [List.length_map] at hj
    simp only [List.extract_toArray, Nat.zero_add, List.extract_eq_take_drop, List.drop_zero, Nat.sub_zero]
    rw [List.take_of_length_le (by simp; omega)]
    exact hv
  have hm2 := h2.mcell
  have Hcl : Hid (cs.length = 16) := hid (by rw [Hcs.out, List.length_map]; exact padded_length hl)
  have ht2 : w2.there b (f * 16) cs.length := by rw [Hcl.out]; exact h2.there hf
  have ho : ∀ v ∈ cs, v.oneCell' = true := by
    intro v hv; rw [Hcs.out] at hv; obtain ⟨x, _, rfl⟩ := List.mem_map.1 hv; rfl
  have hu := Tryd.underlying181
  have hi : (Tryd.prog.info? 181).map (·.size) = some cs.length := by rw [Hcl.out]; exact frame_info
  have hne : m ≠ b := h.ne
  have H2 := hid h2
  have Hm := h.mlt
  clear Hu Hn Hfit H1 Hpos HG2 h2 hl h
  go_frame
  go_region_held3 (fun W => W.cell? ⟨m, 0, none⟩ = some (.slice (some ⟨b, 0, none⟩) n c) ∧ W.rangeAt w.heap.size 0 cs ∧ W.there b (f * 16) cs.length)
    (first | (exact ⟨hm2, hrg, ht2⟩) | (go_split_ands; refine ⟨?_, ?_, ?_⟩ <;> first | assumption | (rw [World.cell?_setCells_out _ _ _ _ _ (fun e _ => absurd e hne)]; assumption) | (exact World.rangeAt_setCells_apart (by assumption) _ _ _ (Or.inl (by omega))) | (exact World.there_setCells (by assumption) _ _ _))) (fail)
  go_wp2
  go_ret
  have H3 := MemAt.fill (padded ls) (f * 16) _ _ (H2.out.kept0 (grown_drew (grown_refl _ none))) (by have := Hcl.out; rw [Hcs.out, List.length_map] at this; omega)
  rw [← Hcs.out] at H3
  exact ⟨rfl, H3, grown_setCells _ _ (grown_drew (grown_none hg2))⟩
end
end Go.Proofs.YtpkgckjlhjcdmaaDoor
/- What package mem's call Clone does: contracts. -/
namespace Go.Proofs.YtpkgckjlhjcdmaaDoor
open Go.RowKit
section
variable {m b n c : Nat} {xs : List Int} {w : World}
def ClonedAt (w : World) (n : Nat) (xs : List Int) (e : Ending) (w' : World) : Prop :=
  ∃ v, e = .returned v ∧ w'.ownsRow w.heap.size 181 16 v n (xs.map (Value.int .u32)) ∧ w.grownBy w' none
theorem clone_frames (h : MemAt w m b n c xs) :
    Calls Tryd.prog 87 #[.slice (some ⟨b, 0, none⟩) n c] w (ClonedAt w n xs) := by
  obtain ⟨i, hi, hz0, hz1, hz2⟩ := info_parts (P := Tryd.prog) (e := 181) (z := .agg #[.int .u32 0, .int .u32 0, .int .u32 0, .int .u32 0, .int .u32 0, .int .u32 0, .int .u32 0, .int .u32 0, .int .u32 0, .int .u32 0, .int .u32 0, .int .u32 0, .int .u32 0, .int .u32 0, .int .u32 0, .int .u32 0]) (size := 16) (bytes := 64) (by kernel_rfl)
  have H := hid h
  have hnil := @Lib.run_eql_slice_nil Tryd.prog
  have Hi := hid hi
  have Hz0 := hid hz0
  have Hz1 := hid hz1
  have Hz2 := hid hz2
  have Hl : Hid ((xs.map (Value.int .u32)).length = n * 16) := hid (by simpa using h.len)
  have Hnew : Hid (∀ j u, (xs.map (Value.int .u32))[j]? = some u → (w.alloc (.cells #[] 181)).cell? ((⟨b, 0, none⟩ : Addr).add j) = some u) := hid (by
    intro j u hu
    simp only [List.getElem?_map, Option.map_eq_some_iff] at hu
    obtain ⟨x, hx, rfl⟩ := hu
    rw [Addr.add_mid, World.cell?_alloc_lt _ _ _ h.blt, Nat.zero_add]
    exact h.cell hx)
  have H1 : Hid (∀ v ∈ xs.map (Value.int .u32), v.oneCell' = true) := hid (by intro v hv; obtain ⟨x, _, rfl⟩ := List.mem_map.1 hv; rfl)
  have Hown : Hid ((w.alloc (.cells #[] 181)).ownsRow w.heap.size 181 16 (.slice (some ⟨w.heap.size, 0, none⟩) 0 0) 0 []) :=
    hid (World.ownsRow_lit w #[] 0 (Nat.le_refl _) (by unfold maxLen; omega) rfl)
  have h2 := h.n2
  have Hb : Hid ((0 + n) * 64 ≤ 140737488355328) := hid (by omega)
  have Hx : Hid (0 + n ≤ maxLen) := hid (by unfold maxLen; omega)
  have h1 := h.n1
  clear hi hz0 hz1 hz2 h
  go_enter Tryd.func87, Tryd.ntmps87
  go_wp2_with (refine wpList_append_own _ rfl _ _ 136 rfl w.heap.size 181 i _ 16 64 Tryd.underlying136 Hi.out Hz0.out Hz1.out Hz2.out rfl (by decide) (.slice (some ⟨w.heap.size, 0, none⟩) 0 0) 0 [] rfl Hown.out ⟨b, 0, none⟩ n _ (xs.map (Value.int .u32)) rfl Hl.out Hnew.out H1.out Hx.out Hb.out (by simp) ?_; intro v' w2 hown2 hgrow2 _; have HO := hid hown2; have HG := hid hgrow2; clear hown2 hgrow2)
  go_ret
  refine ⟨v', rfl, ?_, ?_⟩
  · have := HO.out; rwa [Nat.zero_add, List.nil_append] at this
  · exact grown_new' (grown_trans (World.grownBy_alloc _ _ _) HG.out) (fun k hk => by simp [Value.ownBlock] at hk; omega)
def CloneAt (w : World) (n : Nat) (xs : List Int) (e : Ending) (w' : World) : Prop :=
  ∃ m b c, e = .returned (.pointer (some ⟨m, 0, none⟩)) ∧ w.heap.size ≤ m ∧ w.heap.size ≤ b ∧ MemAt w' m b n c xs ∧ w.grownBy w' none
theorem mem_of_owned {base : Nat} {v : Value} (h : w.ownsRow base 181 16 v n (xs.map (Value.int .u32))) (h1 : 1 ≤ n) (h2 : n ≤ 1024) :
    ∃ b c, v = .slice (some ⟨b, 0, none⟩) n c ∧ base ≤ b ∧ MemAt (w.alloc (.cells #[v] 138)) w.heap.size b n c xs := by
  obtain ⟨hl, h⟩ := h
  rcases h with ⟨_, h0⟩ | ⟨b, c, cur, rfl, hb, hg, hnc, hcm, hs, ht⟩
  · omega
  · have hlt : b < w.heap.size := (Array.getElem?_eq_some_iff.1 hg).1
    refine ⟨b, c, rfl, hb, ⟨heap_alloc_new _ _, ⟨cur, (Below.heap_alloc _ _ _ hlt).trans hg, hs, fun k x hx => ?_⟩, by simpa using hl, hnc, hcm, h1, h2, by omega⟩⟩
    have hk : k < xs.length := (List.getElem?_eq_some_iff.1 hx).1
    have := congrArg (·[k]?) ht
    simp only [List.length_map] at hl
    simp only [List.getElem?_take, List.getElem?_map, hx] at this
    rw [if_pos (by omega)] at this
    simpa using this
theorem clone_any (h : MemAt w m b n c xs) : Calls Tryd.prog 67 #[.pointer (some ⟨m, 0, none⟩)] w (CloneAt w n xs) := by
  have hm := h.mcell
  have H := hid h
  clear h
  go_enter Tryd.func67, Tryd.ntmps67
  go_wp2_with (go_at_call 87; refine (clone_frames H.out).mono ?_; rintro e w' ⟨v, rfl, hown, hg⟩; obtain ⟨b', c', rfl, hb', hM⟩ := mem_of_owned hown H.out.n1 H.out.n2; have HM := hid hM; have HG := hid hg; have Hb := hid hb'; clear hown hg hM hb')
  go_ret
  exact ⟨_, b', c', rfl, HG.out.size, Hb.out, HM.out, grown_alloc HG.out _⟩
end
end Go.Proofs.YtpkgckjlhjcdmaaDoor
/- The document's own comparisons of lists, and a number below a bound: contracts. (Made by genSame.py.) -/
namespace Go.Proofs.YtpkgckjlhjcdmaaDoor
open Go.RowKit
/-- a number from 0 to below a bound -/
def numB (n : Int) (k : Nat) : Nat := (n % (k : Int)).toNat
theorem numB_lt (n : Int) {k : Nat} (hk : 0 < k) : numB n k < k := by unfold numB; have := Int.emod_lt_of_pos n (show (0 : Int) < k by omega); have := Int.emod_nonneg n (show (k : Int) ≠ 0 by omega); omega
theorem number_up (n : Int) (k : Nat) (hk : 0 < k) (hk2 : (k : Int) ≤ 9223372036854775807) (h0 : 0 ≤ n) (h1 : n ≤ 9223372036854775807) (w : World) :
    Calls Tryd.prog 14 #[.int .i64 n, .int .i64 k] w fun e w' => e = .returned (.int .i64 (numB n k)) ∧ w = w' := by
  have hn : ((numB n k : Nat) : Int) = n % (k : Int) := by
    unfold numB
    have := Int.emod_nonneg n (show (k : Int) ≠ 0 by omega)
    omega
  have Hn := hid hn
  have hz : (0 : Int) < (k : Int) := by omega
  have hm := Int.emod_nonneg n (show (k : Int) ≠ 0 by omega)
  have hm2 := Int.emod_lt_of_pos n hz
  clear hn
  go_enter Tryd.func14, Tryd.ntmps14
  go_wp2
  go_ret
  exact ⟨ret_i Hn.out.symm, rfl⟩
theorem tmod_down {n : Int} {k : Nat} (hk : 0 < k) (h : n < 0) : -(k : Int) < n.tmod k ∧ n.tmod k ≤ 0 ∧ n % (k : Int) = if n.tmod k < 0 then n.tmod k + k else n.tmod k := by
  obtain ⟨a, rfl⟩ : ∃ a, n = -a := ⟨-n, by omega⟩
  have hz : (0 : Int) < (k : Int) := by omega
  have h1 := Int.emod_nonneg a (show (k : Int) ≠ 0 by omega)
  have h2 := Int.emod_lt_of_pos a hz
  have h3 := Int.mul_ediv_add_emod a k
  rw [Int.neg_tmod, Int.tmod_eq_emod_of_nonneg (by omega)]
  refine ⟨by omega, by omega, ?_⟩
  split
  · refine ((Int.ediv_emod_unique hz (q := -(a / k) - 1)).2 ⟨?_, by omega, by omega⟩).2
    rw [Int.mul_sub, Int.mul_neg]
    omega
  · refine ((Int.ediv_emod_unique hz (q := -(a / k))).2 ⟨?_, by omega, by omega⟩).2
    rw [Int.mul_neg]
    omega
theorem number_down (n : Int) (k : Nat) (hk : 0 < k) (hk2 : (k : Int) ≤ 9223372036854775807) (h0 : n < 0) (_h1 : -9223372036854775808 ≤ n) (w : World) :
    Calls Tryd.prog 14 #[.int .i64 n, .int .i64 k] w fun e w' => e = .returned (.int .i64 (numB n k)) ∧ w = w' := by
  have hn : ((numB n k : Nat) : Int) = n % (k : Int) := by
    unfold numB
    have := Int.emod_nonneg n (show (k : Int) ≠ 0 by omega)
    omega
  obtain ⟨t1, t2, ht⟩ := tmod_down hk h0
  rw [ht] at hn
  have Hn := hid hn
  have hz : (0 : Int) < (k : Int) := by omega
  clear hn ht
  by_cases hs : n.tmod k < 0
  · have Hs := hid hs
    go_enter Tryd.func14, Tryd.ntmps14
    go_wp2
    go_ret
    exact ⟨ret_i (by rw [Hn.out, if_pos Hs.out]), rfl⟩
  · have Hs := hid hs
    have hs2 : 0 ≤ n.tmod k := by omega
    clear hs
    go_enter Tryd.func14, Tryd.ntmps14
    go_wp2
    go_ret
    exact ⟨ret_i (by rw [Hn.out, if_neg (by omega)]), rfl⟩
theorem number_any (n : Int) (k : Nat) (hk : 0 < k) (hk2 : (k : Int) ≤ 9223372036854775807) (h0 : -9223372036854775808 ≤ n) (h1 : n ≤ 9223372036854775807) (w : World) :
    Calls Tryd.prog 14 #[.int .i64 n, .int .i64 k] w fun e w' => e = .returned (.int .i64 (numB n k)) ∧ w = w' := by
  by_cases h : 0 ≤ n
  · exact number_up n k hk hk2 h h1 w
  · exact number_down n k hk hk2 (by omega) h0 w

theorem sw_parted {w : World} {p q : Option Addr} {c d : Nat} {la lb : List Int} (h : la.length ≠ lb.length) :
    Calls Tryd.prog 31 #[.slice p la.length c, .slice q lb.length d] w fun e w' => e = .returned (.bool false) ∧ w.grownBy w' none := by
  have hz : ((la.length : Int) == (lb.length : Int)) = false := by simp; omega
  have hz2 : (la.length == lb.length) = false := by simpa using h
  have Hr := hid (grown_refl w none)
  go_enter Tryd.func31, Tryd.ntmps31
  go_wp2
  go_ret
  exact ⟨rfl, Hr.out⟩
theorem sw_empty {w : World} {p q : Option Addr} {c d : Nat} :
    Calls Tryd.prog 31 #[.slice p 0 c, .slice q 0 d] w fun e w' => e = .returned (.bool true) ∧ w.grownBy w' none := by
  have Hr := hid (grown_refl w none)
  go_enter Tryd.func31, Tryd.ntmps31
  go_wp2
  go_loop [5] (fun i => i = .int .i64 0) (fun _ => 0)
  case atStart => rfl
  case round =>
    obtain rfl := hrel
    go_wp2
    go_ret
    exact ⟨rfl, Hr.out⟩
set_option maxHeartbeats 1000000 in
theorem sw_some {w : World} {b o b' o' c d N : Nat} {la lb : List Int} (hla : la.length = N) (hlb : lb.length = N) (h1 : N ≤ 4611686018427387904)
    (hb : b < w.heap.size) (hb' : b' < w.heap.size)
    (ha : ∀ j x, la[j]? = some x → w.cell? ⟨b, o + j, none⟩ = some (.int .u32 x)) (hc : ∀ j x, lb[j]? = some x → w.cell? ⟨b', o' + j, none⟩ = some (.int .u32 x)) (r : Bool) (hr : decide (la = lb) = r) :
    Calls Tryd.prog 31 #[.slice (some ⟨b, o, none⟩) N c, .slice (some ⟨b', o', none⟩) N d] w fun e w' => e = .returned (.bool r) ∧ w.grownBy w' none := by
  have Ha := hid ha
  have Hc := hid hc
  have Hla := hid hla
  have Hlb := hid hlb
  have Hr := hid hr
  clear ha hc hla hlb hr
  go_enter Tryd.func31, Tryd.ntmps31
  go_wp2
  go_loopw [5, 6] (fun i _ wr => ∃ k : Nat, k ≤ N ∧ i = .int .i64 k ∧ Hid (la.take k = lb.take k) ∧ Hid (w.grownBy wr none)) (fun i _ _ => N - (intOf i).toNat)
  case atStart => exact ⟨0, Nat.zero_le _, rfl, hid (by simp), hid (grown_refl _ _)⟩
  case round =>
    obtain ⟨k, hk, rfl, Hk, Hg⟩ := hrel
    by_cases hlt : k < N
    · obtain ⟨x, Hx⟩ : ∃ x, Hid (la[k]? = some x) := ⟨_, hid (List.getElem?_eq_getElem (by rw [Hla.out]; exact hlt))⟩
      obtain ⟨y, Hy⟩ : ∃ y, Hid (lb[k]? = some y) := ⟨_, hid (List.getElem?_eq_getElem (by rw [Hlb.out]; exact hlt))⟩
      have cx := (grown_cell (p := ⟨b, o + k, none⟩) Hg.out hb (by simp)).trans (Ha.out k x Hx.out)
      have cy := (grown_cell (p := ⟨b', o' + k, none⟩) Hg.out hb' (by simp)).trans (Hc.out k y Hy.out)
      have hk0 : (0 : Int) ≤ (k : Int) := by omega
      have hk1 : (k : Int) < (N : Int) := by omega
      by_cases hxy : x = y
      · subst hxy
        go_wp2
        go_quiet (fail)
        go_wp2
        go_roundw
        case rel =>
          refine ⟨k + 1, by omega, by go_num, hid ?_, hid (grown_drewN Hg.out _)⟩
          rw [List.take_add_one, List.take_add_one, Hk.out, Hx.out, Hy.out]
        case measure => simp [intOf]; omega
      · have hxy2 : (x == y) = false := by simpa using hxy
        go_wp2
        go_quiet (fail)
        go_wp2
        go_ret
        refine ⟨ret_b ?_, grown_drewN Hg.out _⟩
        rw [← Hr.out, eq_comm, decide_eq_false_iff_not]
        intro e
        have e1 := Hx.out
        have e2 := Hy.out
        rw [e, e2] at e1
        exact hxy (Option.some.inj e1).symm
    · go_wp2
      go_ret
      refine ⟨ret_b ?_, Hg.out⟩
      have hn : k = N := by omega
      have e := Hk.out
      rw [hn, List.take_of_length_le (by rw [Hla.out]; omega), List.take_of_length_le (by rw [Hlb.out]; omega)] at e
      rw [← Hr.out, e]
      simp
/-- two lists are told to be the same, just if they are -/
theorem sw_any {w : World} {va vb : Value} {la lb : List Int} (ha : SlAt w .u32 va la) (hb : SlAt w .u32 vb lb) (h1 : la.length ≤ 4611686018427387904) (_h2 : lb.length ≤ 4611686018427387904) (r : Bool) (hr : decide (la = lb) = r) :
    Calls Tryd.prog 31 #[va, vb] w fun e w' => e = .returned (.bool r) ∧ w.grownBy w' none := by
  by_cases hl : la.length = lb.length
  · by_cases h0 : la.length = 0
    · obtain rfl := List.eq_nil_of_length_eq_zero h0
      obtain rfl := List.eq_nil_of_length_eq_zero (hl.symm.trans h0)
      obtain ⟨p, c, rfl⟩ := ha.len
      obtain ⟨q, d, rfl⟩ := hb.len
      subst hr
      exact sw_empty
    · rcases ha with ⟨_, rfl⟩ | ⟨b, o, c, rfl, hbl, hc⟩
      · simp at h0
      · rcases hb with ⟨_, rfl⟩ | ⟨b', o', d, rfl, hbl', hc'⟩
        · simp at hl; simp [hl] at h0
        · rw [← hl]
          exact sw_some rfl hl.symm h1 hbl hbl' hc hc' r hr
  · obtain ⟨p, c, rfl⟩ := ha.len
    obtain ⟨q, d, rfl⟩ := hb.len
    have : r = false := by rw [← hr, decide_eq_false_iff_not]; intro e; exact hl (by rw [e])
    subst this
    exact sw_parted hl

theorem si_parted {w : World} {p q : Option Addr} {c d : Nat} {la lb : List Int} (h : la.length ≠ lb.length) :
    Calls Tryd.prog 19 #[.slice p la.length c, .slice q lb.length d] w fun e w' => e = .returned (.bool false) ∧ w.grownBy w' none := by
  have hz : ((la.length : Int) == (lb.length : Int)) = false := by simp; omega
  have hz2 : (la.length == lb.length) = false := by simpa using h
  have Hr := hid (grown_refl w none)
  go_enter Tryd.func19, Tryd.ntmps19
  go_wp2
  go_ret
  exact ⟨rfl, Hr.out⟩
theorem si_empty {w : World} {p q : Option Addr} {c d : Nat} :
    Calls Tryd.prog 19 #[.slice p 0 c, .slice q 0 d] w fun e w' => e = .returned (.bool true) ∧ w.grownBy w' none := by
  have Hr := hid (grown_refl w none)
  go_enter Tryd.func19, Tryd.ntmps19
  go_wp2
  go_loop [5] (fun i => i = .int .i64 0) (fun _ => 0)
  case atStart => rfl
  case round =>
    obtain rfl := hrel
    go_wp2
    go_ret
    exact ⟨rfl, Hr.out⟩
set_option maxHeartbeats 1000000 in
theorem si_some {w : World} {b o b' o' c d N : Nat} {la lb : List Int} (hla : la.length = N) (hlb : lb.length = N) (h1 : N ≤ 4611686018427387904)
    (hb : b < w.heap.size) (hb' : b' < w.heap.size)
    (ha : ∀ j x, la[j]? = some x → w.cell? ⟨b, o + j, none⟩ = some (.int .i64 x)) (hc : ∀ j x, lb[j]? = some x → w.cell? ⟨b', o' + j, none⟩ = some (.int .i64 x)) (r : Bool) (hr : decide (la = lb) = r) :
    Calls Tryd.prog 19 #[.slice (some ⟨b, o, none⟩) N c, .slice (some ⟨b', o', none⟩) N d] w fun e w' => e = .returned (.bool r) ∧ w.grownBy w' none := by
  have Ha := hid ha
  have Hc := hid hc
  have Hla := hid hla
  have Hlb := hid hlb
  have Hr := hid hr
  clear ha hc hla hlb hr
  go_enter Tryd.func19, Tryd.ntmps19
  go_wp2
  go_loopw [5, 6] (fun i _ wr => ∃ k : Nat, k ≤ N ∧ i = .int .i64 k ∧ Hid (la.take k = lb.take k) ∧ Hid (w.grownBy wr none)) (fun i _ _ => N - (intOf i).toNat)
  case atStart => exact ⟨0, Nat.zero_le _, rfl, hid (by simp), hid (grown_refl _ _)⟩
  case round =>
    obtain ⟨k, hk, rfl, Hk, Hg⟩ := hrel
    by_cases hlt : k < N
    · obtain ⟨x, Hx⟩ : ∃ x, Hid (la[k]? = some x) := ⟨_, hid (List.getElem?_eq_getElem (by rw [Hla.out]; exact hlt))⟩
      obtain ⟨y, Hy⟩ : ∃ y, Hid (lb[k]? = some y) := ⟨_, hid (List.getElem?_eq_getElem (by rw [Hlb.out]; exact hlt))⟩
      have cx := (grown_cell (p := ⟨b, o + k, none⟩) Hg.out hb (by simp)).trans (Ha.out k x Hx.out)
      have cy := (grown_cell (p := ⟨b', o' + k, none⟩) Hg.out hb' (by simp)).trans (Hc.out k y Hy.out)
      have hk0 : (0 : Int) ≤ (k : Int) := by omega
      have hk1 : (k : Int) < (N : Int) := by omega
      by_cases hxy : x = y
      · subst hxy
        go_wp2
        go_quiet (fail)
        go_wp2
        go_roundw
        case rel =>
          refine ⟨k + 1, by omega, by go_num, hid ?_, hid (grown_drewN Hg.out _)⟩
          rw [List.take_add_one, List.take_add_one, Hk.out, Hx.out, Hy.out]
        case measure => simp [intOf]; omega
      · have hxy2 : (x == y) = false := by simpa using hxy
        go_wp2
        go_quiet (fail)
        go_wp2
        go_ret
        refine ⟨ret_b ?_, grown_drewN Hg.out _⟩
        rw [← Hr.out, eq_comm, decide_eq_false_iff_not]
        intro e
        have e1 := Hx.out
        have e2 := Hy.out
        rw [e, e2] at e1
        exact hxy (Option.some.inj e1).symm
    · go_wp2
      go_ret
      refine ⟨ret_b ?_, Hg.out⟩
      have hn : k = N := by omega
      have e := Hk.out
      rw [hn, List.take_of_length_le (by rw [Hla.out]; omega), List.take_of_length_le (by rw [Hlb.out]; omega)] at e
      rw [← Hr.out, e]
      simp
/-- two lists are told to be the same, just if they are -/
theorem si_any {w : World} {va vb : Value} {la lb : List Int} (ha : SlAt w .i64 va la) (hb : SlAt w .i64 vb lb) (h1 : la.length ≤ 4611686018427387904) (_h2 : lb.length ≤ 4611686018427387904) (r : Bool) (hr : decide (la = lb) = r) :
    Calls Tryd.prog 19 #[va, vb] w fun e w' => e = .returned (.bool r) ∧ w.grownBy w' none := by
  by_cases hl : la.length = lb.length
  · by_cases h0 : la.length = 0
    · obtain rfl := List.eq_nil_of_length_eq_zero h0
      obtain rfl := List.eq_nil_of_length_eq_zero (hl.symm.trans h0)
      obtain ⟨p, c, rfl⟩ := ha.len
      obtain ⟨q, d, rfl⟩ := hb.len
      subst hr
      exact si_empty
    · rcases ha with ⟨_, rfl⟩ | ⟨b, o, c, rfl, hbl, hc⟩
      · simp at h0
      · rcases hb with ⟨_, rfl⟩ | ⟨b', o', d, rfl, hbl', hc'⟩
        · simp at hl; simp [hl] at h0
        · rw [← hl]
          exact si_some rfl hl.symm h1 hbl hbl' hc hc' r hr
  · obtain ⟨p, c, rfl⟩ := ha.len
    obtain ⟨q, d, rfl⟩ := hb.len
    have : r = false := by rw [← hr, decide_eq_false_iff_not]; intro e; exact hl (by rw [e])
    subst this
    exact si_parted hl
end Go.Proofs.YtpkgckjlhjcdmaaDoor
/- What package mem's call Differ does: a contract. (Made by genDiffer.py.) -/
namespace Go.Proofs.YtpkgckjlhjcdmaaDoor
open Go.RowKit
/-- the frames in which two memories differ -/
def diffB (n n' : Nat) (xs ys : List Int) (f : Nat) : Bool := !(decide (f < n)) || (!(decide (f < n')) || !(decide (frameOf xs f = frameOf ys f)))
def diffs (n n' : Nat) (xs ys : List Int) (k : Nat) : List Int := ((List.range k).filter (diffB n n' xs ys)).map Int.ofNat
theorem diffs_yes {n n' : Nat} {xs ys : List Int} {k : Nat} (h : diffB n n' xs ys k = true) : diffs n n' xs ys (k + 1) = diffs n n' xs ys k ++ [(k : Int)] := by
  unfold diffs
  rw [List.range_succ, List.filter_append, List.map_append]
  simp [h]
theorem diffs_no {n n' : Nat} {xs ys : List Int} {k : Nat} (h : diffB n n' xs ys k = false) : diffs n n' xs ys (k + 1) = diffs n n' xs ys k := by
  unfold diffs
  rw [List.range_succ, List.filter_append, List.map_append]
  simp [h]
theorem diffs_length (n n' : Nat) (xs ys : List Int) (k : Nat) : (diffs n n' xs ys k).length ≤ k := by
  unfold diffs
  rw [List.length_map]
  exact Nat.le_trans (List.length_filter_le _ _) (by simp)
def DiffAt (w : World) (ls : List Int) (e : Ending) (w' : World) : Prop := ∃ v, e = .returned v ∧ SlAt w' .i64 v ls ∧ w.grownBy w' none
/-- what a round's head knows -/
structure DRel (w : World) (n n' : Nat) (xs ys : List Int) (v : Value) (k : Nat) (wr : World) : Prop where
  own : wr.ownsRow w.heap.size 3 1 v (diffs n n' xs ys k).length ((diffs n n' xs ys k).map (Value.int .i64))
  grown : w.grownBy wr none
theorem own_append {w : World} {base : Nat} {v : Value} {l : List Int} {k : Int} (h : w.ownsRow base 3 1 v (l.length + 1) (l.map (Value.int .i64) ++ [Value.int .i64 k])) : w.ownsRow base 3 1 v (l ++ [k]).length ((l ++ [k]).map (Value.int .i64)) := by
  simpa using h
theorem own_kept0 {w w1 : World} {base : Nat} {e : TypeId} {size : Nat} {v : Value} {n : Nat} {xs : List Value} (h : w.ownsRow base e size v n xs) (hg : w.grownBy w1 none) : w1.ownsRow base e size v n xs :=
  h.kept hg (by cases v.ownBlock <;> simp)
theorem one_new (W : World) (v : Value) (t : TypeId) : ∀ j u, [v][j]? = some u → (W.alloc (.cells #[v] t)).cell? ((⟨W.heap.size, 0, none⟩ : Addr).add j) = some u := by
  intro j u hj
  match j, hj with
  | 0, hj => simp at hj; subst hj; simp [Addr.add]
theorem run_eq_frame (l k : List Int) (hl : l.length = 16) (hk : k.length = 16) (w : World) : (Op.equalIn 10000 181 (.agg (wA l)) (.agg (wA k))).run Tryd.prog w = .ok (decide (l = k)) w := by
  obtain ⟨i, hi⟩ : ∃ i, Tryd.prog.info? 25 = some i := by
    have : (Tryd.prog.info? 25).isSome = true := by kernel_rfl
    exact Option.isSome_iff_exists.1 this
  have hc : Tryd.prog.cellsOf 25 = 1 := by kernel_rfl
  rw [run_equalIn_array w 9999 _ _ Tryd.underlying181 hi, hc, run_eqItems_words 9998 l k w _ (by intro i hi; rw [List.mem_range] at hi; omega)]
  rw [eq_of_range hl hk]
/-- in a region that only reads: a frame is loaded; two are compared; 'has' is asked -/
theorem quiet_load_frame {o : Oper} {a : Act} {K : Act → Prop} (W : World) (x : Operand) (ho : o.op = .load 181 x) (b off : Nat) (hx : a.eval x = .pointer (some ⟨b, off, none⟩)) (l : List Int) (hl : l.length = 16)
    (hc : W.rangeAt b off (l.map (Value.int .u32))) (hk : K (a.put o.dst (.agg (wA l)))) : o.quiet Tryd.prog a (fun w' => ∃ n, w' = W.drewN n) K :=
  ⟨_, fun w ⟨n, hn⟩ => by
    subst hn
    unfold Oper.quietAt execOp
    have hc' : (W.drewN n).rangeAt b off (l.map (Value.int .u32)) := hc
    simp only [ho, hx, Instr.loadAt, Instr.sureAddr, Sem.run_bind, Sem.run_pure, Result.andThen_ok, run_loadVar_mid (W.drewN n) b off 181 _ _ hc' Tryd.underlying181 rfl (by rw [frame_info]; simp [hl])]
    exact ⟨rfl, rfl⟩, hk⟩
theorem frame_guard : Tryd.prog.eqGuardType Tryd.prog.depth 181 = false := by kernel_rfl
theorem quiet_neq_frame {o : Oper} {a : Act} {K : Act → Prop} (W : World) (x y : Operand) (ho : o.op = .binOp .neq 181 x y 181) (l k : List Int) (hx : a.eval x = .agg (wA l)) (hy : a.eval y = .agg (wA k)) (hl : l.length = 16) (hl' : k.length = 16)
    (r : Bool) (hr : decide (l = k) = r) (hk : K (a.put o.dst (.bool (!r)))) : o.quiet Tryd.prog a (fun w' => ∃ n, w' = W.drewN n) K :=
  ⟨_, fun w _ => by
    unfold Oper.quietAt execOp
    simp [ho, hx, hy, run_eqGuard_agg w .neq 181 x y _ _ frame_guard, run_neq_frame l k hl hl' w, hr, Result.andThen, Oper.quietUpon], hk⟩
theorem has_q {m b n c : Nat} {xs : List Int} {W : World} (h : MemAt W m b n c xs) (f : Int) (r : Bool) (hr : decide (0 ≤ f ∧ f < (n : Int)) = r) (N : Nat) :
    Calls Tryd.prog 86 #[.pointer (some ⟨m, 0, none⟩), .int .i64 f] (W.drewN N) fun e w'' => e = .returned (.bool r) ∧ ∃ q, w'' = W.drewN q :=
  (has_any (h.kept0 (grown_drewN (grown_refl _ _) N)) f r hr).mono fun _ _ ⟨he, hw⟩ => ⟨he, N, hw.symm⟩



end Go.Proofs.YtpkgckjlhjcdmaaDoor
/- Package mem's calls in the form in which the laws meet them; the chapter's examples. -/
namespace Go.Proofs.YtpkgckjlhjcdmaaDoor
open Go.RowKit
section
variable {m b n c : Nat} {xs : List Int} {w : World}
theorem number_of (x a : Int) (k r : Nat) (ha : a = (k : Int)) (hr : numB x k = r) (hk : 0 < k) (hk2 : (k : Int) ≤ 9223372036854775807) (h0 : -9223372036854775808 ≤ x) (h1 : x ≤ 9223372036854775807) :
    Calls Tryd.prog 14 #[.int .i64 x, .int .i64 a] w fun e w' => e = .returned (.int .i64 r) ∧ w = w' := by
  subst ha; subst hr
  exact number_any x k hk hk2 h0 h1 w
def NewAt (w : World) (k : Nat) (e : Ending) (w' : World) : Prop :=
  ∃ m b, e = .returned (.tuple #[.pointer (some ⟨m, 0, none⟩), .nilIface]) ∧ w.heap.size ≤ m ∧ w.heap.size ≤ b ∧ MemAt w' m b k k (List.replicate (k * 16) 0) ∧ w.grownBy w' none
theorem new_of (a : Int) (k : Nat) (ha : a = (k : Int)) (h1 : 1 ≤ k) (h2 : k ≤ 1024) : Calls Tryd.prog 81 #[.int .i64 a] w (NewAt w k) := by
  subst ha
  exact (new_yes k h1 h2 w).mono fun e w' ⟨he, hM, hg⟩ => ⟨_, _, he, by omega, Nat.le_refl _, hM, hg⟩
theorem write_of (h : MemAt w m b n c xs) (a x : Int) (k : Nat) (ha : a = (k : Int)) (hk : k < n * 16) :
    Calls Tryd.prog 103 #[.pointer (some ⟨m, 0, none⟩), .int .i64 a, .int .u32 x] w fun e w' => e = .returned (.bool true) ∧ MemAt w' m b n c (xs.set k x) ∧ w.grownBy w' (some b) := by
  subst ha
  exact write_yes h k x hk
theorem read_of (h : MemAt w m b n c xs) (a : Int) (k : Nat) (x : Int) (ha : a = (k : Int)) (hx : xs[k]? = some x) :
    Calls Tryd.prog 41 #[.pointer (some ⟨m, 0, none⟩), .int .i64 a] w fun e w' => e = .returned (.tuple #[.int .u32 x, .bool true]) ∧ w = w' := by
  subst ha
  exact read_yes h k x hx
def FrameAt (w : World) (l : List Int) (e : Ending) (w' : World) : Prop :=
  ∃ g, e = .returned (.tuple #[.slice (some ⟨g, 0, none⟩) 16 16, .bool true]) ∧ w.heap.size ≤ g ∧ w'.heap[g]? = some (.cells (wA l) 181 (0, 0)) ∧ w.grownBy w' none
theorem frame_of (h : MemAt w m b n c xs) (a : Int) (f : Nat) (ha : a = (f : Int)) (hf : f < n) : Calls Tryd.prog 65 #[.pointer (some ⟨m, 0, none⟩), .int .i64 a] w (FrameAt w (frameOf xs f)) := by
  subst ha
  refine (frame_yes h f hf).mono ?_
  rintro e w' ⟨he, rfl⟩
  exact ⟨_, he, Nat.le_refl _, heap_alloc_last _ _, World.grownBy_alloc _ _ _⟩
end
theorem frame_get {xs : List Int} {f j : Nat} (hj : j < 16) : (frameOf xs f)[j]? = xs[f * 16 + j]? := by
  unfold frameOf
  rw [List.getElem?_take, if_pos hj, List.getElem?_drop]
theorem frame_ext {xs ys : List Int} {f : Nat} (h : ∀ j, j < 16 → xs[f * 16 + j]? = ys[f * 16 + j]?) : frameOf xs f = frameOf ys f := by
  apply List.ext_getElem?
  intro j
  by_cases hj : j < 16
  · rw [frame_get hj, frame_get hj]; exact h j hj
  · unfold frameOf
    rw [List.getElem?_take, List.getElem?_take, if_neg hj, if_neg hj]
theorem SlAt.frame {w : World} {g : Nat} {l : List Int} {t : TypeId} {fr : Nat × Nat} (hl : l.length = 16) (h : w.heap[g]? = some (.cells (wA l) t fr)) (c : Nat) : SlAt w .u32 (.slice (some ⟨g, 0, none⟩) 16 c) l := by
  have := SlAt.whole (k := .u32) (c := c) (xs := l) h
  rwa [hl] at this
theorem diffs_none {n n' : Nat} {xs ys : List Int} : ∀ k, (∀ f, f < k → diffB n n' xs ys f = false) → diffs n n' xs ys k = []
  | 0, _ => rfl
  | k + 1, h => by rw [diffs_no (h k (by omega)), diffs_none k (fun f hf => h f (by omega))]
theorem diffB_same {n : Nat} {xs : List Int} {f : Nat} (hf : f < n) : diffB n n xs xs f = false := by simp [diffB, hf]
end Go.Proofs.YtpkgckjlhjcdmaaDoor
/- The document's own memory (facaderef1.Mem): what is known of it; its calls: contracts. -/
namespace Go.Proofs.YtpkgckjlhjcdmaaDoor
open Go.RowKit
/-- at block m the document's memory: N words in block b -/
structure RefAt (w : World) (m b N : Nat) (xs : List Int) : Prop where
  hm : w.heap[m]? = some (.cells #[.slice (some ⟨b, 0, none⟩) N N] 135 (0, 0))
  hb : w.heap[b]? = some (.cells (wA xs) 25 (0, 0))
  len : xs.length = N
  small : N ≤ 16384
  ne : m ≠ b
section
variable {w w1 : World} {m b N : Nat} {xs : List Int}
theorem RefAt.mlt (h : RefAt w m b N xs) : m < w.heap.size := (Array.getElem?_eq_some_iff.1 h.hm).1
theorem RefAt.blt (h : RefAt w m b N xs) : b < w.heap.size := (Array.getElem?_eq_some_iff.1 h.hb).1
theorem RefAt.mcell (h : RefAt w m b N xs) : w.cell? ⟨m, 0, none⟩ = some (.slice (some ⟨b, 0, none⟩) N N) := by
  rw [cell_of_row w m 0 _ _ _ h.hm]; rfl
theorem RefAt.cell (h : RefAt w m b N xs) {k : Nat} {x : Int} (hx : xs[k]? = some x) : w.cell? ⟨b, k, none⟩ = some (.int .u32 x) := by
  rw [cell_of_row w b _ _ _ _ h.hb, wA_get, hx]; rfl
theorem RefAt.free (h : RefAt w m b N xs) (k : Nat) : w.frozen? ⟨b, k, none⟩ = false := frozen_of_row w b k _ _ h.hb
theorem RefAt.kept {r : Option Nat} (h : RefAt w m b N xs) (hg : w.grownBy w1 r) (hm : some m ≠ r) (hb : some b ≠ r) : RefAt w1 m b N xs :=
  { h with hm := (hg.block _ h.mlt hm).trans h.hm, hb := (hg.block _ h.blt hb).trans h.hb }
theorem RefAt.kept0 (h : RefAt w m b N xs) (hg : w.grownBy w1 none) : RefAt w1 m b N xs := h.kept hg (by simp) (by simp)
theorem RefAt.set (h : RefAt w m b N xs) (k : Nat) (x : Int) : RefAt (w.setCell ⟨b, k, none⟩ (.int .u32 x)) m b N (xs.set k x) := by
  refine { h with hm := ?_, hb := ?_, len := by simpa using h.len }
  · rw [heap_setCell_other _ _ _ _ h.ne]; exact h.hm
  · rw [heap_setCell_same w b k _ _ _ h.hb, wA_set]
theorem rframes_any {n : Nat} (h : RefAt w m b N xs) (hn : N = n * 16) : Calls Tryd.prog 62 #[.pointer (some ⟨m, 0, none⟩)] w fun e w' => e = .returned (.int .i64 n) ∧ w = w' := by
  have hm := h.mcell
  have hs := h.small
  have hq : (N : Int) / 16 = (n : Int) := by omega
  have h0 : (0 : Int) ≤ (N : Int) := by omega
  clear hn
  go_enter Tryd.func62, Tryd.ntmps62
  go_wp2
  go_ret
  exact ⟨rfl, rfl⟩
theorem rwrite_no (h : RefAt w m b N xs) (a x : Int) (ha : a < 0 ∨ (N : Int) ≤ a) :
    Calls Tryd.prog 42 #[.pointer (some ⟨m, 0, none⟩), .int .i64 a, .int .u32 x] w fun e w' => e = .returned (.bool false) ∧ w = w' := by
  have hm := h.mcell
  rcases ha with ha | ha
  · go_enter Tryd.func42, Tryd.ntmps42
    go_wp2
    go_ret
    exact ⟨rfl, rfl⟩
  · have h0 : ¬ a < 0 := by omega
    go_enter Tryd.func42, Tryd.ntmps42
    go_wp2
    go_ret
    exact ⟨rfl, rfl⟩
theorem rwrite_yes (h : RefAt w m b N xs) (k : Nat) (x : Int) (hk : k < N) :
    Calls Tryd.prog 42 #[.pointer (some ⟨m, 0, none⟩), .int .i64 k, .int .u32 x] w fun e w' => e = .returned (.bool true) ∧ RefAt w' m b N (xs.set k x) ∧ w.grownBy w' (some b) := by
  have hm := h.mcell
  have hc := h.cell (List.getElem?_eq_getElem (by have := h.len; omega : k < xs.length))
  have hf := h.free k
  have h0 : ¬ (k : Int) < 0 := by omega
  have h1 : (0 : Int) ≤ (k : Int) := by omega
  have h2 : (k : Int) < (N : Int) := by omega
  go_enter Tryd.func42, Tryd.ntmps42
  go_wp2
  go_ret
  exact ⟨rfl, h.set k x, grown_setCell (grown_refl _ _) _ _⟩
theorem rread_no (h : RefAt w m b N xs) (a : Int) (ha : a < 0 ∨ (N : Int) ≤ a) :
    Calls Tryd.prog 88 #[.pointer (some ⟨m, 0, none⟩), .int .i64 a] w fun e w' => e = .returned (.tuple #[.int .u32 0, .bool false]) ∧ w = w' := by
  have hm := h.mcell
  rcases ha with ha | ha
  · go_enter Tryd.func88, Tryd.ntmps88
    go_wp2
    go_ret2
    exact ⟨rfl, rfl⟩
  · have h0 : ¬ a < 0 := by omega
    go_enter Tryd.func88, Tryd.ntmps88
    go_wp2
    go_ret2
    exact ⟨rfl, rfl⟩
theorem rread_yes (h : RefAt w m b N xs) (k : Nat) (x : Int) (hx : xs[k]? = some x) :
    Calls Tryd.prog 88 #[.pointer (some ⟨m, 0, none⟩), .int .i64 k] w fun e w' => e = .returned (.tuple #[.int .u32 x, .bool true]) ∧ w = w' := by
  have hm := h.mcell
  have hk : k < N := by have := (List.getElem?_eq_some_iff.1 hx).1; have := h.len; omega
  have hc := h.cell hx
  have h0 : ¬ (k : Int) < 0 := by omega
  have h1 : (0 : Int) ≤ (k : Int) := by omega
  have h2 : (k : Int) < (N : Int) := by omega
  clear hx
  go_enter Tryd.func88, Tryd.ntmps88
  go_wp2
  go_ret2
  exact ⟨rfl, rfl⟩
def RNewAt (w : World) (N : Nat) (e : Ending) (w' : World) : Prop :=
  ∃ m b, e = .returned (.pointer (some ⟨m, 0, none⟩)) ∧ w.heap.size ≤ m ∧ w.heap.size ≤ b ∧ RefAt w' m b N (List.replicate N 0) ∧ w.grownBy w' none
theorem rnew_of (a : Int) (k : Nat) (ha : a = (k : Int)) (h2 : k ≤ 1024) : Calls Tryd.prog 39 #[.int .i64 a] w (RNewAt w (k * 16)) := by
  subst ha
  obtain ⟨i, hi, hz0, hz1, hz2⟩ := info_parts (P := Tryd.prog) (e := 25) (z := .int .u32 0) (size := 1) (bytes := 4) (by kernel_rfl)
  obtain ⟨N, hN⟩ : ∃ N, N = k * 16 := ⟨_, rfl⟩
  have hmk : (Instr.makeSlice 26 (.int .i64 N) (.int .i64 N)).run Tryd.prog w = .ok (.slice (some ⟨w.heap.size, 0, none⟩) N N) (w.alloc (.cells (wA (List.replicate N 0)) 25)) := by
    have := run_make (P := Tryd.prog) w 26 25 i _ Tryd.underlying26 hi hz0 .i64 .i64 N N (by omega) (by omega) (by rw [hz2]; omega) (by omega)
    rw [this, hz1]
    have e := toList_madeZero (.int .u32 0) N 1 (by omega)
    simp only [Int.toNat_natCast, Nat.mul_one]
    have e2 : wA (List.replicate N 0) = Array.replicate N (.int .u32 0) := by simp [wA]
    rw [e2, ← e]
    rfl
  rw [← hN]
  have hx : 16 * (k : Int) = (N : Int) := by omega
  have HN : Hid (N ≤ 16384) := hid (by omega)
  clear hi hz0 hz1 hz2 hN
  go_enter Tryd.func39, Tryd.ntmps39
  go_wp2
  go_ret
  refine ⟨_, _, rfl, ?_, ?_, ⟨by simpa using heap_alloc_new (w.alloc (.cells (wA (List.replicate N 0)) 25)) (.cells #[.slice (some ⟨w.heap.size, 0, none⟩) N N] 135), (Below.heap_alloc _ _ _ (by simp)).trans (heap_alloc_last _ _), by simp, by have := HN.out; omega, by simp⟩, grown_alloc (grown_alloc (grown_refl _ _) _) _⟩
  · simp
  · exact Nat.le_refl _
end
end Go.Proofs.YtpkgckjlhjcdmaaDoor

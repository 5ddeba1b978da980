/- The row's last step where of the world that the call leaves 'Below' is known. -/
import Derived.Test.YtcfagdmaephkdaaDoorRows
import Derived.WalkKit
import Derived.ProofKit
import Derived.OpenShut
import Derived.Below
import Derived.ChangeSame
import Derived.Laws.MakeOwn
import Derived.Deep.MidRow
import Derived.Deep.Draws
import Derived.WalkSpells
import Derived.WalkLawsBesides
import Derived.Handy
import Derived.RegionTactic
import Derived.Deep.QuietTactic
import Derived.BigQuiet
import Derived.IntWalk
import Derived.Outline
import Derived.ChangeKeysEq
import Derived.Deep.WholeRow
import Derived.OwnWalk
import Derived.Laws.CopyOwn
import Derived.Deep.RegionHeld3
import Derived.LoopTactic
import Derived.LaidEql
import Derived.Stop.LaidErr
import Derived.Laws.ResultCell
import Derived.Laws.OwnMore
namespace Go.Proofs.YtcfagdmaephkdaaDoor
open Go.RowKit Go.WideShapes Go.ChangeShapes
theorem hid {p : Prop} (h : p) : Hid p := h
theorem ret_i {k : IntKind} {a b : Int} (h : a = b) : Ending.returned (.int k a) = .returned (.int k b) := by rw [h]
theorem ret_b {a b : Bool} (h : a = b) : Ending.returned (.bool a) = .returned (.bool b) := by rw [h]
/-! ### what a step leaves alone -/
section
variable {w w1 w2 : World}
theorem grown_refl (w : World) (r : Option Nat) : w.grownBy w r := ⟨rfl, rfl, rfl, Nat.le_refl _, fun _ _ _ => rfl⟩
theorem grown_trans {r : Option Nat} (h : w.grownBy w1 r) (k : w1.grownBy w2 r) : w.grownBy w2 r :=
  ⟨k.os.trans h.os, k.tape.trans h.tape, k.output.trans h.output, Nat.le_trans h.size k.size, fun i hi hr => (k.block i (Nat.lt_of_lt_of_le hi h.size) hr).trans (h.block i hi hr)⟩
theorem grown_none {r : Option Nat} (h : w.grownBy w1 none) : w.grownBy w1 r := ⟨h.os, h.tape, h.output, h.size, fun i hi _ => h.block i hi (by simp)⟩
theorem grown_drew {r : Option Nat} (h : w.grownBy w1 r) : w.grownBy w1.drew r := ⟨h.os, h.tape, h.output, h.size, h.block⟩
theorem grown_drewN {r : Option Nat} (h : w.grownBy w1 r) (n : Nat) : w.grownBy (w1.drewN n) r := ⟨h.os, h.tape, h.output, h.size, h.block⟩
theorem grown_alloc {r : Option Nat} (h : w.grownBy w1 r) (o : Obj) : w.grownBy (w1.alloc o) r := grown_trans h (World.grownBy_alloc _ _ _)
theorem grown_setCell {b : Nat} (h : w.grownBy w1 (some b)) (k : Nat) (v : Value) : w.grownBy (w1.setCell ⟨b, k, none⟩ v) (some b) :=
  grown_trans h ⟨rfl, rfl, rfl, by simp, fun i _ hi => heap_setCell_other _ _ _ _ (by simpa using hi)⟩
theorem grown_new' {r : Option Nat} (h : w.grownBy w1 r) (hb : ∀ k, r = some k → w.heap.size ≤ k) : w.grownBy w1 none :=
  ⟨h.os, h.tape, h.output, h.size, fun i hi _ => h.block i hi (fun e => by have := hb i e.symm; omega)⟩
theorem grown_below (h : w.grownBy w1 none) : Below w.heap.size w w1 := (Below.refl _ _).grown h (Nat.le_refl _) (by simp)
theorem grown_cell {r : Option Nat} {p : Addr} (h : w.grownBy w1 r) (hp : p.block < w.heap.size) (hr : some p.block ≠ r) : w1.cell? p = w.cell? p := World.cell?_of_block (h.block _ hp hr)
end
/-- words' cells -/
def wA (l : List Int) : Array Value := (l.map (Value.int .u32)).toArray
/-- a block of five cells of the call's own, known -/
structure At5 (w : World) (B : Nat) (v0 v1 v2 v3 v4 : Value) : Prop where
  lt : B < w.heap.size
  c0 : w.cell? ⟨B, 0, none⟩ = some v0
  c1 : w.cell? ⟨B, 1, none⟩ = some v1
  c2 : w.cell? ⟨B, 2, none⟩ = some v2
  c3 : w.cell? ⟨B, 3, none⟩ = some v3
  c4 : w.cell? ⟨B, 4, none⟩ = some v4
theorem At5.new (w : World) (v0 v1 v2 v3 v4 : Value) (t : TypeId) : At5 (w.alloc (.cells #[v0, v1, v2, v3, v4] t)) w.heap.size v0 v1 v2 v3 v4 :=
  ⟨by simp, by simp, by simp, by simp, by simp, by simp⟩
theorem At5.below {w w' : World} {B : Nat} {v0 v1 v2 v3 v4 : Value} (h : At5 w B v0 v1 v2 v3 v4) (hb : Below w.heap.size w w') : At5 w' B v0 v1 v2 v3 v4 :=
  ⟨Nat.lt_of_lt_of_le h.lt hb.size, (hb.cell h.lt).trans h.c0, (hb.cell h.lt).trans h.c1, (hb.cell h.lt).trans h.c2, (hb.cell h.lt).trans h.c3, (hb.cell h.lt).trans h.c4⟩
theorem At5.alloc {w : World} {B : Nat} {v0 v1 v2 v3 v4 : Value} (h : At5 w B v0 v1 v2 v3 v4) (o : Obj) : At5 (w.alloc o) B v0 v1 v2 v3 v4 :=
  h.below ((Below.refl _ _).alloc (Nat.le_refl _) o)
theorem i64_bd {n : Int} (h : (Lit.int .i64 n).wf = true) : -9223372036854775808 ≤ n ∧ n ≤ 9223372036854775807 := by
  have h' := (Bool.and_eq_true _ _).mp h
  exact ⟨of_decide_eq_true h'.1, of_decide_eq_true h'.2⟩
section
variable {H : Type} {enc : TypeId × Value → H} {P : Program}
theorem post_of_below {f : Func} {s : ChangeSpec} {apart fresh handsOn again : Bool} {W W' : World} {args : Array Value} {v : Value} {ds gs : List (DataW H)} {before pa pv : List MemPlace}
    (hW : DataW.Whole enc P f.params.toList s.vars apart W args.toList ds gs before)
    (hres : ∀ (b : Nat) (sp : Nat → Bool) (hd : Bool), DataW.TrodAll enc P W' b sp hd f.resultTypes.toList (v.resultList f.resultTypes.size) (s.fn H (ds ++ gs)).results [])
    (hargs : ∀ sp : Nat → Bool, (∀ p ∈ before, sp p.block = true) → DataW.TrodAll enc P W' 0 sp true f.params.toList args.toList (s.fn H (ds ++ gs)).args pa)
    (hvars : ∀ sp : Nat → Bool, (∀ p ∈ before, sp p.block = true) → DataW.TrodVars enc P W' sp s.vars (s.fn H (ds ++ gs)).vars pv)
    (hps : before = pa ++ pv) (hb : Below W.heap.size W W')
    (hok : ∀ (j : Nat) (t : TypeId) (r : Value), f.resultTypes[j]? = some t → (v.resultList f.resultTypes.size)[j]? = some r → Value.okWide P W' .any 0 t r) :
    s.post enc P f apart fresh handsOn again W args v W' := by
  have old : ∀ p ∈ before, p.block < W.heap.size := fun p hp => hW.lt p hp
  have told : ∀ p ∈ before, (fun b => decide (b < W.heap.size)) p.block = true := fun p hp => decide_eq_true (old p hp)
  refine ⟨ds, gs, before, [], pa, pv, hW, hres _ _ _, hargs _ told, hvars _ told, ?_, ?_⟩
  · refine World.keptBut_mono (fun p hp => ⟨hp, Or.inr ?_⟩) (hb.frame (· ∈ before))
    rw [hps] at hp; exact List.mem_append.1 hp
  · intro _
    obtain ⟨_, _, _, _, _, hz, hn⟩ := hW
    refine ⟨hok, _, _, ([] ++ pa) ++ pv, ⟨[] ++ pa, pv, trodAll_append (hargs _ (fun _ _ => rfl)) (hres _ _ _), hvars _ (fun _ _ => rfl), rfl, ?_, ?_⟩, ?_⟩
    · intro b off hp
      have hin : MemPlace.cell b off ∈ before := by rw [hps]; simpa using hp
      exact (hb.frozen (old _ hin)).trans (hz b off hin)
    · intro ha
      have h := hn ha
      rw [hps] at h
      simpa using h
    · intro p hp _
      rw [hps]
      simpa using hp
end
end Go.Proofs.YtcfagdmaephkdaaDoor
namespace Go.Proofs.YtcfagdmaephkdaaDoor
open Go.RowKit
/-- a frame: its owner, kind, writers, uses -/
structure Fm where
  o : Int
  t : Int
  w : Int
  u : Int
def frsL : List Fm → List Value
  | [] => []
  | x :: l => .int .i64 x.o :: .int .i64 x.t :: .int .i64 x.w :: .int .i64 x.u :: frsL l
theorem frsL_length : ∀ l, (frsL l).length = l.length * 4
  | [] => rfl
  | x :: l => by simp only [frsL, List.length_cons, frsL_length l]; omega
theorem frsL_get : ∀ (l : List Fm) (k : Nat) (f : Fm), l[k]? = some f →
    (frsL l)[k * 4]? = some (.int .i64 f.o) ∧ (frsL l)[k * 4 + 1]? = some (.int .i64 f.t) ∧ (frsL l)[k * 4 + 2]? = some (.int .i64 f.w) ∧ (frsL l)[k * 4 + 3]? = some (.int .i64 f.u)
  | [], _, _, h => by simp at h
  | x :: l, 0, f, h => by
    obtain rfl : x = f := by simpa using h
    exact ⟨rfl, rfl, rfl, rfl⟩
  | x :: l, k + 1, f, h => by
    have ih := frsL_get l k f (by simpa using h)
    rw [show (k + 1) * 4 = k * 4 + 1 + 1 + 1 + 1 by omega]
    exact ih
theorem frsL_one : ∀ (l : List Fm), ∀ v ∈ frsL l, v.oneCell' = true
  | [], _, h => by simp [frsL] at h
  | x :: l, v, h => by
    simp only [frsL, List.mem_cons] at h
    rcases h with rfl | rfl | rfl | rfl | h
    · rfl
    · rfl
    · rfl
    · rfl
    · exact frsL_one l v h
theorem frsL_setO : ∀ (l : List Fm) (k : Nat) (f : Fm) (v : Int), l[k]? = some f → (frsL l).set (k * 4) (.int .i64 v) = frsL (l.set k ⟨v, f.t, f.w, f.u⟩)
  | [], _, _, _, h => by simp at h
  | x :: l, 0, f, v, h => by
    obtain rfl : x = f := by simpa using h
    rfl
  | x :: l, k + 1, f, v, h => by
    rw [List.set_cons_succ, frsL, frsL, ← frsL_setO l k f v (by simpa using h), show (k + 1) * 4 = k * 4 + 1 + 1 + 1 + 1 by omega]
    rfl
theorem frsL_setT : ∀ (l : List Fm) (k : Nat) (f : Fm) (v : Int), l[k]? = some f → (frsL l).set (k * 4 + 1) (.int .i64 v) = frsL (l.set k ⟨f.o, v, f.w, f.u⟩)
  | [], _, _, _, h => by simp at h
  | x :: l, 0, f, v, h => by
    obtain rfl : x = f := by simpa using h
    rfl
  | x :: l, k + 1, f, v, h => by
    rw [List.set_cons_succ, frsL, frsL, ← frsL_setT l k f v (by simpa using h), show (k + 1) * 4 + 1 = k * 4 + 1 + 1 + 1 + 1 + 1 by omega]
    rfl
theorem frsL_setW : ∀ (l : List Fm) (k : Nat) (f : Fm) (v : Int), l[k]? = some f → (frsL l).set (k * 4 + 2) (.int .i64 v) = frsL (l.set k ⟨f.o, f.t, v, f.u⟩)
  | [], _, _, _, h => by simp at h
  | x :: l, 0, f, v, h => by
    obtain rfl : x = f := by simpa using h
    rfl
  | x :: l, k + 1, f, v, h => by
    rw [List.set_cons_succ, frsL, frsL, ← frsL_setW l k f v (by simpa using h), show (k + 1) * 4 + 2 = k * 4 + 2 + 1 + 1 + 1 + 1 by omega]
    rfl
theorem frsL_setU : ∀ (l : List Fm) (k : Nat) (f : Fm) (v : Int), l[k]? = some f → (frsL l).set (k * 4 + 3) (.int .i64 v) = frsL (l.set k ⟨f.o, f.t, f.w, v⟩)
  | [], _, _, _, h => by simp at h
  | x :: l, 0, f, v, h => by
    obtain rfl : x = f := by simpa using h
    rfl
  | x :: l, k + 1, f, v, h => by
    rw [List.set_cons_succ, frsL, frsL, ← frsL_setU l k f v (by simpa using h), show (k + 1) * 4 + 3 = k * 4 + 3 + 1 + 1 + 1 + 1 by omega]
    rfl
/-! ### what each call answers and leaves -/
def noFm : Fm := ⟨-1, 0, 0, 0⟩
/-- a frame that is somebody's -/
def atF (L : List Fm) (i : Int) : Option Fm :=
  if 0 ≤ i then (match L[i.toNat]? with | some f => if f.o = -1 then none else some f | none => none) else none
theorem atF_some {L : List Fm} {i : Int} {f : Fm} (h : atF L i = some f) : ∃ k : Nat, i = k ∧ L[k]? = some f ∧ f.o ≠ -1 := by
  unfold atF at h
  split at h
  · obtain ⟨k, rfl⟩ := Int.eq_ofNat_of_zero_le (by assumption)
    refine ⟨k, rfl, ?_⟩
    simp only [Int.toNat_natCast] at h
    split at h
    · rename_i g hg
      split at h
      · cases h
      · rename_i ho
        cases h
        exact ⟨hg, ho⟩
    · cases h
  · cases h
theorem atF_of {L : List Fm} {k : Nat} {f : Fm} (h : L[k]? = some f) (ho : f.o ≠ -1) : atF L k = some f := by
  unfold atF
  rw [if_pos (by omega), Int.toNat_natCast, h]
  simp only [if_neg ho]
theorem atF_none {L : List Fm} {i : Int} (h : atF L i = none) : i < 0 ∨ (L.length : Int) ≤ i ∨ ∃ k : Nat, ∃ f, i = k ∧ L[k]? = some f ∧ f.o = -1 := by
  by_cases h0 : 0 ≤ i
  · obtain ⟨k, rfl⟩ := Int.eq_ofNat_of_zero_le h0
    cases hk : L[k]? with
    | none => exact .inr (.inl (by have := List.getElem?_eq_none_iff.1 hk; omega))
    | some f =>
      by_cases ho : f.o = -1
      · exact .inr (.inr ⟨k, f, rfl, hk, ho⟩)
      · rw [atF_of hk ho] at h; cases h
  · exact .inl (by omega)
def bsy (f : Fm) : Prop := 0 < f.w ∨ 0 < f.u
instance (f : Fm) : Decidable (bsy f) := by unfold bsy; infer_instance
def freeF (L : List Fm) (i who : Int) : Option Nat × List Fm :=
  match atF L i with
  | none => (some 6, L)
  | some f => if f.o ≠ who then (some 9, L) else if bsy f then (some 11, L) else (none, L.set i.toNat noFm)
def makeF (L : List Fm) (i who kind : Int) : Option Nat × List Fm :=
  if kind ≠ 1 ∧ kind ≠ 2 then (some 2, L) else
  match atF L i with
  | none => (some 6, L)
  | some f => if f.o ≠ who then (some 9, L) else if f.t ≠ 0 then (some 10, L) else if bsy f then (some 11, L) else (none, L.set i.toNat ⟨f.o, kind, f.w, f.u⟩)
def plainF (L : List Fm) (i who : Int) : Option Nat × List Fm :=
  match atF L i with
  | none => (some 6, L)
  | some f => if f.o ≠ who then (some 9, L) else if f.t = 0 then (some 10, L) else if 0 < f.u then (some 11, L) else (none, L.set i.toNat ⟨f.o, 0, f.w, f.u⟩)
def writeF (L : List Fm) (i : Int) : Option Nat × List Fm :=
  match atF L i with
  | none => (some 6, L)
  | some f => if f.t ≠ 0 then (some 10, L) else (none, L.set i.toNat ⟨f.o, f.t, f.w + 1, f.u⟩)
def unwriteF (L : List Fm) (i : Int) : Option Nat × List Fm :=
  match atF L i with
  | none => (some 6, L)
  | some f => if f.w = 0 then (some 11, L) else (none, L.set i.toNat ⟨f.o, f.t, f.w - 1, f.u⟩)
def useF (L : List Fm) (i : Int) : Option Nat × List Fm :=
  match atF L i with
  | none => (some 6, L)
  | some f => (none, L.set i.toNat ⟨f.o, f.t, f.w, f.u + 1⟩)
def unuseF (L : List Fm) (i : Int) : Option Nat × List Fm :=
  match atF L i with
  | none => (some 6, L)
  | some f => if f.u = 0 then (some 11, L) else (none, L.set i.toNat ⟨f.o, f.t, f.w, f.u - 1⟩)
/-- the least frame that is nobody's -/
def freeIx (L : List Fm) : Option Nat := L.findIdx? (fun f => f.o == -1)
def mayB (who : Int) : Bool := decide (0 ≤ who ∧ who < 8) || decide (who = 100)
def allocF (L : List Fm) (who : Int) : Option Nat × Nat × List Fm :=
  if mayB who = false then (some 2, 0, L) else
  match freeIx L with
  | none => (some 12, 0, L)
  | some k => (none, k, L.set k ⟨who, 0, 0, 0⟩)
/-- the frames of an owner, rising, up to the k-th -/
def ofF (L : List Fm) (who : Int) (k : Nat) : List Int := ((List.range k).filter (fun j => (L.getD j noFm).o == who)).map Int.ofNat
theorem ofF_yes {L : List Fm} {who : Int} {k : Nat} {f : Fm} (h : L[k]? = some f) (ho : f.o = who) : ofF L who (k + 1) = ofF L who k ++ [(k : Int)] := by
  unfold ofF
  rw [List.range_succ, List.filter_append, List.map_append]
  simp [List.getD, h, ho]
theorem ofF_no {L : List Fm} {who : Int} {k : Nat} {f : Fm} (h : L[k]? = some f) (ho : f.o ≠ who) : ofF L who (k + 1) = ofF L who k := by
  unfold ofF
  rw [List.range_succ, List.filter_append, List.map_append]
  simp [List.getD, h, ho]
theorem ofF_length (L : List Fm) (who : Int) (k : Nat) : (ofF L who k).length ≤ k := by
  unfold ofF
  rw [List.length_map]
  exact Nat.le_trans (List.length_filter_le _ _) (by simp)
/-- what holds of each frame, K things being done -/
structure FmOk (K : Int) (f : Fm) : Prop where
  w0 : 0 ≤ f.w
  wK : f.w ≤ K
  u0 : 0 ≤ f.u
  uK : f.u ≤ K
  tab : f.t ≠ 0 → f.w = 0
  nob : f.o = -1 → f.t = 0 ∧ f.w = 0 ∧ f.u = 0
def FsOk (K : Int) (L : List Fm) : Prop := ∀ (k : Nat) (f : Fm), L[k]? = some f → FmOk K f
theorem FsOk.new (n : Nat) : FsOk 0 (List.replicate n noFm) := fun k f h => by
  rw [List.getElem?_replicate] at h
  split at h
  · cases h; exact ⟨by decide, by decide, by decide, by decide, fun _ => rfl, fun _ => ⟨rfl, rfl, rfl⟩⟩
  · cases h
theorem FsOk.up {K K' : Int} {L : List Fm} (h : FsOk K L) (hK : K ≤ K') : FsOk K' L := fun k f hf =>
  let x := h k f hf
  ⟨x.w0, by have := x.wK; omega, x.u0, by have := x.uK; omega, x.tab, x.nob⟩
theorem FsOk.set {K K' : Int} {L : List Fm} (h : FsOk K L) (hK : K ≤ K') (k : Nat) {g : Fm} (hg : FmOk K' g) : FsOk K' (L.set k g) := fun j f hf => by
  rw [List.getElem?_set] at hf
  split at hf
  · split at hf
    · cases hf; exact hg
    · cases hf
  · exact (h.up hK) j f hf
theorem freeF_ok {K : Int} {L : List Fm} (h : FsOk K L) (i who : Int) (hK : 0 ≤ K) : FsOk K (freeF L i who).2 := by
  unfold freeF
  split
  · exact h
  · split
    · exact h
    · split
      · exact h
      · exact h.set (Int.le_refl _) _ ⟨by decide, hK, by decide, hK, fun _ => rfl, fun _ => ⟨rfl, rfl, rfl⟩⟩
theorem makeF_ok {K : Int} {L : List Fm} (h : FsOk K L) (i who kind : Int) : FsOk K (makeF L i who kind).2 := by
  unfold makeF
  split
  · exact h
  · split
    · exact h
    · rename_i f hf
      obtain ⟨k, rfl, hk, ho⟩ := atF_some hf
      have x := h k f hk
      split
      · exact h
      · split
        · exact h
        · split
          · exact h
          · rename_i hb
            refine h.set (Int.le_refl _) _ ⟨x.w0, x.wK, x.u0, x.uK, fun _ => ?_, fun h => absurd h ho⟩
            have := x.w0
            unfold bsy at hb
            simp only
            omega
theorem plainF_ok {K : Int} {L : List Fm} (h : FsOk K L) (i who : Int) : FsOk K (plainF L i who).2 := by
  unfold plainF
  split
  · exact h
  · rename_i f hf
    obtain ⟨k, rfl, hk, ho⟩ := atF_some hf
    have x := h k f hk
    split
    · exact h
    · split
      · exact h
      · split
        · exact h
        · exact h.set (Int.le_refl _) _ ⟨x.w0, x.wK, x.u0, x.uK, fun h => absurd rfl h, fun h => absurd h ho⟩
theorem writeF_ok {K : Int} {L : List Fm} (h : FsOk K L) (i : Int) : FsOk (K + 1) (writeF L i).2 := by
  have hu := h.up (show K ≤ K + 1 by omega)
  unfold writeF
  split
  · exact hu
  · rename_i f hf
    obtain ⟨k, rfl, hk, ho⟩ := atF_some hf
    have x := h k f hk
    split
    · exact hu
    · rename_i ht
      refine h.set (by omega) _ ⟨by have := x.w0; simp only; omega, by have := x.wK; simp only; omega, x.u0, by have := x.uK; simp only; omega, fun h => absurd h ht, fun h => absurd h ho⟩
theorem unwriteF_ok {K : Int} {L : List Fm} (h : FsOk K L) (i : Int) : FsOk K (unwriteF L i).2 := by
  unfold unwriteF
  split
  · exact h
  · rename_i f hf
    obtain ⟨k, rfl, hk, ho⟩ := atF_some hf
    have x := h k f hk
    split
    · exact h
    · rename_i hw
      have w0 := x.w0
      refine h.set (Int.le_refl _) _ ⟨by simp only; omega, by have := x.wK; simp only; omega, x.u0, x.uK, fun h => absurd (x.tab h) hw, fun h => absurd h ho⟩
theorem useF_ok {K : Int} {L : List Fm} (h : FsOk K L) (i : Int) : FsOk (K + 1) (useF L i).2 := by
  have hu := h.up (show K ≤ K + 1 by omega)
  unfold useF
  split
  · exact hu
  · rename_i f hf
    obtain ⟨k, rfl, hk, ho⟩ := atF_some hf
    have x := h k f hk
    exact h.set (by omega) _ ⟨x.w0, by have := x.wK; simp only; omega, by have := x.u0; simp only; omega, by have := x.uK; simp only; omega, x.tab, fun h => absurd h ho⟩
theorem unuseF_ok {K : Int} {L : List Fm} (h : FsOk K L) (i : Int) : FsOk K (unuseF L i).2 := by
  unfold unuseF
  split
  · exact h
  · rename_i f hf
    obtain ⟨k, rfl, hk, ho⟩ := atF_some hf
    have x := h k f hk
    split
    · exact h
    · rename_i hw
      have u0 := x.u0
      refine h.set (Int.le_refl _) _ ⟨x.w0, x.wK, by simp only; omega, by have := x.uK; simp only; omega, x.tab, fun h => absurd h ho⟩
theorem allocF_ok {K : Int} {L : List Fm} (h : FsOk K L) (who : Int) (hK : 0 ≤ K) : FsOk K (allocF L who).2.2 := by
  unfold allocF
  split
  · exact h
  · split
    · exact h
    · exact h.set (Int.le_refl _) _ ⟨Int.le_refl 0, hK, Int.le_refl 0, hK, fun _ => rfl, fun _ => ⟨rfl, rfl, rfl⟩⟩
/-- where the search for a frame that is nobody's stands -/
theorem freeIx_found {L : List Fm} {k : Nat} {f : Fm} (h : L[k]? = some f) (ho : f.o = -1) (hl : ∀ (j : Nat) (g : Fm), j < k → L[j]? = some g → g.o ≠ -1) : freeIx L = some k := by
  unfold freeIx
  rw [List.findIdx?_eq_some_iff_getElem]
  have hk := (List.getElem?_eq_some_iff.1 h)
  obtain ⟨hk, rfl⟩ := hk
  refine ⟨hk, by simpa using ho, fun j hj => ?_⟩
  have := hl j _ hj (List.getElem?_eq_getElem (by omega))
  simpa using this
theorem freeIx_none {L : List Fm} (hl : ∀ (j : Nat) (g : Fm), L[j]? = some g → g.o ≠ -1) : freeIx L = none := by
  unfold freeIx
  rw [List.findIdx?_eq_none_iff]
  intro g hg
  obtain ⟨j, hj⟩ := List.getElem?_of_mem hg
  simpa using hl j g hj
theorem freeIx_some {L : List Fm} {k : Nat} (h : freeIx L = some k) : ∃ f, L[k]? = some f ∧ f.o = -1 ∧ ∀ (j : Nat) (g : Fm), j < k → L[j]? = some g → g.o ≠ -1 := by
  unfold freeIx at h
  rw [List.findIdx?_eq_some_iff_getElem] at h
  obtain ⟨hk, ho, hl⟩ := h
  refine ⟨L[k], List.getElem?_eq_getElem hk, by simpa using ho, fun j g hj hg => ?_⟩
  have := hl j hj
  obtain ⟨hj2, rfl⟩ := List.getElem?_eq_some_iff.1 hg
  simpa using this
end Go.Proofs.YtcfagdmaephkdaaDoor
namespace Go.Proofs.YtcfagdmaephkdaaDoor
open Go.RowKit
/-! ### numbers in a slice -/
/-- the slice value v reads as these numbers -/
def SlAt (w : World) (k : IntKind) (v : Value) (xs : List Int) : Prop :=
  ((∃ p c, v = .slice p 0 c) ∧ xs = []) ∨
  ∃ b o c, v = .slice (some ⟨b, o, none⟩) xs.length c ∧ b < w.heap.size ∧ ∀ j x, xs[j]? = some x → w.cell? ⟨b, o + j, none⟩ = some (.int k x)
theorem SlAt.kept {w w1 : World} {k : IntKind} {v : Value} {xs : List Int} {r : Option Nat} (h : SlAt w k v xs) (hg : w.grownBy w1 r) (hr : v.ownBlock = none ∨ v.ownBlock ≠ r) : SlAt w1 k v xs := by
  rcases h with h | ⟨b, o, c, rfl, hb, hc⟩
  · exact .inl h
  · refine .inr ⟨b, o, c, rfl, Nat.lt_of_lt_of_le hb hg.size, fun j x hx => ?_⟩
    rw [grown_cell hg hb (by simpa [Value.ownBlock] using hr)]
    exact hc j x hx
theorem SlAt.kept0 {w w1 : World} {k : IntKind} {v : Value} {xs : List Int} (h : SlAt w k v xs) (hg : w.grownBy w1 none) : SlAt w1 k v xs :=
  h.kept hg (by cases v.ownBlock <;> simp)
/-- a block of numbers, known whole -/
theorem SlAt.whole {w : World} {k : IntKind} {b c : Nat} {t : TypeId} {xs : List Int} {fr : Nat × Nat} (h : w.heap[b]? = some (.cells (xs.map (Value.int k)).toArray t fr)) : SlAt w k (.slice (some ⟨b, 0, none⟩) xs.length c) xs := by
  refine .inr ⟨b, 0, c, rfl, (Array.getElem?_eq_some_iff.1 h).1, fun j x hx => ?_⟩
  rw [cell_of_row w b _ _ t fr h]
  simp [hx]
theorem SlAt.own {w : World} {k : IntKind} {base : Nat} {t : TypeId} {v : Value} {n : Nat} {xs : List Int} (h : w.ownsRow base t 1 v n (xs.map (Value.int k))) : SlAt w k v xs := by
  obtain ⟨hl, h⟩ := h
  have hl : xs.length = n := by simpa using hl
  rcases h with ⟨rfl, h0⟩ | ⟨g, cap, cur, rfl, _, hg, _, _, _, ht⟩
  · exact .inl ⟨⟨_, _, rfl⟩, List.eq_nil_of_length_eq_zero (by omega)⟩
  · refine .inr ⟨g, 0, cap, by rw [hl], (Array.getElem?_eq_some_iff.1 hg).1, fun j x hx => ?_⟩
    rw [cell_of_row w g _ _ t _ hg, Nat.zero_add]
    have hj : j < xs.length := (List.getElem?_eq_some_iff.1 hx).1
    have := congrArg (·[j]?) ht
    simp only [Nat.mul_one, List.getElem?_take, List.getElem?_map, hx] at this
    rw [if_pos (by omega)] at this
    simpa using this
/-! ### a memory -/
section
variable {w w1 : World} {m b n c : Nat} {xs : List Int}
end
end Go.Proofs.YtcfagdmaephkdaaDoor
namespace Go.Proofs.YtcfagdmaephkdaaDoor
open Go.RowKit
section
variable {m b n c : Nat} {xs : List Int} {w : World}
end
theorem toList_madeZero (z : Value) (k n : Nat) (hn : 0 < n) : madeCells (Array.replicate n z) k = Array.replicate k z := by
  apply Array.ext
  · simp [madeCells]
  · intro i h1 h2
    have : i % n < n := Nat.mod_lt _ hn
    simp [madeCells, this]
end Go.Proofs.YtcfagdmaephkdaaDoor
namespace Go.Proofs.YtcfagdmaephkdaaDoor
open Go.RowKit
section
variable {m b n c : Nat} {xs : List Int} {w : World}
theorem SlAt.len {k : IntKind} {v : Value} {ls : List Int} (h : SlAt w k v ls) : ∃ p c', v = .slice p ls.length c' := by
  rcases h with ⟨⟨p, c, rfl⟩, rfl⟩ | ⟨b, o, c, rfl, _⟩
  · exact ⟨_, _, rfl⟩
  · exact ⟨_, _, rfl⟩
end
end Go.Proofs.YtcfagdmaephkdaaDoor
namespace Go.Proofs.YtcfagdmaephkdaaDoor
open Go.RowKit
/-- a number from 0 to below a bound -/
def numB (n : Int) (k : Nat) : Nat := (n % (k : Int)).toNat
theorem numB_lt (n : Int) {k : Nat} (hk : 0 < k) : numB n k < k := by unfold numB; have := Int.emod_lt_of_pos n (show (0 : Int) < k by omega); have := Int.emod_nonneg n (show (k : Int) ≠ 0 by omega); omega
theorem number_up (n : Int) (k : Nat) (hk : 0 < k) (hk2 : (k : Int) ≤ 9223372036854775807) (h0 : 0 ≤ n) (h1 : n ≤ 9223372036854775807) (w : World) :
    Calls Tryd.prog 17 #[.int .i64 n, .int .i64 k] w fun e w' => e = .returned (.int .i64 (numB n k)) ∧ w = w' := by
  have hn : ((numB n k : Nat) : Int) = n % (k : Int) := by
    unfold numB
    have := Int.emod_nonneg n (show (k : Int) ≠ 0 by omega)
    omega
  have Hn := hid hn
  have hz : (0 : Int) < (k : Int) := by omega
  have hm := Int.emod_nonneg n (show (k : Int) ≠ 0 by omega)
  have hm2 := Int.emod_lt_of_pos n hz
  clear hn
  go_enter Tryd.func17, Tryd.ntmps17
  go_wp2
  go_ret
  exact ⟨ret_i Hn.out.symm, rfl⟩
theorem tmod_down {n : Int} {k : Nat} (hk : 0 < k) (h : n < 0) : -(k : Int) < n.tmod k ∧ n.tmod k ≤ 0 ∧ n % (k : Int) = if n.tmod k < 0 then n.tmod k + k else n.tmod k := by
  obtain ⟨a, rfl⟩ : ∃ a, n = -a := ⟨-n, by omega⟩
  have hz : (0 : Int) < (k : Int) := by omega
  have h1 := Int.emod_nonneg a (show (k : Int) ≠ 0 by omega)
  have h2 := Int.emod_lt_of_pos a hz
  have h3 := Int.mul_ediv_add_emod a k
  rw [Int.neg_tmod, Int.tmod_eq_emod_of_nonneg (by omega)]
  refine ⟨by omega, by omega, ?_⟩
  split
  · refine ((Int.ediv_emod_unique hz (q := -(a / k) - 1)).2 ⟨?_, by omega, by omega⟩).2
    rw [Int.mul_sub, Int.mul_neg]
    omega
  · refine ((Int.ediv_emod_unique hz (q := -(a / k))).2 ⟨?_, by omega, by omega⟩).2
    rw [Int.mul_neg]
    omega
theorem number_down (n : Int) (k : Nat) (hk : 0 < k) (hk2 : (k : Int) ≤ 9223372036854775807) (h0 : n < 0) (_h1 : -9223372036854775808 ≤ n) (w : World) :
    Calls Tryd.prog 17 #[.int .i64 n, .int .i64 k] w fun e w' => e = .returned (.int .i64 (numB n k)) ∧ w = w' := by
  have hn : ((numB n k : Nat) : Int) = n % (k : Int) := by
    unfold numB
    have := Int.emod_nonneg n (show (k : Int) ≠ 0 by omega)
    omega
  obtain ⟨t1, t2, ht⟩ := tmod_down hk h0
  rw [ht] at hn
  have Hn := hid hn
  have hz : (0 : Int) < (k : Int) := by omega
  clear hn ht
  by_cases hs : n.tmod k < 0
  · have Hs := hid hs
    go_enter Tryd.func17, Tryd.ntmps17
    go_wp2
    go_ret
    exact ⟨ret_i (by rw [Hn.out, if_pos Hs.out]), rfl⟩
  · have Hs := hid hs
    have hs2 : 0 ≤ n.tmod k := by omega
    clear hs
    go_enter Tryd.func17, Tryd.ntmps17
    go_wp2
    go_ret
    exact ⟨ret_i (by rw [Hn.out, if_neg (by omega)]), rfl⟩
theorem number_any (n : Int) (k : Nat) (hk : 0 < k) (hk2 : (k : Int) ≤ 9223372036854775807) (h0 : -9223372036854775808 ≤ n) (h1 : n ≤ 9223372036854775807) (w : World) :
    Calls Tryd.prog 17 #[.int .i64 n, .int .i64 k] w fun e w' => e = .returned (.int .i64 (numB n k)) ∧ w = w' := by
  by_cases h : 0 ≤ n
  · exact number_up n k hk hk2 h h1 w
  · exact number_down n k hk hk2 (by omega) h0 w
theorem si_parted {w : World} {p q : Option Addr} {c d : Nat} {la lb : List Int} (h : la.length ≠ lb.length) :
    Calls Tryd.prog 15 #[.slice p la.length c, .slice q lb.length d] w fun e w' => e = .returned (.bool false) ∧ w.grownBy w' none := by
  have hz : ((la.length : Int) == (lb.length : Int)) = false := by simp; omega
  have hz2 : (la.length == lb.length) = false := by simpa using h
  have Hr := hid (grown_refl w none)
  go_enter Tryd.func15, Tryd.ntmps15
  go_wp2
  go_ret
  exact ⟨rfl, Hr.out⟩
theorem si_empty {w : World} {p q : Option Addr} {c d : Nat} :
    Calls Tryd.prog 15 #[.slice p 0 c, .slice q 0 d] w fun e w' => e = .returned (.bool true) ∧ w.grownBy w' none := by
  have Hr := hid (grown_refl w none)
  go_enter Tryd.func15, Tryd.ntmps15
  go_wp2
  go_loop [5] (fun i => i = .int .i64 0) (fun _ => 0)
  case atStart => rfl
  case round =>
    obtain rfl := hrel
    go_wp2
    go_ret
    exact ⟨rfl, Hr.out⟩
set_option maxHeartbeats 1000000 in
theorem si_some {w : World} {b o b' o' c d N : Nat} {la lb : List Int} (hla : la.length = N) (hlb : lb.length = N) (h1 : N ≤ 4611686018427387904)
    (hb : b < w.heap.size) (hb' : b' < w.heap.size)
    (ha : ∀ j x, la[j]? = some x → w.cell? ⟨b, o + j, none⟩ = some (.int .i64 x)) (hc : ∀ j x, lb[j]? = some x → w.cell? ⟨b', o' + j, none⟩ = some (.int .i64 x)) (r : Bool) (hr : decide (la = lb) = r) :
    Calls Tryd.prog 15 #[.slice (some ⟨b, o, none⟩) N c, .slice (some ⟨b', o', none⟩) N d] w fun e w' => e = .returned (.bool r) ∧ w.grownBy w' none := by
  have Ha := hid ha
  have Hc := hid hc
  have Hla := hid hla
  have Hlb := hid hlb
  have Hr := hid hr
  clear ha hc hla hlb hr
  go_enter Tryd.func15, Tryd.ntmps15
  go_wp2
  go_loopw [5, 6] (fun i _ wr => ∃ k : Nat, k ≤ N ∧ i = .int .i64 k ∧ Hid (la.take k = lb.take k) ∧ Hid (w.grownBy wr none)) (fun i _ _ => N - (intOf i).toNat)
  case atStart => exact ⟨0, Nat.zero_le _, rfl, hid (by simp), hid (grown_refl _ _)⟩
  case round =>
    obtain ⟨k, hk, rfl, Hk, Hg⟩ := hrel
    by_cases hlt : k < N
    · obtain ⟨x, Hx⟩ : ∃ x, Hid (la[k]? = some x) := ⟨_, hid (List.getElem?_eq_getElem (by rw [Hla.out]; exact hlt))⟩
      obtain ⟨y, Hy⟩ : ∃ y, Hid (lb[k]? = some y) := ⟨_, hid (List.getElem?_eq_getElem (by rw [Hlb.out]; exact hlt))⟩
      have cx := (grown_cell (p := ⟨b, o + k, none⟩) Hg.out hb (by simp)).trans (Ha.out k x Hx.out)
      have cy := (grown_cell (p := ⟨b', o' + k, none⟩) Hg.out hb' (by simp)).trans (Hc.out k y Hy.out)
      have hk0 : (0 : Int) ≤ (k : Int) := by omega
      have hk1 : (k : Int) < (N : Int) := by omega
      by_cases hxy : x = y
      · subst hxy
        go_wp2
        go_quiet (fail)
        go_wp2
        go_roundw
        case rel =>
          refine ⟨k + 1, by omega, by go_num, hid ?_, hid (grown_drewN Hg.out _)⟩
          rw [List.take_add_one, List.take_add_one, Hk.out, Hx.out, Hy.out]
        case measure => simp [intOf]; omega
      · have hxy2 : (x == y) = false := by simpa using hxy
        go_wp2
        go_quiet (fail)
        go_wp2
        go_ret
        refine ⟨ret_b ?_, grown_drewN Hg.out _⟩
        rw [← Hr.out, eq_comm, decide_eq_false_iff_not]
        intro e
        have e1 := Hx.out
        have e2 := Hy.out
        rw [e, e2] at e1
        exact hxy (Option.some.inj e1).symm
    · go_wp2
      go_ret
      refine ⟨ret_b ?_, Hg.out⟩
      have hn : k = N := by omega
      have e := Hk.out
      rw [hn, List.take_of_length_le (by rw [Hla.out]; omega), List.take_of_length_le (by rw [Hlb.out]; omega)] at e
      rw [← Hr.out, e]
      simp
/-- two lists are told to be the same, just if they are -/
theorem si_any {w : World} {va vb : Value} {la lb : List Int} (ha : SlAt w .i64 va la) (hb : SlAt w .i64 vb lb) (h1 : la.length ≤ 4611686018427387904) (_h2 : lb.length ≤ 4611686018427387904) (r : Bool) (hr : decide (la = lb) = r) :
    Calls Tryd.prog 15 #[va, vb] w fun e w' => e = .returned (.bool r) ∧ w.grownBy w' none := by
  by_cases hl : la.length = lb.length
  · by_cases h0 : la.length = 0
    · obtain rfl := List.eq_nil_of_length_eq_zero h0
      obtain rfl := List.eq_nil_of_length_eq_zero (hl.symm.trans h0)
      obtain ⟨p, c, rfl⟩ := ha.len
      obtain ⟨q, d, rfl⟩ := hb.len
      subst hr
      exact si_empty
    · rcases ha with ⟨_, rfl⟩ | ⟨b, o, c, rfl, hbl, hc⟩
      · simp at h0
      · rcases hb with ⟨_, rfl⟩ | ⟨b', o', d, rfl, hbl', hc'⟩
        · simp at hl; simp [hl] at h0
        · rw [← hl]
          exact si_some rfl hl.symm h1 hbl hbl' hc hc' r hr
  · obtain ⟨p, c, rfl⟩ := ha.len
    obtain ⟨q, d, rfl⟩ := hb.len
    have : r = false := by rw [← hr, decide_eq_false_iff_not]; intro e; exact hl (by rw [e])
    subst this
    exact si_parted hl
end Go.Proofs.YtcfagdmaephkdaaDoor
namespace Go.Proofs.YtcfagdmaephkdaaDoor
open Go.RowKit
section
variable {m b n c : Nat} {xs : List Int} {w : World}
theorem number_of (x a : Int) (k r : Nat) (ha : a = (k : Int)) (hr : numB x k = r) (hk : 0 < k) (hk2 : (k : Int) ≤ 9223372036854775807) (h0 : -9223372036854775808 ≤ x) (h1 : x ≤ 9223372036854775807) :
    Calls Tryd.prog 17 #[.int .i64 x, .int .i64 a] w fun e w' => e = .returned (.int .i64 r) ∧ w = w' := by
  subst ha; subst hr
  exact number_any x k hk hk2 h0 h1 w
end
theorem SlAt.frame {w : World} {g : Nat} {l : List Int} {t : TypeId} {fr : Nat × Nat} (hl : l.length = 16) (h : w.heap[g]? = some (.cells (wA l) t fr)) (c : Nat) : SlAt w .u32 (.slice (some ⟨g, 0, none⟩) 16 c) l := by
  have := SlAt.whole (k := .u32) (c := c) (xs := l) h
  rwa [hl] at this
end Go.Proofs.YtcfagdmaephkdaaDoor
namespace Go.Proofs.YtcfagdmaephkdaaDoor
open Go.RowKit Go.ChangeShapes
/-- the variables of api's errors, in the order in which facadesee names them -/
def errG : List Nat := [6, 7, 0, 8, 9, 10, 4, 11, 12, 5, 2, 3, 1, 13, 14, 15]
def errV (a : Addr) : Value := .iface 99 (.pointer (some a))
structure Sents (W : World) (A : Nat → Addr) : Prop where
  cell : ∀ i g, errG[i]? = some g → W.cell? ⟨g, 0, none⟩ = some (errV (A i))
  row : ∀ i, i < 16 → ∃ c t, W.heap[(A i).block]? = some (.cells c t (0, 0))
  inj : ∀ i j, i < 16 → j < 16 → A i = A j → i = j
theorem Sents.kept0 {w w1 : World} {A : Nat → Addr} (h : Sents w A) (hg : w.grownBy w1 none) : Sents w1 A := by
  refine ⟨fun i g hi => ?_, fun i hi => ?_, h.inj⟩
  · have := h.cell i g hi
    rw [grown_cell hg (World.block_lt_of_cell? w _ this) (by simp)]
    exact this
  · obtain ⟨c, t, hb⟩ := h.row i hi
    exact ⟨c, t, (hg.block _ (Array.getElem?_eq_some_iff.1 hb).1 (by simp)).trans hb⟩
/-! ### out of what the row lists -/
section
variable {P : Program} {W : World}
theorem laid_sents {nm : String} {ti tp te ts : TypeId} {ms : Array (String × TypeId)} {f : Field}
    (hi : P.underlying ti = some (.interface ms)) (hrow : ∀ u, P.typeName? 3 u = some nm → u = tp)
    (hp : P.underlying tp = some (.pointer te)) (he : P.underlying te = some (.struct #[f])) (hft : f.type = ts) (hfo : f.offset = 0) (hs : P.underlying ts = some .string) (hc : P.cellsOf te = 1) (hcs : P.cellsOf ts = 1) :
    ∀ (l : List (String × List UInt8)) (ps : List MemPlace), DataW.LaidVars P W (l.map fun x => (x.1, .iface nm (.ptr (.agg [.lit (.string x.2)])))) ps →
      (∀ b off, MemPlace.cell b off ∈ ps → (∃ c t, W.heap[b]? = some (.cells c t (0, 0))) ∧ ∀ u v, W.cell? ⟨b, off, none⟩ = some (.iface u v) → Value.okWide P W .any 0 u v) → ps.Nodup →
      (∀ x ∈ l, (P.globalNamed x.1).bind (fun g => (P.globals[g]?).map (·.type)) = some ti) →
      ∃ al : List Addr, al.length = l.length ∧ al.Nodup ∧ (∀ a ∈ al, MemPlace.cell a.block a.off ∈ ps) ∧ ∀ (i : Nat) (x : String × List UInt8), l[i]? = some x → ∃ a, al[i]? = some a ∧ ∃ g, P.globalNamed x.1 = some g ∧ W.cell? ⟨g, 0, none⟩ = some (.iface tp (.pointer (some a)))
  | [], _, _, _, _, _ => ⟨[], rfl, List.nodup_nil, by simp, by simp⟩
  | (n, text) :: l, ps, h, hrows, hnd, hty => by
    obtain ⟨g, t, cs, fuel, p, q, hg, ht, hv, hd, hq, rfl⟩ := h
    have htt : t = ti := by
      have := hty (n, text) (by simp)
      simp only [hg, Option.bind_some, ht, Option.some.injEq] at this
      exact this
    subst htt
    rw [List.nodup_append] at hnd
    obtain ⟨_, hq2, hdis⟩ := hnd
    obtain ⟨al, hl, hn, hin, hall⟩ := laid_sents hi hrow hp he hft hfo hs hc hcs l q hq (fun b off hm => hrows b off (List.mem_append_right _ hm)) hq2 (fun x hx => hty x (by simp [hx]))
    obtain ⟨cl⟩ := cs
    have ok0 : ∀ u v, cl = [.iface u v] → Value.okWide P W .any 0 u v := fun u v e => by
      subst e
      exact (hrows g 0 (by simp [MemPlace.row])).2 u v (by simpa using World.var?_cell hg hv 0)
    obtain ⟨a, s, rfl, _, _, _, rfl⟩ := errorString_of_trod hi hrow hp he hft hfo hs hc hcs hd ok0
    have ha : MemPlace.cell a.block a.off ∈ MemPlace.row (⟨g, 0, none⟩ : Addr) 1 ++ MemPlace.row a 1 := by simp [MemPlace.row]
    refine ⟨a :: al, by simp [hl], List.nodup_cons.2 ⟨fun hm => ?_, hn⟩, fun b hb => ?_, fun i x hx => ?_⟩
    · exact hdis _ (by simpa using ha) _ (hin a hm) rfl
    · rcases List.mem_cons.1 hb with rfl | hb
      · exact List.mem_append_left _ (by simpa using ha)
      · exact List.mem_append_right _ (hin b hb)
    · cases i with
      | zero =>
        simp only [List.getElem?_cons_zero, Option.some.injEq] at hx
        subst hx
        exact ⟨a, rfl, g, hg, by simpa using World.var?_cell hg hv 0⟩
      | succ i =>
        simp only [List.getElem?_cons_succ] at hx ⊢
        exact hall i x hx
end
end Go.Proofs.YtcfagdmaephkdaaDoor
namespace Go.Proofs.YtcfagdmaephkdaaDoor
open Go.RowKit
theorem info_errp : ∃ i, Tryd.prog.info? 99 = some i ∧ i.comparable = true := by
  have h : (Tryd.prog.info? 99).map (·.comparable) = some true := by kernel_rfl
  cases hi : Tryd.prog.info? 99 with
  | none => simp [hi] at h
  | some i => exact ⟨i, rfl, by simpa [hi] using h⟩
theorem info_errs : ∃ i, Tryd.prog.info? 116 = some i ∧ i.size ≠ 0 := by
  have h : (Tryd.prog.info? 116).map (·.size) = some 1 := by kernel_rfl
  cases hi : Tryd.prog.info? 116 with
  | none => simp [hi] at h
  | some i =>
    have : i.size = 1 := by simpa [hi] using h
    exact ⟨i, rfl, by omega⟩
theorem run_err_same (a : Addr) (w : World) : (binOp .eql 26 (errV a) (errV a)).run Tryd.prog w = .ok (.bool true) w := by
  obtain ⟨i, hi, hc⟩ := info_errp
  obtain ⟨j, hj, _⟩ := info_errs
  exact run_eql_iface_ptr_same w a Tryd.underlying26 Tryd.underlying99 hi hc hj
theorem run_err_other {a b : Addr} {w : World} (hne : a ≠ b) (ha : ∃ c t, w.heap[a.block]? = some (.cells c t (0, 0))) (hb : ∃ c t, w.heap[b.block]? = some (.cells c t (0, 0))) : (binOp .eql 26 (errV a) (errV b)).run Tryd.prog w = .ok (.bool false) w := by
  obtain ⟨i, hi, hc⟩ := info_errp
  obtain ⟨j, hj, hs⟩ := info_errs
  obtain ⟨ca, ta, ha⟩ := ha
  obtain ⟨cb, tb, hb⟩ := hb
  exact run_eql_iface_ptr_other w Tryd.underlying26 Tryd.underlying99 hi hc hj hs hne ha hb
theorem run_err_nil (a : Addr) (w : World) : (binOp .eql 26 (errV a) .nilIface).run Tryd.prog w = .ok (.bool false) w := by
  have h : ∀ d : Nat, (Op.equalIn (d + 1) 26 (errV a) .nilIface).run Tryd.prog w = .ok false w := fun d => by simp [errV, Op.equalIn, run_underlying Tryd.underlying26]
  simp only [binOp]
  simp [Op.equal, Op.maxDepth, h 9999]
theorem alike_same (a : Addr) (w : World) : Calls Tryd.prog 58 #[errV a, errV a] w fun e w' => e = .returned (.bool true) ∧ w = w' := by
  have h1 := fun W => run_err_same a W
  have h2 := fun W => run_err_nil a W
  unfold errV at h1 h2 ⊢
  go_enter Tryd.func58, Tryd.ntmps58
  go_wp2
  go_ret
  exact ⟨rfl, rfl⟩
theorem alike_other {a b : Addr} {w : World} (hne : a ≠ b) (ha : ∃ c t, w.heap[a.block]? = some (.cells c t (0, 0))) (hb : ∃ c t, w.heap[b.block]? = some (.cells c t (0, 0))) :
    Calls Tryd.prog 58 #[errV a, errV b] w fun e w' => e = .returned (.bool false) ∧ w = w' := by
  have h1 := run_err_other hne ha hb
  have h2 := fun W => run_err_nil a W
  have h3 := fun W => run_err_nil b W
  unfold errV at h1 h2 h3 ⊢
  clear hne ha hb
  go_enter Tryd.func58, Tryd.ntmps58
  go_wp2
  go_ret
  exact ⟨rfl, rfl⟩
def errs (A : Nat → Addr) : Array Value := ((List.range 16).map fun i => errV (A i)).toArray
theorem errs_get (A : Nat → Addr) {i : Nat} (h : i < 16) : (errs A)[i]? = some (errV (A i)) := by simp [errs, h]
set_option maxHeartbeats 1000000 in
theorem sentinels_any {A : Nat → Addr} {w : World} (h : Sents w A) : Calls Tryd.prog 57 #[] w fun e w' => e = .returned (.slice (some ⟨w.heap.size, 0, none⟩) 16 16) ∧ w' = w.alloc (.cells (errs A) 26) := by
  have c0 := h.cell 0 _ rfl
  have c1 := h.cell 1 _ rfl
  have c2 := h.cell 2 _ rfl
  have c3 := h.cell 3 _ rfl
  have c4 := h.cell 4 _ rfl
  have c5 := h.cell 5 _ rfl
  have c6 := h.cell 6 _ rfl
  have c7 := h.cell 7 _ rfl
  have c8 := h.cell 8 _ rfl
  have c9 := h.cell 9 _ rfl
  have c10 := h.cell 10 _ rfl
  have c11 := h.cell 11 _ rfl
  have c12 := h.cell 12 _ rfl
  have c13 := h.cell 13 _ rfl
  have c14 := h.cell 14 _ rfl
  have c15 := h.cell 15 _ rfl
  clear h
  have He : Hid (errs A = #[errV (A 0), errV (A 1), errV (A 2), errV (A 3), errV (A 4), errV (A 5), errV (A 6), errV (A 7), errV (A 8), errV (A 9), errV (A 10), errV (A 11), errV (A 12), errV (A 13), errV (A 14), errV (A 15)]) := hid rfl
  rw [He.out]
  unfold errV at c0 c1 c2 c3 c4 c5 c6 c7 c8 c9 c10 c11 c12 c13 c14 c15
  clear He
  go_enter Tryd.func57, Tryd.ntmps57
  go_wp2
  go_ret
  exact ⟨rfl, rfl⟩
set_option maxHeartbeats 1000000 in
theorem sentinel_any {A : Nat → Addr} {w : World} (h : Sents w A) (k : Nat) (hk : k < 16) : Calls Tryd.prog 55 #[errV (A k)] w fun e w' => e = .returned (.int .i64 ((101 + k : Nat) : Int)) ∧ w.grownBy w' none := by
  have H := hid h
  clear h
  obtain ⟨v, hv⟩ : ∃ v, errV (A k) = v := ⟨_, rfl⟩
  rw [hv]
  have Hv := hid hv
  clear hv
  go_enter Tryd.func55, Tryd.ntmps55
  go_wp2_with fail
  refine (sentinels_any H.out).mono ?_; rintro e w1 ⟨rfl, hw1⟩
  have Hh : Hid (w1.heap[w.heap.size]? = some (.cells (errs A) 26 (0, 0))) := hid (by rw [hw1]; exact heap_alloc_last _ _)
  have H1 : Hid (Sents w1 A) := hid (H.out.kept0 (by rw [hw1]; exact World.grownBy_alloc w _ none))
  have HG : Hid (w.grownBy w1 none) := hid (by rw [hw1]; exact World.grownBy_alloc w _ none)
  clear hw1
  go_wp2
  go_loop [2, 4] (fun _ i => ∃ j : Nat, j ≤ k ∧ i = .int .i64 j) (fun _ i => k - (intOf i).toNat)
  case atStart => exact ⟨0, Nat.zero_le _, rfl⟩
  case round =>
    obtain ⟨j, hj, rfl⟩ := hrel
    have hc : w1.cell? ⟨w.heap.size, j, none⟩ = some (errV (A j)) := by rw [cell_of_row w1 _ _ _ _ _ Hh.out, errs_get A (by omega)]
    have hj0 : (0 : Int) ≤ (j : Int) := by omega
    have hj1 : (j : Int) < 16 := by omega
    by_cases hjk : j = k
    · have hkk : (101 : Int) + (j : Int) = ((101 + k : Nat) : Int) := by omega
      have Hk := hid hkk
      rw [hjk, Hv.out] at hc
      have hs : Calls Tryd.prog 58 #[v, v] w1 fun e w' => e = .returned (.bool true) ∧ w1 = w' := by rw [← Hv.out]; exact alike_same (A k) w1
      obtain rfl := hjk
      have Hs := hid hs
      clear hs hkk
      go_wp2_with fail
      refine (Hs.out).mono ?_; rintro e w' ⟨rfl, rfl⟩
      go_wp2
      go_ret
      exact ⟨ret_i Hk.out, HG.out⟩
    · have hs : Calls Tryd.prog 58 #[v, errV (A j)] w1 fun e w' => e = .returned (.bool false) ∧ w1 = w' := by rw [← Hv.out]; exact alike_other (fun e => hjk (H1.out.inj _ _ (by omega) (by omega) e).symm) (H1.out.row k hk) (H1.out.row j (by omega))
      have Hs := hid hs
      have Hjk : Hid (j + 1 ≤ k) := hid (by omega)
      clear hs hjk
      go_wp2_with fail
      refine (Hs.out).mono ?_; rintro e w' ⟨rfl, rfl⟩
      go_wp2
      go_round
      case rel => exact ⟨j + 1, Hjk.out, by go_num⟩
      case measure => have := Hjk.out; simp [intOf]; omega
end Go.Proofs.YtcfagdmaephkdaaDoor
namespace Go.Proofs.YtcfagdmaephkdaaDoor
open Go.RowKit
def faultV (c : Int) : Value := .agg #[.int .i64 c, .bool false, .int .i64 0]
theorem bare_any (c : Int) (w : World) : Calls Tryd.prog 29 #[.int .i64 c] w fun e w' => e = .returned (faultV c) ∧ w.grownBy w' none := by
  have Hr := hid (grown_refl w none)
  go_enter Tryd.func29, Tryd.ntmps29
  go_wp2
  refine bodyPost_ret (v := .agg #[.int .i64 c, .bool false, .int .i64 0]) (by simp [results, Tryd.results29, go_sem]) rfl ⟨rfl, grown_alloc Hr.out _⟩
theorem same_fault (c d : Int) (w : World) (r : Bool) (hr : (c == d) = r) : Calls Tryd.prog 47 #[faultV c, faultV d] w fun e w' => e = .returned (.bool r) ∧ w.grownBy w' none := by
  unfold faultV
  have Hr := hid (grown_refl w none)
  cases r
  · go_enter Tryd.func47, Tryd.ntmps47
    go_wp2
    go_ret
    exact ⟨rfl, grown_alloc (grown_alloc Hr.out _) _⟩
  · go_enter Tryd.func47, Tryd.ntmps47
    go_wp2
    go_ret
    exact ⟨rfl, grown_alloc (grown_alloc Hr.out _) _⟩
theorem run_not_at (v : Value) (W : World) : (Instr.typeAssert (.iface 99 v) 26 90 true).run Tryd.prog W = .ok (.tuple #[.pointer none, .bool false]) W := by
  have hz : (Tryd.prog.info? 90).map (·.zero) = some (some (.pointer none)) := by kernel_rfl
  cases hi : Tryd.prog.info? 90 with
  | none => simp [hi] at hz
  | some i =>
    have h1 : i.zero = some (.pointer none) := by simpa [hi] using hz
    simp [Instr.typeAssert, run_underlying Tryd.underlying90, zeroValue, typeInfo, hi, h1]
set_option maxHeartbeats 1000000 in
theorem fault_sent {A : Nat → Addr} {w : World} (h : Sents w A) (k : Nat) (hk : k < 16) : Calls Tryd.prog 48 #[errV (A k)] w fun e w' => e = .returned (faultV ((101 + k : Nat) : Int)) ∧ w.grownBy w' none := by
  have H := hid (h.kept0 (World.grownBy_alloc w (.cells #[.int .i64 0, .bool false, .int .i64 0] 64) none))
  have hnil := fun W => run_err_nil (A k) W
  have hat := run_not_at
  have Hs := hid (sentinel_any H.out k hk)
  unfold errV at hnil Hs ⊢
  obtain ⟨C, hC⟩ : ∃ C, ((101 + k : Nat) : Int) = C := ⟨_, rfl⟩
  rw [hC] at Hs ⊢
  clear h hC
  go_enter Tryd.func48, Tryd.ntmps48
  go_wp2_with fail
  refine (Hs.out).mono ?_; rintro e w1 ⟨rfl, hg⟩
  have HG1 := hid hg
  have hfr : w.heap.size < w1.heap.size := by have := hg.size; simp at this; omega
  have hblk : w1.heap[w.heap.size]? = some (.cells #[.int .i64 0, .bool false, .int .i64 0] 64 (0, 0)) := (hg.block _ (by simp) (by simp)).trans (heap_alloc_last _ _)
  have Hblk := hid hblk
  clear hg hblk
  go_wp2_with fail
  refine (bare_any C _).mono ?_; rintro e w2 ⟨rfl, hg⟩
  have HG2 := hid (grown_trans HG1.out hg)
  have hblk : w2.heap[w.heap.size]? = some (.cells #[.int .i64 0, .bool false, .int .i64 0] 64 (0, 0)) := (hg.block _ hfr (by simp)).trans Hblk.out
  have c0 : w2.cell? ⟨w.heap.size, 0, none⟩ = some (.int .i64 0) := by rw [cell_of_row w2 _ _ _ _ _ hblk]; rfl
  have c1 : w2.cell? ⟨w.heap.size, 1, none⟩ = some (.bool false) := by rw [cell_of_row w2 _ _ _ _ _ hblk]; rfl
  have c2 : w2.cell? ⟨w.heap.size, 2, none⟩ = some (.int .i64 0) := by rw [cell_of_row w2 _ _ _ _ _ hblk]; rfl
  have z0 := frozen_of_row w2 w.heap.size 0 _ _ hblk
  have z1 := frozen_of_row w2 w.heap.size 1 _ _ hblk
  have z2 := frozen_of_row w2 w.heap.size 2 _ _ hblk
  clear hblk hg
  unfold faultV
  go_wp2
  refine bodyPost_ret (v := .agg #[.int .i64 C, .bool false, .int .i64 0]) ?_ rfl ⟨rfl, ?_⟩
  · simp [results, Tryd.results48, go_sem, c0, c1, c2]
  · exact grown_new' (grown_setCell (grown_setCell (grown_setCell (grown_none (grown_trans (World.grownBy_alloc _ _ _) HG2.out)) _ _) _ _) _ _) (fun k hk => by obtain rfl := Option.some.inj hk; exact Nat.le_refl _)
set_option maxRecDepth 100000 in
set_option maxHeartbeats 1000000 in
theorem same_sent {A : Nat → Addr} {w : World} (h : Sents w A) (k : Nat) (hk : k < 16) (d : Int) (r : Bool) (hr : ((((101 + k : Nat) : Int)) == d) = r) :
    Calls Tryd.prog 28 #[errV (A k), faultV d] w fun e w' => e = .returned (.bool r) ∧ w.grownBy w' none := by
  have H := hid h
  have Hr := hid hr
  clear h hr
  obtain ⟨v, hv⟩ : ∃ v, errV (A k) = v := ⟨_, rfl⟩
  have Hf : ∀ W, w.grownBy W none → Calls Tryd.prog 48 #[v] W fun e w' => e = .returned (faultV ((101 + k : Nat) : Int)) ∧ W.grownBy w' none := fun W hW => by rw [← hv]; exact fault_sent (H.out.kept0 hW) k hk
  have Hf := hid Hf
  rw [hv]
  clear hv
  unfold faultV
  go_enter Tryd.func28, Tryd.ntmps28
  go_wp2
  obtain ⟨W0, hW0⟩ : ∃ W0, W0 = w.alloc (.cells #[.int .i64 d, .bool false, .int .i64 0] 64) := ⟨_, rfl⟩
  rw [← hW0]
  have hb0 : W0.heap[w.heap.size]? = some (.cells #[.int .i64 d, .bool false, .int .i64 0] 64 (0, 0)) := by rw [hW0]; exact heap_alloc_last _ _
  have c0 : W0.cell? ⟨w.heap.size, 0, none⟩ = some (.int .i64 d) := by rw [cell_of_row W0 _ _ _ _ _ hb0]; rfl
  have c1 : W0.cell? ⟨w.heap.size, 1, none⟩ = some (.bool false) := by rw [cell_of_row W0 _ _ _ _ _ hb0]; rfl
  have c2 : W0.cell? ⟨w.heap.size, 2, none⟩ = some (.int .i64 0) := by rw [cell_of_row W0 _ _ _ _ _ hb0]; rfl
  have hlt : w.heap.size < W0.heap.size := (Array.getElem?_eq_some_iff.1 hb0).1
  have hg0 : w.grownBy W0 none := by rw [hW0]; exact World.grownBy_alloc _ _ _
  clear hW0 hb0
  go_region_held3 (fun W => W.cell? ⟨w.heap.size, 0, none⟩ = some (.int .i64 d) ∧ W.cell? ⟨w.heap.size, 1, none⟩ = some (.bool false) ∧ W.cell? ⟨w.heap.size, 2, none⟩ = some (.int .i64 0) ∧ w.heap.size < W.heap.size ∧ w.grownBy W none)
    (first | (exact ⟨c0, c1, c2, hlt, grown_drew hg0⟩) | (go_split_ands; exact ⟨(grown_cell hcb (by assumption) (by simp)).trans (by assumption), (grown_cell hcb (by assumption) (by simp)).trans (by assumption), (grown_cell hcb (by assumption) (by simp)).trans (by assumption), Nat.lt_of_lt_of_le (by assumption) hcb.size, grown_trans (by assumption) hcb⟩))
    (first
      | (go_split_ands; go_at_call 48; refine (Hf.out _ (by assumption)).mono ?_; rintro e w' ⟨rfl, hcb⟩)
      | (go_split_ands; go_at_call 47; refine (same_fault _ d _ r Hr.out).mono ?_; rintro e w' ⟨rfl, hcb⟩))
  go_wp2
  go_ret
  go_split_ands
  exact ⟨rfl, by assumption⟩
theorem is_sent {A : Nat → Addr} {w : World} (h : Sents w A) (k : Nat) (hk : k < 16) (d : Int) (r : Bool) (hr : ((((101 + k : Nat) : Int)) == d) = r) :
    Calls Tryd.prog 9 #[errV (A k), .int .i64 d] w fun e w' => e = .returned (.bool r) ∧ w.grownBy w' none := by
  have H := hid h
  have Hr := hid hr
  clear h hr
  obtain ⟨v, hv⟩ : ∃ v, errV (A k) = v := ⟨_, rfl⟩
  have Hf : ∀ W, w.grownBy W none → Calls Tryd.prog 28 #[v, faultV d] W fun e w' => e = .returned (.bool r) ∧ W.grownBy w' none := fun W hW => by rw [← hv]; exact same_sent (H.out.kept0 hW) k hk d r Hr.out
  have Hf := hid Hf
  rw [hv]
  clear hv
  go_enter Tryd.func9, Tryd.ntmps9
  go_wp2_with fail
  refine (bare_any d w).mono ?_; rintro e w1 ⟨rfl, hg⟩
  have HG1 := hid hg
  clear hg
  go_wp2_with fail
  refine (Hf.out _ HG1.out).mono ?_; rintro e w2 ⟨rfl, hg⟩
  have HG2 := hid (grown_trans HG1.out hg)
  clear hg
  go_wp2
  go_ret
  exact ⟨rfl, HG2.out⟩
end Go.Proofs.YtcfagdmaephkdaaDoor
namespace Go.Proofs.YtcfagdmaephkdaaDoor
open Go.RowKit
/-- at block m a struct (of type T) of one slice, over block b: n frames (of type U), these -/
structure FrAt (w : World) (T U : TypeId) (m b n c : Nat) (L : List Fm) : Prop where
  hm : w.heap[m]? = some (.cells #[.slice (some ⟨b, 0, none⟩) n c] T (0, 0))
  own : w.ownsRow 0 U 4 (.slice (some ⟨b, 0, none⟩) n c) n (frsL L)
  len : L.length = n
  n1 : 1 ≤ n
  n2 : n ≤ 1024
  ne : m ≠ b
section
variable {w w1 : World} {T U : TypeId} {m b n c : Nat} {L : List Fm}
theorem FrAt.mlt (h : FrAt w T U m b n c L) : m < w.heap.size := (Array.getElem?_eq_some_iff.1 h.hm).1
theorem FrAt.blt (h : FrAt w T U m b n c L) : b < w.heap.size := (h.own.lt b rfl).2
theorem FrAt.mcell (h : FrAt w T U m b n c L) : w.cell? ⟨m, 0, none⟩ = some (.slice (some ⟨b, 0, none⟩) n c) := by
  rw [cell_of_row w m 0 _ _ _ h.hm]; rfl
theorem FrAt.row (h : FrAt w T U m b n c L) : ∃ cur : Array Value, w.heap[b]? = some (.cells cur U (0, 0)) := by
  obtain ⟨_, h⟩ := h.own
  rcases h with ⟨h, _⟩ | ⟨g, cap, cur, e, _, hg, _⟩
  · cases h
  · cases e; exact ⟨cur, hg⟩
theorem FrAt.free (h : FrAt w T U m b n c L) (k : Nat) : w.frozen? ⟨b, k, none⟩ = false := by
  obtain ⟨cur, hb⟩ := h.row
  exact frozen_of_row w b k cur _ hb
theorem FrAt.cell (h : FrAt w T U m b n c L) {k : Nat} {v : Value} (hv : (frsL L)[k]? = some v) : w.cell? ⟨b, k, none⟩ = some v := by
  have hk := (List.getElem?_eq_some_iff.1 hv).1
  rw [frsL_length, h.len] at hk
  rw [h.own.cellAt k hk]
  exact hv
section
variable {k : Nat} {f : Fm}
theorem FrAt.klt (h : FrAt w T U m b n c L) (hk : L[k]? = some f) : k < n := by rw [← h.len]; exact (List.getElem?_eq_some_iff.1 hk).1
theorem FrAt.cO (h : FrAt w T U m b n c L) (hk : L[k]? = some f) : w.cell? ⟨b, k * 4, none⟩ = some (.int .i64 f.o) := h.cell (frsL_get L k f hk).1
theorem FrAt.cT (h : FrAt w T U m b n c L) (hk : L[k]? = some f) : w.cell? ⟨b, k * 4 + 1, none⟩ = some (.int .i64 f.t) := h.cell (frsL_get L k f hk).2.1
theorem FrAt.cW (h : FrAt w T U m b n c L) (hk : L[k]? = some f) : w.cell? ⟨b, k * 4 + 2, none⟩ = some (.int .i64 f.w) := h.cell (frsL_get L k f hk).2.2.1
theorem FrAt.cU (h : FrAt w T U m b n c L) (hk : L[k]? = some f) : w.cell? ⟨b, k * 4 + 3, none⟩ = some (.int .i64 f.u) := h.cell (frsL_get L k f hk).2.2.2
theorem FrAt.range (h : FrAt w T U m b n c L) (hk : L[k]? = some f) : w.rangeAt b (k * 4) [Value.int .i64 f.o, .int .i64 f.t, .int .i64 f.w, .int .i64 f.u] := fun j v hv => by
  match j, hv with
  | 0, hv => cases hv; exact h.cO hk
  | 1, hv => cases hv; exact h.cT hk
  | 2, hv => cases hv; exact h.cW hk
  | 3, hv => cases hv; exact h.cU hk
  | j + 4, hv => simp at hv
theorem FrAt.kept {r : Option Nat} (h : FrAt w T U m b n c L) (hg : w.grownBy w1 r) (hm : some m ≠ r) (hb : some b ≠ r) : FrAt w1 T U m b n c L :=
  { h with hm := (hg.block _ h.mlt hm).trans h.hm, own := h.own.kept hg (.inr (by simpa [Value.ownBlock] using hb)) }
theorem FrAt.kept0 (h : FrAt w T U m b n c L) (hg : w.grownBy w1 none) : FrAt w1 T U m b n c L := h.kept hg (by simp) (by simp)
theorem FrAt.put (h : FrAt w T U m b n c L) (j : Nat) (v : Value) {L' : List Fm} (hs : (frsL L).set j v = frsL L') (hl : L'.length = L.length) : FrAt (w.setCell ⟨b, j, none⟩ v) T U m b n c L' := by
  obtain ⟨h1, h2⟩ := h.own.stored j v
  rw [hs] at h1
  exact { h with hm := (h2.block _ h.mlt (by simpa using h.ne)).trans h.hm, own := h1, len := by rw [hl]; exact h.len }
theorem FrAt.sO (h : FrAt w T U m b n c L) (hk : L[k]? = some f) (v : Int) : FrAt (w.setCell ⟨b, k * 4, none⟩ (.int .i64 v)) T U m b n c (L.set k ⟨v, f.t, f.w, f.u⟩) := h.put _ _ (frsL_setO L k f v hk) (by simp)
theorem FrAt.sT (h : FrAt w T U m b n c L) (hk : L[k]? = some f) (v : Int) : FrAt (w.setCell ⟨b, k * 4 + 1, none⟩ (.int .i64 v)) T U m b n c (L.set k ⟨f.o, v, f.w, f.u⟩) := h.put _ _ (frsL_setT L k f v hk) (by simp)
theorem FrAt.sW (h : FrAt w T U m b n c L) (hk : L[k]? = some f) (v : Int) : FrAt (w.setCell ⟨b, k * 4 + 2, none⟩ (.int .i64 v)) T U m b n c (L.set k ⟨f.o, f.t, v, f.u⟩) := h.put _ _ (frsL_setW L k f v hk) (by simp)
theorem FrAt.sU (h : FrAt w T U m b n c L) (hk : L[k]? = some f) (v : Int) : FrAt (w.setCell ⟨b, k * 4 + 3, none⟩ (.int .i64 v)) T U m b n c (L.set k ⟨f.o, f.t, f.w, v⟩) := h.put _ _ (frsL_setU L k f v hk) (by simp)
/-- a frame written whole -/
theorem FrAt.sAll (h : FrAt w T U m b n c L) (hk : L[k]? = some f) (o t wr u : Int) : FrAt (w.setCells b (k * 4) [.int .i64 o, .int .i64 t, .int .i64 wr, .int .i64 u]) T U m b n c (L.set k ⟨o, t, wr, u⟩) := by
  have hl : k < L.length := (List.getElem?_eq_some_iff.1 hk).1
  have h1 := h.sO hk o
  have h2 := h1.sT (k := k) (f := ⟨o, f.t, f.w, f.u⟩) (by simp [hl]) t
  have h3 := h2.sW (k := k) (f := ⟨o, t, f.w, f.u⟩) (by simp [hl]) wr
  have h4 := h3.sU (k := k) (f := ⟨o, t, wr, f.u⟩) (by simp [hl]) u
  simp only [List.set_set] at h4
  exact h4
end
end
theorem grown_four {w w1 : World} {b o : Nat} (h : w.grownBy w1 (some b)) (v0 v1 v2 v3 : Value) : w.grownBy (w1.setCells b o [v0, v1, v2, v3]) (some b) :=
  grown_setCell (grown_setCell (grown_setCell (grown_setCell h _ _) _ _) _ _) _ _
/-- an error as an answer; its number as the document's answer -/
def errO (A : Nat → Addr) : Option Nat → Value
  | none => .nilIface
  | some k => errV (A k)
def codO : Option Nat → Int
  | none => 0
  | some k => ((101 + k : Nat) : Int)
end Go.Proofs.YtcfagdmaephkdaaDoor

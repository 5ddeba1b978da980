/- Words behind bytes (package obj): contracts. (Made by gobj14.py.) -/
import Derived.Test.YtgahbpfmiibpeaaGreatDoorZObj13
import Derived.Test.YtgahbpfmiibpeaaGreatDoorZGObjA
import Derived.Lib.AppendStr
namespace Go.Proofs.YtgahbpfmiibpeaaGreatDoor
open Go.RowKit
theorem info_byte : ∃ i : TypeInfo, Tryz.prog.info? 5 = some i ∧ i.zero = some (.int .u8 0) ∧ i.size = 1 ∧ i.bytes = 1 := info_parts (P := Tryz.prog) (e := 5) (z := .int .u8 0) (size := 1) (bytes := 1) (by kernel_rfl)
/-- bytes of a call's own, at B and above -/
structure By (B : Nat) (w : World) (v : Value) (bs : List Int) : Prop where
  own : w.ownsRow B 5 1 v bs.length (bs.map (Value.int .u8))
  le : B ≤ w.heap.size
/-- behind an append: these bytes -/
def ByAt (B : Nat) (w : World) (bs : List Int) (e : Ending) (w' : World) : Prop := ∃ v, e = .returned v ∧ By B w' v bs ∧ Below B w w'
/-- only its own block was written, or new ones -/
structure Gw (w : World) (v : Value) (w1 : World) (v1 : Value) : Prop where
  grow : w.grownBy w1 v.ownBlock
  mine : Mine w v v1
def GyAt (B : Nat) (w : World) (v : Value) (bs : List Int) (e : Ending) (w' : World) : Prop := ∃ v', e = .returned v' ∧ By B w' v' bs ∧ Gw w v w' v'
theorem Gw.refl (w : World) (v : Value) : Gw w v w v := ⟨grown_refl _ _, .inl rfl⟩
theorem Gw.trans {w w1 w2 : World} {v v1 v2 : Value} (h : Gw w v w1 v1) (k : Gw w1 v1 w2 v2) : Gw w v w2 v2 := by
  have hg := h.grow
  have kg := k.grow
  refine ⟨⟨kg.os.trans hg.os, kg.tape.trans hg.tape, kg.output.trans hg.output, Nat.le_trans hg.size kg.size, fun i hi hr => ?_⟩, ?_⟩
  · refine (kg.block i (Nat.lt_of_lt_of_le hi hg.size) (fun e => ?_)).trans (hg.block i hi hr)
    rcases h.mine with m | m
    · exact hr (e.trans m)
    · have := m i e.symm; omega
  · rcases k.mine with m | m
    · rcases h.mine with m' | m'
      · exact .inl (m.trans m')
      · exact .inr (fun g hg' => m' g (m.symm.trans hg'))
    · exact .inr (fun g hg' => Nat.le_trans hg.size (m g hg'))
theorem By.below_of {B : Nat} {w w1 : World} {v : Value} {bs : List Int} (h : By B w v bs) (hg : w.grownBy w1 v.ownBlock) : Below B w w1 := by
  refine ⟨hg.os, hg.tape, hg.output, hg.size, fun k hk => hg.block k (Nat.lt_of_lt_of_le hk h.le) (fun e => ?_)⟩
  have := (h.own.lt k e.symm).1
  omega
theorem By.kept0 {B : Nat} {w w1 : World} {v : Value} {bs : List Int} (h : By B w v bs) (hg : w.grownBy w1 none) : By B w1 v bs := ⟨h.own.kept hg (by cases v.ownBlock <;> simp), Nat.le_trans h.le hg.size⟩
theorem By.nil (B : Nat) (w : World) (h : B ≤ w.heap.size) : By B w (.slice none 0 0) [] := ⟨World.ownsRow_nil _ _ _ _, h⟩
/-- the slice that is walked lies elsewhere -/
def Else (lv v : Value) : Prop := (∃ p c, lv = .slice p 0 c) ∨ ∀ g, lv.ownBlock = some g → v.ownBlock ≠ some g
theorem Else.of {p : Option Addr} {n c : Nat} {v : Value} (h : Else (.slice p n c) v) (hn : 0 < n) : ∀ g, (Value.slice p n c).ownBlock = some g → v.ownBlock ≠ some g := by
  rcases h with ⟨q, d, h⟩ | h
  · simp only [Value.slice.injEq] at h; omega
  · exact h
structure AWr (B : Nat) (w0 : World) (v0 : Value) (k : IntKind) (lv : Value) (xs bs : List Int) (v : Value) (t : Nat) (w : World) : Prop where
  by_ : By B w v (bs ++ wsB (xs.take t))
  gw : Gw w0 v0 w v
  sl : SlAt w k lv xs
  els : Else lv v






end Go.Proofs.YtgahbpfmiibpeaaGreatDoor
/- Relocations and symbols behind bytes (package obj): contracts. -/
namespace Go.Proofs.YtgahbpfmiibpeaaGreatDoor
open Go.RowKit
theorem CsAt.below {B : Nat} {w0 w : World} {v : Value} {n : Nat} {cs : List Value} (h : CsAt w0 v n cs) (hB : w0.heap.size ≤ B) (hb : Below B w0 w) : CsAt w v n cs := by
  rcases h with h | ⟨b, o, c, rfl, hn, hlt, hc⟩
  · exact .inl h
  · exact .inr ⟨b, o, c, rfl, hn, Nat.lt_of_lt_of_le hlt hb.size, fun j u hu => (hb.cell (Nat.lt_of_lt_of_le hlt hB)).trans (hc j u hu)⟩
theorem SlAt.below {B : Nat} {w0 w : World} {v : Value} {k : IntKind} {xs : List Int} (h : SlAt w0 k v xs) (hB : w0.heap.size ≤ B) (hb : Below B w0 w) : SlAt w k v xs := by
  rcases h with h | ⟨b, o, c, rfl, hlt, hc⟩
  · exact .inl h
  · exact .inr ⟨b, o, c, rfl, Nat.lt_of_lt_of_le hlt hb.size, fun j u hu => (hb.cell (Nat.lt_of_lt_of_le hlt hB)).trans (hc j u hu)⟩
theorem Gw.below {B : Nat} {w w1 : World} {v v1 : Value} {bs : List Int} (h : Gw w v w1 v1) (hb : By B w v bs) : Below B w w1 := hb.below_of h.grow
theorem By.ne {B : Nat} {w : World} {v : Value} {bs : List Int} (h : By B w v bs) {g : Nat} (hg : w.heap.size ≤ g) : v.ownBlock ≠ some g := fun e => by have := (h.own.lt g e).2; omega
theorem below_alloc {B : Nat} {w : World} (h : B ≤ w.heap.size) (o : Obj) : Below B w (w.alloc o) := (Below.refl B w).alloc h o
theorem slat4 (w : World) (a b c d : Int) : SlAt (w.alloc (.cells #[.int .i64 a, .int .i64 b, .int .i64 c, .int .i64 d] 3)) .i64 (.slice (some ⟨w.heap.size, 0, none⟩) 4 4) [a, b, c, d] :=
  SlAt.whole (b := w.heap.size) (c := 4) (k := .i64) (xs := [a, b, c, d]) (t := 3) (by exact heap_alloc_last w _)
/-- at the head of a round -/
structure ARr (B : Nat) (w0 : World) (bs : List Int) (v : Value) (w : World) : Prop where
  by_ : By B w v bs
  below : Below B w0 w
end Go.Proofs.YtgahbpfmiibpeaaGreatDoor
/- Symbols behind bytes; the bytes of an object (package obj): contracts. (Made by gobj16.py.) -/
namespace Go.Proofs.YtgahbpfmiibpeaaGreatDoor
open Go.RowKit
theorem strCells_of (s : ByteArray) : Go.Lib.strCells s = (strI s).map (Value.int .u8) := by simp [Go.Lib.strCells, strI, List.map_map]
end Go.Proofs.YtgahbpfmiibpeaaGreatDoor
/- The bytes of an object (package obj): contracts. -/
namespace Go.Proofs.YtgahbpfmiibpeaaGreatDoor
open Go.RowKit
theorem run_append_zero (t ty e : TypeId) (i : TypeInfo) (ht : Tryz.prog.underlying t = some (.slice e)) (hi : Tryz.prog.info? e = some i) (b p : Option Addr) (n cap c : Nat) (hn : n ≤ cap) (w : World) :
    (Builtin.append_ #[t, t] ty #[.slice b n cap, .slice p 0 c]).run Tryz.prog w = .ok (.slice b n cap) w := by
  have hf : (Builtin.firstCells i.size 0 (.slice p 0 c)).run Tryz.prog w = .ok #[] w := by
    cases p with
    | none => exact run_firstCells_none w i.size 0 0 c
    | some a => simpa using run_firstCells_some w i.size 0 a 0 c [] (by simp) (by simp)
  cases b with
  | none => simp [Builtin.append_, run_underlying ht, sizeOf, typeInfo, hi, Builtin.lenOf, hn, hf]
  | some a => simp [Builtin.append_, run_underlying ht, sizeOf, typeInfo, hi, Builtin.lenOf, hn, hf, storeCells]
/-- bytes behind bytes -/
theorem wpList_append_by {ops : Array Oper} {rest : List Oper} {o : Oper} {a : Act} {w : World} {Q : Exit → Act → World → Prop} (hgd : o.guard = none) (s x : Operand)
    (ho : o.op = .call { callee := .builtin .append, args := #[s, x], argTypes := #[23, 23] }) {B : Nat} {v lv : Value} {bs xs : List Int} (hs : a.eval s = v) (hb : By B w v bs) (hx : a.eval x = lv) (hl : SlAt w .u8 lv xs) (hn : bs.length + xs.length ≤ 1099511627776)
    (h : ∀ v' w', By B w' v' (bs ++ xs) → Below B w w' → wpList Tryz.prog ops Q rest (a.put o.dst v') w') : wpList Tryz.prog ops Q (o :: rest) a w := by
  obtain ⟨i, hi, hz0, hz1, hz2⟩ := info_byte
  have zero : ∀ p c, lv = .slice p 0 c → xs = [] → wpList Tryz.prog ops Q (o :: rest) a w := by
    intro p c hv hxs
    subst hxs
    rw [List.append_nil] at h
    have hv2 : ∃ b n cap, v = .slice b n cap ∧ n ≤ cap := by
      rcases hb.own.2 with ⟨rfl, _⟩ | ⟨g, cap, cur, rfl, _, _, hc, _⟩
      · exact ⟨none, 0, 0, rfl, Nat.le_refl _⟩
      · exact ⟨_, _, _, rfl, hc⟩
    obtain ⟨b, n, cap, hv2, hc⟩ := hv2
    have hr := run_append_zero 23 o.type 5 i Tryz.underlying23 hi b p n cap c hc w
    refine wpList_plain hgd fun K hK => ?_
    unfold Oper.wp execOp
    simp only [ho, resolve, invoke, builtin, Sem.run_bind, Sem.run_pure, Result.andThen_ok, List.map_toArray, List.map_cons, List.map_nil, hs, hx, hv, hv2, hr]
    exact hK _ _ (by rw [← hv2]; exact h v w hb (Below.refl _ _))
  rcases hl with ⟨⟨p, c, hv⟩, hxs⟩ | ⟨b, ob, c, hv, hlt, hc⟩
  · exact zero p c hv hxs
  · refine wpList_append_own _ hgd s x 23 ho B 5 i _ 1 1 Tryz.underlying23 hi hz0 hz1 hz2 rfl (by decide) v bs.length _ hs hb.own ⟨b, ob, none⟩ xs.length c (xs.map (Value.int .u8)) (by rw [hx, hv]) (by simp) (fun j u hu => ?_) (fun u hu => ?_) (by unfold maxLen; omega) (by omega) hb.le ?_
    · rw [List.getElem?_map, Option.map_eq_some_iff] at hu
      obtain ⟨z, hz, rfl⟩ := hu
      rw [Addr.add_mid]
      exact hc j z hz
    · obtain ⟨z, _, rfl⟩ := List.mem_map.1 hu
      rfl
    · intro v' w' hown hgrow _
      refine h v' w' ⟨?_, Nat.le_trans hb.le hgrow.size⟩ (hb.below_of hgrow)
      rw [List.length_append, List.map_append]
      exact hown
theorem run_at_neq_nil (B : Nat) (w : World) : (binOp .neq 35 (atV B) .nilIface).run Tryz.prog w = .ok (.bool true) w := by
  have h : ∀ d : Nat, (Op.equalIn (d + 1) 35 (atV B) .nilIface).run Tryz.prog w = .ok false w := fun d => by simp [Op.equalIn, run_underlying Tryz.underlying35]
  simp only [binOp]
  simp [Op.equal, Op.maxDepth, h 9999]
theorem flt_is {A : Nat → Addr} {w : World} {v : Value} {y : Fl} (h : FltAt A w v y) (hy : y ≠ none) : ∃ t p, v = .iface t p ∧ ∀ W, (binOp .neq 35 (.iface t p) .nilIface).run Tryz.prog W = .ok (.bool true) W := by
  match y, h with
  | none, _ => exact absurd rfl hy
  | some (c, none), h => exact ⟨_, _, h, fun W => run_err_neq_nil (A c) W⟩
  | some (c, some p), ⟨B, hv, _⟩ => exact ⟨_, _, hv, fun W => run_at_neq_nil B W⟩
def NoBytes (A : Nat → Addr) (w : World) (y : Fl) (e : Ending) (w' : World) : Prop := ∃ fv, e = .returned (.tuple #[.slice none 0 0, fv]) ∧ FltAt A w' fv y ∧ w.grownBy w' none
def YesBytes (w : World) (bs : List Int) (e : Ending) (w' : World) : Prop := ∃ v, e = .returned (.tuple #[v, .nilIface]) ∧ By w.heap.size w' v bs ∧ w.grownBy w' none
section
variable {w : World} {V : OV} {x : PO} {A : Nat → Addr}
/-- the object's box, seen from B on -/
structure BB (w0 : World) (B G : Nat) (V : OV) (x : PO) (w : World) : Prop where
  box : RwAt w G 27 V.cells
  o : OAt w V x
  below : Below w0.heap.size w0 w
theorem BB.go {w0 w1 : World} {B G : Nat} (h : BB w0 B G V x w) (ho : OAt w0 V x) (hG : G < B) (hw : w0.heap.size ≤ B) (hb : Below B w w1) : BB w0 B G V x w1 :=
  have hb2 : Below w0.heap.size w0 w1 := h.below.trans (hb.mono hw)
  ⟨⟨(hb.block _ hG).trans h.box.blk⟩, ho.kept0 (below_is_grown hb2), hb2⟩
end
end Go.Proofs.YtgahbpfmiibpeaaGreatDoor
/- The bytes of an object that may be; of an empty one (package obj): contracts. -/
namespace Go.Proofs.YtgahbpfmiibpeaaGreatDoor
open Go.RowKit
/-- on the way: the object's box G, its sizes S, bytes of the call's own, all above w4 -/
structure BW (w4 : World) (G S : Nat) (V : OV) (x : PO) (bs : List Int) (v : Value) (w : World) : Prop where
  box4 : RwAt w4 G 27 V.cells
  sz4 : RwAt w4 S 134 #[.int .i64 x.D.length, .int .i64 x.C.length, .int .i64 x.R.length, .int .i64 x.Q.length, .int .i64 x.S.length]
  o4 : OAt w4 V x
  by_ : By w4.heap.size w v bs
  below : Below w4.heap.size w4 w
section
variable {w4 w w1 : World} {G S : Nat} {V : OV} {x : PO} {bs bs1 : List Int} {v v1 : Value}
theorem BW.go (h : BW w4 G S V x bs v w) (hb : Below w4.heap.size w w1) (hy : By w4.heap.size w1 v1 bs1) : BW w4 G S V x bs1 v1 w1 := ⟨h.box4, h.sz4, h.o4, hy, h.below.trans hb⟩
theorem BW.box (h : BW w4 G S V x bs v w) : RwAt w G 27 V.cells := ⟨(h.below.block _ h.box4.lt).trans h.box4.blk⟩
theorem BW.sz (h : BW w4 G S V x bs v w) : SlAt w .i64 (.slice (some ⟨S, 0, none⟩) 5 5) (lensI x) :=
  SlAt.below (B := w4.heap.size) (SlAt.whole (b := S) (c := 5) (k := .i64) (xs := lensI x) (t := 134) (by exact h.sz4.blk)) (Nat.le_refl _) h.below
theorem els_of {B : Nat} {k : IntKind} {lv : Value} {xs : List Int} (h : SlAt w4 k lv xs) (hB : w4.heap.size ≤ B) (hy : By B w v bs) : Else lv v := by
  rcases h with ⟨h, _⟩ | ⟨b, o, c, rfl, hlt, _⟩
  · exact .inl h
  · refine .inr fun g hg e => ?_
    obtain rfl : b = g := by simpa [Value.ownBlock] using hg
    have := (hy.own.lt b e).1
    omega
theorem BW.els (h : BW w4 G S V x bs v w) {k : IntKind} {lv : Value} {xs : List Int} (hl : SlAt w4 k lv xs) : Else lv v := els_of hl (Nat.le_refl _) h.by_
theorem BW.elsz (h : BW w4 G S V x bs v w) : Else (.slice (some ⟨S, 0, none⟩) 5 5) v := h.els (SlAt.whole (b := S) (c := 5) (k := .i64) (xs := lensI x) (t := 134) (by exact h.sz4.blk))
theorem BW.sl (h : BW w4 G S V x bs v w) {k : IntKind} {lv : Value} {xs : List Int} (hl : SlAt w4 k lv xs) : SlAt w k lv xs := SlAt.below hl (Nat.le_refl _) h.below
end
theorem part_len {x : PO} (h : OkP x) : (lensI x).length = 5 ∧ (wsB (lensI x)).length = 20 ∧ (wsB x.D).length = 4 * x.D.length ∧ (wsB x.C).length = 4 * x.C.length ∧ (rlsB x.R).length = 16 * x.R.length ∧ (rlsB x.Q).length = 16 * x.Q.length ∧
    x.D.length ≤ 2048 ∧ x.C.length ≤ 2048 ∧ x.M.length ≤ 2048 ∧ x.R.length ≤ 1024 ∧ x.Q.length ≤ 1024 ∧ x.S.length ≤ 256 := by
  have := many_of h
  refine ⟨rfl, by rw [wsB_length]; rfl, wsB_length _, wsB_length _, rlsB_length _, rlsB_length _, ?_⟩
  have := h.len
  omega
/-! ### an empty object -/
def po0 : PO := ⟨[], [], [], [], [], []⟩
def ov0 : OV := ⟨.slice none 0 0, .slice none 0 0, .slice none 0 0, .slice none 0 0, .slice none 0 0, .slice none 0 0⟩
theorem oat0 (w : World) : OAt w ov0 po0 := ⟨.inl ⟨⟨_, _, rfl⟩, rfl⟩, .inl ⟨⟨_, _, rfl⟩, rfl⟩, .inl ⟨⟨_, _, rfl⟩, rfl⟩, .inl ⟨⟨_, _, rfl⟩, rfl, rfl⟩, .inl ⟨⟨_, _, rfl⟩, rfl, rfl⟩, .inl ⟨⟨_, _, rfl⟩, rfl, rfl⟩⟩
theorem ofit0 : OFit po0 := ⟨by simp [po0], by simp [po0], by simp [po0], by simp [po0]⟩
theorem valid0 : validP po0 = none := by decide
theorem bytes0 : (bytesP po0).length = 24 := by decide
end Go.Proofs.YtgahbpfmiibpeaaGreatDoor

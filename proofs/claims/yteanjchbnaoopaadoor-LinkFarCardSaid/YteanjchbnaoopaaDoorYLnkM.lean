/- Package link in a world: maps from names to spots, lists of structs, the joined objects. -/
import Derived.Test.YteanjchbnaoopaaDoorYObj13
import Derived.MapKept
import Derived.Carry
import Derived.Test.YteanjchbnaoopaaDoorYRewP
import Derived.Laws.BitsAllLaws
import Derived.Test.YteanjchbnaoopaaDoorYIsaP
import Derived.Lib.AppendStr
import Derived.Test.YteanjchbnaoopaaDoorYObj2
import Derived.BigQuiet
import Derived.Deep.QuietTactic
import Derived.Laws.StructEq
import Derived.Deep.Slices
import Derived.ChangeArms
import Derived.Deep.Cut
import Derived.Deep.CutRange
import Derived.Deep.CutBlock
import Derived.Handy
import Derived.Deep.AppendLies
import Derived.Laws.BytesArg
import Derived.Laws.Rows
import Derived.Deep.RegionHeld3
import Derived.Laws.MakeOwn
import Derived.StillTailTactics
namespace Go.Proofs.YteanjchbnaoopaaDoor
open Go.RowKit
/-! ### lists of structs as cells -/
def csL {α : Type} (C : α → List Value) : List α → List Value
  | [] => []
  | a :: l => C a ++ csL C l
section
variable {α : Type} {C : α → List Value} {n : Nat}
theorem csL_append : ∀ l m : List α, csL C (l ++ m) = csL C l ++ csL C m
  | [], _ => rfl
  | s :: r, m => by rw [List.cons_append, csL, csL_append r m, csL, List.append_assoc]
theorem csL_one (a : α) : csL C [a] = C a := by simp [csL]
theorem csL_get (h : ∀ a, (C a).length = n) : ∀ (l : List α) (k j : Nat) (s : α), l[k]? = some s → j < n → (csL C l)[k * n + j]? = (C s)[j]?
  | [], _, _, _, e, _ => by simp at e
  | x :: r, 0, j, s, e, hj => by
    obtain rfl : x = s := by simpa using e
    rw [csL, Nat.zero_mul, Nat.zero_add, List.getElem?_append_left (by rw [h]; exact hj)]
  | x :: r, k + 1, j, s, e, hj => by
    have := csL_get h r k j s (by simpa using e) hj
    have hx := h x
    rw [csL, Nat.succ_mul, List.getElem?_append_right (by omega), ← this]
    congr 1
    omega
theorem csL_oneC (h : ∀ a, ∀ v ∈ C a, v.oneCell' = true) : ∀ l : List α, ∀ v ∈ csL C l, v.oneCell' = true
  | [], v, hv => by simp [csL] at hv
  | a :: l, v, hv => by
    rw [csL, List.mem_append] at hv
    rcases hv with hv | hv
    · exact h a v hv
    · exact csL_oneC h l v hv
end
/-! ### a map from names to spots -/
abbrev sptV (s : Sp) : Value := .agg #[.int .i64 s.i, .int .i64 s.a]
structure MpAt (w : World) (b : Nat) (M : Mp) : Prop where
  ex : ∃ es clock, w.heap[b]? = some (.map es clock) ∧ es.toList.map (fun e => (e.key, e.val)) = M.map (fun p => (Value.string p.1, sptV p.2))
section
variable {w w1 : World} {b : Nat} {M : Mp}
theorem MpAt.lt (h : MpAt w b M) : b < w.heap.size := by
  obtain ⟨es, clock, hb, _⟩ := h.ex
  exact (Array.getElem?_eq_some_iff.1 hb).1
theorem MpAt.kept {r : Option Nat} (h : MpAt w b M) (hg : w.grownBy w1 r) (hr : some b ≠ r) : MpAt w1 b M := by
  have hl := h.lt
  obtain ⟨es, clock, hb, he⟩ := h.ex
  exact ⟨es, clock, (hg.block _ hl hr).trans hb, he⟩
theorem MpAt.kept0 (h : MpAt w b M) (hg : w.grownBy w1 none) : MpAt w1 b M := h.kept hg (by simp)
theorem MpAt.alloc (h : MpAt w b M) (o : Obj) : MpAt (w.alloc o) b M := h.kept0 (World.grownBy_alloc _ _ _)
theorem MpAt.drew (h : MpAt w b M) : MpAt w.drew b M := ⟨h.ex⟩
theorem MpAt.setCell (h : MpAt w b M) {C k : Nat} {v : Value} (hC : b ≠ C) : MpAt (w.setCell ⟨C, k, none⟩ v) b M := by
  obtain ⟨es, clock, hb, he⟩ := h.ex
  exact ⟨es, clock, (heap_setCell_other _ _ _ _ hC).trans hb, he⟩
theorem mp_new (w : World) : MpAt (w.alloc (.map #[] 0)) w.heap.size [] := ⟨#[], 0, heap_alloc_last w _, rfl⟩
theorem lkp_cons (n : ByteArray) (p : ByteArray × Sp) (M : Mp) : lkp (p :: M) n = if p.1 = n then some p.2 else lkp M n := by
  unfold lkp
  by_cases h : p.1 = n
  · rw [List.find?_cons_of_pos (by simpa using h), if_pos h]; rfl
  · rw [List.find?_cons_of_neg (by simpa using h), if_neg h]
theorem findNow_mp (n : ByteArray) : ∀ (l : List MapEntry) (M : Mp) (i : Nat), l.map (fun e => (e.key, e.val)) = M.map (fun p => (Value.string p.1, sptV p.2)) →
    (lkp M n = none ∧ Instr.findNow .string (.string n) l i = some none) ∨ ∃ j s, lkp M n = some s ∧ Instr.findNow .string (.string n) l i = some (some (j, sptV s))
  | [], [], _, _ => .inl ⟨rfl, rfl⟩
  | [], p :: M, _, h => by simp at h
  | e :: l, [], _, h => by simp at h
  | e :: l, p :: M, i, h => by
    simp only [List.map_cons, List.cons.injEq, Prod.mk.injEq] at h
    obtain ⟨⟨hk, hv⟩, hr⟩ := h
    rw [lkp_cons]
    have hs : Instr.sameNow .string (.string n) e.key = some (n == p.1) := by rw [hk]; rfl
    by_cases hn : p.1 = n
    · have hb : (n == p.1) = true := (MapKept.bytes_beq _ _).2 hn.symm
      rw [if_pos hn]
      exact .inr ⟨i, p.2, rfl, by rw [Instr.findNow, hs, hb, hv]⟩
    · have hb : (n == p.1) = false := by
        cases hc : (n == p.1) with
        | false => rfl
        | true => exact absurd ((MapKept.bytes_beq _ _).1 hc).symm hn
      rw [if_neg hn, Instr.findNow, hs, hb]
      exact findNow_mp n l M (i + 1) hr
theorem zero_spot (w : World) : (zeroValue 87).run Tryd.prog w = .ok (.agg #[.int .i64 0, .int .i64 0]) w := by kernel_rfl
theorem lkD_none {n : ByteArray} (h : lkp M n = none) : lkD M n = ⟨0, 0⟩ := by unfold lkD; rw [h]; rfl
theorem lkD_some {n : ByteArray} {s : Sp} (h : lkp M n = some s) : lkD M n = s := by unfold lkD; rw [h]; rfl
theorem MpAt.look (h : MpAt w b M) (n : ByteArray) (c : Bool) : (Instr.lookup 60 (.map (some b)) (.string n) c).run Tryd.prog w = .ok (if c then .tuple #[sptV (lkD M n), .bool (lkp M n).isSome] else sptV (lkD M n)) w := by
  obtain ⟨es, clock, hb, he⟩ := h.ex
  have hc := @MapKept.run_checkKey Tryd.prog w 9 .string (.string n) Tryd.underlying9 trivial es.isEmpty 9999
  rcases findNow_mp n es.toList M 0 he with ⟨h1, h2⟩ | ⟨j, s, h1, h2⟩
  · have hf := MapKept.run_findKey (P := Tryd.prog) (w := w) Tryd.underlying9 h2
    rw [lkD_none h1, h1]
    simp [Instr.lookup, run_underlying Tryd.underlying60, MapKept.run_getObj_map hb, hc, hf, Result.andThen]
  · have hf := MapKept.run_findKey (P := Tryd.prog) (w := w) Tryd.underlying9 h2
    rw [lkD_some h1, h1]
    simp [Instr.lookup, run_underlying Tryd.underlying60, MapKept.run_getObj_map hb, hc, hf, Result.andThen]
theorem MpAt.look_ok (h : MpAt w b M) (n : ByteArray) {s : Sp} {t : Bool} (hs : lkD M n = s) (ht : (lkp M n).isSome = t) : (Instr.lookup 60 (.map (some b)) (.string n) true).run Tryd.prog w = .ok (.tuple #[sptV s, .bool t]) w := by
  rw [h.look n true, hs, ht]; rfl
theorem MpAt.look_of (h : MpAt w b M) (n : ByteArray) {s : Sp} (hs : lkD M n = s) : (Instr.lookup 60 (.map (some b)) (.string n) false).run Tryd.prog w = .ok (sptV s) w := by
  rw [h.look n false, hs]; rfl
theorem MpAt.put (h : MpAt w b M) {n : ByteArray} (hn : lkp M n = none) (s : Sp) :
    ∃ w', (Instr.mapUpdate 60 (.map (some b)) (.string n) (sptV s)).run Tryd.prog w = .ok () w' ∧ MpAt w' b (M ++ [(n, s)]) ∧ w.grownBy w' (some b) := by
  obtain ⟨es, clock, hb, he⟩ := h.ex
  have hc := @MapKept.run_checkKey Tryd.prog w 9 .string (.string n) Tryd.underlying9 trivial false 9999
  rcases findNow_mp n es.toList M 0 he with ⟨h1, h2⟩ | ⟨j, s, h1, h2⟩
  · have hf := MapKept.run_findKey (P := Tryd.prog) (w := w) Tryd.underlying9 h2
    have hs := MapKept.heap_set (o' := .map (es.push { key := .string n, val := sptV s, born := clock }) (clock + 1)) hb
    refine ⟨{ w with heap := w.heap.setIfInBounds b (.map (es.push { key := .string n, val := sptV s, born := clock }) (clock + 1)) }, ?_, ⟨_, _, hs.1, ?_⟩, ⟨rfl, rfl, rfl, by simp, fun i _ hi => hs.2 i (fun e => hi (by rw [e]))⟩⟩
    · simp [Instr.mapUpdate, run_underlying Tryd.underlying60, MapKept.run_getObj_map hb, hc, hf, MapKept.run_setObj_map _ hb, Result.andThen]
    · rw [Array.toList_push, List.map_append, he, List.map_append]; rfl
  · rw [h1] at hn; cases hn
end
theorem mp_make (w : World) : (Instr.makeMap 60 none).run Tryd.prog w = .ok (.map (some w.heap.size)) (w.alloc (.map #[] 0)) := rfl
/-! ### parts -/
structure Pv where
  V : OV
  p : Pt
def ptC (q : Pv) : List Value := [q.V.d, q.V.c, q.V.m, q.V.r, q.V.q, q.V.s, .int .i64 q.p.d, .int .i64 q.p.c]
theorem ptC_length (q : Pv) : (ptC q).length = 8 := rfl
abbrev ptsC (Q : List Pv) : List Value := csL ptC Q
/-- slices are one cell each -/
theorem OAt.cells {w : World} {V : OV} {x : PO} (h : OAt w V x) : ∃ p1 n1 c1 p2 n2 c2 p3 n3 c3 p4 n4 c4 p5 n5 c5 p6 n6 c6, V = ⟨.slice p1 n1 c1, .slice p2 n2 c2, .slice p3 n3 c3, .slice p4 n4 c4, .slice p5 n5 c5, .slice p6 n6 c6⟩ := by
  obtain ⟨d, c, m, r, q, s⟩ := V
  obtain ⟨p1, c1, rfl⟩ := h.d.len'
  obtain ⟨p2, c2, rfl⟩ := h.c.len'
  obtain ⟨p3, c3, rfl⟩ := h.m.len'
  obtain ⟨p4, c4, rfl⟩ := h.r.len
  obtain ⟨p5, c5, rfl⟩ := h.q.len
  obtain ⟨p6, c6, rfl⟩ := h.s.len
  exact ⟨_, _, _, _, _, _, _, _, _, _, _, _, _, _, _, _, _, _, rfl⟩
/-- what is joined so far: its struct, its map, its parts -/
structure JnAt (b0 : Nat) (w : World) (G B : Nat) (pv : Value) (Q : List Pv) (J : Jn) : Prop where
  row : RwAt w G 79 #[pv, .int .i64 J.d, .int .i64 J.c, .map (some B)]
  ps : w.ownsRow b0 103 8 pv Q.length (ptsC Q)
  mp : MpAt w B J.M
  eq : Q.map (·.p) = J.ps
  neB : G ≠ B
  nvG : pv.ownBlock ≠ some G
  nvB : pv.ownBlock ≠ some B
  geG : b0 ≤ G
  geB : b0 ≤ B
theorem JnAt.kept0 {b0 : Nat} {w w1 : World} {G B : Nat} {pv : Value} {Q : List Pv} {J : Jn} (h : JnAt b0 w G B pv Q J) (hg : w.grownBy w1 none) : JnAt b0 w1 G B pv Q J :=
  ⟨h.row.kept0 hg, h.ps.kept hg (by cases pv.ownBlock <;> simp), h.mp.kept0 hg, h.eq, h.neB, h.nvG, h.nvB, h.geG, h.geB⟩
/-- its struct and its map alone -/
structure MrAt (w : World) (G B : Nat) (pv : Value) (d c : Int) (M : Mp) : Prop where
  row : RwAt w G 79 #[pv, .int .i64 d, .int .i64 c, .map (some B)]
  mp : MpAt w B M
theorem MrAt.kept0 {w w1 : World} {G B : Nat} {pv : Value} {d c : Int} {M : Mp} (h : MrAt w G B pv d c M) (hg : w.grownBy w1 none) : MrAt w1 G B pv d c M := ⟨h.row.kept0 hg, h.mp.kept0 hg⟩
theorem JnAt.mr {b0 : Nat} {w : World} {G B : Nat} {pv : Value} {Q : List Pv} {J : Jn} (h : JnAt b0 w G B pv Q J) : MrAt w G B pv J.d J.c J.M := ⟨h.row, h.mp⟩
/-! ### what is wrong with objects -/
def LftAt (A : Nat → Addr) (w : World) (v : Value) : Lf → Prop
  | none => v = .nilIface
  | some (c, none, p) => FltAt A w v (some (c, p))
  | some (c, some k, p) => ∃ B u, v = atV B ∧ RwAt w B 99 #[.int .i64 k, u] ∧ FltAt A w u (some (c, p))
theorem LftAt.kept0 {A : Nat → Addr} {w w1 : World} {v : Value} {y : Lf} (h : LftAt A w v y) (hg : w.grownBy w1 none) : LftAt A w1 v y := by
  match y, h with
  | none, h => exact h
  | some (c, none, p), h => exact FltAt.kept0 (y := some (c, p)) h hg
  | some (c, some k, p), ⟨B, u, hv, hb, hf⟩ => exact ⟨B, u, hv, hb.kept0 hg, FltAt.kept0 (y := some (c, p)) hf hg⟩
theorem info_joined : (Tryd.prog.info? 79).map (·.size) = some 4 := by kernel_rfl
theorem info_part : (Tryd.prog.info? 103).map (·.size) = some 8 := by kernel_rfl
theorem info_spot : (Tryd.prog.info? 87).map (·.size) = some 2 := by kernel_rfl
end Go.Proofs.YteanjchbnaoopaaDoor
namespace Go.Proofs.YteanjchbnaoopaaDoor
theorem nat_andM (n : Nat) (h : n < 4294967296) : n &&& 2147483648 = if n < 2147483648 then 0 else 2147483648 := by
  apply Nat.eq_of_testBit_eq
  intro i
  rw [show 2147483648 = 2 ^ 31 from rfl, Nat.testBit_and, Nat.testBit_two_pow]
  split
  · rename_i h2
    by_cases e : 31 = i
    · subst e
      rw [Nat.testBit_lt_two_pow h2]; simp
    · simp [e]
  · rename_i h2
    rw [Nat.testBit_two_pow]
    by_cases e : 31 = i
    · subst e
      obtain ⟨z, rfl⟩ : ∃ z, n = 2 ^ 31 + z := ⟨n - 2 ^ 31, by omega⟩
      rw [Nat.testBit_two_pow_add_eq, Nat.testBit_lt_two_pow (by omega)]; rfl
    · simp [e]
theorem andM {y : Int} (h0 : 0 ≤ y) (h1 : y < 4294967296) : bits BinOp.and IntKind.u32 y 2147483648 = if y < 2147483648 then 0 else 2147483648 := by
  obtain ⟨n, rfl⟩ := Int.eq_ofNat_of_zero_le h0
  rw [show (2147483648 : Int) = ((2147483648 : Nat) : Int) from rfl, u32_and_nat n 2147483648 (by omega) (by omega), nat_andM n (by omega)]
  by_cases h : n < 2147483648
  · rw [if_pos h, if_pos (by omega)]; rfl
  · rw [if_neg h, if_neg (by omega)]
theorem low_and_not (z : Nat) (h : z < 2147483648) : (BitVec.ofNat 32 (2147483648 + z) &&& ~~~(BitVec.ofNat 32 2147483648)).toNat = z := by
  rw [BitVec.toNat_and, BitVec.toNat_not, BitVec.toNat_ofNat, BitVec.toNat_ofNat, show 2 ^ 32 - 1 - 2147483648 % 2 ^ 32 = 2 ^ 31 - 1 by decide, Nat.and_two_pow_sub_one_eq_mod]
  omega
theorem andnotM {y : Int} (h0 : 2147483648 ≤ y) (h1 : y < 4294967296) : bits BinOp.andNot IntKind.u32 y 2147483648 = y - 2147483648 := by
  obtain ⟨z, rfl⟩ : ∃ z : Nat, y = ((2147483648 + z : Nat) : Int) := ⟨(y - 2147483648).toNat, by omega⟩
  show IntKind.u32.wrap ((BitVec.ofInt 32 ((2147483648 + z : Nat) : Int) &&& ~~~BitVec.ofInt 32 ((2147483648 : Nat) : Int)).toNat : Int) = _
  rw [BitVec.ofInt_natCast, BitVec.ofInt_natCast, low_and_not z (by omega)]
  have e : (z : Int) % 2 ^ 32 = z := Int.emod_eq_of_lt (by omega) (by omega)
  simp only [IntKind.wrap, IntKind.bits, IntKind.signed, e]
  simp
  omega
end Go.Proofs.YteanjchbnaoopaaDoor
namespace Go.Proofs.YteanjchbnaoopaaDoor
open Go.RowKit
/-- a line of an instruction -/
def lnC (op a : Int) : Array Value := #[.int .i64 op, .int .i64 a, .int .i64 0, .int .i64 0, .int .u32 0, .string ByteArray.empty, .string ByteArray.empty, .bool false]
theorem zero_line (w : World) : (zeroValue 43).run Tryd.prog w = .ok (.agg (lnC 0 0)) w := by kernel_rfl
theorem build_line (op : Int) (w : World) : (Instr.build 43 #[(0, .agg (inC op 0 0 0 0))]).run Tryd.prog w = .ok (.agg (lnC op 0)) w := by kernel_rfl
theorem build_op (op : Int) (w : World) : (Instr.build 36 #[(0, .int .i64 op)]).run Tryd.prog w = .ok (.agg (inC op 0 0 0 0)) w := by kernel_rfl
theorem line_one (op a : Int) : (lnC op a).all (·.oneCell') = true := by simp [lnC, Value.oneCell']
section
variable {ops : Array Oper} {rest : List Oper} {o : Oper} {A : Act} {w : World} {Q : Exit → Act → World → Prop}
theorem wpList_build_op (hgd : o.guard = none) (x : Operand) (ho : o.op = .build 36 #[(0, x)]) {op : Int} (hx : A.eval x = .int .i64 op) (h : wpList Tryd.prog ops Q rest (A.put o.dst (.agg (inC op 0 0 0 0))) w) : wpList Tryd.prog ops Q (o :: rest) A w := by
  refine wpList_plain hgd fun K hK => ?_
  unfold Oper.wp
  simp [execOp, ho, hx, build_op op w, Result.andThen]
  exact hK _ _ h
theorem wpList_build_line (hgd : o.guard = none) (x : Operand) (ho : o.op = .build 43 #[(0, x)]) {op : Int} (hx : A.eval x = .agg (inC op 0 0 0 0)) (h : wpList Tryd.prog ops Q rest (A.put o.dst (.agg (lnC op 0))) w) : wpList Tryd.prog ops Q (o :: rest) A w := by
  refine wpList_plain hgd fun K hK => ?_
  unfold Oper.wp
  simp [execOp, ho, hx, build_line op w, Result.andThen]
  exact hK _ _ h
end
theorem RwAt.sA {w : World} {B : Nat} {t : TypeId} {op a : Int} (h : RwAt w B t (lnC op a)) (v : Int) : RwAt (w.setCell ⟨B, 1, none⟩ (.int .i64 v)) B t (lnC op v) := h.set 1 _
set_option maxRecDepth 100000 in
set_option maxHeartbeats 1000000 in
theorem op_nil (op : Int) (W : World) : Calls Tryd.prog 14 #[.int .i64 op, .slice none 0 0] W fun e w' => e = .returned (.agg (lnC op 0)) ∧ W.grownBy w' none := by
  have Hz := zero_line
  obtain ⟨b1, b2, e1, e2⟩ : ∃ b1 b2, b1 = W.heap.size ∧ b2 = b1 + 1 := ⟨_, _, rfl, rfl⟩
  have hg : W.grownBy (((W.alloc (.cells (lnC 0 0) 43)).alloc (.cells (lnC 0 0) 43)).setRow (W.heap.size + 1) (lnC op 0)) none := grown_setRow (grown_alloc (grown_alloc (grown_refl _ _) _) _) (Nat.le_succ _) _
  have H1 : Hid (RwAt (((W.alloc (.cells (lnC 0 0) 43)).alloc (.cells (lnC 0 0) 43)).setRow (W.heap.size + 1) (lnC op 0)) W.heap.size 43 (lnC 0 0)) := hid (((RwAt.new W _ _).alloc _).rowOther _ _ (by omega))
  have H2 : Hid (RwAt (((W.alloc (.cells (lnC 0 0) 43)).alloc (.cells (lnC 0 0) 43)).setRow (W.heap.size + 1) (lnC op 0)) (W.heap.size + 1) 43 (lnC op 0)) := hid ((RwAt.new2 W _ _ _).row _)
  have HG := hid hg
  clear hg
  go_enter Tryd.func14, Tryd.ntmps14
  go_upto_region 2 with (first
    | (refine wpList_build_op rfl _ rfl rfl ?_)
    | (refine wpList_build_line rfl _ rfl rfl ?_)
    | (refine wpList_store_rw rfl 43 _ _ rfl rfl rfl (RwAt.new2 _ _ _ _) (by kernel_rfl) rfl (line_one _ _) ?_)
    | fail)
  generalize (((W.alloc (.cells (lnC 0 0) 43)).alloc (.cells (lnC 0 0) 43)).setRow (W.heap.size + 1) (lnC op 0)) = w2 at H1 H2 HG ⊢
  have HB : Hid (W.heap.size ≤ b1) := hid (Nat.le_of_eq e1.symm)
  rw [← e1, ← e2] at H2
  rw [← e1] at H1
  rw [← e1, ← e2]
  clear e1 e2
  have E1 := hid (H1.out.row (lnC op 0))
  have EG := hid (grown_setRow HG.out HB.out (lnC op 0))
  go_wp2_with (first
    | (refine wpList_load_rw rfl 43 _ rfl rfl H2.out rfl Tryd.underlying43 (by kernel_rfl) ?_)
    | (refine wpList_store_rw rfl 43 _ _ rfl rfl rfl H1.out (by kernel_rfl) rfl (line_one _ _) ?_)
    | fail)
  refine bodyPost_ret (results_cell_row Tryd.results14 _ _ b1 _ _ _ _ rfl E1.out.blk Tryd.underlying43 rfl (by kernel_rfl)) rfl ?_
  exact ⟨rfl, EG.out⟩
set_option maxRecDepth 100000 in
set_option maxHeartbeats 1000000 in
theorem op_one (op a : Int) (g : Nat) (W : World) (hc : W.cell? ⟨g, 0, none⟩ = some (.int .i64 a)) (hgW : g < W.heap.size) : Calls Tryd.prog 14 #[.int .i64 op, .slice (some ⟨g, 0, none⟩) 1 1] W fun e w' => e = .returned (.agg (lnC op a)) ∧ W.grownBy w' none := by
  have Hz := zero_line
  obtain ⟨b1, b2, e1, e2⟩ : ∃ b1 b2, b1 = W.heap.size ∧ b2 = b1 + 1 := ⟨_, _, rfl, rfl⟩
  have hg : W.grownBy (((W.alloc (.cells (lnC 0 0) 43)).alloc (.cells (lnC 0 0) 43)).setRow (W.heap.size + 1) (lnC op 0)) none := grown_setRow (grown_alloc (grown_alloc (grown_refl _ _) _) _) (Nat.le_succ _) _
  have H1 : Hid (RwAt (((W.alloc (.cells (lnC 0 0) 43)).alloc (.cells (lnC 0 0) 43)).setRow (W.heap.size + 1) (lnC op 0)) W.heap.size 43 (lnC 0 0)) := hid (((RwAt.new W _ _).alloc _).rowOther _ _ (by omega))
  have H2 : Hid (RwAt (((W.alloc (.cells (lnC 0 0) 43)).alloc (.cells (lnC 0 0) 43)).setRow (W.heap.size + 1) (lnC op 0)) (W.heap.size + 1) 43 (lnC op 0)) := hid ((RwAt.new2 W _ _ _).row _)
  have HG := hid hg
  have HC := hid hc
  have HW := hid hgW
  clear hg hc hgW
  go_enter Tryd.func14, Tryd.ntmps14
  go_upto_region 2 with (first
    | (refine wpList_build_op rfl _ rfl rfl ?_)
    | (refine wpList_build_line rfl _ rfl rfl ?_)
    | (refine wpList_store_rw rfl 43 _ _ rfl rfl rfl (RwAt.new2 _ _ _ _) (by kernel_rfl) rfl (line_one _ _) ?_)
    | fail)
  generalize (((W.alloc (.cells (lnC 0 0) 43)).alloc (.cells (lnC 0 0) 43)).setRow (W.heap.size + 1) (lnC op 0)) = w2 at H1 H2 HG ⊢
  have HB : Hid (W.heap.size ≤ b1) := hid (Nat.le_of_eq e1.symm)
  have NE : Hid (b1 ≠ b2) := hid (by omega)
  have HB2 : Hid (W.heap.size ≤ b2) := hid (by omega)
  rw [← e1, ← e2] at H2
  rw [← e1] at H1
  rw [← e1, ← e2]
  clear e1 e2
  have kc := (grown_cell (p := ⟨g, 0, none⟩) HG.out HW.out (by simp)).trans HC.out
  have k1 : w2.cell? ⟨b2, 1, none⟩ = some (.int .i64 0) := H2.out.cell 1 rfl
  have kf := fun j => H2.out.free j
  have H3 := hid (H2.out.sA a)
  have H4 := hid (H1.out.other b2 1 (.int .i64 a) NE.out)
  have HG4 := hid (grown_setN HG.out HB2.out 1 (.int .i64 a))
  go_upto_region 4 with (fail)
  clear kc k1 kf H1 H2 HG
  generalize w2.setCell ⟨b2, 1, none⟩ (.int .i64 a) = w3 at H3 H4 HG4 ⊢
  have E1 := hid (H4.out.row (lnC op a))
  have EG := hid (grown_setRow HG4.out HB.out (lnC op a))
  go_wp2_with (first
    | (refine wpList_load_rw rfl 43 _ rfl rfl H3.out rfl Tryd.underlying43 (by kernel_rfl) ?_)
    | (refine wpList_store_rw rfl 43 _ _ rfl rfl rfl H4.out (by kernel_rfl) rfl (line_one _ _) ?_)
    | fail)
  refine bodyPost_ret (results_cell_row Tryd.results14 _ _ b1 _ _ _ _ rfl E1.out.blk Tryd.underlying43 rfl (by kernel_rfl)) rfl ?_
  exact ⟨rfl, EG.out⟩
end Go.Proofs.YteanjchbnaoopaaDoor
namespace Go.Proofs.YteanjchbnaoopaaDoor
open Go.RowKit
/-- bytes of a call's own, at B and above -/
structure By (B : Nat) (w : World) (v : Value) (bs : List Int) : Prop where
  own : w.ownsRow B 5 1 v bs.length (bs.map (Value.int .u8))
  le : B ≤ w.heap.size
/-- only its own block was written, or new ones -/
structure Gw (w : World) (v : Value) (w1 : World) (v1 : Value) : Prop where
  grow : w.grownBy w1 v.ownBlock
  mine : Mine w v v1
theorem Gw.refl (w : World) (v : Value) : Gw w v w v := ⟨grown_refl _ _, .inl rfl⟩
theorem Gw.trans {w w1 w2 : World} {v v1 v2 : Value} (h : Gw w v w1 v1) (k : Gw w1 v1 w2 v2) : Gw w v w2 v2 := by
  have hg := h.grow
  have kg := k.grow
  refine ⟨⟨kg.os.trans hg.os, kg.tape.trans hg.tape, kg.output.trans hg.output, Nat.le_trans hg.size kg.size, fun i hi hr => ?_⟩, ?_⟩
  · refine (kg.block i (Nat.lt_of_lt_of_le hi hg.size) (fun e => ?_)).trans (hg.block i hi hr)
    rcases h.mine with m | m
    · exact hr (e.trans m)
    · have := m i e.symm; omega
  · rcases k.mine with m | m
    · rcases h.mine with m' | m'
      · exact .inl (m.trans m')
      · exact .inr (fun g hg' => m' g (m.symm.trans hg'))
    · exact .inr (fun g hg' => Nat.le_trans hg.size (m g hg'))
theorem By.below_of {B : Nat} {w w1 : World} {v : Value} {bs : List Int} (h : By B w v bs) (hg : w.grownBy w1 v.ownBlock) : Below B w w1 := by
  refine ⟨hg.os, hg.tape, hg.output, hg.size, fun k hk => hg.block k (Nat.lt_of_lt_of_le hk h.le) (fun e => ?_)⟩
  have := (h.own.lt k e.symm).1
  omega
theorem By.kept0 {B : Nat} {w w1 : World} {v : Value} {bs : List Int} (h : By B w v bs) (hg : w.grownBy w1 none) : By B w1 v bs := ⟨h.own.kept hg (by cases v.ownBlock <;> simp), Nat.le_trans h.le hg.size⟩
theorem By.nil (B : Nat) (w : World) (h : B ≤ w.heap.size) : By B w (.slice none 0 0) [] := ⟨World.ownsRow_nil _ _ _ _, h⟩
/-- the slice that is walked lies elsewhere -/
def Else (lv v : Value) : Prop := (∃ p c, lv = .slice p 0 c) ∨ ∀ g, lv.ownBlock = some g → v.ownBlock ≠ some g
theorem Else.of {p : Option Addr} {n c : Nat} {v : Value} (h : Else (.slice p n c) v) (hn : 0 < n) : ∀ g, (Value.slice p n c).ownBlock = some g → v.ownBlock ≠ some g := by
  rcases h with ⟨q, d, h⟩ | h
  · simp only [Value.slice.injEq] at h; omega
  · exact h
end Go.Proofs.YteanjchbnaoopaaDoor
namespace Go.Proofs.YteanjchbnaoopaaDoor
open Go.RowKit
theorem CsAt.below {B : Nat} {w0 w : World} {v : Value} {n : Nat} {cs : List Value} (h : CsAt w0 v n cs) (hB : w0.heap.size ≤ B) (hb : Below B w0 w) : CsAt w v n cs := by
  rcases h with h | ⟨b, o, c, rfl, hn, hlt, hc⟩
  · exact .inl h
  · exact .inr ⟨b, o, c, rfl, hn, Nat.lt_of_lt_of_le hlt hb.size, fun j u hu => (hb.cell (Nat.lt_of_lt_of_le hlt hB)).trans (hc j u hu)⟩
theorem SlAt.below {B : Nat} {w0 w : World} {v : Value} {k : IntKind} {xs : List Int} (h : SlAt w0 k v xs) (hB : w0.heap.size ≤ B) (hb : Below B w0 w) : SlAt w k v xs := by
  rcases h with h | ⟨b, o, c, rfl, hlt, hc⟩
  · exact .inl h
  · exact .inr ⟨b, o, c, rfl, Nat.lt_of_lt_of_le hlt hb.size, fun j u hu => (hb.cell (Nat.lt_of_lt_of_le hlt hB)).trans (hc j u hu)⟩
theorem Gw.below {B : Nat} {w w1 : World} {v v1 : Value} {bs : List Int} (h : Gw w v w1 v1) (hb : By B w v bs) : Below B w w1 := hb.below_of h.grow
theorem By.ne {B : Nat} {w : World} {v : Value} {bs : List Int} (h : By B w v bs) {g : Nat} (hg : w.heap.size ≤ g) : v.ownBlock ≠ some g := fun e => by have := (h.own.lt g e).2; omega
end Go.Proofs.YteanjchbnaoopaaDoor
namespace Go.Proofs.YteanjchbnaoopaaDoor
open Go.RowKit
theorem run_at_neq_nil (B : Nat) (w : World) : (binOp .neq 31 (atV B) .nilIface).run Tryd.prog w = .ok (.bool true) w := by
  have h : ∀ d : Nat, (Op.equalIn (d + 1) 31 (atV B) .nilIface).run Tryd.prog w = .ok false w := fun d => by simp [Op.equalIn, run_underlying Tryd.underlying31]
  simp only [binOp]
  simp [Op.equal, Op.maxDepth, h 9999]
section
variable {w : World} {V : OV} {x : PO} {A : Nat → Addr}
end
end Go.Proofs.YteanjchbnaoopaaDoor
namespace Go.Proofs.YteanjchbnaoopaaDoor
open Go.RowKit
/-- on the way: the object's box G, its sizes S, bytes of the call's own, all above w4 -/
structure BW (w4 : World) (G S : Nat) (V : OV) (x : PO) (bs : List Int) (v : Value) (w : World) : Prop where
  box4 : RwAt w4 G 52 V.cells
  sz4 : RwAt w4 S 140 #[.int .i64 x.D.length, .int .i64 x.C.length, .int .i64 x.R.length, .int .i64 x.Q.length, .int .i64 x.S.length]
  o4 : OAt w4 V x
  by_ : By w4.heap.size w v bs
  below : Below w4.heap.size w4 w
section
variable {w4 w w1 : World} {G S : Nat} {V : OV} {x : PO} {bs bs1 : List Int} {v v1 : Value}
theorem BW.box (h : BW w4 G S V x bs v w) : RwAt w G 52 V.cells := ⟨(h.below.block _ h.box4.lt).trans h.box4.blk⟩
theorem BW.sz (h : BW w4 G S V x bs v w) : SlAt w .i64 (.slice (some ⟨S, 0, none⟩) 5 5) (lensI x) :=
  SlAt.below (B := w4.heap.size) (SlAt.whole (b := S) (c := 5) (k := .i64) (xs := lensI x) (t := 140) (by exact h.sz4.blk)) (Nat.le_refl _) h.below
theorem BW.sl (h : BW w4 G S V x bs v w) {k : IntKind} {lv : Value} {xs : List Int} (hl : SlAt w4 k lv xs) : SlAt w k lv xs := SlAt.below hl (Nat.le_refl _) h.below
end
/-! ### an empty object -/
end Go.Proofs.YteanjchbnaoopaaDoor
namespace Go.Proofs.YteanjchbnaoopaaDoor
open Go.RowKit
structure LightP (x : PO) (n : Int) : Prop where
  d : (x.D.length : Int) ≤ n
  c : (x.C.length : Int) ≤ n
  m : (x.M.length : Int) ≤ n + 20
  r : (x.R.length : Int) ≤ 40
  q : (x.Q.length : Int) ≤ 80
  s : (x.S.length : Int) ≤ 40
def LiAt (w : World) (x : PO) (n : Int) (e : Ending) (w' : World) : Prop := (∃ b, e = .returned (.bool b) ∧ (b = true → LightP x n)) ∧ w.grownBy w' none
set_option maxRecDepth 100000 in
set_option maxHeartbeats 8000000 in
theorem light_any {w : World} {V : OV} {x : PO} (h : OAt w V x) (hf : OFit x) (n : Int) (h0 : 0 ≤ n) (h1 : n ≤ 1000000) :
    Calls Tryd.prog 17 #[V.agg, .int .i64 n] w (LiAt w x n) := by
  obtain ⟨d, c, m, r, q, s⟩ := V
  obtain ⟨p0, c0, hv0⟩ := h.d.len'
  obtain rfl : d = _ := hv0
  obtain ⟨p1, c1, hv1⟩ := h.c.len'
  obtain rfl : c = _ := hv1
  obtain ⟨p2, c2, hv2⟩ := h.m.len'
  obtain rfl : m = _ := hv2
  obtain ⟨p3, c3, hv3⟩ := h.r.len
  obtain rfl : r = _ := hv3
  obtain ⟨p4, c4, hv4⟩ := h.q.len
  obtain rfl : q = _ := hv4
  obtain ⟨p5, c5, hv5⟩ := h.s.len
  obtain rfl : s = _ := hv5
  have HB := hid (Bo.new h)
  have hL := hf.l
  have hx : (maxLen : Int) ≤ 9223372036854775807 := by unfold maxLen; omega
  have hl0 : (x.D.length : Int) ≤ 9223372036854775807 := by omega
  have hl1 : (x.C.length : Int) ≤ 9223372036854775807 := by omega
  have hl2 : (x.M.length : Int) ≤ 9223372036854775807 := by omega
  have hl3 : (x.R.length : Int) ≤ 9223372036854775807 := by omega
  have hl4 : (x.Q.length : Int) ≤ 9223372036854775807 := by omega
  have hl5 : (x.S.length : Int) ≤ 9223372036854775807 := by omega
  clear h hf hL hx
  go_enter Tryd.func17, Tryd.ntmps17
  go_upto_region 1 with (fail)
  generalize w.alloc (.cells #[.slice p0 x.D.length c0, .slice p1 x.C.length c1, .slice p2 x.M.length c2, .slice p3 x.R.length c3, .slice p4 x.Q.length c4, .slice p5 x.S.length c5] 52) = w1 at HB ⊢
  obtain ⟨G, hG⟩ : ∃ G, w.heap.size = G := ⟨_, rfl⟩
  try rw [hG] at HB ⊢
  try rw [hG] at HB
  clear hG
  have e0 := HB.out.box.cell 0 rfl
  have e1 := HB.out.box.cell 1 rfl
  have e2 := HB.out.box.cell 2 rfl
  have e3 := HB.out.box.cell 3 rfl
  have e4 := HB.out.box.cell 4 rfl
  have e5 := HB.out.box.cell 5 rfl
  by_cases b0 : (x.D.length : Int) > n
  · go_wp2
    go_ret
    exact ⟨⟨false, rfl, fun h => by cases h⟩, HB.out.g⟩
  by_cases b1 : (x.C.length : Int) > n
  · go_wp2
    go_ret
    exact ⟨⟨false, rfl, fun h => by cases h⟩, HB.out.g⟩
  by_cases b2 : (x.M.length : Int) > n + 20
  · go_wp2
    go_ret
    exact ⟨⟨false, rfl, fun h => by cases h⟩, HB.out.g⟩
  by_cases b3 : (x.R.length : Int) > 40
  · go_wp2
    go_ret
    exact ⟨⟨false, rfl, fun h => by cases h⟩, HB.out.g⟩
  by_cases b4 : (x.Q.length : Int) > 80
  · go_wp2
    go_ret
    exact ⟨⟨false, rfl, fun h => by cases h⟩, HB.out.g⟩
  by_cases b5 : (x.S.length : Int) > 40
  · go_wp2
    go_ret
    exact ⟨⟨false, rfl, fun h => by cases h⟩, HB.out.g⟩
  have HP : Hid (LightP x n) := hid ⟨by omega, by omega, by omega, by omega, by omega, by omega⟩
  go_wp2
  clear e0 e1 e2 e3 e4 b0 b1 b2 b3 b4 b5
  go_loop [5] (fun i => ∃ k : Nat, k ≤ x.S.length ∧ i = .int .i64 k) (fun i => x.S.length - (intOf i).toNat)
  case atStart => exact ⟨0, Nat.zero_le _, rfl⟩
  case round =>
    obtain ⟨k, hk, rfl⟩ := hrel
    have k0 : (0 : Int) ≤ (k : Int) := by omega
    by_cases hlt : k < x.S.length
    · have kn : (k : Int) < (x.S.length : Int) := by omega
      obtain ⟨⟨nm, si, sv, sg⟩, hs⟩ : ∃ y, x.S[k]? = some y := ⟨_, List.getElem?_eq_getElem hlt⟩
      obtain ⟨b, o, c', hv, _, hb, hc⟩ := HB.out.o.s.at_ (by omega)
      obtain ⟨rfl, rfl⟩ : p5 = some ⟨b, o, none⟩ ∧ c5 = c' := by simpa using hv
      have h4 := SyAt.cells hc hs
      have f0 := h4.c0
      clear h4 hc hv hb hs
      by_cases hz : (nm.size : Int) > 60
      · go_wp2
        go_ret
        exact ⟨⟨false, rfl, fun h => by cases h⟩, HB.out.g⟩
      · go_wp2
        go_round
        case rel => exact ⟨k + 1, by omega, by go_num⟩
        case measure => simp [intOf]; omega
    · go_wp2
      go_ret
      exact ⟨⟨true, rfl, fun _ => HP.out⟩, HB.out.g⟩
end Go.Proofs.YteanjchbnaoopaaDoor
namespace Go.Proofs.YteanjchbnaoopaaDoor
open Go.RowKit
/-- two objects' boxes -/
structure Bd (w0 w : World) (G1 G2 : Nat) (V V' : OV) (x x' : PO) : Prop where
  a : RwAt w G1 52 #[V.d, V.c, V.m, V.r, V.q, V.s]
  b : RwAt w G2 52 #[V'.d, V'.c, V'.m, V'.r, V'.q, V'.s]
  o : OAt w V x
  p : OAt w V' x'
  g : w0.grownBy w none
theorem Bd.kept0 {w0 w w1 : World} {G1 G2 : Nat} {V V' : OV} {x x' : PO} (h : Bd w0 w G1 G2 V V' x x') (hg : w.grownBy w1 none) : Bd w0 w1 G1 G2 V V' x x' := ⟨h.a.kept0 hg, h.b.kept0 hg, h.o.kept0 hg, h.p.kept0 hg, grown_trans h.g hg⟩
theorem Bd.new {w : World} {V V' : OV} {x x' : PO} (h : OAt w V x) (h' : OAt w V' x') :
    Bd w ((w.alloc (.cells #[V.d, V.c, V.m, V.r, V.q, V.s] 52)).alloc (.cells #[V'.d, V'.c, V'.m, V'.r, V'.q, V'.s] 52)) w.heap.size (w.heap.size + 1) V V' x x' := by
  have hg := grown_alloc (World.grownBy_alloc w (.cells #[V.d, V.c, V.m, V.r, V.q, V.s] 52) none) (.cells #[V'.d, V'.c, V'.m, V'.r, V'.q, V'.s] 52)
  exact ⟨(RwAt.new w _ _).alloc _, RwAt.new2 w _ _ _, h.kept0 hg, h'.kept0 hg, hg⟩
end Go.Proofs.YteanjchbnaoopaaDoor
namespace Go.Proofs.YteanjchbnaoopaaDoor
open Go.Joins Go.ChangeShapes Go.WideShapes Go.RowKit Go.Deep
section
variable {H : Type} {enc : TypeId × Value → H} {W : World}
set_option maxRecDepth 100000 in
theorem rl_of {fuel : Nat} {cs : List Value} {x : DataW H × List MemPlace} (h : DataW.trod enc Tryd.prog W 0 (fun _ => true) true fuel 76 cs = some x) : ∃ r : Rl, cs = rlC r := by
  have c1 : Tryd.prog.cellsOf 3 = 1 := by kernel_rfl
  have c4 : Tryd.prog.cellsOf 76 = 4 := by kernel_rfl
  obtain ⟨xs, n, _, _, hlen, hxl, hg⟩ := DataW.trod_struct Tryd.underlying76 h
  rw [c4] at hlen
  match cs, hlen, xs, hxl with
  | [v0, v1, v2, v3], _, [y0, y1, y2, y3], _ =>
    have g0 := hg 0 _ rfl
    have g1 := hg 1 _ rfl
    have g2 := hg 2 _ rfl
    have g3 := hg 3 _ rfl
    simp [c1] at g0 g1 g2 g3
    obtain ⟨a0, e0, _, _⟩ := DataW.trod_int Tryd.underlying3 g0
    obtain ⟨a1, e1, _, _⟩ := DataW.trod_int Tryd.underlying3 g1
    obtain ⟨a2, e2, _, _⟩ := DataW.trod_int Tryd.underlying3 g2
    obtain ⟨a3, e3, _, _⟩ := DataW.trod_int Tryd.underlying3 g3
    simp only [List.cons.injEq, and_true] at e0 e1 e2 e3
    subst e0; subst e1; subst e2; subst e3
    exact ⟨⟨a0, a1, a2, a3⟩, rfl⟩
set_option maxRecDepth 100000 in
theorem sy_of {fuel : Nat} {cs : List Value} {x : DataW H × List MemPlace} (h : DataW.trod enc Tryd.prog W 0 (fun _ => true) true fuel 74 cs = some x) : ∃ r : Sy, cs = syC r := by
  have c0 : Tryd.prog.cellsOf 9 = 1 := by kernel_rfl
  have c1 : Tryd.prog.cellsOf 3 = 1 := by kernel_rfl
  have c2 : Tryd.prog.cellsOf 4 = 1 := by kernel_rfl
  have c4 : Tryd.prog.cellsOf 74 = 4 := by kernel_rfl
  obtain ⟨xs, n, _, _, hlen, hxl, hg⟩ := DataW.trod_struct Tryd.underlying74 h
  rw [c4] at hlen
  match cs, hlen, xs, hxl with
  | [v0, v1, v2, v3], _, [y0, y1, y2, y3], _ =>
    have g0 := hg 0 _ rfl
    have g1 := hg 1 _ rfl
    have g2 := hg 2 _ rfl
    have g3 := hg 3 _ rfl
    simp [c0, c1, c2] at g0 g1 g2 g3
    obtain ⟨a0, e0, _, _⟩ := DataW.trod_string Tryd.underlying9 g0
    obtain ⟨a1, e1, _, _⟩ := DataW.trod_int Tryd.underlying3 g1
    obtain ⟨a2, e2, _, _⟩ := DataW.trod_int Tryd.underlying3 g2
    obtain ⟨a3, e3, _⟩ := DataW.trod_bool Tryd.underlying4 g3
    simp only [List.cons.injEq, and_true] at e0 e1 e2 e3
    subst e0; subst e1; subst e2; subst e3
    exact ⟨⟨a0, a1, a2, a3⟩, rfl⟩
set_option maxRecDepth 100000 in
/-- a slice of things of four cells each -/
theorem csat_of {α : Type} (C : α → List Value) (Cs : List α → List Value) (hC : ∀ a, (C a).length = 4) (hnil : Cs [] = []) (hcons : ∀ a l, Cs (a :: l) = C a ++ Cs l)
    {t e : TypeId} {fuel : Nat} {v : Value} {x : DataW H × List MemPlace} (ht : Tryd.prog.underlying t = some (.slice e)) (hc : Tryd.prog.cellsOf e = 4)
    (each : ∀ {fuel : Nat} {cs : List Value} {x : DataW H × List MemPlace}, DataW.trod enc Tryd.prog W 0 (fun _ => true) true fuel e cs = some x → ∃ r : α, cs = C r)
    (h : DataW.trod enc Tryd.prog W 0 (fun _ => true) true fuel t [v] = some x) : ∃ l : List α, CsAt W v l.length (Cs l) ∧ l.length ≤ maxLen := by
  rcases open_slice ht h with ⟨hcs, _⟩ | ⟨a, len, cap, m, n, D, Pl, hcs, _, hl, hm, hmm, _, hi⟩
  · obtain rfl : v = _ := by simpa using hcs
    exact ⟨[], .inl ⟨⟨_, _, rfl⟩, rfl, hnil⟩, by simp⟩
  · obtain rfl : v = _ := by simpa using hcs
    simp only [if_true] at hmm
    have one : ∀ i, i < len → ∃ d : α, W.cells? 0 (a.add (i * 4)) 4 = some (C d) := by
      intro i hil
      obtain ⟨cs', hc', ht⟩ := hi i (by omega)
      rw [hc] at hc'
      obtain ⟨dd, rfl⟩ := each ht
      exact ⟨dd, hc'⟩
    have all : ∀ k, k ≤ len → ∃ l : List α, l.length = k ∧ ∀ i d, l[i]? = some d → W.cells? 0 (a.add (i * 4)) 4 = some (C d) := by
      intro k
      induction k with
      | zero => exact fun _ => ⟨[], rfl, by simp⟩
      | succ k ih =>
        intro hk
        obtain ⟨l, hll, hl⟩ := ih (by omega)
        obtain ⟨d, hd⟩ := one k (by omega)
        refine ⟨l ++ [d], by simp [hll], fun i z hz => ?_⟩
        by_cases e : i < l.length
        · rw [List.getElem?_append_left e] at hz; exact hl i z hz
        · have hik : i = k := by
            have := (List.getElem?_eq_some_iff.1 hz).1
            simp at this; omega
          subst hik
          rw [List.getElem?_append_right (by omega), hll] at hz
          simp at hz
          subst hz
          exact hd
    obtain ⟨l, hll, hl2⟩ := all len (Nat.le_refl _)
    have hget : ∀ (l : List α) (k j : Nat) (s : α), l[k]? = some s → j < 4 → (Cs l)[k * 4 + j]? = (C s)[j]? := by
      intro l
      induction l with
      | nil => intro k j s h; simp at h
      | cons y r ih =>
        intro k j s h hj
        rw [hcons]
        match k, h with
        | 0, h =>
          obtain rfl : y = s := by simpa using h
          rw [Nat.zero_mul, Nat.zero_add, List.getElem?_append_left (by rw [hC]; exact hj)]
        | k + 1, h =>
          rw [List.getElem?_append_right (by rw [hC]; omega), hC, ← ih k j s (by simpa using h) hj]
          congr 1; omega
    have hlenC : ∀ l : List α, (Cs l).length = l.length * 4 := by
      intro l
      induction l with
      | nil => rw [hnil]; rfl
      | cons y r ih => rw [hcons, List.length_append, hC, ih, List.length_cons]; omega
    subst hll
    by_cases h0 : l.length = 0
    · obtain rfl : l = [] := List.eq_nil_of_length_eq_zero h0
      exact ⟨[], .inl ⟨⟨_, _, rfl⟩, rfl, hnil⟩, by simp⟩
    · obtain ⟨d0, hd0⟩ : ∃ d, l[0]? = some d := ⟨_, List.getElem?_eq_getElem (by omega)⟩
      obtain ⟨b, off, spot⟩ := a
      have hc0 := hl2 0 d0 hd0
      obtain ⟨_, _, hat0⟩ := World.cells?_some hc0
      have h00 := (hat0 0 (by omega)).trans (List.getElem?_eq_getElem (by rw [hC]; omega))
      have hspot : spot = none := by simpa [Addr.add] using World.cell?_spot h00
      subst hspot
      refine ⟨l, .inr ⟨b, off, cap, rfl, hl, by rw [Addr.add_mid, Addr.add_mid] at h00; exact World.block_lt_of_cell? W _ h00, fun j u hu => ?_⟩, by omega⟩
      have hj : j < l.length * 4 := by have := (List.getElem?_eq_some_iff.1 hu).1; rwa [hlenC] at this
      obtain ⟨s, hs⟩ : ∃ s, l[j / 4]? = some s := ⟨_, List.getElem?_eq_getElem (by omega)⟩
      have h1 := hget l (j / 4) (j % 4) s hs (by omega)
      rw [show j / 4 * 4 + j % 4 = j by omega, hu] at h1
      obtain ⟨_, _, hat⟩ := World.cells?_some (hl2 _ s hs)
      have h2 := hat (j % 4) (by omega)
      rw [← h1, Addr.add_mid, Addr.add_mid] at h2
      rw [← h2]
      congr 2
      omega
end
end Go.Proofs.YteanjchbnaoopaaDoor
namespace Go.Proofs.YteanjchbnaoopaaDoor
open Go.RowKit
/-- G0: the box of V, which came in; G1: the box of V1, of the law's own -/
structure OS (W w : World) (G0 G1 : Nat) (V V1 : OV) (x x1 : PO) : Prop where
  below : Below W.heap.size W w
  g0 : RwAt w G0 52 #[V.d, V.c, V.m, V.r, V.q, V.s]
  g1 : RwAt w G1 52 #[V1.d, V1.c, V1.m, V1.r, V1.q, V1.s]
  o0 : OAt W V x
  own : OwnO W.heap.size w V1 x1
  ge0 : W.heap.size ≤ G0
  ge1 : W.heap.size ≤ G1
  ne : ∀ u ∈ [V1.d, V1.c, V1.m, V1.r, V1.q, V1.s], u.ownBlock ≠ some G0 ∧ u.ownBlock ≠ some G1
  d01 : G0 ≠ G1
section
variable {W w w1 : World} {G0 G1 : Nat} {V V1 : OV} {x x1 : PO}
theorem OS.le (h : OS W w G0 G1 V V1 x x1) : W.heap.size ≤ w.heap.size := h.below.size
theorem OS.o (h : OS W w G0 G1 V V1 x x1) : OAt w V x := h.o0.kept0 (below_is_grown h.below)
theorem OS.kept0 (h : OS W w G0 G1 V V1 x x1) (hg : w.grownBy w1 none) : OS W w1 G0 G1 V V1 x x1 :=
  ⟨h.below.grown hg h.le (by simp), h.g0.kept0 hg, h.g1.kept0 hg, h.o0, h.own.kept0 hg, h.ge0, h.ge1, h.ne, h.d01⟩
theorem unpairs {V : OV} (a01 : Ap V.d V.c) (a02 : Ap V.d V.m) (a03 : Ap V.d V.r) (a04 : Ap V.d V.q) (a05 : Ap V.d V.s) (a12 : Ap V.c V.m) (a13 : Ap V.c V.r) (a14 : Ap V.c V.q) (a15 : Ap V.c V.s) (a23 : Ap V.m V.r) (a24 : Ap V.m V.q) (a25 : Ap V.m V.s) (a34 : Ap V.r V.q) (a35 : Ap V.r V.s) (a45 : Ap V.q V.s) : [V.d, V.c, V.m, V.r, V.q, V.s].Pairwise Ap := by
  simp only [List.pairwise_cons, List.mem_cons, List.not_mem_nil, or_false, forall_eq_or_imp, forall_eq, List.Pairwise.nil, and_true, false_implies, implies_true]
  exact ⟨⟨a01, a02, a03, a04, a05⟩, ⟨a12, a13, a14, a15⟩, ⟨a23, a24, a25⟩, ⟨a34, a35⟩, a45⟩
end
end Go.Proofs.YteanjchbnaoopaaDoor
namespace Go.Proofs.YteanjchbnaoopaaDoor
open Go.RowKit
/-- G1: the box of V1, of the law's own; Ts: blocks beside it that none of its rows is -/
structure OBx (W w : World) (G1 : Nat) (Ts : List Nat) (V1 : OV) (x1 : PO) : Prop where
  below : Below W.heap.size W w
  g1 : RwAt w G1 52 #[V1.d, V1.c, V1.m, V1.r, V1.q, V1.s]
  own : OwnO W.heap.size w V1 x1
  ge1 : W.heap.size ≤ G1
  ne : ∀ u ∈ [V1.d, V1.c, V1.m, V1.r, V1.q, V1.s], u.ownBlock ≠ some G1 ∧ ∀ T ∈ Ts, u.ownBlock ≠ some T
  lts : ∀ T ∈ Ts, T < w.heap.size
section
variable {W w w1 : World} {G1 : Nat} {Ts : List Nat} {V1 : OV} {x1 : PO}
theorem OBx.le (h : OBx W w G1 Ts V1 x1) : W.heap.size ≤ w.heap.size := h.below.size
theorem OBx.kept0 (h : OBx W w G1 Ts V1 x1) (hg : w.grownBy w1 none) : OBx W w1 G1 Ts V1 x1 :=
  ⟨h.below.grown hg h.le (by simp), h.g1.kept0 hg, h.own.kept0 hg, h.ge1, h.ne, fun T hT => Nat.lt_of_lt_of_le (h.lts T hT) hg.size⟩
/-- a box more -/
theorem OBx.box (h : OBx W w G1 Ts V1 x1) (o : Obj) : OBx W (w.alloc o) G1 (w.heap.size :: Ts) V1 x1 := by
  have hk := h.kept0 (World.grownBy_alloc w o none)
  refine ⟨hk.below, hk.g1, hk.own, hk.ge1, fun u hu => ⟨(h.ne u hu).1, fun T hT => ?_⟩, fun T hT => ?_⟩
  · rcases List.mem_cons.1 hT with rfl | hT
    · intro e
      simp only [List.mem_cons, List.not_mem_nil, or_false] at hu
      have : w.heap.size < w.heap.size := by
        rcases hu with rfl | rfl | rfl | rfl | rfl | rfl
        · exact (h.own.d.lt _ e).2
        · exact (h.own.c.lt _ e).2
        · exact (h.own.m.lt _ e).2
        · exact (h.own.r.lt _ e).2
        · exact (h.own.q.lt _ e).2
        · exact (h.own.s.lt _ e).2
      omega
    · exact (h.ne u hu).2 T hT
  · rcases List.mem_cons.1 hT with rfl | hT
    · simp
    · exact hk.lts T hT
theorem OBx.drop {T : Nat} (h : OBx W w G1 (T :: Ts) V1 x1) : OBx W w G1 Ts V1 x1 :=
  ⟨h.below, h.g1, h.own, h.ge1, fun u hu => ⟨(h.ne u hu).1, fun S hS => (h.ne u hu).2 S (List.mem_cons_of_mem _ hS)⟩, fun S hS => h.lts S (List.mem_cons_of_mem _ hS)⟩
end
end Go.Proofs.YteanjchbnaoopaaDoor
namespace Go.Proofs.YteanjchbnaoopaaDoor
/-- what is left, and what was wrong first -/
structure RS where
  l : List Int
  e : Option Nat
deriving DecidableEq
def takeS (n : Nat) (s : RS) : List Int × RS :=
  if s.e = none then (if s.l.length < n then ([], ⟨s.l, some 0⟩) else (s.l.take n, ⟨s.l.drop n, none⟩)) else ([], s)
def leW : List Int → Int
  | [] => 0
  | b :: l => b + 256 * leW l
def wordS (s : RS) : Int × RS := (leW (takeS 4 s).1, (takeS 4 s).2)
def manyS {α : Type} (f : RS → α × RS) : Nat → RS → List α × RS
  | 0, s => ([], s)
  | n + 1, s => ((manyS f n s).1 ++ [(f (manyS f n s).2).1], (f (manyS f n s).2).2)
abbrev wordsS (n : Nat) (s : RS) := manyS wordS n s
/-! ### an error stays -/
/-! ### the whole -/
def sizS (b : List Int) : List Int × RS := wordsS 5 (wordS ⟨b, none⟩).2
def sz (b : List Int) (k : Nat) : Nat := ((sizS b).1.getD k 0).toNat
def pD (b : List Int) : List Int × RS := wordsS (sz b 0) (sizS b).2
def pC (b : List Int) : List Int × RS := wordsS (sz b 1) (pD b).2
/-! ### forth -/
end Go.Proofs.YteanjchbnaoopaaDoor
namespace Go.Proofs.YteanjchbnaoopaaDoor
open Go.RowKit
/-- bytes taken: no block of the reader's -/
def Tk (w : World) (R b : Nat) (v : Value) (l : List Int) : Prop := (v = .slice none 0 0 ∧ l = []) ∨ ∃ o c, v = .slice (some ⟨b, o, none⟩) l.length c ∧ l.length ≤ c ∧ b < w.heap.size ∧ b ≠ R ∧ ∀ j x, l[j]? = some x → w.cell? ⟨b, o + j, none⟩ = some (.int .u8 x)
theorem Tk.sl {w : World} {R b : Nat} {v : Value} {l : List Int} (h : Tk w R b v l) : SlAt w .u8 v l := by
  rcases h with ⟨rfl, rfl⟩ | ⟨o, c, rfl, _, hb, _, hc⟩
  · exact .inl ⟨⟨_, _, rfl⟩, rfl⟩
  · exact .inr ⟨b, o, c, rfl, hb, hc⟩
theorem Tk.kept {w w1 : World} {R b : Nat} {v : Value} {l : List Int} {r : Option Nat} (h : Tk w R b v l) (hg : w.grownBy w1 r) (hr : some b ≠ r) : Tk w1 R b v l := by
  rcases h with h | ⟨o, c, rfl, hn, hb, hne, hc⟩
  · exact .inl h
  · exact .inr ⟨o, c, rfl, hn, Nat.lt_of_lt_of_le hb hg.size, hne, fun j x hx => by rw [grown_cell hg hb hr]; exact hc j x hx⟩
section
variable {w : World} {R : Nat} {A : Nat → Addr} {b o c : Nat} {s : RS}
end
section
variable {w : World} {R : Nat} {A : Nat → Addr} {b o c : Nat} {s : RS}
end
end Go.Proofs.YteanjchbnaoopaaDoor
namespace Go.Proofs.YteanjchbnaoopaaDoor
open Go.RowKit
section
variable {w0 w w1 : World} {K : Nat} {T : TypeId} {cs : List Value} {R : Nat} {A : Nat → Addr} {b o c : Nat} {s : RS}
end
/-- so many read, the others as they were made -/
def part {α : Type} (f : RS → α × RS) (z : α) (n k : Nat) (s : RS) : List α := (manyS f k s).1 ++ List.replicate (n - k) z
end Go.Proofs.YteanjchbnaoopaaDoor
namespace Go.Proofs.YteanjchbnaoopaaDoor
open Go.RowKit
theorem CsAt.keptO {w w1 : World} {v : Value} {n : Nat} {cs : List Value} {r : Option Nat} (h : CsAt w v n cs) (hg : w.grownBy w1 r) (hr : v.ownBlock = none ∨ v.ownBlock ≠ r) : CsAt w1 v n cs := by
  rcases h with h | ⟨b, o, c, rfl, hn, hb, hc⟩
  · exact .inl h
  · refine .inr ⟨b, o, c, rfl, hn, Nat.lt_of_lt_of_le hb hg.size, fun j x hx => ?_⟩
    rw [grown_cell hg hb (by simpa [Value.ownBlock] using hr)]
    exact hc j x hx
/-- in blocks from B on -/
def AbB (B : Nat) (v : Value) : Prop := ∀ g, v.ownBlock = some g → B ≤ g
theorem AbB.ne {B r : Nat} {v : Value} (h : AbB B v) (hr : r < B) : v.ownBlock = none ∨ v.ownBlock ≠ some r := .inr fun e => by have := h r e; omega
structure SlB (B : Nat) (w : World) (k : IntKind) (v : Value) (xs : List Int) : Prop where
  sl : SlAt w k v xs
  ab : AbB B v
structure CsB (B : Nat) (w : World) (v : Value) (n : Nat) (cs : List Value) : Prop where
  cs : CsAt w v n cs
  ab : AbB B v
theorem SlB.kept {B r : Nat} {w w1 : World} {k : IntKind} {v : Value} {xs : List Int} (h : SlB B w k v xs) (hg : w.grownBy w1 (some r)) (hr : r < B) : SlB B w1 k v xs := ⟨h.sl.kept hg (h.ab.ne hr), h.ab⟩
theorem CsB.kept {B r : Nat} {w w1 : World} {v : Value} {n : Nat} {cs : List Value} (h : CsB B w v n cs) (hg : w.grownBy w1 (some r)) (hr : r < B) : CsB B w1 v n cs := ⟨h.cs.keptO hg (h.ab.ne hr), h.ab⟩
section
variable {w0 w w1 : World} {B S H G : Nat} {nn gc : Array Value} {R : Nat} {A : Nat → Addr} {b o c : Nat} {s : RS}
end
end Go.Proofs.YteanjchbnaoopaaDoor
namespace Go.Proofs.YteanjchbnaoopaaDoor
open Go.RowKit
/-- a slice of these bytes -/
def BvAt (w : World) (v : Value) (l : List Int) : Prop := (∃ p c, v = .slice p 0 c ∧ l = []) ∨
  ∃ b o c, v = .slice (some ⟨b, o, none⟩) l.length c ∧ l.length ≤ c ∧ c ≤ 9223372036854775807 ∧ b < w.heap.size ∧ ∀ j x, l[j]? = some x → w.cell? ⟨b, o + j, none⟩ = some (.int .u8 x)
theorem BvAt.kept0 {w w1 : World} {v : Value} {l : List Int} (h : BvAt w v l) (hg : w.grownBy w1 none) : BvAt w1 v l := by
  rcases h with h | ⟨b, o, c, rfl, h1, h2, hb, hc⟩
  · exact .inl h
  · exact .inr ⟨b, o, c, rfl, h1, h2, Nat.lt_of_lt_of_le hb hg.size, fun j x hx => by rw [grown_cell hg hb (by simp)]; exact hc j x hx⟩
theorem BvAt.len {w : World} {v : Value} {l : List Int} (h : BvAt w v l) : ∃ p c, v = .slice p l.length c := by
  rcases h with ⟨p, c, rfl, rfl⟩ | ⟨b, o, c, rfl, _⟩
  · exact ⟨_, _, rfl⟩
  · exact ⟨_, _, rfl⟩
end Go.Proofs.YteanjchbnaoopaaDoor
namespace Go.Proofs.YteanjchbnaoopaaDoor
open Go.RowKit Go.WideShapes Go.ChangeShapes
section
variable {H : Type} {enc : TypeId × Value → H} {W : World} {P : Program}
end
theorem BvAt.sl {w : World} {v : Value} {l : List Int} (h : BvAt w v l) : SlAt w .u8 v l := by
  rcases h with ⟨p, c, rfl, rfl⟩ | ⟨b, o, c, rfl, _, _, hb, hc⟩
  · exact .inl ⟨⟨_, _, rfl⟩, rfl⟩
  · exact .inr ⟨b, o, c, rfl, hb, hc⟩
end Go.Proofs.YteanjchbnaoopaaDoor
namespace Go.Proofs.YteanjchbnaoopaaDoor
open Go.RowKit
/-- a label's line -/
def lbC (nm : ByteArray) : Array Value := #[.int .i64 0, .int .i64 0, .int .i64 0, .int .i64 0, .int .u32 0, .string nm, .string ByteArray.empty, .bool false]
theorem build_lab (nm : ByteArray) (w : World) : (Instr.build 43 #[(1, .string nm)]).run Tryd.prog w = .ok (.agg (lbC nm)) w := by kernel_rfl
theorem lab_one (nm : ByteArray) : (lbC nm).all (·.oneCell') = true := by simp [lbC, Value.oneCell']
section
variable {ops : Array Oper} {rest : List Oper} {o : Oper} {A : Act} {w : World} {Q : Exit → Act → World → Prop}
theorem wpList_build_lab (hgd : o.guard = none) (x : Operand) (ho : o.op = .build 43 #[(1, x)]) {nm : ByteArray} (hx : A.eval x = .string nm) (h : wpList Tryd.prog ops Q rest (A.put o.dst (.agg (lbC nm))) w) : wpList Tryd.prog ops Q (o :: rest) A w := by
  refine wpList_plain hgd fun K hK => ?_
  unfold Oper.wp
  simp [execOp, ho, hx, build_lab nm w, Result.andThen]
  exact hK _ _ h
end
set_option maxRecDepth 100000 in
set_option maxHeartbeats 1000000 in
theorem at_any (nm : ByteArray) (W : World) : Calls Tryd.prog 12 #[.string nm] W fun e w' => e = .returned (.agg (lbC nm)) ∧ W.grownBy w' none := by
  have Hz := zero_line
  have H1 := hid ((RwAt.new W 43 (lnC 0 0)).row (lbC nm))
  have HG := hid (grown_setRow (grown_alloc (grown_refl W none) (.cells (lnC 0 0) 43)) (Nat.le_refl W.heap.size) (lbC nm))
  go_enter Tryd.func12, Tryd.ntmps12
  go_wp2_with (first
    | (refine wpList_build_lab rfl _ rfl rfl ?_)
    | (refine wpList_store_rw rfl 43 _ _ rfl rfl rfl (RwAt.new _ _ _) (by kernel_rfl) rfl (lab_one _) ?_)
    | fail)
  refine bodyPost_ret (results_cell_row Tryd.results12 _ _ W.heap.size _ _ _ _ rfl H1.out.blk Tryd.underlying43 rfl (by kernel_rfl)) rfl ?_
  exact ⟨rfl, HG.out⟩
theorem own_keep0 {w w1 : World} {B size n : Nat} {t : TypeId} {v : Value} {cs : List Value} (h : w.ownsRow B t size v n cs) (hg : w.grownBy w1 none) : w1.ownsRow B t size v n cs := h.kept hg (by cases v.ownBlock <;> simp)
structure RWo (w0 : World) (lv : Value) (xs : List Int) (v : Value) (k : Nat) (w : World) : Prop where
  by_ : w.ownsRow w0.heap.size 25 1 v (xs.take k).length ((xs.take k).map (Value.int .u32))
  g : w0.grownBy w none
  sl : SlAt w .u32 lv xs
set_option maxRecDepth 100000 in
set_option maxHeartbeats 2000000 in
theorem rwords_any {w : World} {lv : Value} {xs : List Int} (hl : SlAt w .u32 lv xs) (hn : xs.length ≤ 1000000) :
    Calls Tryd.prog 22 #[lv] w fun e w' => ∃ v, e = .returned v ∧ w'.ownsRow w.heap.size 25 1 v xs.length (xs.map (Value.int .u32)) ∧ w.grownBy w' none := by
  obtain ⟨p, c, rfl⟩ := hl.len'
  obtain ⟨i, hi, hz0, hz1, hz2⟩ := info_u32
  obtain ⟨w1, hmk, how, hgr⟩ := run_make_own (P := Tryd.prog) w w.heap.size 26 25 i _ 1 Tryd.underlying26 hi hz0 hz1 .i64 .i64 xs.length (by rw [hz2]; omega) (by unfold maxLen; omega) (Nat.le_refl _)
  have Hi := hid hi
  have Hz0 := hid hz0
  have Hz1 := hid hz1
  have Hz2 := hid hz2
  have HSl := hid hl
  have HA : Hid (RWo w (.slice p xs.length c) xs (.slice (some ⟨w.heap.size, 0, none⟩) 0 xs.length) 0 w1) := hid ⟨by simpa using how, hgr, hl.kept0 hgr⟩
  have Hn := hid hn
  have nl : (xs.length : Int) ≤ 9223372036854775807 := by omega
  clear hl hn hi hz0 hz1 hz2 how hgr
  go_enter Tryd.func22, Tryd.ntmps22
  go_wp2
  clear hmk
  go_loopw [3, 4] (fun b i wr => ∃ k : Nat, k ≤ xs.length ∧ i = .int .i64 k ∧ Hid (RWo w (.slice p xs.length c) xs b k wr)) (fun _ i _ => xs.length - (intOf i).toNat)
  case atStart => exact ⟨0, Nat.zero_le _, rfl, HA⟩
  case round =>
    obtain ⟨k, hk, rfl, HR⟩ := hrel
    have k0 : (0 : Int) ≤ (k : Int) := by omega
    by_cases hlt : k < xs.length
    · have kn : (k : Int) < (xs.length : Int) := by omega
      obtain ⟨x, hx⟩ : ∃ x, xs[k]? = some x := ⟨_, List.getElem?_eq_getElem hlt⟩
      obtain ⟨b, o, c', hv, hb, hc⟩ := HR.out.sl.at_ (by omega)
      obtain ⟨rfl, rfl⟩ : p = some ⟨b, o, none⟩ ∧ c = c' := by simpa using hv
      have ex := hc k x hx
      have Hx := hid hx
      have Hlt := hid hlt
      clear hc hv hx hlt
      have HB := hid (own_keep0 HR.out.by_ (World.grownBy_alloc wr (.cells #[.int .u32 x] 25) none))
      obtain ⟨L, HL⟩ : ∃ L, Hid ((xs.take k).length = L) := ⟨_, hid rfl⟩
      have HLn : Hid (L + 1 ≤ 1000000) := hid (by
        have h1 := HL.out
        have h2 := Hn.out
        have h3 := Hlt.out
        rw [List.length_take] at h1
        omega)
      have HBo := hid HB.out
      rw [HL.out] at HBo
      have Hnews : Hid (∀ j u, [Value.int .u32 x][j]? = some u → (wr.alloc (.cells #[.int .u32 x] 25)).cell? ((⟨wr.heap.size, 0, none⟩ : Addr).add j) = some u) := hid (World.news_of_block (heap_alloc_new wr _))
      go_wp2_with (first
        | (refine wpList_append_lies _ rfl _ _ 26 rfl w.heap.size 25 i _ 1 4 Tryd.underlying26 Hi.out Hz0.out Hz1.out Hz2.out rfl (by decide) _ L _ rfl HBo.out ⟨wr.heap.size, 0, none⟩ 1 1 _ rfl rfl Hnews.out (by simp [Value.oneCell']) (by decide) (by have := HLn.out; unfold maxLen; omega) (by have := HLn.out; omega) (Nat.le_trans HR.out.g.size (by simp)) _ rfl ?_; intro g cap w2 hown hgrow hat hlt2; have HO := hid hown; have HG := hid hgrow; have HT := hid hat; clear hown hgrow hat)
        | fail)
      go_roundw
      case rel =>
        refine ⟨k + 1, by omega, by go_num, hid ?_⟩
        have hww : xs.take (k + 1) = xs.take k ++ [x] := by rw [List.take_add_one, Hx.out]; rfl
        have hL := HL.out
        have hgw : w.grownBy w2 none := grown_new' (grown_trans (grown_none HR.out.g) (grown_trans (World.grownBy_alloc wr _ _) HG.out)) (fun j hj => (HR.out.by_.lt j hj).1)
        refine ⟨?_, hgw, ?_⟩
        · rw [hww, List.length_append, hL, List.map_append]
          exact HO.out
        · exact HSl.out.kept0 hgw
      case measure => simp [intOf]; have := Hlt.out; omega
    · obtain rfl : k = xs.length := by omega
      clear hlt
      go_wp2
      go_ret
      have h1 := HR.out.by_
      rw [List.take_length] at h1
      exact ⟨_, rfl, h1, HR.out.g⟩
theorem lzero_sym (w : World) : (zeroValue 74).run Tryd.prog w = .ok (.agg #[.string ⟨#[]⟩, .int .i64 0, .int .i64 0, .bool false]) w := by kernel_rfl
end Go.Proofs.YteanjchbnaoopaaDoor
namespace Go.Proofs.YteanjchbnaoopaaDoor
open Go.RowKit
def natC (l : List Nat) : List Value := l.map fun (k : Nat) => Value.int .i64 (k : Int)
structure SRw (W w : World) (G : Nat) (V : OV) (x : PO) (v : Value) (k : Nat) : Prop where
  box : RwAt w G 52 #[V.d, V.c, V.m, V.r, V.q, V.s]
  g : W.grownBy w none
  own : w.ownsRow W.heap.size 3 1 v (stL x k).length (natC (stL x k))
  ne : v.ownBlock ≠ some G
theorem SRw.kept0 {W w w1 : World} {G : Nat} {V : OV} {x : PO} {v : Value} {k : Nat} (h : SRw W w G V x v k) (hg : w.grownBy w1 none) : SRw W w1 G V x v k := ⟨h.box.kept0 hg, grown_trans h.g hg, own_keep0 h.own hg, h.ne⟩
end Go.Proofs.YteanjchbnaoopaaDoor
namespace Go.Proofs.YteanjchbnaoopaaDoor
open Go.RowKit
theorem CsAt.kept {w w1 : World} {v : Value} {n : Nat} {cs : List Value} {r : Option Nat} (h : CsAt w v n cs) (hg : w.grownBy w1 r) (hr : v.ownBlock = none ∨ v.ownBlock ≠ r) : CsAt w1 v n cs := by
  rcases h with h | ⟨b, o, c, rfl, hn, hb, hc⟩
  · exact .inl h
  · refine .inr ⟨b, o, c, rfl, hn, Nat.lt_of_lt_of_le hb hg.size, fun j x hx => ?_⟩
    rw [grown_cell hg hb (by rcases hr with h | h; cases h; exact h)]
    exact hc j x hx
end Go.Proofs.YteanjchbnaoopaaDoor

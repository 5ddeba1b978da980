/- facademake.To: contract. -/
import Derived.Test.YtogdpaaofihkgaaGreatDoorYOWr0
import Derived.Test.YtogdpaaofihkgaaGreatDoorXCpu0
import Derived.Test.YtogdpaaofihkgaaGreatDoorYLnk13
import Derived.Test.YtogdpaaofihkgaaGreatDoorYLnkQ
import Derived.Test.YtogdpaaofihkgaaGreatDoorYLnk6
import Derived.Test.YtogdpaaofihkgaaGreatDoorYLnk4
import Derived.Test.YtogdpaaofihkgaaGreatDoorYLnk2
import Derived.Test.YtogdpaaofihkgaaGreatDoorYRvB
import Derived.Test.YtogdpaaofihkgaaGreatDoorYBase
import Derived.Test.YtogdpaaofihkgaaGreatDoorYIsa2
import Derived.Test.YtogdpaaofihkgaaGreatDoorRows
import Derived.WalkKit
import Derived.WalkSpells
import Derived.WalkLawsBesides
import Derived.Handy
import Derived.ProofKit
import Derived.OpenShut
import Derived.Below
import Derived.ChangeSame
import Derived.Laws.MakeOwn
import Derived.Deep.MidRow
import Derived.Deep.Draws
import Derived.Test.YtogdpaaofihkgaaGreatDoorYObj12
import Derived.Test.YtogdpaaofihkgaaGreatDoorYObjS
import Derived.Test.YtogdpaaofihkgaaGreatDoorYObj5
import Derived.BigGuardPart
import Derived.Deep.RegionHeld3
import Derived.BigQuiet
import Derived.LoopTactic
import Derived.WideShapes
import Derived.LaidEql
import Derived.Stop.LaidErr
import Derived.Laws.ResultCell
import Derived.MapKept
import Derived.Carry
import Derived.Laws.BitsAllLaws
import Derived.Deep.Cut
import Derived.StillTailTactics
import Derived.Deep.RegionLaw
import Derived.Lib.AppendStr
import Derived.Deep.QuietTactic
import Derived.Laws.StructEq
import Derived.ChangeSlices
import Derived.WideKeyArgs
import Derived.Lib.SmallJoins
import Derived.Deep.Slices
import Derived.ChangeArms
import Derived.RegionTactic
import Derived.IntWalk
import Derived.Outline
import Derived.ChangeKeysEq
import Derived.Deep.WholeRow
import Derived.OwnWalk
import Derived.Laws.BytesArg
import Derived.Laws.Rows
import Derived.Test.YtogdpaaofihkgaaGreatDoorYLnk17
import Derived.Test.YtogdpaaofihkgaaGreatDoorYLnk16
import Derived.Test.YtogdpaaofihkgaaGreatDoorYLnk15
import Derived.Test.YtogdpaaofihkgaaGreatDoorYLnk10
import Derived.Deep.AppendLies
import Derived.Laws.OwnMore
import Derived.Test.YtogdpaaofihkgaaGreatDoorYRel5
import Derived.Test.YtogdpaaofihkgaaGreatDoorYLnk8
import Derived.Test.YtogdpaaofihkgaaGreatDoorYRel1
import Derived.Laws.Externs
import Derived.Shelf.Spec.BitsCarry
import Derived.Deep.CutBlock
import Derived.Deep.CutRange
import Derived.Test.YtogdpaaofihkgaaGreatDoorYMkX
import Derived.Test.YtogdpaaofihkgaaGreatDoorXMkX
namespace Go.Proofs.YtogdpaaofihkgaaGreatDoor
open Go.RowKit
/-- a line of an instruction that names a symbol -/
def tlC (op a : Int) (nm : ByteArray) : Array Value := #[.int .i64 op, .int .i64 a, .int .i64 0, .int .i64 0, .int .u32 0, .string ByteArray.empty, .string nm, .bool false]
theorem build_to2 (op a : Int) (w : World) : (Instr.build 27 #[(0, .int .i64 op), (1, .int .i64 a)]).run Tryz.prog w = .ok (.agg (inC op a 0 0 0)) w := by kernel_rfl
theorem build_to (op a : Int) (nm : ByteArray) (w : World) : (Instr.build 29 #[(0, .agg (inC op a 0 0 0)), (2, .string nm)]).run Tryz.prog w = .ok (.agg (tlC op a nm)) w := by kernel_rfl
theorem to_one (op a : Int) (nm : ByteArray) : (tlC op a nm).all (·.oneCell') = true := by simp [tlC, Value.oneCell']
section
variable {ops : Array Oper} {rest : List Oper} {o : Oper} {A : Act} {w : World} {Q : Exit → Act → World → Prop}
theorem wpList_build_to2 (hgd : o.guard = none) (x y : Operand) (ho : o.op = .build 27 #[(0, x), (1, y)]) {op a : Int} (hx : A.eval x = .int .i64 op) (hy : A.eval y = .int .i64 a) (h : wpList Tryz.prog ops Q rest (A.put o.dst (.agg (inC op a 0 0 0))) w) : wpList Tryz.prog ops Q (o :: rest) A w := by
  refine wpList_plain hgd fun K hK => ?_
  unfold Oper.wp
  simp [execOp, ho, hx, hy, build_to2 op a w, Result.andThen]
  exact hK _ _ h
theorem wpList_build_to (hgd : o.guard = none) (x y : Operand) (ho : o.op = .build 29 #[(0, x), (2, y)]) {op a : Int} {nm : ByteArray} (hx : A.eval x = .agg (inC op a 0 0 0)) (hy : A.eval y = .string nm) (h : wpList Tryz.prog ops Q rest (A.put o.dst (.agg (tlC op a nm))) w) : wpList Tryz.prog ops Q (o :: rest) A w := by
  refine wpList_plain hgd fun K hK => ?_
  unfold Oper.wp
  simp [execOp, ho, hx, hy, build_to op a nm w, Result.andThen]
  exact hK _ _ h
end
set_option maxRecDepth 100000 in
set_option maxHeartbeats 1000000 in
theorem to_any (op a : Int) (nm : ByteArray) (W : World) : Calls Tryz.prog 13 #[.int .i64 op, .int .i64 a, .string nm] W fun e w' => e = .returned (.agg (tlC op a nm)) ∧ W.grownBy w' none := by
  have Hz := zero_line
  have H1 := hid ((RwAt.new W 29 (lnC 0 0)).row (tlC op a nm))
  have HG := hid (grown_setRow (grown_alloc (grown_refl W none) (.cells (lnC 0 0) 29)) (Nat.le_refl W.heap.size) (tlC op a nm))
  go_enter Tryz.func13, Tryz.ntmps13
  go_wp2_with (first
    | (refine wpList_build_to2 rfl _ _ rfl rfl rfl ?_)
    | (refine wpList_build_to rfl _ _ rfl rfl rfl ?_)
    | (refine wpList_store_rw rfl 29 _ _ rfl rfl rfl (RwAt.new _ _ _) (by kernel_rfl) rfl (to_one _ _ _) ?_)
    | fail)
  refine bodyPost_ret (results_cell_row Tryz.results13 _ _ W.heap.size _ _ _ _ rfl H1.out.blk Tryz.underlying29 rfl (by kernel_rfl)) rfl ?_
  exact ⟨rfl, HG.out⟩
end Go.Proofs.YtogdpaaofihkgaaGreatDoor
namespace Go.Proofs.YtogdpaaofihkgaaGreatDoor
open Go.RowKit
def ls13 : List Lx := [⟨0, 0, 0, 0, 0, nmMainL, ByteArray.empty, false⟩, ⟨1, 0, 0, 0, 0, ByteArray.empty, ByteArray.empty, false⟩]
def ob13 : PO := ⟨[], [16777216], [1], [], [], [⟨nmMainL, 2, 0, true⟩]⟩
theorem ob13_is : objX [] ls13 = ob13 := by kernel_rfl
def jn13 : Jn := ⟨[⟨ob13, 0, 0⟩], 0, 1, [(nmMainL, ⟨2, 0⟩)]⟩
theorem jn13_is : joinP [ob13] = (none, jn13) := by kernel_rfl
theorem it13 : ∀ K, itR (itsP (whP jn13)) K = [false]
  | 0 => by kernel_rfl
  | K + 1 => by
    show nextR (itsP (whP jn13)) (itR (itsP (whP jn13)) K) = _
    rw [it13 K]; kernel_rfl
theorem lng13 (K : Nat) : lngB (whP jn13) K = false := by unfold lngB; rw [it13 K]; kernel_rfl
theorem img13 (K : Nat) : (imgP jn13 K).C.length = 1 ∧ (imgP jn13 K).e = 2048 := by
  unfold imgP plcP
  rw [it13 K]
  exact ⟨by kernel_rfl, by kernel_rfl⟩
theorem ob13_b : ObB ob13 := by
  refine ⟨⟨?_, ?_, ?_, ?_⟩, ?_, ?_⟩
  · intro n hn; cases hn
  · intro n hn; obtain rfl := List.mem_singleton.1 hn; omega
  · intro n hn; obtain rfl := List.mem_singleton.1 hn; omega
  · unfold maxLen; simp [ob13]
  · simp [ob13]
  · intro r hr; cases hr
end Go.Proofs.YtogdpaaofihkgaaGreatDoor
namespace Go.Proofs.YtogdpaaofihkgaaGreatDoor
open Go.RowKit
/-- a slice over a block of its own, made of whole things -/
theorem csat_lit (w : World) (cs : Array Value) (T : TypeId) (n : Nat) : CsAt (w.alloc (.cells cs T)) (.slice (some ⟨w.heap.size, 0, none⟩) n n) n cs.toList :=
  .inr ⟨w.heap.size, 0, n, rfl, Nat.le_refl _, by simp, fun j u hu => by
    rw [Nat.zero_add, cell_of_row _ _ j _ _ _ (heap_alloc_last w _)]
    rw [Array.getElem?_toList] at hu
    exact hu⟩
theorem ownO_slices {B : Nat} {w : World} {V : OV} {x : PO} (h : OwnO B w V x) : ∃ p0 c0 p1 c1 p2 c2 p3 c3 p4 c4 p5 c5, V = ⟨.slice p0 x.D.length c0, .slice p1 x.C.length c1, .slice p2 x.M.length c2, .slice p3 x.R.length c3, .slice p4 x.Q.length c4, .slice p5 x.S.length c5⟩ := by
  obtain ⟨d, c, m, r, q, s⟩ := V
  obtain ⟨p0, c0, e0⟩ := own_slice h.d
  obtain ⟨p1, c1, e1⟩ := own_slice h.c
  obtain ⟨p2, c2, e2⟩ := own_slice h.m
  obtain ⟨p3, c3, e3⟩ := own_slice h.r
  obtain ⟨p4, c4, e4⟩ := own_slice h.q
  obtain ⟨p5, c5, e5⟩ := own_slice h.s
  simp only at e0 e1 e2 e3 e4 e5
  subst e0; subst e1; subst e2; subst e3; subst e4; subst e5
  exact ⟨p0, c0, p1, c1, p2, c2, p3, c3, p4, c4, p5, c5, rfl⟩
set_option maxRecDepth 100000 in
set_option maxHeartbeats 8000000 in
theorem first13_any {W : World} {A : Nat → Addr} (he : ErrC W A) : Calls Tryz.prog 5 #[] W fun e w' => e = .returned (.bool true) ∧ W.grownBy w' none := by
  have HE := hid he
  clear he
  go_enter Tryz.func5, Tryz.ntmps5
  go_wp2_with fail
  refine (at_any _ _).mono ?_
  rintro e w1 ⟨rfl, hg1⟩
  unfold lbC
  have HG1 := hid hg1
  clear hg1
  go_wp2_with fail
  refine (op_nil 1 _).mono ?_
  rintro e w2 ⟨rfl, hg2⟩
  unfold lnC
  have HG2 := hid (grown_trans HG1.out hg2)
  clear hg2 HG1
  have HL := hid (csat_lit w2 #[.int .i64 0, .int .i64 0, .int .i64 0, .int .i64 0, .int .u32 0, .string nmMainL, .string ByteArray.empty, .bool false, .int .i64 1, .int .i64 0, .int .i64 0, .int .i64 0, .int .u32 0, .string ByteArray.empty, .string ByteArray.empty, .bool false] 29 2)
  have HG3 := hid (grown_trans HG2.out (World.grownBy_alloc w2 (.cells #[.int .i64 0, .int .i64 0, .int .i64 0, .int .i64 0, .int .u32 0, .string nmMainL, .string ByteArray.empty, .bool false, .int .i64 1, .int .i64 0, .int .i64 0, .int .i64 0, .int .u32 0, .string ByteArray.empty, .string ByteArray.empty, .bool false] 29) none))
  go_wp2_with fail
  refine (mkx_any (D := []) (ls := ls13) (by simp) (by simp [ls13]) (.inl ⟨⟨_, _, rfl⟩, rfl⟩) HL.out).mono ?_
  rintro e w4 ⟨V, rfl, ho, hg⟩
  rw [ob13_is] at ho
  obtain ⟨p0, c0, p1, c1, p2, c2, p3, c3, p4, c4, p5, c5, hV⟩ := ownO_slices ho
  rw [show ob13.D.length = 0 from rfl, show ob13.C.length = 1 from rfl, show ob13.M.length = 1 from rfl, show ob13.R.length = 0 from rfl, show ob13.Q.length = 0 from rfl, show ob13.S.length = 1 from rfl] at hV
  subst hV
  have HG4 := hid (grown_trans HG3.out hg)
  have hal := World.grownBy_alloc w4 (.cells #[.slice p0 0 c0, .slice p1 1 c1, .slice p2 1 c2, .slice p3 0 c3, .slice p4 0 c4, .slice p5 1 c5] 39) none
  have HOb : Hid (ObsAt (w4.alloc (.cells #[.slice p0 0 c0, .slice p1 1 c1, .slice p2 1 c2, .slice p3 0 c3, .slice p4 0 c4, .slice p5 1 c5] 39)) (.slice (some ⟨w4.heap.size, 0, none⟩) 1 1) [⟨⟨.slice p0 0 c0, .slice p1 1 c1, .slice p2 1 c2, .slice p3 0 c3, .slice p4 0 c4, .slice p5 1 c5⟩, ob13⟩]) := hid ⟨csat_lit w4 _ _ 1, fun o h => by
    obtain rfl := List.mem_singleton.1 h
    exact ho.at_.kept0 hal⟩
  have HG5 := hid (grown_trans HG4.out hal)
  clear ho hg HL HG3 HG2 hal HG4
  unfold OV.agg
  go_wp2_with fail
  refine (link_any HOb.out (HE.out.kept0 HG5.out) (fun o h => by obtain rfl := List.mem_singleton.1 h; exact ob13_b) (by simp)).mono ?_
  rintro e w6 hJ
  unfold LinkAt at hJ
  rw [show ([⟨⟨.slice p0 0 c0, .slice p1 1 c1, .slice p2 1 c2, .slice p3 0 c3, .slice p4 0 c4, .slice p5 1 c5⟩, ob13⟩] : List Ob).map (·.x) = [ob13] from rfl, jn13_is] at hJ
  simp only at hJ
  obtain ⟨K, hK, hJ⟩ := hJ
  rw [if_neg (by rw [lng13 K]; simp)] at hJ
  obtain ⟨_, _, v1, vC, vd, vp, vs, rfl, hro, hg⟩ := hJ
  obtain ⟨hi1, hi2⟩ := img13 K
  have r1 := hro ⟨v1, 25, 1, (imgP jn13 K).D.length, (imgP jn13 K).D.map (Value.int .u32)⟩ (by simp [imRo])
  have r2 := hro ⟨vC, 25, 1, (imgP jn13 K).C.length, (imgP jn13 K).C.map (Value.int .u32)⟩ (by simp [imRo])
  have r3 := hro ⟨vd, 3, 1, (imgP jn13 K).dr.length, (imgP jn13 K).dr.map (Value.int .i64)⟩ (by simp [imRo])
  have r4 := hro ⟨vp, 3, 1, (imgP jn13 K).pl.length, (imgP jn13 K).pl.map (Value.int .i64)⟩ (by simp [imRo])
  have r5 := hro ⟨vs, 3, 1, (imgP jn13 K).st.length, (imgP jn13 K).st.map (Value.int .i64)⟩ (by simp [imRo])
  simp only at r1 r2 r3 r4 r5
  obtain ⟨q1, d1, e1⟩ := own_slice r1
  obtain ⟨q2, d2, e2⟩ := own_slice r2
  obtain ⟨q3, d3, e3⟩ := own_slice r3
  obtain ⟨q4, d4, e4⟩ := own_slice r4
  obtain ⟨q5, d5, e5⟩ := own_slice r5
  obtain ⟨n1, hn1⟩ : ∃ n, (imgP jn13 K).D.length = n := ⟨_, rfl⟩
  obtain ⟨n3, hn3⟩ : ∃ n, (imgP jn13 K).dr.length = n := ⟨_, rfl⟩
  obtain ⟨n4, hn4⟩ : ∃ n, (imgP jn13 K).pl.length = n := ⟨_, rfl⟩
  obtain ⟨n5, hn5⟩ : ∃ n, (imgP jn13 K).st.length = n := ⟨_, rfl⟩
  rw [hn1] at e1
  rw [hi1] at e2
  rw [hn3] at e3
  rw [hn4] at e4
  rw [hn5] at e5
  subst e1 e2 e3 e4 e5
  rw [hi2]
  have hal := World.grownBy_alloc w6 (.cells #[.int .u32 2048, .slice q1 n1 d1, .slice q2 1 d2, .slice q3 n3 d3, .slice q4 n4 d4, .slice q5 n5 d5] 43) none
  have HG6 := hid (grown_trans HG5.out (grown_trans hg hal))
  have HX := hid (RwAt.new w6 43 #[.int .u32 2048, .slice q1 n1 d1, .slice q2 1 d2, .slice q3 n3 d3, .slice q4 n4 d4, .slice q5 n5 d5])
  have Hzi := zero_image
  clear r1 r2 r3 r4 r5 hro hg hal hK hi1 hi2 hn1 hn3 hn4 hn5 HG5 HOb
  go_upto_region 2 with (fail)
  have x0 := HX.out.cell 0 (v := .int .u32 2048) rfl
  have x2 := HX.out.cell 2 (v := .slice q2 1 d2) rfl
  go_wp2
  go_ret
  exact ⟨rfl, HG6.out⟩
end Go.Proofs.YtogdpaaofihkgaaGreatDoor

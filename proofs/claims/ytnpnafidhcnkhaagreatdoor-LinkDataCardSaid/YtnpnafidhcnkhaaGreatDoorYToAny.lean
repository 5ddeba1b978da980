/- facademake.To: contract. -/
import Derived.Test.YtnpnafidhcnkhaaGreatDoorYOOwn0
import Derived.Test.YtnpnafidhcnkhaaGreatDoorYMkX
import Derived.Test.YtnpnafidhcnkhaaGreatDoorYLnk17
import Derived.Test.YtnpnafidhcnkhaaGreatDoorYBase
import Derived.Test.YtnpnafidhcnkhaaGreatDoorYLnkY
import Derived.Test.YtnpnafidhcnkhaaGreatDoorYLnkP
import Derived.Test.YtnpnafidhcnkhaaGreatDoorYLnk18
import Derived.Test.YtnpnafidhcnkhaaGreatDoorYIsa2
import Derived.LaidMore
namespace Go.Proofs.YtnpnafidhcnkhaaGreatDoor
open Go.RowKit
/-- a line of an instruction that names a symbol -/
def tlC (op a : Int) (nm : ByteArray) : Array Value := #[.int .i64 op, .int .i64 a, .int .i64 0, .int .i64 0, .int .u32 0, .string ByteArray.empty, .string nm, .bool false]
theorem build_to2 (op a : Int) (w : World) : (Instr.build 29 #[(0, .int .i64 op), (1, .int .i64 a)]).run Tryz.prog w = .ok (.agg (inC op a 0 0 0)) w := by kernel_rfl
theorem build_to (op a : Int) (nm : ByteArray) (w : World) : (Instr.build 31 #[(0, .agg (inC op a 0 0 0)), (2, .string nm)]).run Tryz.prog w = .ok (.agg (tlC op a nm)) w := by kernel_rfl
theorem to_one (op a : Int) (nm : ByteArray) : (tlC op a nm).all (·.oneCell') = true := by simp [tlC, Value.oneCell']
section
variable {ops : Array Oper} {rest : List Oper} {o : Oper} {A : Act} {w : World} {Q : Exit → Act → World → Prop}
theorem wpList_build_to2 (hgd : o.guard = none) (x y : Operand) (ho : o.op = .build 29 #[(0, x), (1, y)]) {op a : Int} (hx : A.eval x = .int .i64 op) (hy : A.eval y = .int .i64 a) (h : wpList Tryz.prog ops Q rest (A.put o.dst (.agg (inC op a 0 0 0))) w) : wpList Tryz.prog ops Q (o :: rest) A w := by
  refine wpList_plain hgd fun K hK => ?_
  unfold Oper.wp
  simp [execOp, ho, hx, hy, build_to2 op a w, Result.andThen]
  exact hK _ _ h
theorem wpList_build_to (hgd : o.guard = none) (x y : Operand) (ho : o.op = .build 31 #[(0, x), (2, y)]) {op a : Int} {nm : ByteArray} (hx : A.eval x = .agg (inC op a 0 0 0)) (hy : A.eval y = .string nm) (h : wpList Tryz.prog ops Q rest (A.put o.dst (.agg (tlC op a nm))) w) : wpList Tryz.prog ops Q (o :: rest) A w := by
  refine wpList_plain hgd fun K hK => ?_
  unfold Oper.wp
  simp [execOp, ho, hx, hy, build_to op a nm w, Result.andThen]
  exact hK _ _ h
end
set_option maxRecDepth 100000 in
set_option maxHeartbeats 1000000 in
theorem to_any (op a : Int) (nm : ByteArray) (W : World) : Calls Tryz.prog 10 #[.int .i64 op, .int .i64 a, .string nm] W fun e w' => e = .returned (.agg (tlC op a nm)) ∧ W.grownBy w' none := by
  have Hz := zero_line
  have H1 := hid ((RwAt.new W 31 (lnC 0 0)).row (tlC op a nm))
  have HG := hid (grown_setRow (grown_alloc (grown_refl W none) (.cells (lnC 0 0) 31)) (Nat.le_refl W.heap.size) (tlC op a nm))
  go_enter Tryz.func10, Tryz.ntmps10
  go_wp2_with (first
    | (refine wpList_build_to2 rfl _ _ rfl rfl rfl ?_)
    | (refine wpList_build_to rfl _ _ rfl rfl rfl ?_)
    | (refine wpList_store_rw rfl 31 _ _ rfl rfl rfl (RwAt.new _ _ _) (by kernel_rfl) rfl (to_one _ _ _) ?_)
    | fail)
  refine bodyPost_ret (results_cell_row Tryz.results10 _ _ W.heap.size _ _ _ _ rfl H1.out.blk Tryz.underlying31 rfl (by kernel_rfl)) rfl ?_
  exact ⟨rfl, HG.out⟩
end Go.Proofs.YtnpnafidhcnkhaaGreatDoor
namespace Go.Proofs.YtnpnafidhcnkhaaGreatDoor
open Go.RowKit
structure LxW (w0 w : World) (v : Value) (ls : List Lx) : Prop where
  own : w.ownsRow w0.heap.size 31 8 v ls.length (csL lxC ls)
  g : w0.grownBy w none
section
variable {w0 w w1 : World} {v : Value} {ls : List Lx}
theorem LxW.kept0 (h : LxW w0 w v ls) (hg : w.grownBy w1 none) : LxW w0 w1 v ls := ⟨own_keep0 h.own hg, grown_trans h.g hg⟩
theorem LxW.cs (h : LxW w0 w v ls) : CsAt w v ls.length (csL lxC ls) := CsAt.own h.own
theorem LxW.add (h : LxW w0 w v ls) {v' : Value} (ms : List Lx) (ho : w1.ownsRow w0.heap.size 31 8 v' (ls.length + ms.length) (csL lxC ls ++ csL lxC ms)) (hg : w.grownBy w1 v.ownBlock) : LxW w0 w1 v' (ls ++ ms) := by
  refine ⟨?_, grown_new' (grown_trans (grown_none h.g) hg) (fun j hj => (h.own.lt j hj).1)⟩
  rw [List.length_append, csL_append]
  exact ho
theorem info_lnx : ∃ i : TypeInfo, Tryz.prog.info? 31 = some i ∧ i.zero = some (.agg #[.int .i64 0, .int .i64 0, .int .i64 0, .int .i64 0, .int .u32 0, .string ⟨#[]⟩, .string ⟨#[]⟩, .bool false]) ∧ i.size = 8 ∧ i.bytes = 80 := info_parts (P := Tryz.prog) (e := 31) (z := .agg #[.int .i64 0, .int .i64 0, .int .i64 0, .int .i64 0, .int .u32 0, .string ⟨#[]⟩, .string ⟨#[]⟩, .bool false]) (size := 8) (bytes := 80) (by kernel_rfl)
end
end Go.Proofs.YtnpnafidhcnkhaaGreatDoor
namespace Go.Proofs.YtnpnafidhcnkhaaGreatDoor
open Go.RowKit
def ls13 : List Lx := [⟨0, 0, 0, 0, 0, nmMainL, ByteArray.empty, false⟩, ⟨1, 0, 0, 0, 0, ByteArray.empty, ByteArray.empty, false⟩]
def ob13 : PO := ⟨[], [16777216], [1], [], [], [⟨nmMainL, 2, 0, true⟩]⟩
theorem ob13_is : objX [] ls13 = ob13 := by kernel_rfl
def jn13 : Jn := ⟨[⟨ob13, 0, 0⟩], 0, 1, [(nmMainL, ⟨2, 0⟩)]⟩
theorem jn13_is : joinP [ob13] = (none, jn13) := by kernel_rfl
theorem it13 : ∀ K, itR (itsP (whP jn13)) K = [false]
  | 0 => by kernel_rfl
  | K + 1 => by
    show nextR (itsP (whP jn13)) (itR (itsP (whP jn13)) K) = _
    rw [it13 K]; kernel_rfl
theorem lng13 (K : Nat) : lngB (whP jn13) K = false := by unfold lngB; rw [it13 K]; kernel_rfl
theorem img13 (K : Nat) : (imgP jn13 K).C.length = 1 ∧ (imgP jn13 K).e = 2048 := by
  unfold imgP plcP
  rw [it13 K]
  exact ⟨by kernel_rfl, by kernel_rfl⟩
theorem ob13_b : ObB ob13 := by
  refine ⟨⟨?_, ?_, ?_, ?_⟩, ?_, ?_⟩
  · intro n hn; cases hn
  · intro n hn; obtain rfl := List.mem_singleton.1 hn; omega
  · intro n hn; obtain rfl := List.mem_singleton.1 hn; omega
  · unfold maxLen; simp [ob13]
  · simp [ob13]
  · intro r hr; cases hr
end Go.Proofs.YtnpnafidhcnkhaaGreatDoor
namespace Go.Proofs.YtnpnafidhcnkhaaGreatDoor
open Go.RowKit
/-- a slice over a block of its own, made of whole things -/
theorem csat_lit (w : World) (cs : Array Value) (T : TypeId) (n : Nat) : CsAt (w.alloc (.cells cs T)) (.slice (some ⟨w.heap.size, 0, none⟩) n n) n cs.toList :=
  .inr ⟨w.heap.size, 0, n, rfl, Nat.le_refl _, by simp, fun j u hu => by
    rw [Nat.zero_add, cell_of_row _ _ j _ _ _ (heap_alloc_last w _)]
    rw [Array.getElem?_toList] at hu
    exact hu⟩
theorem ownO_slices {B : Nat} {w : World} {V : OV} {x : PO} (h : OwnO B w V x) : ∃ p0 c0 p1 c1 p2 c2 p3 c3 p4 c4 p5 c5, V = ⟨.slice p0 x.D.length c0, .slice p1 x.C.length c1, .slice p2 x.M.length c2, .slice p3 x.R.length c3, .slice p4 x.Q.length c4, .slice p5 x.S.length c5⟩ := by
  obtain ⟨d, c, m, r, q, s⟩ := V
  obtain ⟨p0, c0, e0⟩ := own_slice h.d
  obtain ⟨p1, c1, e1⟩ := own_slice h.c
  obtain ⟨p2, c2, e2⟩ := own_slice h.m
  obtain ⟨p3, c3, e3⟩ := own_slice h.r
  obtain ⟨p4, c4, e4⟩ := own_slice h.q
  obtain ⟨p5, c5, e5⟩ := own_slice h.s
  simp only at e0 e1 e2 e3 e4 e5
  subst e0; subst e1; subst e2; subst e3; subst e4; subst e5
  exact ⟨p0, c0, p1, c1, p2, c2, p3, c3, p4, c4, p5, c5, rfl⟩
set_option maxRecDepth 100000 in
set_option maxHeartbeats 8000000 in
theorem first13_any {W : World} {A : Nat → Addr} (he : ErrC W A) : Calls Tryz.prog 6 #[] W fun e w' => e = .returned (.bool true) ∧ W.grownBy w' none := by
  have HE := hid he
  clear he
  go_enter Tryz.func6, Tryz.ntmps6
  go_wp2_with fail
  refine (at_any _ _).mono ?_
  rintro e w1 ⟨rfl, hg1⟩
  unfold lbC
  have HG1 := hid hg1
  clear hg1
  go_wp2_with fail
  refine (op_nil 1 _).mono ?_
  rintro e w2 ⟨rfl, hg2⟩
  unfold lnC
  have HG2 := hid (grown_trans HG1.out hg2)
  clear hg2 HG1
  have HL := hid (csat_lit w2 #[.int .i64 0, .int .i64 0, .int .i64 0, .int .i64 0, .int .u32 0, .string nmMainL, .string ByteArray.empty, .bool false, .int .i64 1, .int .i64 0, .int .i64 0, .int .i64 0, .int .u32 0, .string ByteArray.empty, .string ByteArray.empty, .bool false] 31 2)
  have HG3 := hid (grown_trans HG2.out (World.grownBy_alloc w2 (.cells #[.int .i64 0, .int .i64 0, .int .i64 0, .int .i64 0, .int .u32 0, .string nmMainL, .string ByteArray.empty, .bool false, .int .i64 1, .int .i64 0, .int .i64 0, .int .i64 0, .int .u32 0, .string ByteArray.empty, .string ByteArray.empty, .bool false] 31) none))
  go_wp2_with fail
  refine (mkx_any (D := []) (ls := ls13) (by simp) (by simp [ls13]) (.inl ⟨⟨_, _, rfl⟩, rfl⟩) HL.out).mono ?_
  rintro e w4 ⟨V, rfl, ho, hg⟩
  rw [ob13_is] at ho
  obtain ⟨p0, c0, p1, c1, p2, c2, p3, c3, p4, c4, p5, c5, hV⟩ := ownO_slices ho
  rw [show ob13.D.length = 0 from rfl, show ob13.C.length = 1 from rfl, show ob13.M.length = 1 from rfl, show ob13.R.length = 0 from rfl, show ob13.Q.length = 0 from rfl, show ob13.S.length = 1 from rfl] at hV
  subst hV
  have HG4 := hid (grown_trans HG3.out hg)
  have hal := World.grownBy_alloc w4 (.cells #[.slice p0 0 c0, .slice p1 1 c1, .slice p2 1 c2, .slice p3 0 c3, .slice p4 0 c4, .slice p5 1 c5] 41) none
  have HOb : Hid (ObsAt (w4.alloc (.cells #[.slice p0 0 c0, .slice p1 1 c1, .slice p2 1 c2, .slice p3 0 c3, .slice p4 0 c4, .slice p5 1 c5] 41)) (.slice (some ⟨w4.heap.size, 0, none⟩) 1 1) [⟨⟨.slice p0 0 c0, .slice p1 1 c1, .slice p2 1 c2, .slice p3 0 c3, .slice p4 0 c4, .slice p5 1 c5⟩, ob13⟩]) := hid ⟨csat_lit w4 _ _ 1, fun o h => by
    obtain rfl := List.mem_singleton.1 h
    exact ho.at_.kept0 hal⟩
  have HG5 := hid (grown_trans HG4.out hal)
  clear ho hg HL HG3 HG2 hal HG4
  unfold OV.agg
  go_wp2_with fail
  refine (link_any HOb.out (HE.out.kept0 HG5.out) (fun o h => by obtain rfl := List.mem_singleton.1 h; exact ob13_b) (by simp)).mono ?_
  rintro e w6 hJ
  unfold LinkAt at hJ
  rw [show ([⟨⟨.slice p0 0 c0, .slice p1 1 c1, .slice p2 1 c2, .slice p3 0 c3, .slice p4 0 c4, .slice p5 1 c5⟩, ob13⟩] : List Ob).map (·.x) = [ob13] from rfl, jn13_is] at hJ
  simp only at hJ
  obtain ⟨K, hK, hJ⟩ := hJ
  rw [if_neg (by rw [lng13 K]; simp)] at hJ
  obtain ⟨_, _, v1, vC, vd, vp, vs, rfl, hro, hg⟩ := hJ
  obtain ⟨hi1, hi2⟩ := img13 K
  have r1 := hro ⟨v1, 27, 1, (imgP jn13 K).D.length, (imgP jn13 K).D.map (Value.int .u32)⟩ (by simp [imRo])
  have r2 := hro ⟨vC, 27, 1, (imgP jn13 K).C.length, (imgP jn13 K).C.map (Value.int .u32)⟩ (by simp [imRo])
  have r3 := hro ⟨vd, 3, 1, (imgP jn13 K).dr.length, (imgP jn13 K).dr.map (Value.int .i64)⟩ (by simp [imRo])
  have r4 := hro ⟨vp, 3, 1, (imgP jn13 K).pl.length, (imgP jn13 K).pl.map (Value.int .i64)⟩ (by simp [imRo])
  have r5 := hro ⟨vs, 3, 1, (imgP jn13 K).st.length, (imgP jn13 K).st.map (Value.int .i64)⟩ (by simp [imRo])
  simp only at r1 r2 r3 r4 r5
  obtain ⟨q1, d1, e1⟩ := own_slice r1
  obtain ⟨q2, d2, e2⟩ := own_slice r2
  obtain ⟨q3, d3, e3⟩ := own_slice r3
  obtain ⟨q4, d4, e4⟩ := own_slice r4
  obtain ⟨q5, d5, e5⟩ := own_slice r5
  obtain ⟨n1, hn1⟩ : ∃ n, (imgP jn13 K).D.length = n := ⟨_, rfl⟩
  obtain ⟨n3, hn3⟩ : ∃ n, (imgP jn13 K).dr.length = n := ⟨_, rfl⟩
  obtain ⟨n4, hn4⟩ : ∃ n, (imgP jn13 K).pl.length = n := ⟨_, rfl⟩
  obtain ⟨n5, hn5⟩ : ∃ n, (imgP jn13 K).st.length = n := ⟨_, rfl⟩
  rw [hn1] at e1
  rw [hi1] at e2
  rw [hn3] at e3
  rw [hn4] at e4
  rw [hn5] at e5
  subst e1 e2 e3 e4 e5
  rw [hi2]
  have hal := World.grownBy_alloc w6 (.cells #[.int .u32 2048, .slice q1 n1 d1, .slice q2 1 d2, .slice q3 n3 d3, .slice q4 n4 d4, .slice q5 n5 d5] 45) none
  have HG6 := hid (grown_trans HG5.out (grown_trans hg hal))
  have HX := hid (RwAt.new w6 45 #[.int .u32 2048, .slice q1 n1 d1, .slice q2 1 d2, .slice q3 n3 d3, .slice q4 n4 d4, .slice q5 n5 d5])
  have Hzi := zero_image
  clear r1 r2 r3 r4 r5 hro hg hal hK hi1 hi2 hn1 hn3 hn4 hn5 HG5 HOb
  go_upto_region 2 with (fail)
  have x0 := HX.out.cell 0 (v := .int .u32 2048) rfl
  have x2 := HX.out.cell 2 (v := .slice q2 1 d2) rfl
  go_wp2
  go_ret
  exact ⟨rfl, HG6.out⟩
end Go.Proofs.YtnpnafidhcnkhaaGreatDoor
namespace Go.Proofs.YtnpnafidhcnkhaaGreatDoor
open Go.RowKit
/-- rows of unlike types lie in unlike blocks -/
theorem own_diff {w : World} {B B' z z' n n' : Nat} {e e' : TypeId} {v v' : Value} {xs xs' : List Value} (h : w.ownsRow B e z v n xs) (h' : w.ownsRow B' e' z' v' n' xs') (he : e ≠ e') : v.ownBlock = none ∨ v.ownBlock ≠ v'.ownBlock := by
  rcases h.2 with ⟨rfl, _⟩ | ⟨g, cap, cur, rfl, _, hb, _⟩
  · exact .inl rfl
  · refine .inr ?_
    rcases h'.2 with ⟨rfl, _⟩ | ⟨g', cap', cur', rfl, _, hb', _⟩
    · intro h; cases h
    · intro hh
      have hgg : g = g' := Option.some.inj hh
      subst hgg
      rw [hb] at hb'
      simp only [Option.some.injEq, Obj.cells.injEq] at hb'
      exact he hb'.2.1
theorem OwnO.keptBy {B B' n : Nat} {w w1 : World} {V : OV} {x : PO} {v : Value} {xs : List Value} (h : OwnO B w V x) (hv : w.ownsRow B' 41 6 v n xs) (hg : w.grownBy w1 v.ownBlock) : OwnO B w1 V x :=
  ⟨h.d.kept hg (own_diff h.d hv (by decide)), h.c.kept hg (own_diff h.c hv (by decide)), h.m.kept hg (own_diff h.m hv (by decide)), h.r.kept hg (own_diff h.r hv (by decide)), h.q.kept hg (own_diff h.q hv (by decide)), h.s.kept hg (own_diff h.s hv (by decide)), h.ap⟩
theorem OwnO.baseW {B B' : Nat} {w : World} {V : OV} {x : PO} (h : OwnO B w V x) (hB : B' ≤ B) : OwnO B' w V x := ⟨own_base h.d hB, own_base h.c hB, own_base h.m hB, own_base h.r hB, own_base h.q hB, own_base h.s hB, h.ap⟩
structure ObW (w0 w : World) (v : Value) (L : List Ob) : Prop where
  own : w.ownsRow w0.heap.size 41 6 v L.length (csL obC L)
  each : ∀ o ∈ L, OwnO w0.heap.size w o.V o.x
  g : w0.grownBy w none
section
variable {w0 w w1 : World} {v : Value} {L : List Ob}
theorem ObW.start (w : World) : ObW w w (.slice none 0 0) [] := ⟨World.ownsRow_nil _ _ _ _, fun _ h => (List.not_mem_nil h).elim, grown_refl _ _⟩
theorem ObW.kept0 (h : ObW w0 w v L) (hg : w.grownBy w1 none) : ObW w0 w1 v L := ⟨own_keep0 h.own hg, fun o ho => (h.each o ho).kept0 hg, grown_trans h.g hg⟩
theorem ObW.at_ (h : ObW w0 w v L) : ObsAt w v L := ⟨CsAt.own h.own, fun o ho => (h.each o ho).at_⟩
theorem ObW.len (h : ObW w0 w v L) : ∃ p c, v = .slice p L.length c := own_slice h.own
theorem ObW.add (h : ObW w0 w v L) {v' : Value} (ms : List Ob) (ho : ∀ o ∈ ms, OwnO w0.heap.size w o.V o.x) (hr : w1.ownsRow w0.heap.size 41 6 v' (L.length + ms.length) (csL obC L ++ csL obC ms)) (hg : w.grownBy w1 v.ownBlock) : ObW w0 w1 v' (L ++ ms) := by
  refine ⟨?_, ?_, grown_new' (grown_trans (grown_none h.g) hg) (fun j hj => (h.own.lt j hj).1)⟩
  · rw [List.length_append, csL_append]
    exact hr
  · intro o hm
    rcases List.mem_append.1 hm with hm | hm
    · exact (h.each o hm).keptBy h.own hg
    · exact (ho o hm).keptBy h.own hg
theorem info_obx : ∃ i : TypeInfo, Tryz.prog.info? 41 = some i ∧ i.zero = some (.agg #[.slice none 0 0, .slice none 0 0, .slice none 0 0, .slice none 0 0, .slice none 0 0, .slice none 0 0]) ∧ i.size = 6 ∧ i.bytes = 144 := info_parts (P := Tryz.prog) (e := 41) (z := .agg #[.slice none 0 0, .slice none 0 0, .slice none 0 0, .slice none 0 0, .slice none 0 0, .slice none 0 0]) (size := 6) (bytes := 144) (by kernel_rfl)
end
end Go.Proofs.YtnpnafidhcnkhaaGreatDoor
namespace Go.Proofs.YtnpnafidhcnkhaaGreatDoor
open Go.RowKit
/-- an object that a call answered, laid into a box -/
theorem OBx.newD {W w : World} {B : Nat} {V : OV} {x : PO} (h : OwnO B w V x) (hB : W.heap.size ≤ B) (hg : W.grownBy w none) : OBx W (w.alloc (.cells #[V.d, V.c, V.m, V.r, V.q, V.s] 41)) w.heap.size [] V x := by
  have al := World.grownBy_alloc w (.cells #[V.d, V.c, V.m, V.r, V.q, V.s] 41) none
  have hs := hg.size
  refine ⟨grown_below (grown_trans hg al), RwAt.new w _ _, ⟨own_keep0 (own_base h.d hB) al, own_keep0 (own_base h.c hB) al, own_keep0 (own_base h.m hB) al, own_keep0 (own_base h.r hB) al, own_keep0 (own_base h.q hB) al, own_keep0 (own_base h.s hB) al, h.ap⟩, hs, fun u hu => ⟨fun e => ?_, fun T hT => absurd hT (by simp)⟩, fun T hT => absurd hT (by simp)⟩
  have : w.heap.size < w.heap.size := by
    simp only [List.mem_cons, List.not_mem_nil, or_false] at hu
    rcases hu with rfl | rfl | rfl | rfl | rfl | rfl
    · exact (h.d.lt _ e).2
    · exact (h.c.lt _ e).2
    · exact (h.m.lt _ e).2
    · exact (h.r.lt _ e).2
    · exact (h.q.lt _ e).2
    · exact (h.s.lt _ e).2
  omega
theorem build_symD (w : World) : (Instr.build 63 #[(0, .string ⟨#[100]⟩), (1, .int .i64 1), (2, .int .i64 2)]).run Tryz.prog w = .ok (.agg #[.string nmDat, .int .i64 1, .int .i64 2, .bool false]) w := by kernel_rfl
theorem build_relD (add : Int) (w : World) : (Instr.build 65 #[(0, .int .i64 0), (1, .int .i64 1), (2, .int .i64 1), (3, .int .i64 add)]).run Tryz.prog w = .ok (.agg #[.int .i64 0, .int .i64 1, .int .i64 1, .int .i64 add]) w := by kernel_rfl
theorem build_relE (w : World) : (Instr.build 65 #[(0, .int .i64 1), (1, .int .i64 1), (2, .int .i64 0)]).run Tryz.prog w = .ok (.agg #[.int .i64 1, .int .i64 1, .int .i64 0, .int .i64 0]) w := by kernel_rfl
theorem info_symD : ∃ i : TypeInfo, Tryz.prog.info? 63 = some i ∧ i.zero = some (.agg #[.string ⟨#[]⟩, .int .i64 0, .int .i64 0, .bool false]) ∧ i.size = 4 ∧ i.bytes = 40 := info_parts (P := Tryz.prog) (e := 63) (z := .agg #[.string ⟨#[]⟩, .int .i64 0, .int .i64 0, .bool false]) (size := 4) (bytes := 40) (by kernel_rfl)
/-- the object before its symbol of data, its repairs -/
def obZ (nm : ByteArray) : PO := ⟨[7, 8, 9], [16777216], [1], [], [], [⟨nm, 2, 0, true⟩]⟩
theorem obZ_is {i : Nat} (hi : i < 9) : objX [7, 8, 9] [atL (nmM i), opL 1 0] = obZ (nmM i) := by
  have key : ((List.range 9).all fun i => decide (objX [7, 8, 9] [atL (nmM i), opL 1 0] = obZ (nmM i))) = true := by decide +kernel
  exact of_decide_eq_true (List.all_eq_true.1 key i (List.mem_range.2 hi))
theorem obZ_da (add : Int) (nm : ByteArray) : ({ ({ obZ nm with S := (obZ nm).S ++ [⟨nmDat, 1, 2, false⟩] } : PO) with R := ({ obZ nm with S := (obZ nm).S ++ [⟨nmDat, 1, 2, false⟩] } : PO).R ++ [⟨0, 1, 1, add⟩, ⟨1, 1, 0, 0⟩] } : PO) = obDa add nm := rfl
theorem noQ_da {add : Int} {n : Nat} : ∀ r ∈ (whP (jnDa add n)).Q, r.k ≠ 2 := by
  intro r hr
  rw [whP_Q] at hr
  obtain ⟨l, hl, hr⟩ := List.mem_flatten.1 hr
  obtain ⟨q, hq, rfl⟩ := List.mem_map.1 hl
  obtain ⟨i, _, rfl⟩ := List.mem_map.1 hq
  simp [obDa] at hr
theorem mainDa (add : Int) (n : Nat) : lkp (jnDa add (n + 1)).M nmMainL = some ⟨2, ((0 : Nat) : Int)⟩ := by
  have e : (jnDa add (n + 1)).M = (nmM 0, ⟨2, ((0 : Nat) : Int)⟩) :: ((List.range n).map fun i => (nmM (i + 1), (⟨2, ((i + 1 : Nat) : Int)⟩ : Sp))) := by
    show (List.range (n + 1)).map (fun i => (nmM i, (⟨2, (i : Int)⟩ : Sp))) = _
    rw [List.range_succ_eq_map, List.map_cons, List.map_map]
    rfl
  rw [e, lkp_cons, if_pos (by decide)]
set_option maxRecDepth 100000 in
set_option maxHeartbeats 2000000 in
theorem vimg_ok (dp cp rp pp sp : Option Addr) (dn dc cn cc rn rc pn pc sn sc : Nat) (e : Int) (W : World) (hd : dn ≤ 2048) (hc : cn ≤ 2048) (h0 : 2048 ≤ e) (h1 : e < 2048 + (cn : Int)) :
    Calls Tryz.prog 21 #[.agg #[.int .u32 e, .slice dp dn dc, .slice cp cn cc, .slice rp rn rc, .slice pp pn pc, .slice sp sn sc]] W fun e' w' => e' = .returned (.int .i64 0) ∧ W.grownBy w' none := by
  have Hal := hid (World.grownBy_alloc W (.cells #[.int .u32 e, .slice dp dn dc, .slice cp cn cc, .slice rp rn rc, .slice pp pn pc, .slice sp sn sc] 45) none)
  have i1 : ¬ (2048 : Int) < (dn : Int) := by omega
  have i2 : ¬ (2048 : Int) < (cn : Int) := by omega
  have i3 : (0 : Int) ≤ (cn : Int) := by omega
  have c3 : ¬ e < 2048 := by omega
  have c4 : ¬ 2048 + (cn : Int) ≤ e := by omega
  go_enter Tryz.func21, Tryz.ntmps21
  go_wp2
  go_ret
  exact ⟨rfl, Hal.out⟩
end Go.Proofs.YtnpnafidhcnkhaaGreatDoor
namespace Go.Proofs.YtnpnafidhcnkhaaGreatDoor
open Go.RowKit Go.WideShapes Go.ChangeShapes
def errTexts : List (String × List UInt8) := [("facade/api.ErrEnd", [105, 116, 32, 101, 110, 100, 115, 32, 116, 111, 111, 32, 101, 97, 114, 108, 121]), ("facade/api.ErrShape", [110, 111, 116, 32, 97, 115, 32, 105, 116, 32, 104, 97, 115, 32, 116, 111, 32, 98, 101]), ("facade/api.ErrRange", [97, 32, 110, 117, 109, 98, 101, 114, 32, 111, 117, 116, 32, 111, 102, 32, 105, 116, 115, 32, 114, 97, 110, 103, 101]), ("facade/api.ErrMany", [116, 111, 111, 32, 109, 97, 110, 121]), ("facade/api.ErrOp", [110, 111, 32, 115, 117, 99, 104, 32, 105, 110, 115, 116, 114, 117, 99, 116, 105, 111, 110]), ("facade/api.ErrTwice", [116, 104, 101, 114, 101, 32, 105, 115, 32, 111, 110, 101]), ("facade/api.ErrNone", [116, 104, 101, 114, 101, 32, 105, 115, 32, 110, 111, 110, 101]), ("facade/api.ErrFar", [116, 111, 111, 32, 102, 97, 114]), ("facade/api.ErrMap", [110, 111, 116, 32, 97, 115, 32, 116, 104, 101, 32, 99, 111, 100, 101, 39, 115, 32, 109, 97, 112, 32, 104, 97, 115, 32, 105, 116]), ("facade/api.ErrOwner", [97, 110, 111, 116, 104, 101, 114, 32, 111, 110, 101, 39, 115]), ("facade/api.ErrType", [97, 32, 102, 114, 97, 109, 101, 32, 111, 102, 32, 97, 110, 111, 116, 104, 101, 114, 32, 107, 105, 110, 100]), ("facade/api.ErrBusy", [115, 116, 105, 108, 108, 32, 105, 110, 32, 117, 115, 101]), ("facade/api.ErrFull", [116, 104, 101, 114, 101, 32, 105, 115, 32, 110, 111, 32, 114, 111, 111, 109]), ("facade/api.ErrState", [110, 111, 116, 32, 97, 115, 32, 105, 116, 32, 105, 115, 32, 110, 111, 119]), ("facade/api.ErrWord", [110, 111, 32, 115, 117, 99, 104, 32, 119, 111, 114, 100]), ("facade/api.ErrNumber", [110, 111, 116, 32, 97, 32, 110, 117, 109, 98, 101, 114])]
def errTexts7 : List (String × List UInt8) := [("facade/api.ErrShape", [110, 111, 116, 32, 97, 115, 32, 105, 116, 32, 104, 97, 115, 32, 116, 111, 32, 98, 101]), ("facade/api.ErrRange", [97, 32, 110, 117, 109, 98, 101, 114, 32, 111, 117, 116, 32, 111, 102, 32, 105, 116, 115, 32, 114, 97, 110, 103, 101]), ("facade/api.ErrMany", [116, 111, 111, 32, 109, 97, 110, 121]), ("facade/api.ErrOp", [110, 111, 32, 115, 117, 99, 104, 32, 105, 110, 115, 116, 114, 117, 99, 116, 105, 111, 110]), ("facade/api.ErrTwice", [116, 104, 101, 114, 101, 32, 105, 115, 32, 111, 110, 101]), ("facade/api.ErrNone", [116, 104, 101, 114, 101, 32, 105, 115, 32, 110, 111, 110, 101]), ("facade/api.ErrMap", [110, 111, 116, 32, 97, 115, 32, 116, 104, 101, 32, 99, 111, 100, 101, 39, 115, 32, 109, 97, 112, 32, 104, 97, 115, 32, 105, 116])]
theorem errc_of_laid {W : World} (h : laidMet Tryz.prog (errTexts7.map fun x => (x.1, .iface "*errors.errorString" (.ptr (.agg [.lit (.string x.2)])))) W) : ∃ A, ErrC W A := by
  obtain ⟨ps, hv, hnd, hrows⟩ := h
  have hrow : ∀ u, Tryz.prog.typeName? 3 u = some "*errors.errorString" → u = 200 := fun u hu =>
    typeName_ptr_named (nm := "errors.errorString") (by kernel_rfl) (by kernel_rfl) (by decide) u hu
  have hty : ∀ x ∈ errTexts7, (Tryz.prog.globalNamed x.1).bind (fun g => (Tryz.prog.globals[g]?).map (·.type)) = some 47 := by
    have hall : (errTexts7.all fun x => decide ((Tryz.prog.globalNamed x.1).bind (fun g => (Tryz.prog.globals[g]?).map (·.type)) = some 47)) = true := by kernel_rfl
    intro x hx
    exact of_decide_eq_true (List.all_eq_true.1 hall x hx)
  obtain ⟨al, hl, hn, hin, hall⟩ := laid_sents Tryz.underlying47 hrow Tryz.underlying200 Tryz.underlying216 rfl rfl Tryz.underlying9 (by kernel_rfl) (by kernel_rfl) errTexts7 ps hv hrows hnd hty
  have hG : errTexts7.map (fun x => Tryz.prog.globalNamed x.1) = [3, 6, 1, 9, 2, 0, 5].map some := by kernel_rfl
  have one : ∀ i g, [3, 6, 1, 9, 2, 0, 5][i]? = some g → W.cell? ⟨g, 0, none⟩ = some (errV (al.getD i ⟨0, 0, none⟩)) := by
    intro i g hg
    have hi : i < 7 := by have := (List.getElem?_eq_some_iff.1 hg).1; simpa using this
    obtain ⟨x, hx⟩ : ∃ x, errTexts7[i]? = some x := ⟨_, List.getElem?_eq_getElem (by simpa [errTexts7] using hi)⟩
    obtain ⟨a, ha, g', hg', hc⟩ := hall i x hx
    have h1 := congrArg (·[i]?) hG
    simp only [List.getElem?_map, hx, hg, Option.map_some, Option.some.injEq] at h1
    rw [hg'] at h1
    obtain rfl := Option.some.inj h1
    simp only [List.getD, ha, Option.getD_some]
    exact hc
  exact ⟨fun i => al.getD (if i = 8 then 6 else i - 1) ⟨0, 0, none⟩, ⟨one 0 _ rfl, one 1 _ rfl, one 2 _ rfl, one 3 _ rfl, one 4 _ rfl, one 5 _ rfl, one 6 _ rfl⟩⟩
end Go.Proofs.YtnpnafidhcnkhaaGreatDoor

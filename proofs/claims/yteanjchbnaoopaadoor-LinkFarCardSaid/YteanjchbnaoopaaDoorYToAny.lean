/- facademake.To: contract. -/
import Derived.Test.YteanjchbnaoopaaDoorYLnkM
import Derived.Test.YteanjchbnaoopaaDoorYMkX
import Derived.Test.YteanjchbnaoopaaDoorYLnkN
import Derived.Test.YteanjchbnaoopaaDoorYRewP
namespace Go.Proofs.YteanjchbnaoopaaDoor
open Go.RowKit
/-- a line of an instruction that names a symbol -/
def tlC (op a : Int) (nm : ByteArray) : Array Value := #[.int .i64 op, .int .i64 a, .int .i64 0, .int .i64 0, .int .u32 0, .string ByteArray.empty, .string nm, .bool false]
theorem build_to2 (op a : Int) (w : World) : (Instr.build 36 #[(0, .int .i64 op), (1, .int .i64 a)]).run Tryd.prog w = .ok (.agg (inC op a 0 0 0)) w := by kernel_rfl
theorem build_to (op a : Int) (nm : ByteArray) (w : World) : (Instr.build 43 #[(0, .agg (inC op a 0 0 0)), (2, .string nm)]).run Tryd.prog w = .ok (.agg (tlC op a nm)) w := by kernel_rfl
theorem to_one (op a : Int) (nm : ByteArray) : (tlC op a nm).all (·.oneCell') = true := by simp [tlC, Value.oneCell']
section
variable {ops : Array Oper} {rest : List Oper} {o : Oper} {A : Act} {w : World} {Q : Exit → Act → World → Prop}
theorem wpList_build_to2 (hgd : o.guard = none) (x y : Operand) (ho : o.op = .build 36 #[(0, x), (1, y)]) {op a : Int} (hx : A.eval x = .int .i64 op) (hy : A.eval y = .int .i64 a) (h : wpList Tryd.prog ops Q rest (A.put o.dst (.agg (inC op a 0 0 0))) w) : wpList Tryd.prog ops Q (o :: rest) A w := by
  refine wpList_plain hgd fun K hK => ?_
  unfold Oper.wp
  simp [execOp, ho, hx, hy, build_to2 op a w, Result.andThen]
  exact hK _ _ h
theorem wpList_build_to (hgd : o.guard = none) (x y : Operand) (ho : o.op = .build 43 #[(0, x), (2, y)]) {op a : Int} {nm : ByteArray} (hx : A.eval x = .agg (inC op a 0 0 0)) (hy : A.eval y = .string nm) (h : wpList Tryd.prog ops Q rest (A.put o.dst (.agg (tlC op a nm))) w) : wpList Tryd.prog ops Q (o :: rest) A w := by
  refine wpList_plain hgd fun K hK => ?_
  unfold Oper.wp
  simp [execOp, ho, hx, hy, build_to op a nm w, Result.andThen]
  exact hK _ _ h
end
set_option maxRecDepth 100000 in
set_option maxHeartbeats 1000000 in
theorem to_any (op a : Int) (nm : ByteArray) (W : World) : Calls Tryd.prog 13 #[.int .i64 op, .int .i64 a, .string nm] W fun e w' => e = .returned (.agg (tlC op a nm)) ∧ W.grownBy w' none := by
  have Hz := zero_line
  have H1 := hid ((RwAt.new W 43 (lnC 0 0)).row (tlC op a nm))
  have HG := hid (grown_setRow (grown_alloc (grown_refl W none) (.cells (lnC 0 0) 43)) (Nat.le_refl W.heap.size) (tlC op a nm))
  go_enter Tryd.func13, Tryd.ntmps13
  go_wp2_with (first
    | (refine wpList_build_to2 rfl _ _ rfl rfl rfl ?_)
    | (refine wpList_build_to rfl _ _ rfl rfl rfl ?_)
    | (refine wpList_store_rw rfl 43 _ _ rfl rfl rfl (RwAt.new _ _ _) (by kernel_rfl) rfl (to_one _ _ _) ?_)
    | fail)
  refine bodyPost_ret (results_cell_row Tryd.results13 _ _ W.heap.size _ _ _ _ rfl H1.out.blk Tryd.underlying43 rfl (by kernel_rfl)) rfl ?_
  exact ⟨rfl, HG.out⟩
end Go.Proofs.YteanjchbnaoopaaDoor
namespace Go.Proofs.YteanjchbnaoopaaDoor
open Go.RowKit
structure LxW (w0 w : World) (v : Value) (ls : List Lx) : Prop where
  own : w.ownsRow w0.heap.size 43 8 v ls.length (csL lxC ls)
  g : w0.grownBy w none
section
variable {w0 w w1 : World} {v : Value} {ls : List Lx}
theorem LxW.kept0 (h : LxW w0 w v ls) (hg : w.grownBy w1 none) : LxW w0 w1 v ls := ⟨own_keep0 h.own hg, grown_trans h.g hg⟩
theorem LxW.cs (h : LxW w0 w v ls) : CsAt w v ls.length (csL lxC ls) := CsAt.own h.own
theorem LxW.add (h : LxW w0 w v ls) {v' : Value} (ms : List Lx) (ho : w1.ownsRow w0.heap.size 43 8 v' (ls.length + ms.length) (csL lxC ls ++ csL lxC ms)) (hg : w.grownBy w1 v.ownBlock) : LxW w0 w1 v' (ls ++ ms) := by
  refine ⟨?_, grown_new' (grown_trans (grown_none h.g) hg) (fun j hj => (h.own.lt j hj).1)⟩
  rw [List.length_append, csL_append]
  exact ho
theorem info_lnx : ∃ i : TypeInfo, Tryd.prog.info? 43 = some i ∧ i.zero = some (.agg #[.int .i64 0, .int .i64 0, .int .i64 0, .int .i64 0, .int .u32 0, .string ⟨#[]⟩, .string ⟨#[]⟩, .bool false]) ∧ i.size = 8 ∧ i.bytes = 80 := info_parts (P := Tryd.prog) (e := 43) (z := .agg #[.int .i64 0, .int .i64 0, .int .i64 0, .int .i64 0, .int .u32 0, .string ⟨#[]⟩, .string ⟨#[]⟩, .bool false]) (size := 8) (bytes := 80) (by kernel_rfl)
end
end Go.Proofs.YteanjchbnaoopaaDoor
namespace Go.Proofs.YteanjchbnaoopaaDoor
open Go.RowKit
theorem CsAt.toSlX {w : World} {v : Value} {k : IntKind} {xs : List Int} (h : CsAt w v xs.length (xs.map (Value.int k))) : SlAt w k v xs := by
  rcases h with ⟨⟨p, c, rfl⟩, h0, _⟩ | ⟨b, o, c, rfl, _, hb, hc⟩
  · exact .inl ⟨⟨_, _, rfl⟩, List.eq_nil_of_length_eq_zero h0⟩
  · exact .inr ⟨b, o, c, rfl, hb, fun j x hx => hc j _ (by rw [List.getElem?_map, hx]; rfl)⟩
theorem six_parted {w : World} {p q : Option Addr} {c d : Nat} {la lb : List Int} (h : la.length ≠ lb.length) :
    Calls Tryd.prog 16 #[.slice p la.length c, .slice q lb.length d] w fun e w' => e = .returned (.bool false) ∧ w.grownBy w' none := by
  have hz : ((la.length : Int) == (lb.length : Int)) = false := by simp; omega
  have hz2 : (la.length == lb.length) = false := by simpa using h
  have Hr := hid (grown_refl w none)
  go_enter Tryd.func16, Tryd.ntmps16
  go_wp2
  go_ret
  exact ⟨rfl, Hr.out⟩
theorem six_empty {w : World} {p q : Option Addr} {c d : Nat} :
    Calls Tryd.prog 16 #[.slice p 0 c, .slice q 0 d] w fun e w' => e = .returned (.bool true) ∧ w.grownBy w' none := by
  have Hr := hid (grown_refl w none)
  go_enter Tryd.func16, Tryd.ntmps16
  go_wp2
  go_loop [5] (fun i => i = .int .i64 0) (fun _ => 0)
  case atStart => rfl
  case round =>
    obtain rfl := hrel
    go_wp2
    go_ret
    exact ⟨rfl, Hr.out⟩
set_option maxHeartbeats 1000000 in
theorem six_some {w : World} {b o b' o' c d N : Nat} {la lb : List Int} (hla : la.length = N) (hlb : lb.length = N) (h1 : N ≤ 4611686018427387904)
    (hb : b < w.heap.size) (hb' : b' < w.heap.size)
    (ha : ∀ j x, la[j]? = some x → w.cell? ⟨b, o + j, none⟩ = some (.int .i64 x)) (hc : ∀ j x, lb[j]? = some x → w.cell? ⟨b', o' + j, none⟩ = some (.int .i64 x)) (r : Bool) (hr : decide (la = lb) = r) :
    Calls Tryd.prog 16 #[.slice (some ⟨b, o, none⟩) N c, .slice (some ⟨b', o', none⟩) N d] w fun e w' => e = .returned (.bool r) ∧ w.grownBy w' none := by
  have Ha := hid ha
  have Hc := hid hc
  have Hla := hid hla
  have Hlb := hid hlb
  have Hr := hid hr
  clear ha hc hla hlb hr
  go_enter Tryd.func16, Tryd.ntmps16
  go_wp2
  go_loopw [5, 6] (fun i _ wr => ∃ k : Nat, k ≤ N ∧ i = .int .i64 k ∧ Hid (la.take k = lb.take k) ∧ Hid (w.grownBy wr none)) (fun i _ _ => N - (intOf i).toNat)
  case atStart => exact ⟨0, Nat.zero_le _, rfl, hid (by simp), hid (grown_refl _ _)⟩
  case round =>
    obtain ⟨k, hk, rfl, Hk, Hg⟩ := hrel
    by_cases hlt : k < N
    · obtain ⟨x, Hx⟩ : ∃ x, Hid (la[k]? = some x) := ⟨_, hid (List.getElem?_eq_getElem (by rw [Hla.out]; exact hlt))⟩
      obtain ⟨y, Hy⟩ : ∃ y, Hid (lb[k]? = some y) := ⟨_, hid (List.getElem?_eq_getElem (by rw [Hlb.out]; exact hlt))⟩
      have cx := (grown_cell (p := ⟨b, o + k, none⟩) Hg.out hb (by simp)).trans (Ha.out k x Hx.out)
      have cy := (grown_cell (p := ⟨b', o' + k, none⟩) Hg.out hb' (by simp)).trans (Hc.out k y Hy.out)
      have hk0 : (0 : Int) ≤ (k : Int) := by omega
      have hk1 : (k : Int) < (N : Int) := by omega
      by_cases hxy : x = y
      · subst hxy
        go_wp2
        go_quiet (fail)
        go_wp2
        go_roundw
        case rel =>
          refine ⟨k + 1, by omega, by go_num, hid ?_, hid (grown_drewN Hg.out _)⟩
          rw [List.take_add_one, List.take_add_one, Hk.out, Hx.out, Hy.out]
        case measure => simp [intOf]; omega
      · have hxy2 : (x == y) = false := by simpa using hxy
        go_wp2
        go_quiet (fail)
        go_wp2
        go_ret
        refine ⟨ret_b ?_, grown_drewN Hg.out _⟩
        rw [← Hr.out, eq_comm, decide_eq_false_iff_not]
        intro e
        have e1 := Hx.out
        have e2 := Hy.out
        rw [e, e2] at e1
        exact hxy (Option.some.inj e1).symm
    · go_wp2
      go_ret
      refine ⟨ret_b ?_, Hg.out⟩
      have hn : k = N := by omega
      have e := Hk.out
      rw [hn, List.take_of_length_le (by rw [Hla.out]; omega), List.take_of_length_le (by rw [Hlb.out]; omega)] at e
      rw [← Hr.out, e]
      simp
/-- two lists are told to be the same, just if they are -/
theorem six_any {w : World} {va vb : Value} {la lb : List Int} (ha : SlAt w .i64 va la) (hb : SlAt w .i64 vb lb) (h1 : la.length ≤ 4611686018427387904) (_h2 : lb.length ≤ 4611686018427387904) (r : Bool) (hr : decide (la = lb) = r) :
    Calls Tryd.prog 16 #[va, vb] w fun e w' => e = .returned (.bool r) ∧ w.grownBy w' none := by
  by_cases hl : la.length = lb.length
  · by_cases h0 : la.length = 0
    · obtain rfl := List.eq_nil_of_length_eq_zero h0
      obtain rfl := List.eq_nil_of_length_eq_zero (hl.symm.trans h0)
      obtain ⟨p, c, rfl⟩ := ha.len
      obtain ⟨q, d, rfl⟩ := hb.len
      subst hr
      exact six_empty
    · rcases ha with ⟨_, rfl⟩ | ⟨b, o, c, rfl, hbl, hc⟩
      · simp at h0
      · rcases hb with ⟨_, rfl⟩ | ⟨b', o', d, rfl, hbl', hc'⟩
        · simp at hl; simp [hl] at h0
        · rw [← hl]
          exact six_some rfl hl.symm h1 hbl hbl' hc hc' r hr
  · obtain ⟨p, c, rfl⟩ := ha.len
    obtain ⟨q, d, rfl⟩ := hb.len
    have : r = false := by rw [← hr, decide_eq_false_iff_not]; intro e; exact hl (by rw [e])
    subst this
    exact six_parted hl
end Go.Proofs.YteanjchbnaoopaaDoor

/- The chapter's examples (facadelaw7's first): a contract. -/
import Derived.Test.YtkkbhifplbleiaaDoorZGMap
import Derived.Test.YtkkbhifplbleiaaDoorZCore11
import Derived.Test.YtkkbhifplbleiaaDoorZGMem
import Derived.Test.YtkkbhifplbleiaaDoorZGCore
import Derived.Test.YtkkbhifplbleiaaDoorZGIsa
import Derived.Test.YtkkbhifplbleiaaDoorZGAluB
namespace Go.Proofs.YtkkbhifplbleiaaDoor
open Go.RowKit
/-- one instruction of one word at the beginning of the code -/
theorem fetch_first {l : List Int} {w u user : Bool} {x : Int} (hx : l.getD 0 0 = x) (hu : (!user || u) = true) (ho : okW x = true) (ht : twoB (x / 16777216) = false) : fetchP (mapW l w u) 24 0 0 user = insS x 0 1 := by
  have h1 := (map_at l w u (a := 0) (by decide) (by decide) false user).1
  have hr := map_rd l w u (a := 0) (by decide) (by decide) user hu
  unfold fetchP
  rw [h1, hr, hu, show (0 : Int).toNat = 0 from rfl, hx, ho, ht]
  rfl
theorem nop_once (user : Bool) : onceP (mapW [16777216] true true) 24 0 zeroP user = ⟨⟨zeroP.l, 1, false, false, 0, 0, 0, 0⟩, ⟨0, 0, 1, 0, 0, 0, 0, 1⟩, mapW [16777216] true true⟩ := by
  have hf := fetch_first (l := [16777216]) (w := true) (u := true) (user := user) (x := 16777216) rfl (by simp) (by decide) (by decide)
  unfold onceP
  rw [show zeroP.pc = 0 from rfl, hf]
  have ha : aluL 1 0 0 0 0 zeroP.l = zeroP.l := by decide
  unfold insS doP innP aluX
  simp only [if_true, show clsI (16777216 / 16777216) = 1 by decide]
  rw [if_neg (by decide), if_neg (by decide)]
  simp only [show (16777216 : Int) / 16777216 = 1 by decide, show (16777216 : Int) / 65536 % 256 = 0 by decide, show (16777216 : Int) / 256 % 256 = 0 by decide, show (16777216 : Int) % 256 = 0 by decide, ha]
  rfl
theorem nop_page : oF (pageO (mapW [16777216] true true) 24 0 0) = 2 ∧ oT (pageO (mapW [16777216] true true) 24 0 0) = true ∧ oW (pageO (mapW [16777216] true true) 24 0 0) = true ∧ oU (pageO (mapW [16777216] true true) 24 0 0) = true := by
  obtain ⟨v, h1, h2, h3, h4⟩ := map_page [16777216] true true (p := 0) (by decide)
  have h1' : pageO (mapW [16777216] true true) 24 0 0 = some v := h1
  rw [h1']
  exact ⟨h2, tB_live (pageO_live h1'), by rw [show oW (some v) = wB v from rfl, h3]; rfl, h4⟩
end Go.Proofs.YtkkbhifplbleiaaDoor
/- The chapter's examples (facadelaw7's first); results that are stored: contracts. -/
namespace Go.Proofs.YtkkbhifplbleiaaDoor
open Go.RowKit
theorem layX_full {l : List Int} (h : l.length = 384) : layX l l.length = l := by
  unfold layX
  rw [List.take_of_length_le (Nat.le_refl _), h]
  simp
theorem build_cpu0 (w : World) : (Instr.build 41 #[]).run Tryd.prog w = .ok (.agg (cpuC zeroP)) w := by kernel_rfl
theorem wpList_build_cpu0 {ops : Array Oper} {rest : List Oper} {o : Oper} {A : Act} {w : World} {Q : Exit → Act → World → Prop} (hgd : o.guard = none) (ho : o.op = .build 41 #[]) (h : wpList Tryd.prog ops Q rest (A.put o.dst (.agg (cpuC zeroP))) w) : wpList Tryd.prog ops Q (o :: rest) A w := by
  refine wpList_plain hgd fun K hK => ?_
  unfold Oper.wp
  simp [execOp, ho, build_cpu0 w, Result.andThen]
  exact hK _ _ h
/-- the world behind a processor and a stop that are stored into blocks of their own -/
def csW (w : World) (t : TypeId) (y : Cp) (s : Array Value) : World :=
  (((w.alloc (.cells (cpuC zeroP) 41)).alloc (.cells (spC 0 0 0 0 0 0 0 0) t)).setRow w.heap.size (cpuC y)).setRow (w.heap.size + 1) s
theorem new_cs (w : World) (t : TypeId) {y : Cp} (hy : y.l.length = 16) (s : Array Value) : CpuAt (csW w t y s) w.heap.size y ∧ RwAt (csW w t y s) (w.heap.size + 1) t s ∧ w.grownBy (csW w t y s) none :=
  ⟨(((CpuAt.new w (x := zeroP) rfl).alloc _).row hy).rowOther _ _ (by omega), ((RwAt.new2 w (.cells (cpuC zeroP) 41) t (spC 0 0 0 0 0 0 0 0)).rowOther _ _ (by omega)).row _,
    grown_setRow (grown_setRow (grown_alloc (grown_alloc (grown_refl _ _) _) _) (Nat.le_refl _) _) (Nat.le_succ _) _⟩
/-- the world behind an instruction and a stop that are stored -/
def isW (w : World) (t : TypeId) (i s : Array Value) : World :=
  (((w.alloc (.cells (inC 0 0 0 0 0) 28)).alloc (.cells (spC 0 0 0 0 0 0 0 0) t)).setRow w.heap.size i).setRow (w.heap.size + 1) s
theorem new_is (w : World) (t : TypeId) (i s : Array Value) : RwAt (isW w t i s) w.heap.size 28 i ∧ RwAt (isW w t i s) (w.heap.size + 1) t s ∧ w.grownBy (isW w t i s) none :=
  ⟨(((RwAt.new w 28 (inC 0 0 0 0 0)).alloc _).row _).rowOther _ _ (by omega), ((RwAt.new2 w (.cells (inC 0 0 0 0 0) 28) t (spC 0 0 0 0 0 0 0 0)).rowOther _ _ (by omega)).row _,
    grown_setRow (grown_setRow (grown_alloc (grown_alloc (grown_refl _ _) _) _) (Nat.le_refl _) _) (Nat.le_succ _) _⟩
set_option maxRecDepth 100000 in
set_option maxHeartbeats 4000000 in
theorem first7_any (W : World) : Calls Tryd.prog 4 #[] W fun e w' => e = .returned (.bool true) ∧ W.grownBy w' none := by
  have Hz := zero_cpu
  have Hz2 := zero_stop
  have HS0 : Hid (SlAt (W.alloc (.cells #[.int .u32 16777216] 22)) .u32 (.slice (some ⟨W.heap.size, 0, none⟩) 1 1) [16777216]) := hid (SlAt.whole (k := .u32) (c := 1) (xs := [16777216]) (t := 22) (heap_alloc_last W _))
  have HG0 := hid (grown_alloc (grown_refl W none) (.cells #[.int .u32 16777216] 22))
  have HU := hid (mapW_u32 (l := [16777216]) (by intro x hx; simp at hx; subst hx; decide) true true)
  have HLx := hid (mapW_len [16777216] true true)
  have HO := hid (nop_once false)
  have HPg := hid nop_page
  obtain ⟨xs, hxs⟩ : ∃ xs, mapW [16777216] true true = xs := ⟨_, rfl⟩
  rw [hxs] at HU HLx HO HPg
  have HXs := hid hxs
  clear hxs
  go_enter Tryd.func4, Tryd.ntmps4
  go_wp2_with fail
  refine (mapped_any _ [16777216] true true _ HS0.out (by decide)).mono ?_; rintro e w1 ⟨g, rfl, hg0, hblk, hg⟩
  rw [HXs.out] at hblk
  have HS1 : Hid (SlAt w1 .u32 (.slice (some ⟨g, 0, none⟩) 384 384) xs) := hid (by
    have := SlAt.whole (k := .u32) (c := 384) (xs := xs) hblk
    rwa [HLx.out] at this)
  replace HG0 := hid (grown_trans HG0.out hg)
  clear hblk hg hg0 HS0
  go_wp2_with fail
  refine (memory7_any _ xs _ HS1.out (Nat.le_of_eq HLx.out)).mono ?_; rintro e w2 ⟨m, b, m', b', rfl, hm, hb, hb', hM, hR, hg⟩
  rw [layX_full HLx.out] at hM
  have HM := hid hM
  have Hb := hid (Nat.le_trans HG0.out.size hb)
  replace HG0 := hid (grown_trans HG0.out hg)
  clear hM hR hm hb hb' hg HS1
  go_wp2_with (first
    | (refine wpList_build_cpu0 rfl rfl ?_)
    | fail)
  refine (once_of HM.out HU.out zeros_regs (by decide) (by decide) 0 false _ 0 0 1 0 0 0 0 1 xs HO.out).mono ?_; rintro e w3 ⟨rfl, hM, hg⟩
  have HG3 := hid (grown_new' (grown_trans (grown_none HG0.out) hg) (fun k hk => by obtain rfl := Option.some.inj hk; exact Hb.out))
  have HM3 := hid hM
  clear hM hg HG0 HM
  have HN := hid (new_cs w3 43 (y := ⟨zeroP.l, 1, false, false, 0, 0, 0, 0⟩) rfl (spC 0 0 1 0 0 0 0 1))
  go_upto_region 5 with (first
    | (refine wpList_store_cpu rfl _ _ rfl rfl rfl ((CpuAt.new (x := zeroP) w3 rfl).alloc _) rfl ?_)
    | (refine wpList_store_rw rfl 43 _ _ rfl rfl rfl ((RwAt.new2 _ _ _ _).rowOther _ _ (by omega)) (by kernel_rfl) rfl (sp_one _ _ _ _ _ _ _ _) ?_)
    | fail)
  change Code.wp _ _ _ _ (csW w3 43 ⟨zeroP.l, 1, false, false, 0, 0, 0, 0⟩ (spC 0 0 1 0 0 0 0 1))
  have HC := hid HN.out.1
  have HS := hid HN.out.2.1
  have HM4 := hid (HM3.out.kept0 HN.out.2.2)
  have HG4 := hid (grown_trans HG3.out HN.out.2.2)
  clear HN HM3 HG3
  generalize csW w3 43 ⟨zeroP.l, 1, false, false, 0, 0, 0, 0⟩ (spC 0 0 1 0 0 0 0 1) = w4 at HC HS HM4 HG4 ⊢
  obtain ⟨B2, hB2⟩ : ∃ B2, B2 = w3.heap.size + 1 := ⟨_, rfl⟩
  rw [← hB2] at HS ⊢
  clear hB2
  generalize w3.heap.size = B1 at HC ⊢
  go_wp2_with fail
  refine (page_any HM4.out HU.out 0 0 2 true true true HPg.out.1 HPg.out.2.1 HPg.out.2.2.1 HPg.out.2.2.2).mono ?_; rintro e w5 ⟨rfl, hg⟩
  have hg2 : w4.grownBy (w5.alloc (.cells #[.int .i64 2, .bool true, .bool true, .bool true] 49)) none := grown_alloc hg _
  have k0 : (w5.alloc (.cells #[.int .i64 2, .bool true, .bool true, .bool true] 49)).cell? ⟨B2, 0, none⟩ = some (.int .i64 0) := (HS.out.kept0 hg2).cell 0 rfl
  have k7 : (w5.alloc (.cells #[.int .i64 2, .bool true, .bool true, .bool true] 49)).cell? ⟨B2, 7, none⟩ = some (.int .u32 1) := (HS.out.kept0 hg2).cell 7 rfl
  have kp : (w5.alloc (.cells #[.int .i64 2, .bool true, .bool true, .bool true] 49)).cell? ⟨B1, 16, none⟩ = some (.int .u32 1) := (HC.out.kept0 hg2).pc
  have HG5 := hid (grown_trans HG4.out hg2)
  clear hg hg2
  go_upto_region 6 with (fail)
  generalize (w5.alloc (.cells #[.int .i64 2, .bool true, .bool true, .bool true] 49)) = w6 at k0 k7 kp HG5 ⊢
  go_wp2
  go_ret
  exact ⟨rfl, HG5.out⟩
end Go.Proofs.YtkkbhifplbleiaaDoor
/- facadelaw7's same, stops: contracts. -/
namespace Go.Proofs.YtkkbhifplbleiaaDoor
open Go.RowKit
section
variable {m b m' b' : Nat} {xs : List Int} {W : World}
end
end Go.Proofs.YtkkbhifplbleiaaDoor
/- facadelaw7's stops; SameInstr of one and the same: contracts. -/
namespace Go.Proofs.YtkkbhifplbleiaaDoor
open Go.RowKit
/-- a part of a struct, loaded where a guard says yes -/
theorem wpList_load_mid_wanted {P : Program} {ops : Array Oper} {rest : List Oper} {op : Oper} {a : Act} {w : World} {Q : Exit → Act → World → Prop} (hgd : Region.wanted op (yielded ops a.tmps) = true) (ty : TypeId) (x : Operand) (ho : op.op = .load ty x)
    (b o : Nat) (hx : a.eval x = .pointer (some ⟨b, o, none⟩)) (cs : List Value) (d : TypeDesc) (hc : w.rangeAt b o cs)
    (hu : P.underlying ty = some d) (hd : d.isRow = true) (hi : (P.info? ty).map (·.size) = some cs.length)
    (h : wpList P ops Q rest (a.put op.dst (.agg cs.toArray)) w) : wpList P ops Q (op :: rest) a w := by
  unfold wpList
  rw [if_pos hgd]
  exact .inl (wp_load_mid ty x ho b o hx cs d hc hu hd hi h)
section
variable {ca ad op a b c im ln : Int} {W : World}
end
end Go.Proofs.YtkkbhifplbleiaaDoor

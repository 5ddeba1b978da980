/- The walk of the law CoreUser. (Made by a program.) -/
import Derived.Test.YtaecbekobpgkoaaDoorZCUser0
import Derived.Test.YtaecbekobpgkoaaDoorZCSays
import Derived.Test.YtaecbekobpgkoaaDoorZMkOp
import Derived.Test.YtaecbekobpgkoaaDoorZGRef
import Derived.Test.YtaecbekobpgkoaaDoorZInsA
namespace Go.Proofs.YtaecbekobpgkoaaDoor
open Go.RowKit
theorem build_user16 (x0 x1 x2 x3 x4 x5 x6 x7 x8 x9 x10 x11 x12 x13 x14 x15 : Int) (w : World) :
    (Instr.build 46 #[(0, .agg (wA [x0, x1, x2, x3, x4, x5, x6, x7, x8, x9, x10, x11, x12, x13, x14, x15])), (2, .bool true), (5, .int .u32 77)]).run Tryd.prog w = .ok (.agg (cpuC (userP [x0, x1, x2, x3, x4, x5, x6, x7, x8, x9, x10, x11, x12, x13, x14, x15]))) w := by kernel_rfl
theorem run_build_user {l : List Int} (hl : l.length = 16) (w : World) : (Instr.build 46 #[(0, .agg (wA l)), (2, .bool true), (5, .int .u32 77)]).run Tryd.prog w = .ok (.agg (cpuC (userP l))) w := by
  match l, hl with
  | [x0, x1, x2, x3, x4, x5, x6, x7, x8, x9, x10, x11, x12, x13, x14, x15], _ => exact build_user16 x0 x1 x2 x3 x4 x5 x6 x7 x8 x9 x10 x11 x12 x13 x14 x15 w
theorem wpList_build_user {ops : Array Oper} {rest : List Oper} {o : Oper} {A : Act} {w : World} {Q : Exit → Act → World → Prop} (hgd : o.guard = none) (x : Operand) (ho : o.op = .build 46 #[(0, x), (2, .const (.bool true)), (5, .const (.int .u32 77))]) {l : List Int} (hl : l.length = 16) (hx : A.eval x = .agg (wA l))
    (h : wpList Tryd.prog ops Q rest (A.put o.dst (.agg (cpuC (userP l)))) w) : wpList Tryd.prog ops Q (o :: rest) A w := by
  refine wpList_plain hgd fun K hK => ?_
  unfold Oper.wp
  have e1 : A.eval (.const (.bool true)) = .bool true := rfl
  have e2 : A.eval (.const (.int .u32 77)) = .int .u32 77 := rfl
  simp [execOp, ho, hx, e1, e2, run_build_user hl w, Result.andThen]
  exact hK _ _ h
theorem RwAt.ln {w : World} {B : Nat} {t : TypeId} {op a : Int} (h : RwAt w B t (lnC op a)) : w.rangeAt B 0 [Value.int .i64 op, .int .i64 a, .int .i64 0, .int .i64 0, .int .u32 0] := by
  intro j v hv
  refine h.cell (0 + j) ?_
  rw [Nat.zero_add]
  match j, hv with
  | 0, hv => exact hv
  | 1, hv => exact hv
  | 2, hv => exact hv
  | 3, hv => exact hv
  | 4, hv => exact hv
  | j + 5, hv => simp at hv
set_option maxRecDepth 100000 in
set_option maxHeartbeats 8000000 in
theorem cuser_no (op : Int) (l : List Int) (W : World) (hl : Regs l) (hi : insB op 0 0 0 0 = false) :
    Calls Tryd.prog 6 #[.int .i64 op, .agg (wA l)] W fun e w' => e = .returned (.bool true) ∧ Below W.heap.size W w' := by
  have HI := hid hi
  clear hi
  have HL := hid hl
  have HC0 : Hid (RegAt (W.alloc (.cells (wA l) 44)) W.heap.size l) := hid (RegAt.new W l)
  have HG0 := hid (grown_alloc (grown_refl W none) (.cells (wA l) 44))
  clear hl
  go_enter Tryd.func6, Tryd.ntmps6
  go_upto_region 1 with (fail)
  generalize W.alloc (.cells (wA l) 44) = y1 at HC0 HG0 ⊢
  generalize W.heap.size = B0 at HC0 ⊢
  go_wp2_with fail
  refine (first7_any _).mono ?_; rintro e y2 ⟨rfl, hg⟩
  replace HC0 := hid (HC0.out.kept0 hg)
  replace HG0 := hid (grown_trans HG0.out hg)
  clear hg
  go_wp2_with fail
  refine (op_nil op _).mono ?_; rintro e y3 ⟨rfl, hg⟩
  replace HC0 := hid (HC0.out.kept0 hg)
  replace HG0 := hid (grown_trans HG0.out hg)
  clear hg
  have Hz := zero_line
  have HX := hid ((RwAt.new y3 60 (lnC 0 0)).row (lnC op 0))
  have hg : y3.grownBy ((y3.alloc (.cells (lnC 0 0) 60)).setRow y3.heap.size (lnC op 0)) none := grown_setRow (grown_alloc (grown_refl _ _) _) (Nat.le_refl _) _
  replace HC0 := hid (HC0.out.kept0 hg)
  replace HG0 := hid (grown_trans HG0.out hg)
  clear hg
  go_upto_region 5 with (first
    | (refine wpList_store_rw rfl 60 _ _ rfl rfl rfl (RwAt.new _ _ _) (by kernel_rfl) rfl (line_one _ _) ?_)
    | fail)
  generalize ((y3.alloc (.cells (lnC 0 0) 60)).setRow y3.heap.size (lnC op 0)) = y4 at HC0 HG0 HX ⊢
  generalize y3.heap.size = X at HX ⊢
  clear Hz
  go_wp2_with (first
    | (refine wpList_load_mid rfl 27 _ rfl X 0 rfl _ _ HX.out.ln Tryd.underlying27 rfl (by kernel_rfl) ?_)
    | fail)
  refine (rword_no op 0 0 0 0 _ HI.out).mono ?_; rintro e y5 ⟨rfl, hb⟩
  have hg := below_is_grown hb
  replace HC0 := hid (HC0.out.kept0 hg)
  replace HG0 := hid (grown_trans HG0.out hg)
  clear hg hb HX
  go_wp2
  go_ret
  exact ⟨rfl, grown_below HG0.out⟩
set_option maxRecDepth 100000 in
set_option maxHeartbeats 8000000 in
theorem cuser_trap (op : Int) (l : List Int) (W : World) (hl : Regs l) (hi : insB op 0 0 0 0 = true) (hk : clsI op = 2) :
    Calls Tryd.prog 6 #[.int .i64 op, .agg (wA l)] W fun e w' => e = .returned (.bool true) ∧ Below W.heap.size W w' := by
  have HI := hid hi
  have HK := hid hk
  obtain ⟨x, hx⟩ : ∃ x, wrdI op 0 0 0 = x := ⟨_, rfl⟩
  have HX0 := hid hx
  have HUl : Hid (U32s [x, 5, x, 5]) := hid (by
    have h1 := wrd_bd hi
    rw [hx] at h1
    intro z hz
    simp only [List.mem_cons, List.not_mem_nil, or_false] at hz
    rcases hz with rfl | rfl | rfl | rfl <;> omega)
  obtain ⟨ysm, hym⟩ : ∃ ys, mapW [x, 5, x, 5] true false = ys := ⟨_, rfl⟩
  obtain ⟨ysn, hyn⟩ : ∃ ys, mapW [x, 5, x, 5] true true = ys := ⟨_, rfl⟩
  have HYp := hid hym
  have HYq := hid hyn
  have HYlp : Hid (ysm.length = 384) := hid (by rw [← hym]; exact mapW_len _ true false)
  have HYlq : Hid (ysn.length = 384) := hid (by rw [← hyn]; exact mapW_len _ true true)
  have Hup : Hid (U32s ysm) := hid (by rw [← hym]; exact mapW_u32 HUl.out true false)
  have Huq : Hid (U32s ysn) := hid (by rw [← hyn]; exact mapW_u32 HUl.out true true)
  have HO0 : Hid (onceP ysm ((24 : Nat) : Int) 0 ⟨l, 0, true, false, 0, 77, 0, 0⟩ true = ⟨⟨l, 0, true, false, 0, 77, 0, 0⟩, ⟨1, 0, 0, 0, 0, 0, 0, 0⟩, ysm⟩) := hid (by rw [← hym]; exact user_none 5)
  have HO1 : Hid (onceP ysn ((24 : Nat) : Int) 0 ⟨l, 0, true, false, 0, 77, 0, 0⟩ true = ⟨⟨l, 0, true, false, 0, 77, 0, 0⟩, ⟨6, 0, op, 0, 0, 0, imI op, lnI op⟩, ysn⟩) := hid (by rw [← hyn]; exact user_trap hi hx hk)
  have HO2 : Hid (onceP ysn ((24 : Nat) : Int) 0 ⟨l, 0, true, false, 0, 77, 0, 0⟩ false = ⟨⟨l, 0, true, false, 0, 77, 0, 0⟩, ⟨6, 0, op, 0, 0, 0, imI op, lnI op⟩, ysn⟩) := hid (by rw [← hyn]; exact user_trap hi hx hk)
  have HYr1 : Hid (Regs l) := hid hl
  have HYr2 : Hid (Regs l) := hid hl
  obtain ⟨IM, hIM⟩ : ∃ k, imI op = k := ⟨_, rfl⟩
  obtain ⟨LN, hLN⟩ : ∃ k, lnI op = k := ⟨_, rfl⟩
  rw [hIM, hLN] at HO1 HO2
  clear hIM hLN
  clear hym hyn hx hi hk
  have HL := hid hl
  have HC0 : Hid (RegAt (W.alloc (.cells (wA l) 44)) W.heap.size l) := hid (RegAt.new W l)
  have HG0 := hid (grown_alloc (grown_refl W none) (.cells (wA l) 44))
  clear hl
  go_enter Tryd.func6, Tryd.ntmps6
  go_upto_region 1 with (fail)
  generalize W.alloc (.cells (wA l) 44) = y1 at HC0 HG0 ⊢
  generalize W.heap.size = B0 at HC0 ⊢
  go_wp2_with fail
  refine (first7_any _).mono ?_; rintro e y2 ⟨rfl, hg⟩
  replace HC0 := hid (HC0.out.kept0 hg)
  replace HG0 := hid (grown_trans HG0.out hg)
  clear hg
  go_wp2_with fail
  refine (op_nil op _).mono ?_; rintro e y3 ⟨rfl, hg⟩
  replace HC0 := hid (HC0.out.kept0 hg)
  replace HG0 := hid (grown_trans HG0.out hg)
  clear hg
  have Hz := zero_line
  have HX := hid ((RwAt.new y3 60 (lnC 0 0)).row (lnC op 0))
  have hg : y3.grownBy ((y3.alloc (.cells (lnC 0 0) 60)).setRow y3.heap.size (lnC op 0)) none := grown_setRow (grown_alloc (grown_refl _ _) _) (Nat.le_refl _) _
  replace HC0 := hid (HC0.out.kept0 hg)
  replace HG0 := hid (grown_trans HG0.out hg)
  clear hg
  go_upto_region 5 with (first
    | (refine wpList_store_rw rfl 60 _ _ rfl rfl rfl (RwAt.new _ _ _) (by kernel_rfl) rfl (line_one _ _) ?_)
    | fail)
  generalize ((y3.alloc (.cells (lnC 0 0) 60)).setRow y3.heap.size (lnC op 0)) = y4 at HC0 HG0 HX ⊢
  generalize y3.heap.size = X at HX ⊢
  clear Hz
  go_wp2_with (first
    | (refine wpList_load_mid rfl 27 _ rfl X 0 rfl _ _ HX.out.ln Tryd.underlying27 rfl (by kernel_rfl) ?_)
    | fail)
  refine (rword_yes op 0 0 0 0 _ HI.out).mono ?_; rw [HX0.out]; rintro e y5 ⟨rfl, hb⟩
  have hg := below_is_grown hb
  replace HC0 := hid (HC0.out.kept0 hg)
  replace HG0 := hid (grown_trans HG0.out hg)
  clear hg hb HX
  have HS0 : Hid (SlAt (y5.alloc (.cells #[.int .u32 x, .int .u32 5, .int .u32 x, .int .u32 5] 22)) .u32 (.slice (some ⟨y5.heap.size, 0, none⟩) 4 4) [x, 5, x, 5]) := hid (SlAt.whole (k := .u32) (c := 4) (xs := [x, 5, x, 5]) (t := 22) (heap_alloc_last y5 _))
  have hg : y5.grownBy (y5.alloc (.cells #[.int .u32 x, .int .u32 5, .int .u32 x, .int .u32 5] 22)) none := World.grownBy_alloc _ _ _
  replace HC0 := hid (HC0.out.kept0 hg)
  replace HG0 := hid (grown_trans HG0.out hg)
  clear hg
  go_wp2_with fail
  refine (mapped_any _ [x, 5, x, 5] true false _ HS0.out (by show 4 ≤ maxLen; decide)).mono ?_; rintro e pa ⟨gp, rfl, hg0, hblk, hg⟩
  rw [HYp.out] at hblk
  have HS1 : Hid (SlAt pa .u32 (.slice (some ⟨gp, 0, none⟩) 384 384) ysm) := hid (by
    have := SlAt.whole (k := .u32) (c := 384) (xs := ysm) hblk
    rwa [HYlp.out] at this)
  replace HC0 := hid (HC0.out.kept0 hg)
  replace HG0 := hid (grown_trans HG0.out hg)
  clear hblk hg hg0 HS0
  go_wp2_with fail
  refine (memory7_any _ ysm _ HS1.out (Nat.le_of_eq HYlp.out)).mono ?_; rintro e pb ⟨mp, bp, mp', bp', rfl, hm, hb, hb', hM, hR, hg⟩
  rw [layX_full HYlp.out] at hM
  have HMp := hid hM
  have HBWp := hid (Nat.le_trans HG0.out.size hb)
  replace HC0 := hid (HC0.out.kept0 hg)
  replace HG0 := hid (grown_trans HG0.out hg)
  clear hM hR hm hb hb' hg HS1
  have HS0 : Hid (SlAt (pb.alloc (.cells #[.int .u32 x, .int .u32 5, .int .u32 x, .int .u32 5] 22)) .u32 (.slice (some ⟨pb.heap.size, 0, none⟩) 4 4) [x, 5, x, 5]) := hid (SlAt.whole (k := .u32) (c := 4) (xs := [x, 5, x, 5]) (t := 22) (heap_alloc_last pb _))
  have hg : pb.grownBy (pb.alloc (.cells #[.int .u32 x, .int .u32 5, .int .u32 x, .int .u32 5] 22)) none := World.grownBy_alloc _ _ _
  replace HC0 := hid (HC0.out.kept0 hg)
  replace HMp := hid (HMp.out.kept0 hg)
  replace HG0 := hid (grown_trans HG0.out hg)
  clear hg
  go_wp2_with fail
  refine (mapped_any _ [x, 5, x, 5] true true _ HS0.out (by show 4 ≤ maxLen; decide)).mono ?_; rintro e qa ⟨gq, rfl, hg0, hblk, hg⟩
  rw [HYq.out] at hblk
  have HS1 : Hid (SlAt qa .u32 (.slice (some ⟨gq, 0, none⟩) 384 384) ysn) := hid (by
    have := SlAt.whole (k := .u32) (c := 384) (xs := ysn) hblk
    rwa [HYlq.out] at this)
  replace HC0 := hid (HC0.out.kept0 hg)
  replace HMp := hid (HMp.out.kept0 hg)
  replace HG0 := hid (grown_trans HG0.out hg)
  clear hblk hg hg0 HS0
  go_wp2_with fail
  refine (memory7_any _ ysn _ HS1.out (Nat.le_of_eq HYlq.out)).mono ?_; rintro e qb ⟨mq, bq, mq', bq', rfl, hm, hb, hb', hM, hR, hg⟩
  rw [layX_full HYlq.out] at hM
  have HMq := hid hM
  have HBWq := hid (Nat.le_trans HG0.out.size hb)
  have HNP : Hid (bp < qa.heap.size ∧ mp < qa.heap.size) := hid ⟨HMp.out.blt, HMp.out.mlt⟩
  have HNQ : Hid (mq ≠ bp ∧ bq ≠ bp ∧ mp ≠ bq ∧ bp ≠ bq) := hid (by have := HNP.out; omega)
  replace HC0 := hid (HC0.out.kept0 hg)
  replace HMp := hid (HMp.out.kept0 hg)
  replace HG0 := hid (grown_trans HG0.out hg)
  clear hM hR hm hb hb' hg HS1 HNP
  have Hz := zero_cpu
  have Hz2 := zero_stop
  have HP : Hid (CpuAt (qb.alloc (.cells (cpuC (userP l)) 46)) qb.heap.size ⟨l, 0, true, false, 0, 77, 0, 0⟩) := hid (CpuAt.new qb (x := userP l) HL.out.len)
  have HPb : Hid (qb.heap.size ≠ bp ∧ qb.heap.size ≠ bq) := hid ⟨by have := HMp.out.blt; omega, by have := HMq.out.blt; omega⟩
  have hg : qb.grownBy (qb.alloc (.cells (cpuC (userP l)) 46)) none := World.grownBy_alloc _ _ _
  replace HMp := hid (HMp.out.kept0 hg)
  replace HMq := hid (HMq.out.kept0 hg)
  replace HG0 := hid (grown_trans HG0.out hg)
  clear hg
  go_upto_region 13 with (first
    | (refine wpList_load_row rfl 44 _ rfl B0 rfl _ _ _ _ HC0.out Tryd.underlying44 rfl (regs_len_info l HL.out.len) ?_)
    | (refine wpList_build_user rfl _ rfl HL.out.len rfl ?_)
    | (refine wpList_store_cpu_last (y := userP l) (z := zeroP) rfl _ _ rfl rfl rfl rfl rfl HL.out.len ?_)
    | fail)
  clear HC0
  generalize qb.alloc (.cells (cpuC (userP l)) 46) = u0 at HP HMp HMq HG0 ⊢
  generalize qb.heap.size = P at HP HPb ⊢
  go_wp2_with (first
    | (refine wpList_load_cpu rfl _ rfl rfl HP.out ?_)
    | fail)
  refine (once_of HMp.out Hup.out HL.out (by decide) (by decide) 0 true _ 1 0 0 0 0 0 0 0 ysm HO0.out).mono ?_; rintro e u1 ⟨rfl, hM, hg⟩
  replace HP := hid (HP.out.kept hg (by simpa using HPb.out.1))
  replace HMq := hid (HMq.out.kept hg (by simpa using HNQ.out.1) (by simpa using HNQ.out.2.1))
  replace HG0 := hid (grown_new' (grown_trans (grown_none HG0.out) hg) (fun k hk => by obtain rfl := Option.some.inj hk; exact HBWp.out))
  clear hM hg HMp
  have HN := hid (new_cs u1 35 (y := ⟨l, 0, true, false, 0, 77, 0, 0⟩) HL.out.len (spC 1 0 0 0 0 0 0 0))
  go_upto_region 14 with (first
    | (refine wpList_store_cpu rfl _ _ rfl rfl rfl ((CpuAt.new (x := zeroP) u1 rfl).alloc _) HL.out.len ?_)
    | (refine wpList_store_rw rfl 35 _ _ rfl rfl rfl ((RwAt.new2 _ _ _ _).rowOther _ _ (by omega)) (by kernel_rfl) rfl (sp_one _ _ _ _ _ _ _ _) ?_)
    | fail)
  change Code.wp _ _ _ _ (csW u1 35 ⟨l, 0, true, false, 0, 77, 0, 0⟩ (spC 1 0 0 0 0 0 0 0))
  have HC0 := hid HN.out.1
  have HS0 := hid HN.out.2.1
  replace HP := hid (HP.out.kept0 HN.out.2.2)
  replace HMq := hid (HMq.out.kept0 HN.out.2.2)
  replace HG0 := hid (grown_trans HG0.out HN.out.2.2)
  clear HN
  generalize csW u1 35 ⟨l, 0, true, false, 0, 77, 0, 0⟩ (spC 1 0 0 0 0 0 0 0) = u1b at HC0 HS0 HP HMq HG0 ⊢
  obtain ⟨S0, hB2⟩ : ∃ B, B = u1.heap.size + 1 := ⟨_, rfl⟩
  rw [← hB2] at HS0 ⊢
  clear hB2
  generalize u1.heap.size = C0 at HC0 ⊢
  have e0 : u1b.cell? ⟨S0, 0, none⟩ = some (.int .i64 1) := HS0.out.cell 0 rfl
  have e1 : u1b.cell? ⟨S0, 1, none⟩ = some (.int .u32 0) := HS0.out.cell 1 rfl
  go_wp2_with (first
    | (refine wpList_load_cpu_wanted (by kernel_rfl) _ rfl rfl HC0.out ?_)
    | (refine wpList_load_cpu_wanted (by kernel_rfl) _ rfl rfl HP.out ?_)
    | fail)
  refine (same_cpu (x := ⟨l, 0, true, false, 0, 77, 0, 0⟩) HL.out _).mono ?_; rintro e u2 ⟨rfl, hg⟩
  replace HP := hid (HP.out.kept0 hg)
  replace HMq := hid (HMq.out.kept0 hg)
  replace HG0 := hid (grown_trans HG0.out hg)
  clear hg e0 e1 HC0 HS0
  go_wp2_with (first
    | (refine wpList_load_cpu rfl _ rfl rfl HP.out ?_)
    | fail)
  refine (once_of HMq.out Huq.out HL.out (by decide) (by decide) 0 true _ 6 0 op 0 0 0 IM LN ysn HO1.out).mono ?_; rintro e u3 ⟨rfl, hM, hg⟩
  replace HMq := hid hM
  replace HP := hid (HP.out.kept hg (by simpa using HPb.out.2))
  replace HG0 := hid (grown_new' (grown_trans (grown_none HG0.out) hg) (fun k hk => by obtain rfl := Option.some.inj hk; exact HBWq.out))
  clear hM hg
  have HN := hid (new_cs u3 35 (y := ⟨l, 0, true, false, 0, 77, 0, 0⟩) HYr1.out.len (spC 6 0 op 0 0 0 IM LN))
  go_upto_region 17 with (first
    | (refine wpList_store_cpu rfl _ _ rfl rfl rfl ((CpuAt.new (x := zeroP) u3 rfl).alloc _) HYr1.out.len ?_)
    | (refine wpList_store_rw rfl 35 _ _ rfl rfl rfl ((RwAt.new2 _ _ _ _).rowOther _ _ (by omega)) (by kernel_rfl) rfl (sp_one _ _ _ _ _ _ _ _) ?_)
    | fail)
  change Code.wp _ _ _ _ (csW u3 35 ⟨l, 0, true, false, 0, 77, 0, 0⟩ (spC 6 0 op 0 0 0 IM LN))
  have HC1 := hid HN.out.1
  have HS1 := hid HN.out.2.1
  replace HP := hid (HP.out.kept0 HN.out.2.2)
  replace HMq := hid (HMq.out.kept0 HN.out.2.2)
  replace HG0 := hid (grown_trans HG0.out HN.out.2.2)
  clear HN
  generalize csW u3 35 ⟨l, 0, true, false, 0, 77, 0, 0⟩ (spC 6 0 op 0 0 0 IM LN) = u3b at HC1 HS1 HP HMq HG0 ⊢
  obtain ⟨S1, hB2⟩ : ∃ B, B = u3.heap.size + 1 := ⟨_, rfl⟩
  rw [← hB2] at HS1 ⊢
  clear hB2
  generalize u3.heap.size = C1 at HC1 ⊢
  have HSb : Hid (S1 ≠ bq ∧ C1 ≠ bq) := hid (by
    obtain ⟨cur, hb, _⟩ := HMq.out.hb
    refine ⟨?_, ?_⟩
    · rintro rfl
      have := HS1.out.blk.symm.trans hb
      injection this with this
      injection this with _ e
      exact absurd e (by decide)
    · rintro rfl
      have := HC1.out.blk.symm.trans hb
      injection this with this
      injection this with _ e
      exact absurd e (by decide))
  go_wp2_with (first
    | (refine wpList_load_cpu rfl _ rfl rfl HP.out ?_)
    | fail)
  refine (once_of HMq.out Huq.out HL.out (by decide) (by decide) 0 false _ 6 0 op 0 0 0 IM LN ysn HO2.out).mono ?_; rintro e u4 ⟨rfl, hM, hg⟩
  replace HP := hid (HP.out.kept hg (by simpa using HPb.out.2))
  replace HC1 := hid (HC1.out.kept hg (by simpa using HSb.out.2))
  replace HS1 := hid (HS1.out.kept hg (by simpa using HSb.out.1))
  replace HG0 := hid (grown_new' (grown_trans (grown_none HG0.out) hg) (fun k hk => by obtain rfl := Option.some.inj hk; exact HBWq.out))
  clear hM hg HMq
  have HN := hid (new_cs u4 35 (y := ⟨l, 0, true, false, 0, 77, 0, 0⟩) HYr2.out.len (spC 6 0 op 0 0 0 IM LN))
  go_upto_region 18 with (first
    | (refine wpList_store_cpu rfl _ _ rfl rfl rfl ((CpuAt.new (x := zeroP) u4 rfl).alloc _) HYr2.out.len ?_)
    | (refine wpList_store_rw rfl 35 _ _ rfl rfl rfl ((RwAt.new2 _ _ _ _).rowOther _ _ (by omega)) (by kernel_rfl) rfl (sp_one _ _ _ _ _ _ _ _) ?_)
    | fail)
  change Code.wp _ _ _ _ (csW u4 35 ⟨l, 0, true, false, 0, 77, 0, 0⟩ (spC 6 0 op 0 0 0 IM LN))
  have HC2 := hid HN.out.1
  have HS2 := hid HN.out.2.1
  replace HP := hid (HP.out.kept0 HN.out.2.2)
  replace HC1 := hid (HC1.out.kept0 HN.out.2.2)
  replace HS1 := hid (HS1.out.kept0 HN.out.2.2)
  replace HG0 := hid (grown_trans HG0.out HN.out.2.2)
  clear HN
  generalize csW u4 35 ⟨l, 0, true, false, 0, 77, 0, 0⟩ (spC 6 0 op 0 0 0 IM LN) = u4b at HC2 HS2 HP HC1 HS1 HG0 ⊢
  obtain ⟨S2, hB2⟩ : ∃ B, B = u4.heap.size + 1 := ⟨_, rfl⟩
  rw [← hB2] at HS2 ⊢
  clear hB2
  generalize u4.heap.size = C2 at HC2 ⊢
  go_wp2_with fail
  refine (rclass_any _ _).mono ?_; rw [HK.out]; rintro e u5 ⟨rfl, rfl⟩
  have a0 : u4b.cell? ⟨S1, 0, none⟩ = some (.int .i64 6) := HS1.out.cell 0 rfl
  have a6 : u4b.cell? ⟨S1, 6, none⟩ = some (.int .u32 IM) := HS1.out.cell 6 rfl
  have b0 : u4b.cell? ⟨S2, 0, none⟩ = some (.int .i64 6) := HS2.out.cell 0 rfl
  have c1 := HC1.out.pc
  have c2 := HC1.out.ie
  have c4 := HC1.out.epc
  have c5 := HC1.out.tv
  go_wp2_with (first
    | (refine wpList_load_cpu_wanted (by kernel_rfl) _ rfl rfl HC1.out ?_)
    | (refine wpList_load_cpu_wanted (by kernel_rfl) _ rfl rfl HC2.out ?_)
    | (refine wpList_load_cpu_wanted (by kernel_rfl) _ rfl rfl HP.out ?_)
    | fail)
  refine (same_cpu (x := ⟨l, 0, true, false, 0, 77, 0, 0⟩) HL.out _).mono ?_; rintro e u6 ⟨rfl, hg⟩
  replace HP := hid (HP.out.kept0 hg)
  replace HC1 := hid (HC1.out.kept0 hg)
  replace HC2 := hid (HC2.out.kept0 hg)
  replace HG0 := hid (grown_trans HG0.out hg)
  clear hg a0 a6 b0 c1 c2 c4 c5
  go_wp2_with (first
    | (refine wpList_load_cpu_wanted (by kernel_rfl) _ rfl rfl HC1.out ?_)
    | (refine wpList_load_cpu_wanted (by kernel_rfl) _ rfl rfl HC2.out ?_)
    | (refine wpList_load_cpu_wanted (by kernel_rfl) _ rfl rfl HP.out ?_)
    | fail)
  refine (same_cpu (x := ⟨l, 0, true, false, 0, 77, 0, 0⟩) HL.out _).mono ?_; rintro e u7 ⟨rfl, hg⟩
  replace HG0 := hid (grown_trans HG0.out hg)
  clear hg
  go_wp2
  go_ret
  exact ⟨rfl, grown_below HG0.out⟩
set_option maxRecDepth 100000 in
set_option maxHeartbeats 8000000 in
theorem cuser_call (op : Int) (l : List Int) (W : World) (hl : Regs l) (hi : insB op 0 0 0 0 = true) (hk : clsI op = 4) :
    Calls Tryd.prog 6 #[.int .i64 op, .agg (wA l)] W fun e w' => e = .returned (.bool true) ∧ Below W.heap.size W w' := by
  have HI := hid hi
  have HK := hid hk
  obtain ⟨x, hx⟩ : ∃ x, wrdI op 0 0 0 = x := ⟨_, rfl⟩
  have HX0 := hid hx
  have HUl : Hid (U32s [x, 5, x, 5]) := hid (by
    have h1 := wrd_bd hi
    rw [hx] at h1
    intro z hz
    simp only [List.mem_cons, List.not_mem_nil, or_false] at hz
    rcases hz with rfl | rfl | rfl | rfl <;> omega)
  obtain ⟨ysm, hym⟩ : ∃ ys, mapW [x, 5, x, 5] true false = ys := ⟨_, rfl⟩
  obtain ⟨ysn, hyn⟩ : ∃ ys, mapW [x, 5, x, 5] true true = ys := ⟨_, rfl⟩
  have HYp := hid hym
  have HYq := hid hyn
  have HYlp : Hid (ysm.length = 384) := hid (by rw [← hym]; exact mapW_len _ true false)
  have HYlq : Hid (ysn.length = 384) := hid (by rw [← hyn]; exact mapW_len _ true true)
  have Hup : Hid (U32s ysm) := hid (by rw [← hym]; exact mapW_u32 HUl.out true false)
  have Huq : Hid (U32s ysn) := hid (by rw [← hyn]; exact mapW_u32 HUl.out true true)
  have HO0 : Hid (onceP ysm ((24 : Nat) : Int) 0 ⟨l, 0, true, false, 0, 77, 0, 0⟩ true = ⟨⟨l, 0, true, false, 0, 77, 0, 0⟩, ⟨1, 0, 0, 0, 0, 0, 0, 0⟩, ysm⟩) := hid (by rw [← hym]; exact user_none 5)
  have HO1 : Hid (onceP ysn ((24 : Nat) : Int) 0 ⟨l, 0, true, false, 0, 77, 0, 0⟩ true = ⟨⟨l, 0, true, false, 0, 77, 0, 0⟩, ⟨7, 0, op, 0, 0, 0, imI op, lnI op⟩, ysn⟩) := hid (by rw [← hyn]; exact user_call hi hx hk)
  have HO2 : Hid (onceP ysn ((24 : Nat) : Int) 0 ⟨l, 0, true, false, 0, 77, 0, 0⟩ false = ⟨⟨l, 0, true, false, 0, 77, 0, 0⟩, ⟨7, 0, op, 0, 0, 0, imI op, lnI op⟩, ysn⟩) := hid (by rw [← hyn]; exact user_call hi hx hk)
  have HYr1 : Hid (Regs l) := hid hl
  have HYr2 : Hid (Regs l) := hid hl
  obtain ⟨IM, hIM⟩ : ∃ k, imI op = k := ⟨_, rfl⟩
  obtain ⟨LN, hLN⟩ : ∃ k, lnI op = k := ⟨_, rfl⟩
  rw [hIM, hLN] at HO1 HO2
  have HIM : Hid (IM = 5) := hid (by rw [← hIM, cls_four' hk]; decide)
  clear hIM hLN
  clear hym hyn hx hi hk
  have HL := hid hl
  have HC0 : Hid (RegAt (W.alloc (.cells (wA l) 44)) W.heap.size l) := hid (RegAt.new W l)
  have HG0 := hid (grown_alloc (grown_refl W none) (.cells (wA l) 44))
  clear hl
  go_enter Tryd.func6, Tryd.ntmps6
  go_upto_region 1 with (fail)
  generalize W.alloc (.cells (wA l) 44) = y1 at HC0 HG0 ⊢
  generalize W.heap.size = B0 at HC0 ⊢
  go_wp2_with fail
  refine (first7_any _).mono ?_; rintro e y2 ⟨rfl, hg⟩
  replace HC0 := hid (HC0.out.kept0 hg)
  replace HG0 := hid (grown_trans HG0.out hg)
  clear hg
  go_wp2_with fail
  refine (op_nil op _).mono ?_; rintro e y3 ⟨rfl, hg⟩
  replace HC0 := hid (HC0.out.kept0 hg)
  replace HG0 := hid (grown_trans HG0.out hg)
  clear hg
  have Hz := zero_line
  have HX := hid ((RwAt.new y3 60 (lnC 0 0)).row (lnC op 0))
  have hg : y3.grownBy ((y3.alloc (.cells (lnC 0 0) 60)).setRow y3.heap.size (lnC op 0)) none := grown_setRow (grown_alloc (grown_refl _ _) _) (Nat.le_refl _) _
  replace HC0 := hid (HC0.out.kept0 hg)
  replace HG0 := hid (grown_trans HG0.out hg)
  clear hg
  go_upto_region 5 with (first
    | (refine wpList_store_rw rfl 60 _ _ rfl rfl rfl (RwAt.new _ _ _) (by kernel_rfl) rfl (line_one _ _) ?_)
    | fail)
  generalize ((y3.alloc (.cells (lnC 0 0) 60)).setRow y3.heap.size (lnC op 0)) = y4 at HC0 HG0 HX ⊢
  generalize y3.heap.size = X at HX ⊢
  clear Hz
  go_wp2_with (first
    | (refine wpList_load_mid rfl 27 _ rfl X 0 rfl _ _ HX.out.ln Tryd.underlying27 rfl (by kernel_rfl) ?_)
    | fail)
  refine (rword_yes op 0 0 0 0 _ HI.out).mono ?_; rw [HX0.out]; rintro e y5 ⟨rfl, hb⟩
  have hg := below_is_grown hb
  replace HC0 := hid (HC0.out.kept0 hg)
  replace HG0 := hid (grown_trans HG0.out hg)
  clear hg hb HX
  have HS0 : Hid (SlAt (y5.alloc (.cells #[.int .u32 x, .int .u32 5, .int .u32 x, .int .u32 5] 22)) .u32 (.slice (some ⟨y5.heap.size, 0, none⟩) 4 4) [x, 5, x, 5]) := hid (SlAt.whole (k := .u32) (c := 4) (xs := [x, 5, x, 5]) (t := 22) (heap_alloc_last y5 _))
  have hg : y5.grownBy (y5.alloc (.cells #[.int .u32 x, .int .u32 5, .int .u32 x, .int .u32 5] 22)) none := World.grownBy_alloc _ _ _
  replace HC0 := hid (HC0.out.kept0 hg)
  replace HG0 := hid (grown_trans HG0.out hg)
  clear hg
  go_wp2_with fail
  refine (mapped_any _ [x, 5, x, 5] true false _ HS0.out (by show 4 ≤ maxLen; decide)).mono ?_; rintro e pa ⟨gp, rfl, hg0, hblk, hg⟩
  rw [HYp.out] at hblk
  have HS1 : Hid (SlAt pa .u32 (.slice (some ⟨gp, 0, none⟩) 384 384) ysm) := hid (by
    have := SlAt.whole (k := .u32) (c := 384) (xs := ysm) hblk
    rwa [HYlp.out] at this)
  replace HC0 := hid (HC0.out.kept0 hg)
  replace HG0 := hid (grown_trans HG0.out hg)
  clear hblk hg hg0 HS0
  go_wp2_with fail
  refine (memory7_any _ ysm _ HS1.out (Nat.le_of_eq HYlp.out)).mono ?_; rintro e pb ⟨mp, bp, mp', bp', rfl, hm, hb, hb', hM, hR, hg⟩
  rw [layX_full HYlp.out] at hM
  have HMp := hid hM
  have HBWp := hid (Nat.le_trans HG0.out.size hb)
  replace HC0 := hid (HC0.out.kept0 hg)
  replace HG0 := hid (grown_trans HG0.out hg)
  clear hM hR hm hb hb' hg HS1
  have HS0 : Hid (SlAt (pb.alloc (.cells #[.int .u32 x, .int .u32 5, .int .u32 x, .int .u32 5] 22)) .u32 (.slice (some ⟨pb.heap.size, 0, none⟩) 4 4) [x, 5, x, 5]) := hid (SlAt.whole (k := .u32) (c := 4) (xs := [x, 5, x, 5]) (t := 22) (heap_alloc_last pb _))
  have hg : pb.grownBy (pb.alloc (.cells #[.int .u32 x, .int .u32 5, .int .u32 x, .int .u32 5] 22)) none := World.grownBy_alloc _ _ _
  replace HC0 := hid (HC0.out.kept0 hg)
  replace HMp := hid (HMp.out.kept0 hg)
  replace HG0 := hid (grown_trans HG0.out hg)
  clear hg
  go_wp2_with fail
  refine (mapped_any _ [x, 5, x, 5] true true _ HS0.out (by show 4 ≤ maxLen; decide)).mono ?_; rintro e qa ⟨gq, rfl, hg0, hblk, hg⟩
  rw [HYq.out] at hblk
  have HS1 : Hid (SlAt qa .u32 (.slice (some ⟨gq, 0, none⟩) 384 384) ysn) := hid (by
    have := SlAt.whole (k := .u32) (c := 384) (xs := ysn) hblk
    rwa [HYlq.out] at this)
  replace HC0 := hid (HC0.out.kept0 hg)
  replace HMp := hid (HMp.out.kept0 hg)
  replace HG0 := hid (grown_trans HG0.out hg)
  clear hblk hg hg0 HS0
  go_wp2_with fail
  refine (memory7_any _ ysn _ HS1.out (Nat.le_of_eq HYlq.out)).mono ?_; rintro e qb ⟨mq, bq, mq', bq', rfl, hm, hb, hb', hM, hR, hg⟩
  rw [layX_full HYlq.out] at hM
  have HMq := hid hM
  have HBWq := hid (Nat.le_trans HG0.out.size hb)
  have HNP : Hid (bp < qa.heap.size ∧ mp < qa.heap.size) := hid ⟨HMp.out.blt, HMp.out.mlt⟩
  have HNQ : Hid (mq ≠ bp ∧ bq ≠ bp ∧ mp ≠ bq ∧ bp ≠ bq) := hid (by have := HNP.out; omega)
  replace HC0 := hid (HC0.out.kept0 hg)
  replace HMp := hid (HMp.out.kept0 hg)
  replace HG0 := hid (grown_trans HG0.out hg)
  clear hM hR hm hb hb' hg HS1 HNP
  have Hz := zero_cpu
  have Hz2 := zero_stop
  have HP : Hid (CpuAt (qb.alloc (.cells (cpuC (userP l)) 46)) qb.heap.size ⟨l, 0, true, false, 0, 77, 0, 0⟩) := hid (CpuAt.new qb (x := userP l) HL.out.len)
  have HPb : Hid (qb.heap.size ≠ bp ∧ qb.heap.size ≠ bq) := hid ⟨by have := HMp.out.blt; omega, by have := HMq.out.blt; omega⟩
  have hg : qb.grownBy (qb.alloc (.cells (cpuC (userP l)) 46)) none := World.grownBy_alloc _ _ _
  replace HMp := hid (HMp.out.kept0 hg)
  replace HMq := hid (HMq.out.kept0 hg)
  replace HG0 := hid (grown_trans HG0.out hg)
  clear hg
  go_upto_region 13 with (first
    | (refine wpList_load_row rfl 44 _ rfl B0 rfl _ _ _ _ HC0.out Tryd.underlying44 rfl (regs_len_info l HL.out.len) ?_)
    | (refine wpList_build_user rfl _ rfl HL.out.len rfl ?_)
    | (refine wpList_store_cpu_last (y := userP l) (z := zeroP) rfl _ _ rfl rfl rfl rfl rfl HL.out.len ?_)
    | fail)
  clear HC0
  generalize qb.alloc (.cells (cpuC (userP l)) 46) = u0 at HP HMp HMq HG0 ⊢
  generalize qb.heap.size = P at HP HPb ⊢
  go_wp2_with (first
    | (refine wpList_load_cpu rfl _ rfl rfl HP.out ?_)
    | fail)
  refine (once_of HMp.out Hup.out HL.out (by decide) (by decide) 0 true _ 1 0 0 0 0 0 0 0 ysm HO0.out).mono ?_; rintro e u1 ⟨rfl, hM, hg⟩
  replace HP := hid (HP.out.kept hg (by simpa using HPb.out.1))
  replace HMq := hid (HMq.out.kept hg (by simpa using HNQ.out.1) (by simpa using HNQ.out.2.1))
  replace HG0 := hid (grown_new' (grown_trans (grown_none HG0.out) hg) (fun k hk => by obtain rfl := Option.some.inj hk; exact HBWp.out))
  clear hM hg HMp
  have HN := hid (new_cs u1 35 (y := ⟨l, 0, true, false, 0, 77, 0, 0⟩) HL.out.len (spC 1 0 0 0 0 0 0 0))
  go_upto_region 14 with (first
    | (refine wpList_store_cpu rfl _ _ rfl rfl rfl ((CpuAt.new (x := zeroP) u1 rfl).alloc _) HL.out.len ?_)
    | (refine wpList_store_rw rfl 35 _ _ rfl rfl rfl ((RwAt.new2 _ _ _ _).rowOther _ _ (by omega)) (by kernel_rfl) rfl (sp_one _ _ _ _ _ _ _ _) ?_)
    | fail)
  change Code.wp _ _ _ _ (csW u1 35 ⟨l, 0, true, false, 0, 77, 0, 0⟩ (spC 1 0 0 0 0 0 0 0))
  have HC0 := hid HN.out.1
  have HS0 := hid HN.out.2.1
  replace HP := hid (HP.out.kept0 HN.out.2.2)
  replace HMq := hid (HMq.out.kept0 HN.out.2.2)
  replace HG0 := hid (grown_trans HG0.out HN.out.2.2)
  clear HN
  generalize csW u1 35 ⟨l, 0, true, false, 0, 77, 0, 0⟩ (spC 1 0 0 0 0 0 0 0) = u1b at HC0 HS0 HP HMq HG0 ⊢
  obtain ⟨S0, hB2⟩ : ∃ B, B = u1.heap.size + 1 := ⟨_, rfl⟩
  rw [← hB2] at HS0 ⊢
  clear hB2
  generalize u1.heap.size = C0 at HC0 ⊢
  have e0 : u1b.cell? ⟨S0, 0, none⟩ = some (.int .i64 1) := HS0.out.cell 0 rfl
  have e1 : u1b.cell? ⟨S0, 1, none⟩ = some (.int .u32 0) := HS0.out.cell 1 rfl
  go_wp2_with (first
    | (refine wpList_load_cpu_wanted (by kernel_rfl) _ rfl rfl HC0.out ?_)
    | (refine wpList_load_cpu_wanted (by kernel_rfl) _ rfl rfl HP.out ?_)
    | fail)
  refine (same_cpu (x := ⟨l, 0, true, false, 0, 77, 0, 0⟩) HL.out _).mono ?_; rintro e u2 ⟨rfl, hg⟩
  replace HP := hid (HP.out.kept0 hg)
  replace HMq := hid (HMq.out.kept0 hg)
  replace HG0 := hid (grown_trans HG0.out hg)
  clear hg e0 e1 HC0 HS0
  go_wp2_with (first
    | (refine wpList_load_cpu rfl _ rfl rfl HP.out ?_)
    | fail)
  refine (once_of HMq.out Huq.out HL.out (by decide) (by decide) 0 true _ 7 0 op 0 0 0 IM LN ysn HO1.out).mono ?_; rintro e u3 ⟨rfl, hM, hg⟩
  replace HMq := hid hM
  replace HP := hid (HP.out.kept hg (by simpa using HPb.out.2))
  replace HG0 := hid (grown_new' (grown_trans (grown_none HG0.out) hg) (fun k hk => by obtain rfl := Option.some.inj hk; exact HBWq.out))
  clear hM hg
  have HN := hid (new_cs u3 35 (y := ⟨l, 0, true, false, 0, 77, 0, 0⟩) HYr1.out.len (spC 7 0 op 0 0 0 IM LN))
  go_upto_region 17 with (first
    | (refine wpList_store_cpu rfl _ _ rfl rfl rfl ((CpuAt.new (x := zeroP) u3 rfl).alloc _) HYr1.out.len ?_)
    | (refine wpList_store_rw rfl 35 _ _ rfl rfl rfl ((RwAt.new2 _ _ _ _).rowOther _ _ (by omega)) (by kernel_rfl) rfl (sp_one _ _ _ _ _ _ _ _) ?_)
    | fail)
  change Code.wp _ _ _ _ (csW u3 35 ⟨l, 0, true, false, 0, 77, 0, 0⟩ (spC 7 0 op 0 0 0 IM LN))
  have HC1 := hid HN.out.1
  have HS1 := hid HN.out.2.1
  replace HP := hid (HP.out.kept0 HN.out.2.2)
  replace HMq := hid (HMq.out.kept0 HN.out.2.2)
  replace HG0 := hid (grown_trans HG0.out HN.out.2.2)
  clear HN
  generalize csW u3 35 ⟨l, 0, true, false, 0, 77, 0, 0⟩ (spC 7 0 op 0 0 0 IM LN) = u3b at HC1 HS1 HP HMq HG0 ⊢
  obtain ⟨S1, hB2⟩ : ∃ B, B = u3.heap.size + 1 := ⟨_, rfl⟩
  rw [← hB2] at HS1 ⊢
  clear hB2
  generalize u3.heap.size = C1 at HC1 ⊢
  have HSb : Hid (S1 ≠ bq ∧ C1 ≠ bq) := hid (by
    obtain ⟨cur, hb, _⟩ := HMq.out.hb
    refine ⟨?_, ?_⟩
    · rintro rfl
      have := HS1.out.blk.symm.trans hb
      injection this with this
      injection this with _ e
      exact absurd e (by decide)
    · rintro rfl
      have := HC1.out.blk.symm.trans hb
      injection this with this
      injection this with _ e
      exact absurd e (by decide))
  go_wp2_with (first
    | (refine wpList_load_cpu rfl _ rfl rfl HP.out ?_)
    | fail)
  refine (once_of HMq.out Huq.out HL.out (by decide) (by decide) 0 false _ 7 0 op 0 0 0 IM LN ysn HO2.out).mono ?_; rintro e u4 ⟨rfl, hM, hg⟩
  replace HP := hid (HP.out.kept hg (by simpa using HPb.out.2))
  replace HC1 := hid (HC1.out.kept hg (by simpa using HSb.out.2))
  replace HS1 := hid (HS1.out.kept hg (by simpa using HSb.out.1))
  replace HG0 := hid (grown_new' (grown_trans (grown_none HG0.out) hg) (fun k hk => by obtain rfl := Option.some.inj hk; exact HBWq.out))
  clear hM hg HMq
  have HN := hid (new_cs u4 35 (y := ⟨l, 0, true, false, 0, 77, 0, 0⟩) HYr2.out.len (spC 7 0 op 0 0 0 IM LN))
  go_upto_region 18 with (first
    | (refine wpList_store_cpu rfl _ _ rfl rfl rfl ((CpuAt.new (x := zeroP) u4 rfl).alloc _) HYr2.out.len ?_)
    | (refine wpList_store_rw rfl 35 _ _ rfl rfl rfl ((RwAt.new2 _ _ _ _).rowOther _ _ (by omega)) (by kernel_rfl) rfl (sp_one _ _ _ _ _ _ _ _) ?_)
    | fail)
  change Code.wp _ _ _ _ (csW u4 35 ⟨l, 0, true, false, 0, 77, 0, 0⟩ (spC 7 0 op 0 0 0 IM LN))
  have HC2 := hid HN.out.1
  have HS2 := hid HN.out.2.1
  replace HP := hid (HP.out.kept0 HN.out.2.2)
  replace HC1 := hid (HC1.out.kept0 HN.out.2.2)
  replace HS1 := hid (HS1.out.kept0 HN.out.2.2)
  replace HG0 := hid (grown_trans HG0.out HN.out.2.2)
  clear HN
  generalize csW u4 35 ⟨l, 0, true, false, 0, 77, 0, 0⟩ (spC 7 0 op 0 0 0 IM LN) = u4b at HC2 HS2 HP HC1 HS1 HG0 ⊢
  obtain ⟨S2, hB2⟩ : ∃ B, B = u4.heap.size + 1 := ⟨_, rfl⟩
  rw [← hB2] at HS2 ⊢
  clear hB2
  generalize u4.heap.size = C2 at HC2 ⊢
  go_wp2_with fail
  refine (rclass_any _ _).mono ?_; rw [HK.out]; rintro e u5 ⟨rfl, rfl⟩
  have a0 : u4b.cell? ⟨S1, 0, none⟩ = some (.int .i64 7) := HS1.out.cell 0 rfl
  have a6 : u4b.cell? ⟨S1, 6, none⟩ = some (.int .u32 IM) := HS1.out.cell 6 rfl
  have b0 : u4b.cell? ⟨S2, 0, none⟩ = some (.int .i64 7) := HS2.out.cell 0 rfl
  have c1 := HC1.out.pc
  have c2 := HC1.out.ie
  have c4 := HC1.out.epc
  have c5 := HC1.out.tv
  go_wp2_with (first
    | (refine wpList_load_cpu_wanted (by kernel_rfl) _ rfl rfl HC1.out ?_)
    | (refine wpList_load_cpu_wanted (by kernel_rfl) _ rfl rfl HC2.out ?_)
    | (refine wpList_load_cpu_wanted (by kernel_rfl) _ rfl rfl HP.out ?_)
    | fail)
  refine (same_cpu (x := ⟨l, 0, true, false, 0, 77, 0, 0⟩) HL.out _).mono ?_; rintro e u6 ⟨rfl, hg⟩
  replace HP := hid (HP.out.kept0 hg)
  replace HC1 := hid (HC1.out.kept0 hg)
  replace HC2 := hid (HC2.out.kept0 hg)
  replace HS1 := hid (HS1.out.kept0 hg)
  replace HG0 := hid (grown_trans HG0.out hg)
  clear hg a0 a6 b0 c1 c2 c4 c5
  have a6 : u6.cell? ⟨S1, 6, none⟩ = some (.int .u32 5) := HS1.out.cell 6 (by rw [HIM.out]; rfl)
  go_wp2
  go_ret
  exact ⟨rfl, grown_below HG0.out⟩
set_option maxRecDepth 100000 in
set_option maxHeartbeats 8000000 in
theorem cuser_sil (op : Int) (l : List Int) (W : World) (hl : Regs l) (hi : insB op 0 0 0 0 = true) (hk : clsI op = 3) :
    Calls Tryd.prog 6 #[.int .i64 op, .agg (wA l)] W fun e w' => e = .returned (.bool true) ∧ Below W.heap.size W w' := by
  have HI := hid hi
  have HK := hid hk
  obtain ⟨x, hx⟩ : ∃ x, wrdI op 0 0 0 = x := ⟨_, rfl⟩
  have HX0 := hid hx
  have HUl : Hid (U32s [x, 5, x, 5]) := hid (by
    have h1 := wrd_bd hi
    rw [hx] at h1
    intro z hz
    simp only [List.mem_cons, List.not_mem_nil, or_false] at hz
    rcases hz with rfl | rfl | rfl | rfl <;> omega)
  obtain ⟨ysm, hym⟩ : ∃ ys, mapW [x, 5, x, 5] true false = ys := ⟨_, rfl⟩
  obtain ⟨ysn, hyn⟩ : ∃ ys, mapW [x, 5, x, 5] true true = ys := ⟨_, rfl⟩
  have HYp := hid hym
  have HYq := hid hyn
  have HYlp : Hid (ysm.length = 384) := hid (by rw [← hym]; exact mapW_len _ true false)
  have HYlq : Hid (ysn.length = 384) := hid (by rw [← hyn]; exact mapW_len _ true true)
  have Hup : Hid (U32s ysm) := hid (by rw [← hym]; exact mapW_u32 HUl.out true false)
  have Huq : Hid (U32s ysn) := hid (by rw [← hyn]; exact mapW_u32 HUl.out true true)
  have HO0 : Hid (onceP ysm ((24 : Nat) : Int) 0 ⟨l, 0, true, false, 0, 77, 0, 0⟩ true = ⟨⟨l, 0, true, false, 0, 77, 0, 0⟩, ⟨1, 0, 0, 0, 0, 0, 0, 0⟩, ysm⟩) := hid (by rw [← hym]; exact user_none 5)
  obtain ⟨yl, hyl, ho1⟩ := user_sil1 (l := l) hi hx hk
  rw [hyn] at ho1
  have HO1 : Hid (onceP ysn ((24 : Nat) : Int) 0 ⟨l, 0, true, false, 0, 77, 0, 0⟩ true = ⟨⟨yl, 1, true, false, 0, 77, 0, 0⟩, ⟨0, 0, op, 0, 0, 0, imI op, lnI op⟩, ysn⟩) := hid ho1
  have HO2 : Hid (onceP ysn ((24 : Nat) : Int) 0 ⟨l, 0, true, false, 0, 77, 0, 0⟩ false = ⟨⟨l, 0, true, false, 0, 77, 0, 0⟩, ⟨6, 0, op, 0, 0, 0, imI op, lnI op⟩, ysn⟩) := hid (by rw [← hyn]; exact user_sil0 hi hx hk)
  have HYr1 : Hid (Regs yl) := hid (hyl hl)
  have HYr2 : Hid (Regs l) := hid hl
  obtain ⟨IM, hIM⟩ : ∃ k, imI op = k := ⟨_, rfl⟩
  obtain ⟨LN, hLN⟩ : ∃ k, lnI op = k := ⟨_, rfl⟩
  rw [hIM, hLN] at HO1 HO2
  clear hIM hLN ho1 hyl
  clear hym hyn hx hi hk
  have HL := hid hl
  have HC0 : Hid (RegAt (W.alloc (.cells (wA l) 44)) W.heap.size l) := hid (RegAt.new W l)
  have HG0 := hid (grown_alloc (grown_refl W none) (.cells (wA l) 44))
  clear hl
  go_enter Tryd.func6, Tryd.ntmps6
  go_upto_region 1 with (fail)
  generalize W.alloc (.cells (wA l) 44) = y1 at HC0 HG0 ⊢
  generalize W.heap.size = B0 at HC0 ⊢
  go_wp2_with fail
  refine (first7_any _).mono ?_; rintro e y2 ⟨rfl, hg⟩
  replace HC0 := hid (HC0.out.kept0 hg)
  replace HG0 := hid (grown_trans HG0.out hg)
  clear hg
  go_wp2_with fail
  refine (op_nil op _).mono ?_; rintro e y3 ⟨rfl, hg⟩
  replace HC0 := hid (HC0.out.kept0 hg)
  replace HG0 := hid (grown_trans HG0.out hg)
  clear hg
  have Hz := zero_line
  have HX := hid ((RwAt.new y3 60 (lnC 0 0)).row (lnC op 0))
  have hg : y3.grownBy ((y3.alloc (.cells (lnC 0 0) 60)).setRow y3.heap.size (lnC op 0)) none := grown_setRow (grown_alloc (grown_refl _ _) _) (Nat.le_refl _) _
  replace HC0 := hid (HC0.out.kept0 hg)
  replace HG0 := hid (grown_trans HG0.out hg)
  clear hg
  go_upto_region 5 with (first
    | (refine wpList_store_rw rfl 60 _ _ rfl rfl rfl (RwAt.new _ _ _) (by kernel_rfl) rfl (line_one _ _) ?_)
    | fail)
  generalize ((y3.alloc (.cells (lnC 0 0) 60)).setRow y3.heap.size (lnC op 0)) = y4 at HC0 HG0 HX ⊢
  generalize y3.heap.size = X at HX ⊢
  clear Hz
  go_wp2_with (first
    | (refine wpList_load_mid rfl 27 _ rfl X 0 rfl _ _ HX.out.ln Tryd.underlying27 rfl (by kernel_rfl) ?_)
    | fail)
  refine (rword_yes op 0 0 0 0 _ HI.out).mono ?_; rw [HX0.out]; rintro e y5 ⟨rfl, hb⟩
  have hg := below_is_grown hb
  replace HC0 := hid (HC0.out.kept0 hg)
  replace HG0 := hid (grown_trans HG0.out hg)
  clear hg hb HX
  have HS0 : Hid (SlAt (y5.alloc (.cells #[.int .u32 x, .int .u32 5, .int .u32 x, .int .u32 5] 22)) .u32 (.slice (some ⟨y5.heap.size, 0, none⟩) 4 4) [x, 5, x, 5]) := hid (SlAt.whole (k := .u32) (c := 4) (xs := [x, 5, x, 5]) (t := 22) (heap_alloc_last y5 _))
  have hg : y5.grownBy (y5.alloc (.cells #[.int .u32 x, .int .u32 5, .int .u32 x, .int .u32 5] 22)) none := World.grownBy_alloc _ _ _
  replace HC0 := hid (HC0.out.kept0 hg)
  replace HG0 := hid (grown_trans HG0.out hg)
  clear hg
  go_wp2_with fail
  refine (mapped_any _ [x, 5, x, 5] true false _ HS0.out (by show 4 ≤ maxLen; decide)).mono ?_; rintro e pa ⟨gp, rfl, hg0, hblk, hg⟩
  rw [HYp.out] at hblk
  have HS1 : Hid (SlAt pa .u32 (.slice (some ⟨gp, 0, none⟩) 384 384) ysm) := hid (by
    have := SlAt.whole (k := .u32) (c := 384) (xs := ysm) hblk
    rwa [HYlp.out] at this)
  replace HC0 := hid (HC0.out.kept0 hg)
  replace HG0 := hid (grown_trans HG0.out hg)
  clear hblk hg hg0 HS0
  go_wp2_with fail
  refine (memory7_any _ ysm _ HS1.out (Nat.le_of_eq HYlp.out)).mono ?_; rintro e pb ⟨mp, bp, mp', bp', rfl, hm, hb, hb', hM, hR, hg⟩
  rw [layX_full HYlp.out] at hM
  have HMp := hid hM
  have HBWp := hid (Nat.le_trans HG0.out.size hb)
  replace HC0 := hid (HC0.out.kept0 hg)
  replace HG0 := hid (grown_trans HG0.out hg)
  clear hM hR hm hb hb' hg HS1
  have HS0 : Hid (SlAt (pb.alloc (.cells #[.int .u32 x, .int .u32 5, .int .u32 x, .int .u32 5] 22)) .u32 (.slice (some ⟨pb.heap.size, 0, none⟩) 4 4) [x, 5, x, 5]) := hid (SlAt.whole (k := .u32) (c := 4) (xs := [x, 5, x, 5]) (t := 22) (heap_alloc_last pb _))
  have hg : pb.grownBy (pb.alloc (.cells #[.int .u32 x, .int .u32 5, .int .u32 x, .int .u32 5] 22)) none := World.grownBy_alloc _ _ _
  replace HC0 := hid (HC0.out.kept0 hg)
  replace HMp := hid (HMp.out.kept0 hg)
  replace HG0 := hid (grown_trans HG0.out hg)
  clear hg
  go_wp2_with fail
  refine (mapped_any _ [x, 5, x, 5] true true _ HS0.out (by show 4 ≤ maxLen; decide)).mono ?_; rintro e qa ⟨gq, rfl, hg0, hblk, hg⟩
  rw [HYq.out] at hblk
  have HS1 : Hid (SlAt qa .u32 (.slice (some ⟨gq, 0, none⟩) 384 384) ysn) := hid (by
    have := SlAt.whole (k := .u32) (c := 384) (xs := ysn) hblk
    rwa [HYlq.out] at this)
  replace HC0 := hid (HC0.out.kept0 hg)
  replace HMp := hid (HMp.out.kept0 hg)
  replace HG0 := hid (grown_trans HG0.out hg)
  clear hblk hg hg0 HS0
  go_wp2_with fail
  refine (memory7_any _ ysn _ HS1.out (Nat.le_of_eq HYlq.out)).mono ?_; rintro e qb ⟨mq, bq, mq', bq', rfl, hm, hb, hb', hM, hR, hg⟩
  rw [layX_full HYlq.out] at hM
  have HMq := hid hM
  have HBWq := hid (Nat.le_trans HG0.out.size hb)
  have HNP : Hid (bp < qa.heap.size ∧ mp < qa.heap.size) := hid ⟨HMp.out.blt, HMp.out.mlt⟩
  have HNQ : Hid (mq ≠ bp ∧ bq ≠ bp ∧ mp ≠ bq ∧ bp ≠ bq) := hid (by have := HNP.out; omega)
  replace HC0 := hid (HC0.out.kept0 hg)
  replace HMp := hid (HMp.out.kept0 hg)
  replace HG0 := hid (grown_trans HG0.out hg)
  clear hM hR hm hb hb' hg HS1 HNP
  have Hz := zero_cpu
  have Hz2 := zero_stop
  have HP : Hid (CpuAt (qb.alloc (.cells (cpuC (userP l)) 46)) qb.heap.size ⟨l, 0, true, false, 0, 77, 0, 0⟩) := hid (CpuAt.new qb (x := userP l) HL.out.len)
  have HPb : Hid (qb.heap.size ≠ bp ∧ qb.heap.size ≠ bq) := hid ⟨by have := HMp.out.blt; omega, by have := HMq.out.blt; omega⟩
  have hg : qb.grownBy (qb.alloc (.cells (cpuC (userP l)) 46)) none := World.grownBy_alloc _ _ _
  replace HMp := hid (HMp.out.kept0 hg)
  replace HMq := hid (HMq.out.kept0 hg)
  replace HG0 := hid (grown_trans HG0.out hg)
  clear hg
  go_upto_region 13 with (first
    | (refine wpList_load_row rfl 44 _ rfl B0 rfl _ _ _ _ HC0.out Tryd.underlying44 rfl (regs_len_info l HL.out.len) ?_)
    | (refine wpList_build_user rfl _ rfl HL.out.len rfl ?_)
    | (refine wpList_store_cpu_last (y := userP l) (z := zeroP) rfl _ _ rfl rfl rfl rfl rfl HL.out.len ?_)
    | fail)
  clear HC0
  generalize qb.alloc (.cells (cpuC (userP l)) 46) = u0 at HP HMp HMq HG0 ⊢
  generalize qb.heap.size = P at HP HPb ⊢
  go_wp2_with (first
    | (refine wpList_load_cpu rfl _ rfl rfl HP.out ?_)
    | fail)
  refine (once_of HMp.out Hup.out HL.out (by decide) (by decide) 0 true _ 1 0 0 0 0 0 0 0 ysm HO0.out).mono ?_; rintro e u1 ⟨rfl, hM, hg⟩
  replace HP := hid (HP.out.kept hg (by simpa using HPb.out.1))
  replace HMq := hid (HMq.out.kept hg (by simpa using HNQ.out.1) (by simpa using HNQ.out.2.1))
  replace HG0 := hid (grown_new' (grown_trans (grown_none HG0.out) hg) (fun k hk => by obtain rfl := Option.some.inj hk; exact HBWp.out))
  clear hM hg HMp
  have HN := hid (new_cs u1 35 (y := ⟨l, 0, true, false, 0, 77, 0, 0⟩) HL.out.len (spC 1 0 0 0 0 0 0 0))
  go_upto_region 14 with (first
    | (refine wpList_store_cpu rfl _ _ rfl rfl rfl ((CpuAt.new (x := zeroP) u1 rfl).alloc _) HL.out.len ?_)
    | (refine wpList_store_rw rfl 35 _ _ rfl rfl rfl ((RwAt.new2 _ _ _ _).rowOther _ _ (by omega)) (by kernel_rfl) rfl (sp_one _ _ _ _ _ _ _ _) ?_)
    | fail)
  change Code.wp _ _ _ _ (csW u1 35 ⟨l, 0, true, false, 0, 77, 0, 0⟩ (spC 1 0 0 0 0 0 0 0))
  have HC0 := hid HN.out.1
  have HS0 := hid HN.out.2.1
  replace HP := hid (HP.out.kept0 HN.out.2.2)
  replace HMq := hid (HMq.out.kept0 HN.out.2.2)
  replace HG0 := hid (grown_trans HG0.out HN.out.2.2)
  clear HN
  generalize csW u1 35 ⟨l, 0, true, false, 0, 77, 0, 0⟩ (spC 1 0 0 0 0 0 0 0) = u1b at HC0 HS0 HP HMq HG0 ⊢
  obtain ⟨S0, hB2⟩ : ∃ B, B = u1.heap.size + 1 := ⟨_, rfl⟩
  rw [← hB2] at HS0 ⊢
  clear hB2
  generalize u1.heap.size = C0 at HC0 ⊢
  have e0 : u1b.cell? ⟨S0, 0, none⟩ = some (.int .i64 1) := HS0.out.cell 0 rfl
  have e1 : u1b.cell? ⟨S0, 1, none⟩ = some (.int .u32 0) := HS0.out.cell 1 rfl
  go_wp2_with (first
    | (refine wpList_load_cpu_wanted (by kernel_rfl) _ rfl rfl HC0.out ?_)
    | (refine wpList_load_cpu_wanted (by kernel_rfl) _ rfl rfl HP.out ?_)
    | fail)
  refine (same_cpu (x := ⟨l, 0, true, false, 0, 77, 0, 0⟩) HL.out _).mono ?_; rintro e u2 ⟨rfl, hg⟩
  replace HP := hid (HP.out.kept0 hg)
  replace HMq := hid (HMq.out.kept0 hg)
  replace HG0 := hid (grown_trans HG0.out hg)
  clear hg e0 e1 HC0 HS0
  go_wp2_with (first
    | (refine wpList_load_cpu rfl _ rfl rfl HP.out ?_)
    | fail)
  refine (once_of HMq.out Huq.out HL.out (by decide) (by decide) 0 true _ 0 0 op 0 0 0 IM LN ysn HO1.out).mono ?_; rintro e u3 ⟨rfl, hM, hg⟩
  replace HMq := hid hM
  replace HP := hid (HP.out.kept hg (by simpa using HPb.out.2))
  replace HG0 := hid (grown_new' (grown_trans (grown_none HG0.out) hg) (fun k hk => by obtain rfl := Option.some.inj hk; exact HBWq.out))
  clear hM hg
  have HN := hid (new_cs u3 35 (y := ⟨yl, 1, true, false, 0, 77, 0, 0⟩) HYr1.out.len (spC 0 0 op 0 0 0 IM LN))
  go_upto_region 17 with (first
    | (refine wpList_store_cpu rfl _ _ rfl rfl rfl ((CpuAt.new (x := zeroP) u3 rfl).alloc _) HYr1.out.len ?_)
    | (refine wpList_store_rw rfl 35 _ _ rfl rfl rfl ((RwAt.new2 _ _ _ _).rowOther _ _ (by omega)) (by kernel_rfl) rfl (sp_one _ _ _ _ _ _ _ _) ?_)
    | fail)
  change Code.wp _ _ _ _ (csW u3 35 ⟨yl, 1, true, false, 0, 77, 0, 0⟩ (spC 0 0 op 0 0 0 IM LN))
  have HC1 := hid HN.out.1
  have HS1 := hid HN.out.2.1
  replace HP := hid (HP.out.kept0 HN.out.2.2)
  replace HMq := hid (HMq.out.kept0 HN.out.2.2)
  replace HG0 := hid (grown_trans HG0.out HN.out.2.2)
  clear HN
  generalize csW u3 35 ⟨yl, 1, true, false, 0, 77, 0, 0⟩ (spC 0 0 op 0 0 0 IM LN) = u3b at HC1 HS1 HP HMq HG0 ⊢
  obtain ⟨S1, hB2⟩ : ∃ B, B = u3.heap.size + 1 := ⟨_, rfl⟩
  rw [← hB2] at HS1 ⊢
  clear hB2
  generalize u3.heap.size = C1 at HC1 ⊢
  have HSb : Hid (S1 ≠ bq ∧ C1 ≠ bq) := hid (by
    obtain ⟨cur, hb, _⟩ := HMq.out.hb
    refine ⟨?_, ?_⟩
    · rintro rfl
      have := HS1.out.blk.symm.trans hb
      injection this with this
      injection this with _ e
      exact absurd e (by decide)
    · rintro rfl
      have := HC1.out.blk.symm.trans hb
      injection this with this
      injection this with _ e
      exact absurd e (by decide))
  go_wp2_with (first
    | (refine wpList_load_cpu rfl _ rfl rfl HP.out ?_)
    | fail)
  refine (once_of HMq.out Huq.out HL.out (by decide) (by decide) 0 false _ 6 0 op 0 0 0 IM LN ysn HO2.out).mono ?_; rintro e u4 ⟨rfl, hM, hg⟩
  replace HP := hid (HP.out.kept hg (by simpa using HPb.out.2))
  replace HC1 := hid (HC1.out.kept hg (by simpa using HSb.out.2))
  replace HS1 := hid (HS1.out.kept hg (by simpa using HSb.out.1))
  replace HG0 := hid (grown_new' (grown_trans (grown_none HG0.out) hg) (fun k hk => by obtain rfl := Option.some.inj hk; exact HBWq.out))
  clear hM hg HMq
  have HN := hid (new_cs u4 35 (y := ⟨l, 0, true, false, 0, 77, 0, 0⟩) HYr2.out.len (spC 6 0 op 0 0 0 IM LN))
  go_upto_region 18 with (first
    | (refine wpList_store_cpu rfl _ _ rfl rfl rfl ((CpuAt.new (x := zeroP) u4 rfl).alloc _) HYr2.out.len ?_)
    | (refine wpList_store_rw rfl 35 _ _ rfl rfl rfl ((RwAt.new2 _ _ _ _).rowOther _ _ (by omega)) (by kernel_rfl) rfl (sp_one _ _ _ _ _ _ _ _) ?_)
    | fail)
  change Code.wp _ _ _ _ (csW u4 35 ⟨l, 0, true, false, 0, 77, 0, 0⟩ (spC 6 0 op 0 0 0 IM LN))
  have HC2 := hid HN.out.1
  have HS2 := hid HN.out.2.1
  replace HP := hid (HP.out.kept0 HN.out.2.2)
  replace HC1 := hid (HC1.out.kept0 HN.out.2.2)
  replace HS1 := hid (HS1.out.kept0 HN.out.2.2)
  replace HG0 := hid (grown_trans HG0.out HN.out.2.2)
  clear HN
  generalize csW u4 35 ⟨l, 0, true, false, 0, 77, 0, 0⟩ (spC 6 0 op 0 0 0 IM LN) = u4b at HC2 HS2 HP HC1 HS1 HG0 ⊢
  obtain ⟨S2, hB2⟩ : ∃ B, B = u4.heap.size + 1 := ⟨_, rfl⟩
  rw [← hB2] at HS2 ⊢
  clear hB2
  generalize u4.heap.size = C2 at HC2 ⊢
  go_wp2_with fail
  refine (rclass_any _ _).mono ?_; rw [HK.out]; rintro e u5 ⟨rfl, rfl⟩
  have a0 : u4b.cell? ⟨S1, 0, none⟩ = some (.int .i64 0) := HS1.out.cell 0 rfl
  have a6 : u4b.cell? ⟨S1, 6, none⟩ = some (.int .u32 IM) := HS1.out.cell 6 rfl
  have b0 : u4b.cell? ⟨S2, 0, none⟩ = some (.int .i64 6) := HS2.out.cell 0 rfl
  have c1 := HC1.out.pc
  have c2 := HC1.out.ie
  have c4 := HC1.out.epc
  have c5 := HC1.out.tv
  go_wp2_with (first
    | (refine wpList_load_cpu_wanted (by kernel_rfl) _ rfl rfl HC1.out ?_)
    | (refine wpList_load_cpu_wanted (by kernel_rfl) _ rfl rfl HC2.out ?_)
    | (refine wpList_load_cpu_wanted (by kernel_rfl) _ rfl rfl HP.out ?_)
    | fail)
  refine (same_cpu (x := ⟨l, 0, true, false, 0, 77, 0, 0⟩) HL.out _).mono ?_; rintro e u6 ⟨rfl, hg⟩
  replace HG0 := hid (grown_trans HG0.out hg)
  clear hg a0 a6 b0 c1 c2 c4 c5
  go_wp2
  go_ret
  exact ⟨rfl, grown_below HG0.out⟩
set_option maxRecDepth 100000 in
set_option maxHeartbeats 8000000 in
theorem cuser_inn (op : Int) (l : List Int) (W : World) (hl : Regs l) (hi : insB op 0 0 0 0 = true) (hk : clsI op = 1) :
    Calls Tryd.prog 6 #[.int .i64 op, .agg (wA l)] W fun e w' => e = .returned (.bool true) ∧ Below W.heap.size W w' := by
  have HI := hid hi
  have HK := hid hk
  obtain ⟨x, hx⟩ : ∃ x, wrdI op 0 0 0 = x := ⟨_, rfl⟩
  have HX0 := hid hx
  have HUl : Hid (U32s [x, 5, x, 5]) := hid (by
    have h1 := wrd_bd hi
    rw [hx] at h1
    intro z hz
    simp only [List.mem_cons, List.not_mem_nil, or_false] at hz
    rcases hz with rfl | rfl | rfl | rfl <;> omega)
  obtain ⟨ysm, hym⟩ : ∃ ys, mapW [x, 5, x, 5] true false = ys := ⟨_, rfl⟩
  obtain ⟨ysn, hyn⟩ : ∃ ys, mapW [x, 5, x, 5] true true = ys := ⟨_, rfl⟩
  have HYp := hid hym
  have HYq := hid hyn
  have HYlp : Hid (ysm.length = 384) := hid (by rw [← hym]; exact mapW_len _ true false)
  have HYlq : Hid (ysn.length = 384) := hid (by rw [← hyn]; exact mapW_len _ true true)
  have Hup : Hid (U32s ysm) := hid (by rw [← hym]; exact mapW_u32 HUl.out true false)
  have Huq : Hid (U32s ysn) := hid (by rw [← hyn]; exact mapW_u32 HUl.out true true)
  have HO0 : Hid (onceP ysm ((24 : Nat) : Int) 0 ⟨l, 0, true, false, 0, 77, 0, 0⟩ true = ⟨⟨l, 0, true, false, 0, 77, 0, 0⟩, ⟨1, 0, 0, 0, 0, 0, 0, 0⟩, ysm⟩) := hid (by rw [← hym]; exact user_none 5)
  obtain ⟨⟨y, ⟨oca, oad, oop, oa, ob, oc, oim, oln⟩, ms⟩, ho1⟩ : ∃ o, onceP ysn ((24 : Nat) : Int) 0 ⟨l, 0, true, false, 0, 77, 0, 0⟩ true = o := ⟨_, rfl⟩
  have hkeep := user_inn (l := l) (user := true) (y := y) (s := ⟨oca, oad, oop, oa, ob, oc, oim, oln⟩) (ms := ms) hi hx hk (by rw [hyn]; exact ho1)
  obtain ⟨yl, yp, yi, ye, yc, yt, yq, yd⟩ := y
  obtain ⟨k1, k2, k3, k4⟩ := hkeep
  have k1 : yi = true := k1
  have k2 : yt = 77 := k2
  have k3 : yc = 0 := k3
  subst k1 k2 k3
  have HCa : Hid (oca = 0 ∨ oca = 1) := hid k4
  have HO1 := hid ho1
  have HYr1 : Hid (Regs yl) := hid (once_regs (n := 24) Huq.out hl ho1)
  have Hum : Hid (U32s ms) := hid (once_good (n := 24) Huq.out hl (by decide) (by decide) ho1).2
  obtain ⟨⟨z, ⟨tca, tad, top, ta, tb, tc, tim, tln⟩, ms2⟩, ho2⟩ : ∃ o, onceP ms ((24 : Nat) : Int) 0 ⟨l, 0, true, false, 0, 77, 0, 0⟩ false = o := ⟨_, rfl⟩
  have HO2 := hid ho2
  have HYr2 : Hid (Regs z.l) := hid (once_regs (n := 24) Hum.out hl ho2)
  clear ho1 ho2 k4
  clear hym hyn hx hi hk
  have HL := hid hl
  have HC0 : Hid (RegAt (W.alloc (.cells (wA l) 44)) W.heap.size l) := hid (RegAt.new W l)
  have HG0 := hid (grown_alloc (grown_refl W none) (.cells (wA l) 44))
  clear hl
  go_enter Tryd.func6, Tryd.ntmps6
  go_upto_region 1 with (fail)
  generalize W.alloc (.cells (wA l) 44) = y1 at HC0 HG0 ⊢
  generalize W.heap.size = B0 at HC0 ⊢
  go_wp2_with fail
  refine (first7_any _).mono ?_; rintro e y2 ⟨rfl, hg⟩
  replace HC0 := hid (HC0.out.kept0 hg)
  replace HG0 := hid (grown_trans HG0.out hg)
  clear hg
  go_wp2_with fail
  refine (op_nil op _).mono ?_; rintro e y3 ⟨rfl, hg⟩
  replace HC0 := hid (HC0.out.kept0 hg)
  replace HG0 := hid (grown_trans HG0.out hg)
  clear hg
  have Hz := zero_line
  have HX := hid ((RwAt.new y3 60 (lnC 0 0)).row (lnC op 0))
  have hg : y3.grownBy ((y3.alloc (.cells (lnC 0 0) 60)).setRow y3.heap.size (lnC op 0)) none := grown_setRow (grown_alloc (grown_refl _ _) _) (Nat.le_refl _) _
  replace HC0 := hid (HC0.out.kept0 hg)
  replace HG0 := hid (grown_trans HG0.out hg)
  clear hg
  go_upto_region 5 with (first
    | (refine wpList_store_rw rfl 60 _ _ rfl rfl rfl (RwAt.new _ _ _) (by kernel_rfl) rfl (line_one _ _) ?_)
    | fail)
  generalize ((y3.alloc (.cells (lnC 0 0) 60)).setRow y3.heap.size (lnC op 0)) = y4 at HC0 HG0 HX ⊢
  generalize y3.heap.size = X at HX ⊢
  clear Hz
  go_wp2_with (first
    | (refine wpList_load_mid rfl 27 _ rfl X 0 rfl _ _ HX.out.ln Tryd.underlying27 rfl (by kernel_rfl) ?_)
    | fail)
  refine (rword_yes op 0 0 0 0 _ HI.out).mono ?_; rw [HX0.out]; rintro e y5 ⟨rfl, hb⟩
  have hg := below_is_grown hb
  replace HC0 := hid (HC0.out.kept0 hg)
  replace HG0 := hid (grown_trans HG0.out hg)
  clear hg hb HX
  have HS0 : Hid (SlAt (y5.alloc (.cells #[.int .u32 x, .int .u32 5, .int .u32 x, .int .u32 5] 22)) .u32 (.slice (some ⟨y5.heap.size, 0, none⟩) 4 4) [x, 5, x, 5]) := hid (SlAt.whole (k := .u32) (c := 4) (xs := [x, 5, x, 5]) (t := 22) (heap_alloc_last y5 _))
  have hg : y5.grownBy (y5.alloc (.cells #[.int .u32 x, .int .u32 5, .int .u32 x, .int .u32 5] 22)) none := World.grownBy_alloc _ _ _
  replace HC0 := hid (HC0.out.kept0 hg)
  replace HG0 := hid (grown_trans HG0.out hg)
  clear hg
  go_wp2_with fail
  refine (mapped_any _ [x, 5, x, 5] true false _ HS0.out (by show 4 ≤ maxLen; decide)).mono ?_; rintro e pa ⟨gp, rfl, hg0, hblk, hg⟩
  rw [HYp.out] at hblk
  have HS1 : Hid (SlAt pa .u32 (.slice (some ⟨gp, 0, none⟩) 384 384) ysm) := hid (by
    have := SlAt.whole (k := .u32) (c := 384) (xs := ysm) hblk
    rwa [HYlp.out] at this)
  replace HC0 := hid (HC0.out.kept0 hg)
  replace HG0 := hid (grown_trans HG0.out hg)
  clear hblk hg hg0 HS0
  go_wp2_with fail
  refine (memory7_any _ ysm _ HS1.out (Nat.le_of_eq HYlp.out)).mono ?_; rintro e pb ⟨mp, bp, mp', bp', rfl, hm, hb, hb', hM, hR, hg⟩
  rw [layX_full HYlp.out] at hM
  have HMp := hid hM
  have HBWp := hid (Nat.le_trans HG0.out.size hb)
  replace HC0 := hid (HC0.out.kept0 hg)
  replace HG0 := hid (grown_trans HG0.out hg)
  clear hM hR hm hb hb' hg HS1
  have HS0 : Hid (SlAt (pb.alloc (.cells #[.int .u32 x, .int .u32 5, .int .u32 x, .int .u32 5] 22)) .u32 (.slice (some ⟨pb.heap.size, 0, none⟩) 4 4) [x, 5, x, 5]) := hid (SlAt.whole (k := .u32) (c := 4) (xs := [x, 5, x, 5]) (t := 22) (heap_alloc_last pb _))
  have hg : pb.grownBy (pb.alloc (.cells #[.int .u32 x, .int .u32 5, .int .u32 x, .int .u32 5] 22)) none := World.grownBy_alloc _ _ _
  replace HC0 := hid (HC0.out.kept0 hg)
  replace HMp := hid (HMp.out.kept0 hg)
  replace HG0 := hid (grown_trans HG0.out hg)
  clear hg
  go_wp2_with fail
  refine (mapped_any _ [x, 5, x, 5] true true _ HS0.out (by show 4 ≤ maxLen; decide)).mono ?_; rintro e qa ⟨gq, rfl, hg0, hblk, hg⟩
  rw [HYq.out] at hblk
  have HS1 : Hid (SlAt qa .u32 (.slice (some ⟨gq, 0, none⟩) 384 384) ysn) := hid (by
    have := SlAt.whole (k := .u32) (c := 384) (xs := ysn) hblk
    rwa [HYlq.out] at this)
  replace HC0 := hid (HC0.out.kept0 hg)
  replace HMp := hid (HMp.out.kept0 hg)
  replace HG0 := hid (grown_trans HG0.out hg)
  clear hblk hg hg0 HS0
  go_wp2_with fail
  refine (memory7_any _ ysn _ HS1.out (Nat.le_of_eq HYlq.out)).mono ?_; rintro e qb ⟨mq, bq, mq', bq', rfl, hm, hb, hb', hM, hR, hg⟩
  rw [layX_full HYlq.out] at hM
  have HMq := hid hM
  have HBWq := hid (Nat.le_trans HG0.out.size hb)
  have HNP : Hid (bp < qa.heap.size ∧ mp < qa.heap.size) := hid ⟨HMp.out.blt, HMp.out.mlt⟩
  have HNQ : Hid (mq ≠ bp ∧ bq ≠ bp ∧ mp ≠ bq ∧ bp ≠ bq) := hid (by have := HNP.out; omega)
  replace HC0 := hid (HC0.out.kept0 hg)
  replace HMp := hid (HMp.out.kept0 hg)
  replace HG0 := hid (grown_trans HG0.out hg)
  clear hM hR hm hb hb' hg HS1 HNP
  have Hz := zero_cpu
  have Hz2 := zero_stop
  have HP : Hid (CpuAt (qb.alloc (.cells (cpuC (userP l)) 46)) qb.heap.size ⟨l, 0, true, false, 0, 77, 0, 0⟩) := hid (CpuAt.new qb (x := userP l) HL.out.len)
  have HPb : Hid (qb.heap.size ≠ bp ∧ qb.heap.size ≠ bq) := hid ⟨by have := HMp.out.blt; omega, by have := HMq.out.blt; omega⟩
  have hg : qb.grownBy (qb.alloc (.cells (cpuC (userP l)) 46)) none := World.grownBy_alloc _ _ _
  replace HMp := hid (HMp.out.kept0 hg)
  replace HMq := hid (HMq.out.kept0 hg)
  replace HG0 := hid (grown_trans HG0.out hg)
  clear hg
  go_upto_region 13 with (first
    | (refine wpList_load_row rfl 44 _ rfl B0 rfl _ _ _ _ HC0.out Tryd.underlying44 rfl (regs_len_info l HL.out.len) ?_)
    | (refine wpList_build_user rfl _ rfl HL.out.len rfl ?_)
    | (refine wpList_store_cpu_last (y := userP l) (z := zeroP) rfl _ _ rfl rfl rfl rfl rfl HL.out.len ?_)
    | fail)
  clear HC0
  generalize qb.alloc (.cells (cpuC (userP l)) 46) = u0 at HP HMp HMq HG0 ⊢
  generalize qb.heap.size = P at HP HPb ⊢
  go_wp2_with (first
    | (refine wpList_load_cpu rfl _ rfl rfl HP.out ?_)
    | fail)
  refine (once_of HMp.out Hup.out HL.out (by decide) (by decide) 0 true _ 1 0 0 0 0 0 0 0 ysm HO0.out).mono ?_; rintro e u1 ⟨rfl, hM, hg⟩
  replace HP := hid (HP.out.kept hg (by simpa using HPb.out.1))
  replace HMq := hid (HMq.out.kept hg (by simpa using HNQ.out.1) (by simpa using HNQ.out.2.1))
  replace HG0 := hid (grown_new' (grown_trans (grown_none HG0.out) hg) (fun k hk => by obtain rfl := Option.some.inj hk; exact HBWp.out))
  clear hM hg HMp
  have HN := hid (new_cs u1 35 (y := ⟨l, 0, true, false, 0, 77, 0, 0⟩) HL.out.len (spC 1 0 0 0 0 0 0 0))
  go_upto_region 14 with (first
    | (refine wpList_store_cpu rfl _ _ rfl rfl rfl ((CpuAt.new (x := zeroP) u1 rfl).alloc _) HL.out.len ?_)
    | (refine wpList_store_rw rfl 35 _ _ rfl rfl rfl ((RwAt.new2 _ _ _ _).rowOther _ _ (by omega)) (by kernel_rfl) rfl (sp_one _ _ _ _ _ _ _ _) ?_)
    | fail)
  change Code.wp _ _ _ _ (csW u1 35 ⟨l, 0, true, false, 0, 77, 0, 0⟩ (spC 1 0 0 0 0 0 0 0))
  have HC0 := hid HN.out.1
  have HS0 := hid HN.out.2.1
  replace HP := hid (HP.out.kept0 HN.out.2.2)
  replace HMq := hid (HMq.out.kept0 HN.out.2.2)
  replace HG0 := hid (grown_trans HG0.out HN.out.2.2)
  clear HN
  generalize csW u1 35 ⟨l, 0, true, false, 0, 77, 0, 0⟩ (spC 1 0 0 0 0 0 0 0) = u1b at HC0 HS0 HP HMq HG0 ⊢
  obtain ⟨S0, hB2⟩ : ∃ B, B = u1.heap.size + 1 := ⟨_, rfl⟩
  rw [← hB2] at HS0 ⊢
  clear hB2
  generalize u1.heap.size = C0 at HC0 ⊢
  have e0 : u1b.cell? ⟨S0, 0, none⟩ = some (.int .i64 1) := HS0.out.cell 0 rfl
  have e1 : u1b.cell? ⟨S0, 1, none⟩ = some (.int .u32 0) := HS0.out.cell 1 rfl
  go_wp2_with (first
    | (refine wpList_load_cpu_wanted (by kernel_rfl) _ rfl rfl HC0.out ?_)
    | (refine wpList_load_cpu_wanted (by kernel_rfl) _ rfl rfl HP.out ?_)
    | fail)
  refine (same_cpu (x := ⟨l, 0, true, false, 0, 77, 0, 0⟩) HL.out _).mono ?_; rintro e u2 ⟨rfl, hg⟩
  replace HP := hid (HP.out.kept0 hg)
  replace HMq := hid (HMq.out.kept0 hg)
  replace HG0 := hid (grown_trans HG0.out hg)
  clear hg e0 e1 HC0 HS0
  go_wp2_with (first
    | (refine wpList_load_cpu rfl _ rfl rfl HP.out ?_)
    | fail)
  refine (once_of HMq.out Huq.out HL.out (by decide) (by decide) 0 true _ oca oad oop oa ob oc oim oln ms HO1.out).mono ?_; rintro e u3 ⟨rfl, hM, hg⟩
  replace HMq := hid hM
  replace HP := hid (HP.out.kept hg (by simpa using HPb.out.2))
  replace HG0 := hid (grown_new' (grown_trans (grown_none HG0.out) hg) (fun k hk => by obtain rfl := Option.some.inj hk; exact HBWq.out))
  clear hM hg
  have HN := hid (new_cs u3 35 (y := ⟨yl, yp, true, ye, 0, 77, yq, yd⟩) HYr1.out.len (spC oca oad oop oa ob oc oim oln))
  go_upto_region 17 with (first
    | (refine wpList_store_cpu rfl _ _ rfl rfl rfl ((CpuAt.new (x := zeroP) u3 rfl).alloc _) HYr1.out.len ?_)
    | (refine wpList_store_rw rfl 35 _ _ rfl rfl rfl ((RwAt.new2 _ _ _ _).rowOther _ _ (by omega)) (by kernel_rfl) rfl (sp_one _ _ _ _ _ _ _ _) ?_)
    | fail)
  change Code.wp _ _ _ _ (csW u3 35 ⟨yl, yp, true, ye, 0, 77, yq, yd⟩ (spC oca oad oop oa ob oc oim oln))
  have HC1 := hid HN.out.1
  have HS1 := hid HN.out.2.1
  replace HP := hid (HP.out.kept0 HN.out.2.2)
  replace HMq := hid (HMq.out.kept0 HN.out.2.2)
  replace HG0 := hid (grown_trans HG0.out HN.out.2.2)
  clear HN
  generalize csW u3 35 ⟨yl, yp, true, ye, 0, 77, yq, yd⟩ (spC oca oad oop oa ob oc oim oln) = u3b at HC1 HS1 HP HMq HG0 ⊢
  obtain ⟨S1, hB2⟩ : ∃ B, B = u3.heap.size + 1 := ⟨_, rfl⟩
  rw [← hB2] at HS1 ⊢
  clear hB2
  generalize u3.heap.size = C1 at HC1 ⊢
  have HSb : Hid (S1 ≠ bq ∧ C1 ≠ bq) := hid (by
    obtain ⟨cur, hb, _⟩ := HMq.out.hb
    refine ⟨?_, ?_⟩
    · rintro rfl
      have := HS1.out.blk.symm.trans hb
      injection this with this
      injection this with _ e
      exact absurd e (by decide)
    · rintro rfl
      have := HC1.out.blk.symm.trans hb
      injection this with this
      injection this with _ e
      exact absurd e (by decide))
  go_wp2_with (first
    | (refine wpList_load_cpu rfl _ rfl rfl HP.out ?_)
    | fail)
  refine (once_of HMq.out Hum.out HL.out (by decide) (by decide) 0 false _ tca tad top ta tb tc tim tln ms2 HO2.out).mono ?_; rintro e u4 ⟨rfl, hM, hg⟩
  replace HP := hid (HP.out.kept hg (by simpa using HPb.out.2))
  replace HC1 := hid (HC1.out.kept hg (by simpa using HSb.out.2))
  replace HS1 := hid (HS1.out.kept hg (by simpa using HSb.out.1))
  replace HG0 := hid (grown_new' (grown_trans (grown_none HG0.out) hg) (fun k hk => by obtain rfl := Option.some.inj hk; exact HBWq.out))
  clear hM hg HMq
  have HN := hid (new_cs u4 35 (y := z) HYr2.out.len (spC tca tad top ta tb tc tim tln))
  go_upto_region 18 with (first
    | (refine wpList_store_cpu rfl _ _ rfl rfl rfl ((CpuAt.new (x := zeroP) u4 rfl).alloc _) HYr2.out.len ?_)
    | (refine wpList_store_rw rfl 35 _ _ rfl rfl rfl ((RwAt.new2 _ _ _ _).rowOther _ _ (by omega)) (by kernel_rfl) rfl (sp_one _ _ _ _ _ _ _ _) ?_)
    | fail)
  change Code.wp _ _ _ _ (csW u4 35 z (spC tca tad top ta tb tc tim tln))
  have HC2 := hid HN.out.1
  have HS2 := hid HN.out.2.1
  replace HP := hid (HP.out.kept0 HN.out.2.2)
  replace HC1 := hid (HC1.out.kept0 HN.out.2.2)
  replace HS1 := hid (HS1.out.kept0 HN.out.2.2)
  replace HG0 := hid (grown_trans HG0.out HN.out.2.2)
  clear HN
  generalize csW u4 35 z (spC tca tad top ta tb tc tim tln) = u4b at HC2 HS2 HP HC1 HS1 HG0 ⊢
  obtain ⟨S2, hB2⟩ : ∃ B, B = u4.heap.size + 1 := ⟨_, rfl⟩
  rw [← hB2] at HS2 ⊢
  clear hB2
  generalize u4.heap.size = C2 at HC2 ⊢
  go_wp2_with fail
  refine (rclass_any _ _).mono ?_; rw [HK.out]; rintro e u5 ⟨rfl, rfl⟩
  have a0 : u4b.cell? ⟨S1, 0, none⟩ = some (.int .i64 oca) := HS1.out.cell 0 rfl
  have a6 : u4b.cell? ⟨S1, 6, none⟩ = some (.int .u32 oim) := HS1.out.cell 6 rfl
  have b0 : u4b.cell? ⟨S2, 0, none⟩ = some (.int .i64 tca) := HS2.out.cell 0 rfl
  have c1 := HC1.out.pc
  have c2 := HC1.out.ie
  have c4 := HC1.out.epc
  have c5 := HC1.out.tv
  rcases HCa.out with rfl | rfl
  all_goals
    go_wp2
    go_ret
    exact ⟨rfl, grown_below HG0.out⟩
theorem cuser_walk (op : Int) (l : List Int) (W : World) (_ : -9223372036854775808 ≤ op) (_ : op ≤ 9223372036854775807) (hl : Regs l) :
    Calls Tryd.prog 6 #[.int .i64 op, .agg (wA l)] W fun e w' => e = .returned (.bool true) ∧ Below W.heap.size W w' := by
  cases hi : insB op 0 0 0 0
  · exact cuser_no op l W hl hi
  · rcases cls_four hi with hk | hk | hk | hk
    · exact cuser_inn op l W hl hi hk
    · exact cuser_trap op l W hl hi hk
    · exact cuser_sil op l W hl hi hk
    · exact cuser_call op l W hl hi hk
end Go.Proofs.YtaecbekobpgkoaaDoor

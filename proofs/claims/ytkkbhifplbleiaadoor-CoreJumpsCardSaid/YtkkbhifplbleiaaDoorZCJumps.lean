/- The walk of the law CoreJumps. (Made by a program.) -/
import Derived.Test.YtkkbhifplbleiaaDoorZCJumps0
import Derived.Test.YtkkbhifplbleiaaDoorZCSays
import Derived.Test.YtkkbhifplbleiaaDoorZMkOp
import Derived.Test.YtkkbhifplbleiaaDoorZGRef
import Derived.Test.YtkkbhifplbleiaaDoorZInsA
import Derived.LoopTactic
import Derived.Deep.QuietTactic
import Derived.BigQuiet
namespace Go.Proofs.YtkkbhifplbleiaaDoor
open Go.RowKit
/-- a line with a number -/
def lnD (op a c : Int) : Array Value := #[.int .i64 op, .int .i64 a, .int .i64 0, .int .i64 c, .int .u32 0, .string ByteArray.empty, .string ByteArray.empty, .bool false]
theorem RwAt.sC {w : World} {B : Nat} {t : TypeId} {op a : Int} (h : RwAt w B t (lnC op a)) (v : Int) : RwAt (w.setCell ⟨B, 3, none⟩ (.int .i64 v)) B t (lnD op a v) := h.set 3 _
theorem RwAt.lnd {w : World} {B : Nat} {t : TypeId} {op a c : Int} (h : RwAt w B t (lnD op a c)) : w.rangeAt B 0 [Value.int .i64 op, .int .i64 a, .int .i64 0, .int .i64 c, .int .u32 0] := by
  intro j v hv
  refine h.cell (0 + j) ?_
  rw [Nat.zero_add]
  match j, hv with
  | 0, hv => exact hv
  | 1, hv => exact hv
  | 2, hv => exact hv
  | 3, hv => exact hv
  | 4, hv => exact hv
  | j + 5, hv => simp at hv
theorem RwAt.lnj {w : World} {B : Nat} {t : TypeId} {op a : Int} (h : RwAt w B t (lnC op a)) : w.rangeAt B 0 [Value.int .i64 op, .int .i64 a, .int .i64 0, .int .i64 0, .int .u32 0] := by
  intro j v hv
  refine h.cell (0 + j) ?_
  rw [Nat.zero_add]
  match j, hv with
  | 0, hv => exact hv
  | 1, hv => exact hv
  | 2, hv => exact hv
  | 3, hv => exact hv
  | 4, hv => exact hv
  | j + 5, hv => simp at hv
theorem put_noneJ (a : Act) (v : Value) : a.put none v = a := rfl
def opsC : Array Value := #[.int .i64 16, .int .i64 17, .int .i64 18, .int .i64 19, .int .i64 20, .int .i64 21, .int .i64 22, .int .i64 23]
set_option maxRecDepth 100000 in
set_option maxHeartbeats 16000000 in
theorem cjumps_walk (l : List Int) (to c : Int) (W : World) (hl : Regs l) (t0 : 0 ≤ to) (t1 : to ≤ 4294967295) (_ : -9223372036854775808 ≤ c) (_ : c ≤ 9223372036854775807) :
    Calls Tryd.prog 3 #[.agg (wA l), .int .u32 to, .int .i64 c] W fun e w' => e = .returned (.bool true) ∧ Below W.heap.size W w' := by
  obtain ⟨C, hC⟩ : ∃ C, c % 256 = C := ⟨_, rfl⟩
  have hCb : bits .and .i64 c 255 = C := (i64_and255 c).trans hC
  have c0 : 0 ≤ C := by omega
  have c1 : C ≤ 255 := by omega
  have HL := hid hl
  have HRg : Hid (RegAt (W.alloc (.cells (wA l) 24)) W.heap.size l) := hid (RegAt.new W l)
  have HG0 := hid (grown_alloc (grown_refl W none) (.cells (wA l) 24))
  clear hl hC
  go_enter Tryd.func3, Tryd.ntmps3
  go_upto_region 1 with (fail)
  generalize W.alloc (.cells (wA l) 24) = y1 at HRg HG0 ⊢
  generalize W.heap.size = R at HRg ⊢
  go_wp2_with fail
  refine (first7_any _).mono ?_; rintro e y2 ⟨rfl, hg⟩
  replace HRg := hid (HRg.out.kept0 hg)
  replace HG0 := hid (grown_trans HG0.out hg)
  clear hg
  have HOp : Hid (RwAt (y2.alloc (.cells opsC 3)) y2.heap.size 3 opsC) := hid (RwAt.new _ _ _)
  have hg : y2.grownBy (y2.alloc (.cells opsC 3)) none := World.grownBy_alloc _ _ _
  replace HRg := hid (HRg.out.kept0 hg)
  replace HG0 := hid (grown_trans HG0.out hg)
  clear hg
  go_upto_region 6 with (fail)
  change Code.wp _ _ _ _ (y2.alloc (.cells opsC 3))
  generalize y2.alloc (.cells opsC 3) = y3 at HRg HOp HG0 ⊢
  generalize y2.heap.size = O at HOp ⊢
  go_wp2
  go_loopw [9, 10, 11, 12, 13, 14, 15, 16, 17, 18, 19] (fun i _ _ _ _ _ _ _ _ _ _ wr => ∃ k : Nat, k ≤ 8 ∧ i = .int .i64 k ∧ Hid (RegAt wr R l) ∧ Hid (RwAt wr O 3 opsC) ∧ Hid (W.grownBy wr none)) (fun i _ _ _ _ _ _ _ _ _ _ _ => 8 - (intOf i).toNat)
  case atStart => exact ⟨0, Nat.zero_le _, rfl, HRg, HOp, HG0⟩
  case round =>
    clear HRg HOp HG0
    obtain ⟨k, hk, rfl, HRg, HOp, HG0⟩ := hrel
    have hk0 : (0 : Int) ≤ (k : Int) := by omega
    by_cases hlt : k < 8
    · have hk1 : (k : Int) < 8 := by omega
      obtain ⟨op, HCk, hop⟩ : ∃ op : Int, Hid (opsC[k]? = some (.int .i64 op)) ∧ (op = 16 ∨ op = 17 ∨ op = 18 ∨ op = 19 ∨ op = 20 ∨ op = 21 ∨ op = 22 ∨ op = 23) := by
        have h8 : k = 0 ∨ k = 1 ∨ k = 2 ∨ k = 3 ∨ k = 4 ∨ k = 5 ∨ k = 6 ∨ k = 7 := by omega
        rcases h8 with rfl | rfl | rfl | rfl | rfl | rfl | rfl | rfl
        · exact ⟨16, hid rfl, by decide⟩
        · exact ⟨17, hid rfl, by decide⟩
        · exact ⟨18, hid rfl, by decide⟩
        · exact ⟨19, hid rfl, by decide⟩
        · exact ⟨20, hid rfl, by decide⟩
        · exact ⟨21, hid rfl, by decide⟩
        · exact ⟨22, hid rfl, by decide⟩
        · exact ⟨23, hid rfl, by decide⟩
      have ck : wr.cell? ⟨O, k, none⟩ = some (.int .i64 op) := HOp.out.cell k HCk.out
      rcases hop with rfl | rfl | rfl | rfl | rfl | rfl | rfl | rfl
      · as_aux_lemma =>
          have HI : Hid (insB 16 0 0 C 0 = true) := hid (jump_ins (op := 16) c0 c1 (by decide))
          obtain ⟨x, hx⟩ : ∃ x, wrdI 16 0 0 C = x := ⟨_, rfl⟩
          have HX0 := hid hx
          have HUl : Hid (U32s [x, to, 0]) := hid (by
            have h1 := wrd_bd HI.out
            rw [hx] at h1
            intro z hz
            simp only [List.mem_cons, List.not_mem_nil, or_false] at hz
            rcases hz with rfl | rfl | rfl <;> omega)
          obtain ⟨ys, hys⟩ : ∃ ys, mapW [x, to, 0] true true = ys := ⟨_, rfl⟩
          have HY := hid hys
          have HYl : Hid (ys.length = 384) := hid (by rw [← hys]; exact mapW_len _ true true)
          have Hu : Hid (U32s ys) := hid (by rw [← hys]; exact mapW_u32 HUl.out true true)
          obtain ⟨P0, hP0⟩ : ∃ P : Int, ((C + 128) % 256 - 128) % 4294967296 = P := ⟨_, rfl⟩
          have HW : jwant 16 (regI l 3) to C = P0 := by
            exact hP0
          have HO : Hid (onceP ys ((24 : Nat) : Int) 0 ⟨l, 0, false, false, 0, 0, 0, 0⟩ true = ⟨⟨l, P0, false, false, 0, 0, 0, 0⟩, ⟨0, 0, 16, 0, 0, C, 0, 1⟩, ys⟩) := hid (by
            have h1 := jump_once (l := l) (to := to) HI.out hx (by decide)
            have h2 := jump_x (l := l) (to := to) (op := 16) c0 c1 (by decide)
            rw [HW] at h2
            rw [← hys]
            exact h1.trans (by rw [show jumpX (startP l) 16 0 0 C (jimI 16 to) (jlnI 16) = _ from h2]; rfl))
          obtain ⟨r, hr⟩ : ∃ r, regI l 3 = r := ⟨_, rfl⟩
          have Hr : Hid (regI l 3 = r) := hid hr
          have HPd : Hid (((C + 128) % 256 - 128) % 4294967296 = P0) := hid hP0
          try clear hP0
          try clear h3
          try clear HW
          try clear hys
          try clear hx
          try clear hr
          have HT : Hid (RwAt (wr.alloc (.cells #[.int .i64 3] 3)) wr.heap.size 3 #[.int .i64 3]) := hid (RwAt.new _ _ _)
          have hg : wr.grownBy (wr.alloc (.cells #[.int .i64 3] 3)) none := World.grownBy_alloc _ _ _
          replace HRg := hid (HRg.out.kept0 hg)
          replace HOp := hid (HOp.out.kept0 hg)
          replace HG0 := hid (grown_trans HG0.out hg)
          clear hg
          go_wp2_with fail
          refine (op_one 16 3 _ _ (HT.out.cell 0 rfl) HT.out.lt).mono ?_; rintro e v1 ⟨rfl, hg⟩
          replace HRg := hid (HRg.out.kept0 hg)
          replace HOp := hid (HOp.out.kept0 hg)
          replace HG0 := hid (grown_trans HG0.out hg)
          clear hg ck HT
          have Hz := zero_line
          have HX := hid ((RwAt.new v1 30 (lnC 0 0)).row (lnC 16 3))
          have HN : Hid (R ≠ v1.heap.size ∧ O ≠ v1.heap.size ∧ W.heap.size ≤ v1.heap.size) := hid ⟨by have := HRg.out.lt; omega, by have := HOp.out.lt; omega, HG0.out.size⟩
          have hg : v1.grownBy ((v1.alloc (.cells (lnC 0 0) 30)).setRow v1.heap.size (lnC 16 3)) none := grown_setRow (grown_alloc (grown_refl _ _) _) (Nat.le_refl _) _
          replace HRg := hid (HRg.out.kept0 hg)
          replace HOp := hid (HOp.out.kept0 hg)
          replace HG0 := hid (grown_trans HG0.out hg)
          clear hg
          go_upto_region 10 with (first
            | (refine wpList_store_rw rfl 30 _ _ rfl rfl rfl (RwAt.new _ _ _) (by kernel_rfl) rfl (line_one _ _) ?_)
            | fail)
          generalize ((v1.alloc (.cells (lnC 0 0) 30)).setRow v1.heap.size (lnC 16 3)) = v2 at HRg HOp HG0 HX ⊢
          generalize v1.heap.size = X at HX HN ⊢
          clear Hz
          have ck : v2.cell? ⟨O, k, none⟩ = some (.int .i64 16) := HOp.out.cell k HCk.out
          have k1 : v2.cell? ⟨X, 1, none⟩ = some (.int .i64 3) := HX.out.cell 1 rfl
          have kf := fun j => HX.out.free j
          go_upto_region 12 with (fail)
          clear k1 kf ck
          replace HX := hid (HX.out.sA 0)
          replace HRg := hid (HRg.out.kept (grown_setCell (grown_refl v2 (some X)) 1 (.int .i64 0)) (by simpa using HN.out.1))
          replace HOp := hid (HOp.out.other X 1 (.int .i64 0) HN.out.2.1)
          replace HG0 := hid (grown_setN HG0.out HN.out.2.2 1 (.int .i64 0))
          generalize v2.setCell ⟨X, 1, none⟩ (.int .i64 0) = v3 at HRg HOp HG0 HX ⊢
          have ck : v3.cell? ⟨O, k, none⟩ = some (.int .i64 16) := HOp.out.cell k HCk.out
          have k1 : v3.cell? ⟨X, 3, none⟩ = some (.int .i64 0) := HX.out.cell 3 rfl
          have kf := fun j => HX.out.free j
          go_upto_region 14 with (fail)
          clear k1 kf ck
          replace HX := hid (HX.out.sC C)
          replace HRg := hid (HRg.out.kept (grown_setCell (grown_refl v3 (some X)) 3 (.int .i64 C)) (by simpa using HN.out.1))
          replace HOp := hid (HOp.out.other X 3 (.int .i64 C) HN.out.2.1)
          replace HG0 := hid (grown_setN HG0.out HN.out.2.2 3 (.int .i64 C))
          generalize v3.setCell ⟨X, 3, none⟩ (.int .i64 C) = v4 at HRg HOp HG0 HX ⊢
          go_wp2_with (first
            | (refine wpList_load_mid rfl 28 _ rfl X 0 rfl _ _ HX.out.lnd Tryd.underlying28 rfl (by kernel_rfl) ?_)
            | fail)
          refine (rword_yes 16 0 0 C 0 _ HI.out).mono ?_; rw [HX0.out]; rintro e y5 ⟨rfl, hb⟩
          have hg := below_is_grown hb
          replace HRg := hid (HRg.out.kept0 hg)
          replace HOp := hid (HOp.out.kept0 hg)
          replace HG0 := hid (grown_trans HG0.out hg)
          clear hg hb HX HN
          have HS0 : Hid (SlAt (y5.alloc (.cells #[.int .u32 x, .int .u32 to, .int .u32 0] 22)) .u32 (.slice (some ⟨y5.heap.size, 0, none⟩) 3 3) [x, to, 0]) := hid (SlAt.whole (k := .u32) (c := 3) (xs := [x, to, 0]) (t := 22) (heap_alloc_last y5 _))
          have hg : y5.grownBy (y5.alloc (.cells #[.int .u32 x, .int .u32 to, .int .u32 0] 22)) none := World.grownBy_alloc _ _ _
          replace HRg := hid (HRg.out.kept0 hg)
          replace HOp := hid (HOp.out.kept0 hg)
          replace HG0 := hid (grown_trans HG0.out hg)
          clear hg
          go_wp2_with fail
          refine (mapped_any _ [x, to, 0] true true _ HS0.out (by show 3 ≤ maxLen; decide)).mono ?_; rintro e qa ⟨g, rfl, hg0, hblk, hg⟩
          rw [HY.out] at hblk
          have HS1 : Hid (SlAt qa .u32 (.slice (some ⟨g, 0, none⟩) 384 384) ys) := hid (by
            have := SlAt.whole (k := .u32) (c := 384) (xs := ys) hblk
            rwa [HYl.out] at this)
          replace HRg := hid (HRg.out.kept0 hg)
          replace HOp := hid (HOp.out.kept0 hg)
          replace HG0 := hid (grown_trans HG0.out hg)
          clear hblk hg hg0 HS0
          go_wp2_with fail
          refine (memory7_any _ ys _ HS1.out (Nat.le_of_eq HYl.out)).mono ?_; rintro e qb ⟨m, b, m', b', rfl, hm, hb, hb', hM, hR, hg⟩
          rw [layX_full HYl.out] at hM
          have HM := hid hM
          have HBW := hid (Nat.le_trans HG0.out.size hb)
          have HNb : Hid (R ≠ b ∧ O ≠ b) := hid ⟨by have := HRg.out.lt; omega, by have := HOp.out.lt; omega⟩
          replace HRg := hid (HRg.out.kept0 hg)
          replace HOp := hid (HOp.out.kept0 hg)
          replace HG0 := hid (grown_trans HG0.out hg)
          clear hM hR hm hb hb' hg HS1
          go_wp2_with (first
            | (refine wpList_load_row rfl 24 _ rfl R rfl _ _ _ _ HRg.out Tryd.underlying24 rfl (regs_len_info l HL.out.len) ?_)
            | (refine wpList_build_cpuR rfl _ rfl HL.out.len rfl ?_)
            | fail)
          refine (once_of HM.out Hu.out HL.out (by decide) (by decide) 0 true _ 0 0 16 0 0 C 0 1 ys HO.out).mono ?_; rintro e u1 ⟨rfl, hM, hg⟩
          replace HRg := hid (HRg.out.kept hg (by simpa using HNb.out.1))
          replace HOp := hid (HOp.out.kept hg (by simpa using HNb.out.2))
          replace HG0 := hid (grown_new' (grown_trans (grown_none HG0.out) hg) (fun k hk => by obtain rfl := Option.some.inj hk; exact HBW.out))
          clear hM hg HM HBW HNb
          have Hz := zero_cpu
          have Hz2 := zero_stop
          have HN := hid (new_cs u1 43 (y := ⟨l, P0, false, false, 0, 0, 0, 0⟩) HL.out.len (spC 0 0 16 0 0 C 0 1))
          go_upto_region 19 with (first
            | (refine wpList_store_cpu rfl _ _ rfl rfl rfl ((CpuAt.new (x := zeroP) u1 rfl).alloc _) HL.out.len ?_)
            | (refine wpList_store_rw rfl 43 _ _ rfl rfl rfl ((RwAt.new2 _ _ _ _).rowOther _ _ (by omega)) (by kernel_rfl) rfl (sp_one _ _ _ _ _ _ _ _) ?_)
            | fail)
          change Code.wp _ _ _ _ (csW u1 43 ⟨l, P0, false, false, 0, 0, 0, 0⟩ (spC 0 0 16 0 0 C 0 1))
          have HC0 := hid HN.out.1
          have HS0 := hid HN.out.2.1
          replace HRg := hid (HRg.out.kept0 HN.out.2.2)
          replace HOp := hid (HOp.out.kept0 HN.out.2.2)
          replace HG0 := hid (grown_trans HG0.out HN.out.2.2)
          clear HN
          generalize csW u1 43 ⟨l, P0, false, false, 0, 0, 0, 0⟩ (spC 0 0 16 0 0 C 0 1) = u1b at HC0 HS0 HRg HOp HG0 ⊢
          obtain ⟨S0, hB2⟩ : ∃ B, B = u1.heap.size + 1 := ⟨_, rfl⟩
          rw [← hB2] at HS0 ⊢
          clear hB2
          generalize u1.heap.size = C0 at HC0 ⊢
          clear Hz Hz2
          have ck : u1b.cell? ⟨O, k, none⟩ = some (.int .i64 16) := HOp.out.cell k HCk.out
          have r3 : u1b.cell? ⟨R, 3, none⟩ = some (.int .u32 r) := (HRg.out.cell (HL.out.get (k := 3) (by decide) (by decide))).trans (by rw [Hr.out])
          simp only [put_noneJ]
          go_big_quiet (fail)
          clear ck r3
          replace HRg := hid (HRg.out.kept0 (grown_drewN (grown_refl _ none) nq))
          replace HOp := hid (HOp.out.kept0 (grown_drewN (grown_refl _ none) nq))
          replace HC0 := hid (HC0.out.kept0 (grown_drewN (grown_refl _ none) nq))
          replace HS0 := hid (HS0.out.kept0 (grown_drewN (grown_refl _ none) nq))
          replace HG0 := hid (grown_drewN HG0.out nq)
          generalize u1b.drewN nq = u2 at HRg HOp HC0 HS0 HG0 ⊢
          have ck : u2.cell? ⟨O, k, none⟩ = some (.int .i64 16) := HOp.out.cell k HCk.out
          have r3 : u2.cell? ⟨R, 3, none⟩ = some (.int .u32 r) := (HRg.out.cell (HL.out.get (k := 3) (by decide) (by decide))).trans (by rw [Hr.out])
          have r15 : u2.cell? ⟨R, 15, none⟩ = some (.int .u32 (regI l 15)) := HRg.out.cell (HL.out.get (k := 15) (by decide) (by decide))
          have s0 : u2.cell? ⟨S0, 0, none⟩ = some (.int .i64 0) := HS0.out.cell 0 rfl
          have s7 : u2.cell? ⟨S0, 7, none⟩ = some (.int .u32 1) := HS0.out.cell 7 rfl
          have cp : u2.cell? ⟨C0, 16, none⟩ = some (.int .u32 P0) := HC0.out.pc
          have c3 : u2.cell? ⟨C0, 3, none⟩ = some (.int .u32 r) := HC0.out.regc (k := 3) (by rw [← Hr.out]; exact HL.out.get (k := 3) (by decide) (by decide))
          have c15 : u2.cell? ⟨C0, 15, none⟩ = some (.int .u32 (regI l 15)) := HC0.out.regc (k := 15) (HL.out.get (k := 15) (by decide) (by decide))
          go_wp2_with fail
          refine (rdisp_any _ _).mono ?_; rintro e _ ⟨rfl, rfl⟩
          have hPd := HPd.out
          go_wp2
          go_roundw
          case rel => exact ⟨k + 1, by omega, by go_num, HRg, HOp, HG0⟩
          case measure => simp [intOf]; omega
      · by_cases h3 : regI l 3 = 0
        · as_aux_lemma =>
            have HI : Hid (insB 17 3 0 C 0 = true) := hid (jump_ins (op := 17) c0 c1 (by decide))
            obtain ⟨x, hx⟩ : ∃ x, wrdI 17 3 0 C = x := ⟨_, rfl⟩
            have HX0 := hid hx
            have HUl : Hid (U32s [x, to, 0]) := hid (by
              have h1 := wrd_bd HI.out
              rw [hx] at h1
              intro z hz
              simp only [List.mem_cons, List.not_mem_nil, or_false] at hz
              rcases hz with rfl | rfl | rfl <;> omega)
            obtain ⟨ys, hys⟩ : ∃ ys, mapW [x, to, 0] true true = ys := ⟨_, rfl⟩
            have HY := hid hys
            have HYl : Hid (ys.length = 384) := hid (by rw [← hys]; exact mapW_len _ true true)
            have Hu : Hid (U32s ys) := hid (by rw [← hys]; exact mapW_u32 HUl.out true true)
            obtain ⟨P0, hP0⟩ : ∃ P : Int, ((C + 128) % 256 - 128) % 4294967296 = P := ⟨_, rfl⟩
            have HW : jwant 17 (regI l 3) to C = P0 := by
              rw [h3]; exact hP0
            have HO : Hid (onceP ys ((24 : Nat) : Int) 0 ⟨l, 0, false, false, 0, 0, 0, 0⟩ true = ⟨⟨l, P0, false, false, 0, 0, 0, 0⟩, ⟨0, 0, 17, 3, 0, C, 0, 1⟩, ys⟩) := hid (by
              have h1 := jump_once (l := l) (to := to) HI.out hx (by decide)
              have h2 := jump_x (l := l) (to := to) (op := 17) c0 c1 (by decide)
              rw [HW] at h2
              rw [← hys]
              exact h1.trans (by rw [show jumpX (startP l) 17 3 0 C (jimI 17 to) (jlnI 17) = _ from h2]; rfl))
            obtain ⟨r, hr⟩ : ∃ r, regI l 3 = r ∧ r = 0 := ⟨_, rfl, h3⟩
            obtain ⟨hr, rfl⟩ := hr
            have Hr : Hid (regI l 3 = 0) := hid hr
            have HPd : Hid (((C + 128) % 256 - 128) % 4294967296 = P0) := hid hP0
            try clear hP0
            try clear h3
            try clear HW
            try clear hys
            try clear hx
            try clear hr
            have HT : Hid (RwAt (wr.alloc (.cells #[.int .i64 3] 3)) wr.heap.size 3 #[.int .i64 3]) := hid (RwAt.new _ _ _)
            have hg : wr.grownBy (wr.alloc (.cells #[.int .i64 3] 3)) none := World.grownBy_alloc _ _ _
            replace HRg := hid (HRg.out.kept0 hg)
            replace HOp := hid (HOp.out.kept0 hg)
            replace HG0 := hid (grown_trans HG0.out hg)
            clear hg
            go_wp2_with fail
            refine (op_one 17 3 _ _ (HT.out.cell 0 rfl) HT.out.lt).mono ?_; rintro e v1 ⟨rfl, hg⟩
            replace HRg := hid (HRg.out.kept0 hg)
            replace HOp := hid (HOp.out.kept0 hg)
            replace HG0 := hid (grown_trans HG0.out hg)
            clear hg ck HT
            have Hz := zero_line
            have HX := hid ((RwAt.new v1 30 (lnC 0 0)).row (lnC 17 3))
            have HN : Hid (R ≠ v1.heap.size ∧ O ≠ v1.heap.size ∧ W.heap.size ≤ v1.heap.size) := hid ⟨by have := HRg.out.lt; omega, by have := HOp.out.lt; omega, HG0.out.size⟩
            have hg : v1.grownBy ((v1.alloc (.cells (lnC 0 0) 30)).setRow v1.heap.size (lnC 17 3)) none := grown_setRow (grown_alloc (grown_refl _ _) _) (Nat.le_refl _) _
            replace HRg := hid (HRg.out.kept0 hg)
            replace HOp := hid (HOp.out.kept0 hg)
            replace HG0 := hid (grown_trans HG0.out hg)
            clear hg
            go_upto_region 10 with (first
              | (refine wpList_store_rw rfl 30 _ _ rfl rfl rfl (RwAt.new _ _ _) (by kernel_rfl) rfl (line_one _ _) ?_)
              | fail)
            generalize ((v1.alloc (.cells (lnC 0 0) 30)).setRow v1.heap.size (lnC 17 3)) = v2 at HRg HOp HG0 HX ⊢
            generalize v1.heap.size = X at HX HN ⊢
            clear Hz
            have ck : v2.cell? ⟨O, k, none⟩ = some (.int .i64 17) := HOp.out.cell k HCk.out
            go_upto_region 12 with (fail)
            clear ck
            obtain ⟨v3, hv3⟩ : ∃ v, v2 = v := ⟨_, rfl⟩
            subst hv3
            have ck : v2.cell? ⟨O, k, none⟩ = some (.int .i64 17) := HOp.out.cell k HCk.out
            have k1 : v2.cell? ⟨X, 3, none⟩ = some (.int .i64 0) := HX.out.cell 3 rfl
            have kf := fun j => HX.out.free j
            go_upto_region 14 with (fail)
            clear k1 kf ck
            replace HX := hid (HX.out.sC C)
            replace HRg := hid (HRg.out.kept (grown_setCell (grown_refl v2 (some X)) 3 (.int .i64 C)) (by simpa using HN.out.1))
            replace HOp := hid (HOp.out.other X 3 (.int .i64 C) HN.out.2.1)
            replace HG0 := hid (grown_setN HG0.out HN.out.2.2 3 (.int .i64 C))
            generalize v2.setCell ⟨X, 3, none⟩ (.int .i64 C) = v4 at HRg HOp HG0 HX ⊢
            go_wp2_with (first
              | (refine wpList_load_mid rfl 28 _ rfl X 0 rfl _ _ HX.out.lnd Tryd.underlying28 rfl (by kernel_rfl) ?_)
              | fail)
            refine (rword_yes 17 3 0 C 0 _ HI.out).mono ?_; rw [HX0.out]; rintro e y5 ⟨rfl, hb⟩
            have hg := below_is_grown hb
            replace HRg := hid (HRg.out.kept0 hg)
            replace HOp := hid (HOp.out.kept0 hg)
            replace HG0 := hid (grown_trans HG0.out hg)
            clear hg hb HX HN
            have HS0 : Hid (SlAt (y5.alloc (.cells #[.int .u32 x, .int .u32 to, .int .u32 0] 22)) .u32 (.slice (some ⟨y5.heap.size, 0, none⟩) 3 3) [x, to, 0]) := hid (SlAt.whole (k := .u32) (c := 3) (xs := [x, to, 0]) (t := 22) (heap_alloc_last y5 _))
            have hg : y5.grownBy (y5.alloc (.cells #[.int .u32 x, .int .u32 to, .int .u32 0] 22)) none := World.grownBy_alloc _ _ _
            replace HRg := hid (HRg.out.kept0 hg)
            replace HOp := hid (HOp.out.kept0 hg)
            replace HG0 := hid (grown_trans HG0.out hg)
            clear hg
            go_wp2_with fail
            refine (mapped_any _ [x, to, 0] true true _ HS0.out (by show 3 ≤ maxLen; decide)).mono ?_; rintro e qa ⟨g, rfl, hg0, hblk, hg⟩
            rw [HY.out] at hblk
            have HS1 : Hid (SlAt qa .u32 (.slice (some ⟨g, 0, none⟩) 384 384) ys) := hid (by
              have := SlAt.whole (k := .u32) (c := 384) (xs := ys) hblk
              rwa [HYl.out] at this)
            replace HRg := hid (HRg.out.kept0 hg)
            replace HOp := hid (HOp.out.kept0 hg)
            replace HG0 := hid (grown_trans HG0.out hg)
            clear hblk hg hg0 HS0
            go_wp2_with fail
            refine (memory7_any _ ys _ HS1.out (Nat.le_of_eq HYl.out)).mono ?_; rintro e qb ⟨m, b, m', b', rfl, hm, hb, hb', hM, hR, hg⟩
            rw [layX_full HYl.out] at hM
            have HM := hid hM
            have HBW := hid (Nat.le_trans HG0.out.size hb)
            have HNb : Hid (R ≠ b ∧ O ≠ b) := hid ⟨by have := HRg.out.lt; omega, by have := HOp.out.lt; omega⟩
            replace HRg := hid (HRg.out.kept0 hg)
            replace HOp := hid (HOp.out.kept0 hg)
            replace HG0 := hid (grown_trans HG0.out hg)
            clear hM hR hm hb hb' hg HS1
            go_wp2_with (first
              | (refine wpList_load_row rfl 24 _ rfl R rfl _ _ _ _ HRg.out Tryd.underlying24 rfl (regs_len_info l HL.out.len) ?_)
              | (refine wpList_build_cpuR rfl _ rfl HL.out.len rfl ?_)
              | fail)
            refine (once_of HM.out Hu.out HL.out (by decide) (by decide) 0 true _ 0 0 17 3 0 C 0 1 ys HO.out).mono ?_; rintro e u1 ⟨rfl, hM, hg⟩
            replace HRg := hid (HRg.out.kept hg (by simpa using HNb.out.1))
            replace HOp := hid (HOp.out.kept hg (by simpa using HNb.out.2))
            replace HG0 := hid (grown_new' (grown_trans (grown_none HG0.out) hg) (fun k hk => by obtain rfl := Option.some.inj hk; exact HBW.out))
            clear hM hg HM HBW HNb
            have Hz := zero_cpu
            have Hz2 := zero_stop
            have HN := hid (new_cs u1 43 (y := ⟨l, P0, false, false, 0, 0, 0, 0⟩) HL.out.len (spC 0 0 17 3 0 C 0 1))
            go_upto_region 19 with (first
              | (refine wpList_store_cpu rfl _ _ rfl rfl rfl ((CpuAt.new (x := zeroP) u1 rfl).alloc _) HL.out.len ?_)
              | (refine wpList_store_rw rfl 43 _ _ rfl rfl rfl ((RwAt.new2 _ _ _ _).rowOther _ _ (by omega)) (by kernel_rfl) rfl (sp_one _ _ _ _ _ _ _ _) ?_)
              | fail)
            change Code.wp _ _ _ _ (csW u1 43 ⟨l, P0, false, false, 0, 0, 0, 0⟩ (spC 0 0 17 3 0 C 0 1))
            have HC0 := hid HN.out.1
            have HS0 := hid HN.out.2.1
            replace HRg := hid (HRg.out.kept0 HN.out.2.2)
            replace HOp := hid (HOp.out.kept0 HN.out.2.2)
            replace HG0 := hid (grown_trans HG0.out HN.out.2.2)
            clear HN
            generalize csW u1 43 ⟨l, P0, false, false, 0, 0, 0, 0⟩ (spC 0 0 17 3 0 C 0 1) = u1b at HC0 HS0 HRg HOp HG0 ⊢
            obtain ⟨S0, hB2⟩ : ∃ B, B = u1.heap.size + 1 := ⟨_, rfl⟩
            rw [← hB2] at HS0 ⊢
            clear hB2
            generalize u1.heap.size = C0 at HC0 ⊢
            clear Hz Hz2
            have ck : u1b.cell? ⟨O, k, none⟩ = some (.int .i64 17) := HOp.out.cell k HCk.out
            have r3 : u1b.cell? ⟨R, 3, none⟩ = some (.int .u32 0) := (HRg.out.cell (HL.out.get (k := 3) (by decide) (by decide))).trans (by rw [Hr.out])
            simp only [put_noneJ]
            go_big_quiet (fail)
            clear ck r3
            replace HRg := hid (HRg.out.kept0 (grown_drewN (grown_refl _ none) nq))
            replace HOp := hid (HOp.out.kept0 (grown_drewN (grown_refl _ none) nq))
            replace HC0 := hid (HC0.out.kept0 (grown_drewN (grown_refl _ none) nq))
            replace HS0 := hid (HS0.out.kept0 (grown_drewN (grown_refl _ none) nq))
            replace HG0 := hid (grown_drewN HG0.out nq)
            generalize u1b.drewN nq = u2 at HRg HOp HC0 HS0 HG0 ⊢
            have ck : u2.cell? ⟨O, k, none⟩ = some (.int .i64 17) := HOp.out.cell k HCk.out
            have r3 : u2.cell? ⟨R, 3, none⟩ = some (.int .u32 0) := (HRg.out.cell (HL.out.get (k := 3) (by decide) (by decide))).trans (by rw [Hr.out])
            have r15 : u2.cell? ⟨R, 15, none⟩ = some (.int .u32 (regI l 15)) := HRg.out.cell (HL.out.get (k := 15) (by decide) (by decide))
            have s0 : u2.cell? ⟨S0, 0, none⟩ = some (.int .i64 0) := HS0.out.cell 0 rfl
            have s7 : u2.cell? ⟨S0, 7, none⟩ = some (.int .u32 1) := HS0.out.cell 7 rfl
            have cp : u2.cell? ⟨C0, 16, none⟩ = some (.int .u32 P0) := HC0.out.pc
            have c3 : u2.cell? ⟨C0, 3, none⟩ = some (.int .u32 0) := HC0.out.regc (k := 3) (by rw [← Hr.out]; exact HL.out.get (k := 3) (by decide) (by decide))
            have c15 : u2.cell? ⟨C0, 15, none⟩ = some (.int .u32 (regI l 15)) := HC0.out.regc (k := 15) (HL.out.get (k := 15) (by decide) (by decide))
            go_wp2_with fail
            refine (rdisp_any _ _).mono ?_; rintro e _ ⟨rfl, rfl⟩
            have hPd := HPd.out
            go_wp2
            go_roundw
            case rel => exact ⟨k + 1, by omega, by go_num, HRg, HOp, HG0⟩
            case measure => simp [intOf]; omega
        · as_aux_lemma =>
            have HI : Hid (insB 17 3 0 C 0 = true) := hid (jump_ins (op := 17) c0 c1 (by decide))
            obtain ⟨x, hx⟩ : ∃ x, wrdI 17 3 0 C = x := ⟨_, rfl⟩
            have HX0 := hid hx
            have HUl : Hid (U32s [x, to, 0]) := hid (by
              have h1 := wrd_bd HI.out
              rw [hx] at h1
              intro z hz
              simp only [List.mem_cons, List.not_mem_nil, or_false] at hz
              rcases hz with rfl | rfl | rfl <;> omega)
            obtain ⟨ys, hys⟩ : ∃ ys, mapW [x, to, 0] true true = ys := ⟨_, rfl⟩
            have HY := hid hys
            have HYl : Hid (ys.length = 384) := hid (by rw [← hys]; exact mapW_len _ true true)
            have Hu : Hid (U32s ys) := hid (by rw [← hys]; exact mapW_u32 HUl.out true true)
            obtain ⟨P0, hP0⟩ : ∃ P : Int, 1 = P := ⟨_, rfl⟩
            have HW : jwant 17 (regI l 3) to C = P0 := by
              unfold jwant jtkB; rw [show (regI l 3 == 0) = false by simpa using h3]; exact hP0
            have HO : Hid (onceP ys ((24 : Nat) : Int) 0 ⟨l, 0, false, false, 0, 0, 0, 0⟩ true = ⟨⟨l, P0, false, false, 0, 0, 0, 0⟩, ⟨0, 0, 17, 3, 0, C, 0, 1⟩, ys⟩) := hid (by
              have h1 := jump_once (l := l) (to := to) HI.out hx (by decide)
              have h2 := jump_x (l := l) (to := to) (op := 17) c0 c1 (by decide)
              rw [HW] at h2
              rw [← hys]
              exact h1.trans (by rw [show jumpX (startP l) 17 3 0 C (jimI 17 to) (jlnI 17) = _ from h2]; rfl))
            obtain ⟨r, hr⟩ : ∃ r, regI l 3 = r := ⟨_, rfl⟩
            have hr1 : (r == 0) = false := by rw [← hr]; simpa using h3
            have hr2 : (r != 0) = true := by rw [← hr]; simpa using h3
            have Hr : Hid (regI l 3 = r) := hid hr
            subst hP0
            try clear hP0
            try clear h3
            try clear HW
            try clear hys
            try clear hx
            try clear hr
            have HT : Hid (RwAt (wr.alloc (.cells #[.int .i64 3] 3)) wr.heap.size 3 #[.int .i64 3]) := hid (RwAt.new _ _ _)
            have hg : wr.grownBy (wr.alloc (.cells #[.int .i64 3] 3)) none := World.grownBy_alloc _ _ _
            replace HRg := hid (HRg.out.kept0 hg)
            replace HOp := hid (HOp.out.kept0 hg)
            replace HG0 := hid (grown_trans HG0.out hg)
            clear hg
            go_wp2_with fail
            refine (op_one 17 3 _ _ (HT.out.cell 0 rfl) HT.out.lt).mono ?_; rintro e v1 ⟨rfl, hg⟩
            replace HRg := hid (HRg.out.kept0 hg)
            replace HOp := hid (HOp.out.kept0 hg)
            replace HG0 := hid (grown_trans HG0.out hg)
            clear hg ck HT
            have Hz := zero_line
            have HX := hid ((RwAt.new v1 30 (lnC 0 0)).row (lnC 17 3))
            have HN : Hid (R ≠ v1.heap.size ∧ O ≠ v1.heap.size ∧ W.heap.size ≤ v1.heap.size) := hid ⟨by have := HRg.out.lt; omega, by have := HOp.out.lt; omega, HG0.out.size⟩
            have hg : v1.grownBy ((v1.alloc (.cells (lnC 0 0) 30)).setRow v1.heap.size (lnC 17 3)) none := grown_setRow (grown_alloc (grown_refl _ _) _) (Nat.le_refl _) _
            replace HRg := hid (HRg.out.kept0 hg)
            replace HOp := hid (HOp.out.kept0 hg)
            replace HG0 := hid (grown_trans HG0.out hg)
            clear hg
            go_upto_region 10 with (first
              | (refine wpList_store_rw rfl 30 _ _ rfl rfl rfl (RwAt.new _ _ _) (by kernel_rfl) rfl (line_one _ _) ?_)
              | fail)
            generalize ((v1.alloc (.cells (lnC 0 0) 30)).setRow v1.heap.size (lnC 17 3)) = v2 at HRg HOp HG0 HX ⊢
            generalize v1.heap.size = X at HX HN ⊢
            clear Hz
            have ck : v2.cell? ⟨O, k, none⟩ = some (.int .i64 17) := HOp.out.cell k HCk.out
            go_upto_region 12 with (fail)
            clear ck
            obtain ⟨v3, hv3⟩ : ∃ v, v2 = v := ⟨_, rfl⟩
            subst hv3
            have ck : v2.cell? ⟨O, k, none⟩ = some (.int .i64 17) := HOp.out.cell k HCk.out
            have k1 : v2.cell? ⟨X, 3, none⟩ = some (.int .i64 0) := HX.out.cell 3 rfl
            have kf := fun j => HX.out.free j
            go_upto_region 14 with (fail)
            clear k1 kf ck
            replace HX := hid (HX.out.sC C)
            replace HRg := hid (HRg.out.kept (grown_setCell (grown_refl v2 (some X)) 3 (.int .i64 C)) (by simpa using HN.out.1))
            replace HOp := hid (HOp.out.other X 3 (.int .i64 C) HN.out.2.1)
            replace HG0 := hid (grown_setN HG0.out HN.out.2.2 3 (.int .i64 C))
            generalize v2.setCell ⟨X, 3, none⟩ (.int .i64 C) = v4 at HRg HOp HG0 HX ⊢
            go_wp2_with (first
              | (refine wpList_load_mid rfl 28 _ rfl X 0 rfl _ _ HX.out.lnd Tryd.underlying28 rfl (by kernel_rfl) ?_)
              | fail)
            refine (rword_yes 17 3 0 C 0 _ HI.out).mono ?_; rw [HX0.out]; rintro e y5 ⟨rfl, hb⟩
            have hg := below_is_grown hb
            replace HRg := hid (HRg.out.kept0 hg)
            replace HOp := hid (HOp.out.kept0 hg)
            replace HG0 := hid (grown_trans HG0.out hg)
            clear hg hb HX HN
            have HS0 : Hid (SlAt (y5.alloc (.cells #[.int .u32 x, .int .u32 to, .int .u32 0] 22)) .u32 (.slice (some ⟨y5.heap.size, 0, none⟩) 3 3) [x, to, 0]) := hid (SlAt.whole (k := .u32) (c := 3) (xs := [x, to, 0]) (t := 22) (heap_alloc_last y5 _))
            have hg : y5.grownBy (y5.alloc (.cells #[.int .u32 x, .int .u32 to, .int .u32 0] 22)) none := World.grownBy_alloc _ _ _
            replace HRg := hid (HRg.out.kept0 hg)
            replace HOp := hid (HOp.out.kept0 hg)
            replace HG0 := hid (grown_trans HG0.out hg)
            clear hg
            go_wp2_with fail
            refine (mapped_any _ [x, to, 0] true true _ HS0.out (by show 3 ≤ maxLen; decide)).mono ?_; rintro e qa ⟨g, rfl, hg0, hblk, hg⟩
            rw [HY.out] at hblk
            have HS1 : Hid (SlAt qa .u32 (.slice (some ⟨g, 0, none⟩) 384 384) ys) := hid (by
              have := SlAt.whole (k := .u32) (c := 384) (xs := ys) hblk
              rwa [HYl.out] at this)
            replace HRg := hid (HRg.out.kept0 hg)
            replace HOp := hid (HOp.out.kept0 hg)
            replace HG0 := hid (grown_trans HG0.out hg)
            clear hblk hg hg0 HS0
            go_wp2_with fail
            refine (memory7_any _ ys _ HS1.out (Nat.le_of_eq HYl.out)).mono ?_; rintro e qb ⟨m, b, m', b', rfl, hm, hb, hb', hM, hR, hg⟩
            rw [layX_full HYl.out] at hM
            have HM := hid hM
            have HBW := hid (Nat.le_trans HG0.out.size hb)
            have HNb : Hid (R ≠ b ∧ O ≠ b) := hid ⟨by have := HRg.out.lt; omega, by have := HOp.out.lt; omega⟩
            replace HRg := hid (HRg.out.kept0 hg)
            replace HOp := hid (HOp.out.kept0 hg)
            replace HG0 := hid (grown_trans HG0.out hg)
            clear hM hR hm hb hb' hg HS1
            go_wp2_with (first
              | (refine wpList_load_row rfl 24 _ rfl R rfl _ _ _ _ HRg.out Tryd.underlying24 rfl (regs_len_info l HL.out.len) ?_)
              | (refine wpList_build_cpuR rfl _ rfl HL.out.len rfl ?_)
              | fail)
            refine (once_of HM.out Hu.out HL.out (by decide) (by decide) 0 true _ 0 0 17 3 0 C 0 1 ys HO.out).mono ?_; rintro e u1 ⟨rfl, hM, hg⟩
            replace HRg := hid (HRg.out.kept hg (by simpa using HNb.out.1))
            replace HOp := hid (HOp.out.kept hg (by simpa using HNb.out.2))
            replace HG0 := hid (grown_new' (grown_trans (grown_none HG0.out) hg) (fun k hk => by obtain rfl := Option.some.inj hk; exact HBW.out))
            clear hM hg HM HBW HNb
            have Hz := zero_cpu
            have Hz2 := zero_stop
            have HN := hid (new_cs u1 43 (y := ⟨l, 1, false, false, 0, 0, 0, 0⟩) HL.out.len (spC 0 0 17 3 0 C 0 1))
            go_upto_region 19 with (first
              | (refine wpList_store_cpu rfl _ _ rfl rfl rfl ((CpuAt.new (x := zeroP) u1 rfl).alloc _) HL.out.len ?_)
              | (refine wpList_store_rw rfl 43 _ _ rfl rfl rfl ((RwAt.new2 _ _ _ _).rowOther _ _ (by omega)) (by kernel_rfl) rfl (sp_one _ _ _ _ _ _ _ _) ?_)
              | fail)
            change Code.wp _ _ _ _ (csW u1 43 ⟨l, 1, false, false, 0, 0, 0, 0⟩ (spC 0 0 17 3 0 C 0 1))
            have HC0 := hid HN.out.1
            have HS0 := hid HN.out.2.1
            replace HRg := hid (HRg.out.kept0 HN.out.2.2)
            replace HOp := hid (HOp.out.kept0 HN.out.2.2)
            replace HG0 := hid (grown_trans HG0.out HN.out.2.2)
            clear HN
            generalize csW u1 43 ⟨l, 1, false, false, 0, 0, 0, 0⟩ (spC 0 0 17 3 0 C 0 1) = u1b at HC0 HS0 HRg HOp HG0 ⊢
            obtain ⟨S0, hB2⟩ : ∃ B, B = u1.heap.size + 1 := ⟨_, rfl⟩
            rw [← hB2] at HS0 ⊢
            clear hB2
            generalize u1.heap.size = C0 at HC0 ⊢
            clear Hz Hz2
            have ck : u1b.cell? ⟨O, k, none⟩ = some (.int .i64 17) := HOp.out.cell k HCk.out
            have r3 : u1b.cell? ⟨R, 3, none⟩ = some (.int .u32 r) := (HRg.out.cell (HL.out.get (k := 3) (by decide) (by decide))).trans (by rw [Hr.out])
            simp only [put_noneJ]
            go_big_quiet (fail)
            clear ck r3
            replace HRg := hid (HRg.out.kept0 (grown_drewN (grown_refl _ none) nq))
            replace HOp := hid (HOp.out.kept0 (grown_drewN (grown_refl _ none) nq))
            replace HC0 := hid (HC0.out.kept0 (grown_drewN (grown_refl _ none) nq))
            replace HS0 := hid (HS0.out.kept0 (grown_drewN (grown_refl _ none) nq))
            replace HG0 := hid (grown_drewN HG0.out nq)
            generalize u1b.drewN nq = u2 at HRg HOp HC0 HS0 HG0 ⊢
            have ck : u2.cell? ⟨O, k, none⟩ = some (.int .i64 17) := HOp.out.cell k HCk.out
            have r3 : u2.cell? ⟨R, 3, none⟩ = some (.int .u32 r) := (HRg.out.cell (HL.out.get (k := 3) (by decide) (by decide))).trans (by rw [Hr.out])
            have r15 : u2.cell? ⟨R, 15, none⟩ = some (.int .u32 (regI l 15)) := HRg.out.cell (HL.out.get (k := 15) (by decide) (by decide))
            have s0 : u2.cell? ⟨S0, 0, none⟩ = some (.int .i64 0) := HS0.out.cell 0 rfl
            have s7 : u2.cell? ⟨S0, 7, none⟩ = some (.int .u32 1) := HS0.out.cell 7 rfl
            have cp : u2.cell? ⟨C0, 16, none⟩ = some (.int .u32 1) := HC0.out.pc
            have c3 : u2.cell? ⟨C0, 3, none⟩ = some (.int .u32 r) := HC0.out.regc (k := 3) (by rw [← Hr.out]; exact HL.out.get (k := 3) (by decide) (by decide))
            have c15 : u2.cell? ⟨C0, 15, none⟩ = some (.int .u32 (regI l 15)) := HC0.out.regc (k := 15) (HL.out.get (k := 15) (by decide) (by decide))
            go_wp2
            go_roundw
            case rel => exact ⟨k + 1, by omega, by go_num, HRg, HOp, HG0⟩
            case measure => simp [intOf]; omega
      · by_cases h3 : regI l 3 = 0
        · as_aux_lemma =>
            have HI : Hid (insB 18 3 0 C 0 = true) := hid (jump_ins (op := 18) c0 c1 (by decide))
            obtain ⟨x, hx⟩ : ∃ x, wrdI 18 3 0 C = x := ⟨_, rfl⟩
            have HX0 := hid hx
            have HUl : Hid (U32s [x, to, 0]) := hid (by
              have h1 := wrd_bd HI.out
              rw [hx] at h1
              intro z hz
              simp only [List.mem_cons, List.not_mem_nil, or_false] at hz
              rcases hz with rfl | rfl | rfl <;> omega)
            obtain ⟨ys, hys⟩ : ∃ ys, mapW [x, to, 0] true true = ys := ⟨_, rfl⟩
            have HY := hid hys
            have HYl : Hid (ys.length = 384) := hid (by rw [← hys]; exact mapW_len _ true true)
            have Hu : Hid (U32s ys) := hid (by rw [← hys]; exact mapW_u32 HUl.out true true)
            obtain ⟨P0, hP0⟩ : ∃ P : Int, 1 = P := ⟨_, rfl⟩
            have HW : jwant 18 (regI l 3) to C = P0 := by
              rw [h3]; exact hP0
            have HO : Hid (onceP ys ((24 : Nat) : Int) 0 ⟨l, 0, false, false, 0, 0, 0, 0⟩ true = ⟨⟨l, P0, false, false, 0, 0, 0, 0⟩, ⟨0, 0, 18, 3, 0, C, 0, 1⟩, ys⟩) := hid (by
              have h1 := jump_once (l := l) (to := to) HI.out hx (by decide)
              have h2 := jump_x (l := l) (to := to) (op := 18) c0 c1 (by decide)
              rw [HW] at h2
              rw [← hys]
              exact h1.trans (by rw [show jumpX (startP l) 18 3 0 C (jimI 18 to) (jlnI 18) = _ from h2]; rfl))
            obtain ⟨r, hr⟩ : ∃ r, regI l 3 = r ∧ r = 0 := ⟨_, rfl, h3⟩
            obtain ⟨hr, rfl⟩ := hr
            have Hr : Hid (regI l 3 = 0) := hid hr
            subst hP0
            try clear hP0
            try clear h3
            try clear HW
            try clear hys
            try clear hx
            try clear hr
            have HT : Hid (RwAt (wr.alloc (.cells #[.int .i64 3] 3)) wr.heap.size 3 #[.int .i64 3]) := hid (RwAt.new _ _ _)
            have hg : wr.grownBy (wr.alloc (.cells #[.int .i64 3] 3)) none := World.grownBy_alloc _ _ _
            replace HRg := hid (HRg.out.kept0 hg)
            replace HOp := hid (HOp.out.kept0 hg)
            replace HG0 := hid (grown_trans HG0.out hg)
            clear hg
            go_wp2_with fail
            refine (op_one 18 3 _ _ (HT.out.cell 0 rfl) HT.out.lt).mono ?_; rintro e v1 ⟨rfl, hg⟩
            replace HRg := hid (HRg.out.kept0 hg)
            replace HOp := hid (HOp.out.kept0 hg)
            replace HG0 := hid (grown_trans HG0.out hg)
            clear hg ck HT
            have Hz := zero_line
            have HX := hid ((RwAt.new v1 30 (lnC 0 0)).row (lnC 18 3))
            have HN : Hid (R ≠ v1.heap.size ∧ O ≠ v1.heap.size ∧ W.heap.size ≤ v1.heap.size) := hid ⟨by have := HRg.out.lt; omega, by have := HOp.out.lt; omega, HG0.out.size⟩
            have hg : v1.grownBy ((v1.alloc (.cells (lnC 0 0) 30)).setRow v1.heap.size (lnC 18 3)) none := grown_setRow (grown_alloc (grown_refl _ _) _) (Nat.le_refl _) _
            replace HRg := hid (HRg.out.kept0 hg)
            replace HOp := hid (HOp.out.kept0 hg)
            replace HG0 := hid (grown_trans HG0.out hg)
            clear hg
            go_upto_region 10 with (first
              | (refine wpList_store_rw rfl 30 _ _ rfl rfl rfl (RwAt.new _ _ _) (by kernel_rfl) rfl (line_one _ _) ?_)
              | fail)
            generalize ((v1.alloc (.cells (lnC 0 0) 30)).setRow v1.heap.size (lnC 18 3)) = v2 at HRg HOp HG0 HX ⊢
            generalize v1.heap.size = X at HX HN ⊢
            clear Hz
            have ck : v2.cell? ⟨O, k, none⟩ = some (.int .i64 18) := HOp.out.cell k HCk.out
            go_upto_region 12 with (fail)
            clear ck
            obtain ⟨v3, hv3⟩ : ∃ v, v2 = v := ⟨_, rfl⟩
            subst hv3
            have ck : v2.cell? ⟨O, k, none⟩ = some (.int .i64 18) := HOp.out.cell k HCk.out
            have k1 : v2.cell? ⟨X, 3, none⟩ = some (.int .i64 0) := HX.out.cell 3 rfl
            have kf := fun j => HX.out.free j
            go_upto_region 14 with (fail)
            clear k1 kf ck
            replace HX := hid (HX.out.sC C)
            replace HRg := hid (HRg.out.kept (grown_setCell (grown_refl v2 (some X)) 3 (.int .i64 C)) (by simpa using HN.out.1))
            replace HOp := hid (HOp.out.other X 3 (.int .i64 C) HN.out.2.1)
            replace HG0 := hid (grown_setN HG0.out HN.out.2.2 3 (.int .i64 C))
            generalize v2.setCell ⟨X, 3, none⟩ (.int .i64 C) = v4 at HRg HOp HG0 HX ⊢
            go_wp2_with (first
              | (refine wpList_load_mid rfl 28 _ rfl X 0 rfl _ _ HX.out.lnd Tryd.underlying28 rfl (by kernel_rfl) ?_)
              | fail)
            refine (rword_yes 18 3 0 C 0 _ HI.out).mono ?_; rw [HX0.out]; rintro e y5 ⟨rfl, hb⟩
            have hg := below_is_grown hb
            replace HRg := hid (HRg.out.kept0 hg)
            replace HOp := hid (HOp.out.kept0 hg)
            replace HG0 := hid (grown_trans HG0.out hg)
            clear hg hb HX HN
            have HS0 : Hid (SlAt (y5.alloc (.cells #[.int .u32 x, .int .u32 to, .int .u32 0] 22)) .u32 (.slice (some ⟨y5.heap.size, 0, none⟩) 3 3) [x, to, 0]) := hid (SlAt.whole (k := .u32) (c := 3) (xs := [x, to, 0]) (t := 22) (heap_alloc_last y5 _))
            have hg : y5.grownBy (y5.alloc (.cells #[.int .u32 x, .int .u32 to, .int .u32 0] 22)) none := World.grownBy_alloc _ _ _
            replace HRg := hid (HRg.out.kept0 hg)
            replace HOp := hid (HOp.out.kept0 hg)
            replace HG0 := hid (grown_trans HG0.out hg)
            clear hg
            go_wp2_with fail
            refine (mapped_any _ [x, to, 0] true true _ HS0.out (by show 3 ≤ maxLen; decide)).mono ?_; rintro e qa ⟨g, rfl, hg0, hblk, hg⟩
            rw [HY.out] at hblk
            have HS1 : Hid (SlAt qa .u32 (.slice (some ⟨g, 0, none⟩) 384 384) ys) := hid (by
              have := SlAt.whole (k := .u32) (c := 384) (xs := ys) hblk
              rwa [HYl.out] at this)
            replace HRg := hid (HRg.out.kept0 hg)
            replace HOp := hid (HOp.out.kept0 hg)
            replace HG0 := hid (grown_trans HG0.out hg)
            clear hblk hg hg0 HS0
            go_wp2_with fail
            refine (memory7_any _ ys _ HS1.out (Nat.le_of_eq HYl.out)).mono ?_; rintro e qb ⟨m, b, m', b', rfl, hm, hb, hb', hM, hR, hg⟩
            rw [layX_full HYl.out] at hM
            have HM := hid hM
            have HBW := hid (Nat.le_trans HG0.out.size hb)
            have HNb : Hid (R ≠ b ∧ O ≠ b) := hid ⟨by have := HRg.out.lt; omega, by have := HOp.out.lt; omega⟩
            replace HRg := hid (HRg.out.kept0 hg)
            replace HOp := hid (HOp.out.kept0 hg)
            replace HG0 := hid (grown_trans HG0.out hg)
            clear hM hR hm hb hb' hg HS1
            go_wp2_with (first
              | (refine wpList_load_row rfl 24 _ rfl R rfl _ _ _ _ HRg.out Tryd.underlying24 rfl (regs_len_info l HL.out.len) ?_)
              | (refine wpList_build_cpuR rfl _ rfl HL.out.len rfl ?_)
              | fail)
            refine (once_of HM.out Hu.out HL.out (by decide) (by decide) 0 true _ 0 0 18 3 0 C 0 1 ys HO.out).mono ?_; rintro e u1 ⟨rfl, hM, hg⟩
            replace HRg := hid (HRg.out.kept hg (by simpa using HNb.out.1))
            replace HOp := hid (HOp.out.kept hg (by simpa using HNb.out.2))
            replace HG0 := hid (grown_new' (grown_trans (grown_none HG0.out) hg) (fun k hk => by obtain rfl := Option.some.inj hk; exact HBW.out))
            clear hM hg HM HBW HNb
            have Hz := zero_cpu
            have Hz2 := zero_stop
            have HN := hid (new_cs u1 43 (y := ⟨l, 1, false, false, 0, 0, 0, 0⟩) HL.out.len (spC 0 0 18 3 0 C 0 1))
            go_upto_region 19 with (first
              | (refine wpList_store_cpu rfl _ _ rfl rfl rfl ((CpuAt.new (x := zeroP) u1 rfl).alloc _) HL.out.len ?_)
              | (refine wpList_store_rw rfl 43 _ _ rfl rfl rfl ((RwAt.new2 _ _ _ _).rowOther _ _ (by omega)) (by kernel_rfl) rfl (sp_one _ _ _ _ _ _ _ _) ?_)
              | fail)
            change Code.wp _ _ _ _ (csW u1 43 ⟨l, 1, false, false, 0, 0, 0, 0⟩ (spC 0 0 18 3 0 C 0 1))
            have HC0 := hid HN.out.1
            have HS0 := hid HN.out.2.1
            replace HRg := hid (HRg.out.kept0 HN.out.2.2)
            replace HOp := hid (HOp.out.kept0 HN.out.2.2)
            replace HG0 := hid (grown_trans HG0.out HN.out.2.2)
            clear HN
            generalize csW u1 43 ⟨l, 1, false, false, 0, 0, 0, 0⟩ (spC 0 0 18 3 0 C 0 1) = u1b at HC0 HS0 HRg HOp HG0 ⊢
            obtain ⟨S0, hB2⟩ : ∃ B, B = u1.heap.size + 1 := ⟨_, rfl⟩
            rw [← hB2] at HS0 ⊢
            clear hB2
            generalize u1.heap.size = C0 at HC0 ⊢
            clear Hz Hz2
            have ck : u1b.cell? ⟨O, k, none⟩ = some (.int .i64 18) := HOp.out.cell k HCk.out
            have r3 : u1b.cell? ⟨R, 3, none⟩ = some (.int .u32 0) := (HRg.out.cell (HL.out.get (k := 3) (by decide) (by decide))).trans (by rw [Hr.out])
            simp only [put_noneJ]
            go_big_quiet (fail)
            clear ck r3
            replace HRg := hid (HRg.out.kept0 (grown_drewN (grown_refl _ none) nq))
            replace HOp := hid (HOp.out.kept0 (grown_drewN (grown_refl _ none) nq))
            replace HC0 := hid (HC0.out.kept0 (grown_drewN (grown_refl _ none) nq))
            replace HS0 := hid (HS0.out.kept0 (grown_drewN (grown_refl _ none) nq))
            replace HG0 := hid (grown_drewN HG0.out nq)
            generalize u1b.drewN nq = u2 at HRg HOp HC0 HS0 HG0 ⊢
            have ck : u2.cell? ⟨O, k, none⟩ = some (.int .i64 18) := HOp.out.cell k HCk.out
            have r3 : u2.cell? ⟨R, 3, none⟩ = some (.int .u32 0) := (HRg.out.cell (HL.out.get (k := 3) (by decide) (by decide))).trans (by rw [Hr.out])
            have r15 : u2.cell? ⟨R, 15, none⟩ = some (.int .u32 (regI l 15)) := HRg.out.cell (HL.out.get (k := 15) (by decide) (by decide))
            have s0 : u2.cell? ⟨S0, 0, none⟩ = some (.int .i64 0) := HS0.out.cell 0 rfl
            have s7 : u2.cell? ⟨S0, 7, none⟩ = some (.int .u32 1) := HS0.out.cell 7 rfl
            have cp : u2.cell? ⟨C0, 16, none⟩ = some (.int .u32 1) := HC0.out.pc
            have c3 : u2.cell? ⟨C0, 3, none⟩ = some (.int .u32 0) := HC0.out.regc (k := 3) (by rw [← Hr.out]; exact HL.out.get (k := 3) (by decide) (by decide))
            have c15 : u2.cell? ⟨C0, 15, none⟩ = some (.int .u32 (regI l 15)) := HC0.out.regc (k := 15) (HL.out.get (k := 15) (by decide) (by decide))
            go_wp2
            go_roundw
            case rel => exact ⟨k + 1, by omega, by go_num, HRg, HOp, HG0⟩
            case measure => simp [intOf]; omega
        · as_aux_lemma =>
            have HI : Hid (insB 18 3 0 C 0 = true) := hid (jump_ins (op := 18) c0 c1 (by decide))
            obtain ⟨x, hx⟩ : ∃ x, wrdI 18 3 0 C = x := ⟨_, rfl⟩
            have HX0 := hid hx
            have HUl : Hid (U32s [x, to, 0]) := hid (by
              have h1 := wrd_bd HI.out
              rw [hx] at h1
              intro z hz
              simp only [List.mem_cons, List.not_mem_nil, or_false] at hz
              rcases hz with rfl | rfl | rfl <;> omega)
            obtain ⟨ys, hys⟩ : ∃ ys, mapW [x, to, 0] true true = ys := ⟨_, rfl⟩
            have HY := hid hys
            have HYl : Hid (ys.length = 384) := hid (by rw [← hys]; exact mapW_len _ true true)
            have Hu : Hid (U32s ys) := hid (by rw [← hys]; exact mapW_u32 HUl.out true true)
            obtain ⟨P0, hP0⟩ : ∃ P : Int, ((C + 128) % 256 - 128) % 4294967296 = P := ⟨_, rfl⟩
            have HW : jwant 18 (regI l 3) to C = P0 := by
              unfold jwant jtkB; rw [show (regI l 3 == 0) = false by simpa using h3]; exact hP0
            have HO : Hid (onceP ys ((24 : Nat) : Int) 0 ⟨l, 0, false, false, 0, 0, 0, 0⟩ true = ⟨⟨l, P0, false, false, 0, 0, 0, 0⟩, ⟨0, 0, 18, 3, 0, C, 0, 1⟩, ys⟩) := hid (by
              have h1 := jump_once (l := l) (to := to) HI.out hx (by decide)
              have h2 := jump_x (l := l) (to := to) (op := 18) c0 c1 (by decide)
              rw [HW] at h2
              rw [← hys]
              exact h1.trans (by rw [show jumpX (startP l) 18 3 0 C (jimI 18 to) (jlnI 18) = _ from h2]; rfl))
            obtain ⟨r, hr⟩ : ∃ r, regI l 3 = r := ⟨_, rfl⟩
            have hr1 : (r == 0) = false := by rw [← hr]; simpa using h3
            have hr2 : (r != 0) = true := by rw [← hr]; simpa using h3
            have Hr : Hid (regI l 3 = r) := hid hr
            have HPd : Hid (((C + 128) % 256 - 128) % 4294967296 = P0) := hid hP0
            try clear hP0
            try clear h3
            try clear HW
            try clear hys
            try clear hx
            try clear hr
            have HT : Hid (RwAt (wr.alloc (.cells #[.int .i64 3] 3)) wr.heap.size 3 #[.int .i64 3]) := hid (RwAt.new _ _ _)
            have hg : wr.grownBy (wr.alloc (.cells #[.int .i64 3] 3)) none := World.grownBy_alloc _ _ _
            replace HRg := hid (HRg.out.kept0 hg)
            replace HOp := hid (HOp.out.kept0 hg)
            replace HG0 := hid (grown_trans HG0.out hg)
            clear hg
            go_wp2_with fail
            refine (op_one 18 3 _ _ (HT.out.cell 0 rfl) HT.out.lt).mono ?_; rintro e v1 ⟨rfl, hg⟩
            replace HRg := hid (HRg.out.kept0 hg)
            replace HOp := hid (HOp.out.kept0 hg)
            replace HG0 := hid (grown_trans HG0.out hg)
            clear hg ck HT
            have Hz := zero_line
            have HX := hid ((RwAt.new v1 30 (lnC 0 0)).row (lnC 18 3))
            have HN : Hid (R ≠ v1.heap.size ∧ O ≠ v1.heap.size ∧ W.heap.size ≤ v1.heap.size) := hid ⟨by have := HRg.out.lt; omega, by have := HOp.out.lt; omega, HG0.out.size⟩
            have hg : v1.grownBy ((v1.alloc (.cells (lnC 0 0) 30)).setRow v1.heap.size (lnC 18 3)) none := grown_setRow (grown_alloc (grown_refl _ _) _) (Nat.le_refl _) _
            replace HRg := hid (HRg.out.kept0 hg)
            replace HOp := hid (HOp.out.kept0 hg)
            replace HG0 := hid (grown_trans HG0.out hg)
            clear hg
            go_upto_region 10 with (first
              | (refine wpList_store_rw rfl 30 _ _ rfl rfl rfl (RwAt.new _ _ _) (by kernel_rfl) rfl (line_one _ _) ?_)
              | fail)
            generalize ((v1.alloc (.cells (lnC 0 0) 30)).setRow v1.heap.size (lnC 18 3)) = v2 at HRg HOp HG0 HX ⊢
            generalize v1.heap.size = X at HX HN ⊢
            clear Hz
            have ck : v2.cell? ⟨O, k, none⟩ = some (.int .i64 18) := HOp.out.cell k HCk.out
            go_upto_region 12 with (fail)
            clear ck
            obtain ⟨v3, hv3⟩ : ∃ v, v2 = v := ⟨_, rfl⟩
            subst hv3
            have ck : v2.cell? ⟨O, k, none⟩ = some (.int .i64 18) := HOp.out.cell k HCk.out
            have k1 : v2.cell? ⟨X, 3, none⟩ = some (.int .i64 0) := HX.out.cell 3 rfl
            have kf := fun j => HX.out.free j
            go_upto_region 14 with (fail)
            clear k1 kf ck
            replace HX := hid (HX.out.sC C)
            replace HRg := hid (HRg.out.kept (grown_setCell (grown_refl v2 (some X)) 3 (.int .i64 C)) (by simpa using HN.out.1))
            replace HOp := hid (HOp.out.other X 3 (.int .i64 C) HN.out.2.1)
            replace HG0 := hid (grown_setN HG0.out HN.out.2.2 3 (.int .i64 C))
            generalize v2.setCell ⟨X, 3, none⟩ (.int .i64 C) = v4 at HRg HOp HG0 HX ⊢
            go_wp2_with (first
              | (refine wpList_load_mid rfl 28 _ rfl X 0 rfl _ _ HX.out.lnd Tryd.underlying28 rfl (by kernel_rfl) ?_)
              | fail)
            refine (rword_yes 18 3 0 C 0 _ HI.out).mono ?_; rw [HX0.out]; rintro e y5 ⟨rfl, hb⟩
            have hg := below_is_grown hb
            replace HRg := hid (HRg.out.kept0 hg)
            replace HOp := hid (HOp.out.kept0 hg)
            replace HG0 := hid (grown_trans HG0.out hg)
            clear hg hb HX HN
            have HS0 : Hid (SlAt (y5.alloc (.cells #[.int .u32 x, .int .u32 to, .int .u32 0] 22)) .u32 (.slice (some ⟨y5.heap.size, 0, none⟩) 3 3) [x, to, 0]) := hid (SlAt.whole (k := .u32) (c := 3) (xs := [x, to, 0]) (t := 22) (heap_alloc_last y5 _))
            have hg : y5.grownBy (y5.alloc (.cells #[.int .u32 x, .int .u32 to, .int .u32 0] 22)) none := World.grownBy_alloc _ _ _
            replace HRg := hid (HRg.out.kept0 hg)
            replace HOp := hid (HOp.out.kept0 hg)
            replace HG0 := hid (grown_trans HG0.out hg)
            clear hg
            go_wp2_with fail
            refine (mapped_any _ [x, to, 0] true true _ HS0.out (by show 3 ≤ maxLen; decide)).mono ?_; rintro e qa ⟨g, rfl, hg0, hblk, hg⟩
            rw [HY.out] at hblk
            have HS1 : Hid (SlAt qa .u32 (.slice (some ⟨g, 0, none⟩) 384 384) ys) := hid (by
              have := SlAt.whole (k := .u32) (c := 384) (xs := ys) hblk
              rwa [HYl.out] at this)
            replace HRg := hid (HRg.out.kept0 hg)
            replace HOp := hid (HOp.out.kept0 hg)
            replace HG0 := hid (grown_trans HG0.out hg)
            clear hblk hg hg0 HS0
            go_wp2_with fail
            refine (memory7_any _ ys _ HS1.out (Nat.le_of_eq HYl.out)).mono ?_; rintro e qb ⟨m, b, m', b', rfl, hm, hb, hb', hM, hR, hg⟩
            rw [layX_full HYl.out] at hM
            have HM := hid hM
            have HBW := hid (Nat.le_trans HG0.out.size hb)
            have HNb : Hid (R ≠ b ∧ O ≠ b) := hid ⟨by have := HRg.out.lt; omega, by have := HOp.out.lt; omega⟩
            replace HRg := hid (HRg.out.kept0 hg)
            replace HOp := hid (HOp.out.kept0 hg)
            replace HG0 := hid (grown_trans HG0.out hg)
            clear hM hR hm hb hb' hg HS1
            go_wp2_with (first
              | (refine wpList_load_row rfl 24 _ rfl R rfl _ _ _ _ HRg.out Tryd.underlying24 rfl (regs_len_info l HL.out.len) ?_)
              | (refine wpList_build_cpuR rfl _ rfl HL.out.len rfl ?_)
              | fail)
            refine (once_of HM.out Hu.out HL.out (by decide) (by decide) 0 true _ 0 0 18 3 0 C 0 1 ys HO.out).mono ?_; rintro e u1 ⟨rfl, hM, hg⟩
            replace HRg := hid (HRg.out.kept hg (by simpa using HNb.out.1))
            replace HOp := hid (HOp.out.kept hg (by simpa using HNb.out.2))
            replace HG0 := hid (grown_new' (grown_trans (grown_none HG0.out) hg) (fun k hk => by obtain rfl := Option.some.inj hk; exact HBW.out))
            clear hM hg HM HBW HNb
            have Hz := zero_cpu
            have Hz2 := zero_stop
            have HN := hid (new_cs u1 43 (y := ⟨l, P0, false, false, 0, 0, 0, 0⟩) HL.out.len (spC 0 0 18 3 0 C 0 1))
            go_upto_region 19 with (first
              | (refine wpList_store_cpu rfl _ _ rfl rfl rfl ((CpuAt.new (x := zeroP) u1 rfl).alloc _) HL.out.len ?_)
              | (refine wpList_store_rw rfl 43 _ _ rfl rfl rfl ((RwAt.new2 _ _ _ _).rowOther _ _ (by omega)) (by kernel_rfl) rfl (sp_one _ _ _ _ _ _ _ _) ?_)
              | fail)
            change Code.wp _ _ _ _ (csW u1 43 ⟨l, P0, false, false, 0, 0, 0, 0⟩ (spC 0 0 18 3 0 C 0 1))
            have HC0 := hid HN.out.1
            have HS0 := hid HN.out.2.1
            replace HRg := hid (HRg.out.kept0 HN.out.2.2)
            replace HOp := hid (HOp.out.kept0 HN.out.2.2)
            replace HG0 := hid (grown_trans HG0.out HN.out.2.2)
            clear HN
            generalize csW u1 43 ⟨l, P0, false, false, 0, 0, 0, 0⟩ (spC 0 0 18 3 0 C 0 1) = u1b at HC0 HS0 HRg HOp HG0 ⊢
            obtain ⟨S0, hB2⟩ : ∃ B, B = u1.heap.size + 1 := ⟨_, rfl⟩
            rw [← hB2] at HS0 ⊢
            clear hB2
            generalize u1.heap.size = C0 at HC0 ⊢
            clear Hz Hz2
            have ck : u1b.cell? ⟨O, k, none⟩ = some (.int .i64 18) := HOp.out.cell k HCk.out
            have r3 : u1b.cell? ⟨R, 3, none⟩ = some (.int .u32 r) := (HRg.out.cell (HL.out.get (k := 3) (by decide) (by decide))).trans (by rw [Hr.out])
            simp only [put_noneJ]
            go_big_quiet (fail)
            clear ck r3
            replace HRg := hid (HRg.out.kept0 (grown_drewN (grown_refl _ none) nq))
            replace HOp := hid (HOp.out.kept0 (grown_drewN (grown_refl _ none) nq))
            replace HC0 := hid (HC0.out.kept0 (grown_drewN (grown_refl _ none) nq))
            replace HS0 := hid (HS0.out.kept0 (grown_drewN (grown_refl _ none) nq))
            replace HG0 := hid (grown_drewN HG0.out nq)
            generalize u1b.drewN nq = u2 at HRg HOp HC0 HS0 HG0 ⊢
            have ck : u2.cell? ⟨O, k, none⟩ = some (.int .i64 18) := HOp.out.cell k HCk.out
            have r3 : u2.cell? ⟨R, 3, none⟩ = some (.int .u32 r) := (HRg.out.cell (HL.out.get (k := 3) (by decide) (by decide))).trans (by rw [Hr.out])
            have r15 : u2.cell? ⟨R, 15, none⟩ = some (.int .u32 (regI l 15)) := HRg.out.cell (HL.out.get (k := 15) (by decide) (by decide))
            have s0 : u2.cell? ⟨S0, 0, none⟩ = some (.int .i64 0) := HS0.out.cell 0 rfl
            have s7 : u2.cell? ⟨S0, 7, none⟩ = some (.int .u32 1) := HS0.out.cell 7 rfl
            have cp : u2.cell? ⟨C0, 16, none⟩ = some (.int .u32 P0) := HC0.out.pc
            have c3 : u2.cell? ⟨C0, 3, none⟩ = some (.int .u32 r) := HC0.out.regc (k := 3) (by rw [← Hr.out]; exact HL.out.get (k := 3) (by decide) (by decide))
            have c15 : u2.cell? ⟨C0, 15, none⟩ = some (.int .u32 (regI l 15)) := HC0.out.regc (k := 15) (HL.out.get (k := 15) (by decide) (by decide))
            go_wp2_with fail
            refine (rdisp_any _ _).mono ?_; rintro e _ ⟨rfl, rfl⟩
            have hPd := HPd.out
            go_wp2
            go_roundw
            case rel => exact ⟨k + 1, by omega, by go_num, HRg, HOp, HG0⟩
            case measure => simp [intOf]; omega
      · as_aux_lemma =>
          have HI : Hid (insB 19 0 0 0 0 = true) := hid (jump_ins (op := 19) c0 c1 (by decide))
          obtain ⟨x, hx⟩ : ∃ x, wrdI 19 0 0 0 = x := ⟨_, rfl⟩
          have HX0 := hid hx
          have HUl : Hid (U32s [x, to, 0]) := hid (by
            have h1 := wrd_bd HI.out
            rw [hx] at h1
            intro z hz
            simp only [List.mem_cons, List.not_mem_nil, or_false] at hz
            rcases hz with rfl | rfl | rfl <;> omega)
          obtain ⟨ys, hys⟩ : ∃ ys, mapW [x, to, 0] true true = ys := ⟨_, rfl⟩
          have HY := hid hys
          have HYl : Hid (ys.length = 384) := hid (by rw [← hys]; exact mapW_len _ true true)
          have Hu : Hid (U32s ys) := hid (by rw [← hys]; exact mapW_u32 HUl.out true true)
          obtain ⟨P0, hP0⟩ : ∃ P : Int, to = P := ⟨_, rfl⟩
          have HW : jwant 19 (regI l 3) to C = P0 := by
            exact hP0
          have HO : Hid (onceP ys ((24 : Nat) : Int) 0 ⟨l, 0, false, false, 0, 0, 0, 0⟩ true = ⟨⟨l, P0, false, false, 0, 0, 0, 0⟩, ⟨0, 0, 19, 0, 0, 0, to, 2⟩, ys⟩) := hid (by
            have h1 := jump_once (l := l) (to := to) HI.out hx (by decide)
            have h2 := jump_x (l := l) (to := to) (op := 19) c0 c1 (by decide)
            rw [HW] at h2
            rw [← hys]
            exact h1.trans (by rw [show jumpX (startP l) 19 0 0 0 (jimI 19 to) (jlnI 19) = _ from h2]; rfl))
          obtain ⟨r, hr⟩ : ∃ r, regI l 3 = r := ⟨_, rfl⟩
          have Hr : Hid (regI l 3 = r) := hid hr
          subst hP0
          try clear hP0
          try clear h3
          try clear HW
          try clear hys
          try clear hx
          try clear hr
          have HT : Hid (RwAt (wr.alloc (.cells #[.int .i64 3] 3)) wr.heap.size 3 #[.int .i64 3]) := hid (RwAt.new _ _ _)
          have hg : wr.grownBy (wr.alloc (.cells #[.int .i64 3] 3)) none := World.grownBy_alloc _ _ _
          replace HRg := hid (HRg.out.kept0 hg)
          replace HOp := hid (HOp.out.kept0 hg)
          replace HG0 := hid (grown_trans HG0.out hg)
          clear hg
          go_wp2_with fail
          refine (op_one 19 3 _ _ (HT.out.cell 0 rfl) HT.out.lt).mono ?_; rintro e v1 ⟨rfl, hg⟩
          replace HRg := hid (HRg.out.kept0 hg)
          replace HOp := hid (HOp.out.kept0 hg)
          replace HG0 := hid (grown_trans HG0.out hg)
          clear hg ck HT
          have Hz := zero_line
          have HX := hid ((RwAt.new v1 30 (lnC 0 0)).row (lnC 19 3))
          have HN : Hid (R ≠ v1.heap.size ∧ O ≠ v1.heap.size ∧ W.heap.size ≤ v1.heap.size) := hid ⟨by have := HRg.out.lt; omega, by have := HOp.out.lt; omega, HG0.out.size⟩
          have hg : v1.grownBy ((v1.alloc (.cells (lnC 0 0) 30)).setRow v1.heap.size (lnC 19 3)) none := grown_setRow (grown_alloc (grown_refl _ _) _) (Nat.le_refl _) _
          replace HRg := hid (HRg.out.kept0 hg)
          replace HOp := hid (HOp.out.kept0 hg)
          replace HG0 := hid (grown_trans HG0.out hg)
          clear hg
          go_upto_region 10 with (first
            | (refine wpList_store_rw rfl 30 _ _ rfl rfl rfl (RwAt.new _ _ _) (by kernel_rfl) rfl (line_one _ _) ?_)
            | fail)
          generalize ((v1.alloc (.cells (lnC 0 0) 30)).setRow v1.heap.size (lnC 19 3)) = v2 at HRg HOp HG0 HX ⊢
          generalize v1.heap.size = X at HX HN ⊢
          clear Hz
          have ck : v2.cell? ⟨O, k, none⟩ = some (.int .i64 19) := HOp.out.cell k HCk.out
          have k1 : v2.cell? ⟨X, 1, none⟩ = some (.int .i64 3) := HX.out.cell 1 rfl
          have kf := fun j => HX.out.free j
          go_upto_region 12 with (fail)
          clear k1 kf ck
          replace HX := hid (HX.out.sA 0)
          replace HRg := hid (HRg.out.kept (grown_setCell (grown_refl v2 (some X)) 1 (.int .i64 0)) (by simpa using HN.out.1))
          replace HOp := hid (HOp.out.other X 1 (.int .i64 0) HN.out.2.1)
          replace HG0 := hid (grown_setN HG0.out HN.out.2.2 1 (.int .i64 0))
          generalize v2.setCell ⟨X, 1, none⟩ (.int .i64 0) = v3 at HRg HOp HG0 HX ⊢
          have ck : v3.cell? ⟨O, k, none⟩ = some (.int .i64 19) := HOp.out.cell k HCk.out
          go_upto_region 14 with (fail)
          clear ck
          go_wp2_with (first
            | (refine wpList_load_mid rfl 28 _ rfl X 0 rfl _ _ HX.out.lnj Tryd.underlying28 rfl (by kernel_rfl) ?_)
            | fail)
          refine (rword_yes 19 0 0 0 0 _ HI.out).mono ?_; rw [HX0.out]; rintro e y5 ⟨rfl, hb⟩
          have hg := below_is_grown hb
          replace HRg := hid (HRg.out.kept0 hg)
          replace HOp := hid (HOp.out.kept0 hg)
          replace HG0 := hid (grown_trans HG0.out hg)
          clear hg hb HX HN
          have HS0 : Hid (SlAt (y5.alloc (.cells #[.int .u32 x, .int .u32 to, .int .u32 0] 22)) .u32 (.slice (some ⟨y5.heap.size, 0, none⟩) 3 3) [x, to, 0]) := hid (SlAt.whole (k := .u32) (c := 3) (xs := [x, to, 0]) (t := 22) (heap_alloc_last y5 _))
          have hg : y5.grownBy (y5.alloc (.cells #[.int .u32 x, .int .u32 to, .int .u32 0] 22)) none := World.grownBy_alloc _ _ _
          replace HRg := hid (HRg.out.kept0 hg)
          replace HOp := hid (HOp.out.kept0 hg)
          replace HG0 := hid (grown_trans HG0.out hg)
          clear hg
          go_wp2_with fail
          refine (mapped_any _ [x, to, 0] true true _ HS0.out (by show 3 ≤ maxLen; decide)).mono ?_; rintro e qa ⟨g, rfl, hg0, hblk, hg⟩
          rw [HY.out] at hblk
          have HS1 : Hid (SlAt qa .u32 (.slice (some ⟨g, 0, none⟩) 384 384) ys) := hid (by
            have := SlAt.whole (k := .u32) (c := 384) (xs := ys) hblk
            rwa [HYl.out] at this)
          replace HRg := hid (HRg.out.kept0 hg)
          replace HOp := hid (HOp.out.kept0 hg)
          replace HG0 := hid (grown_trans HG0.out hg)
          clear hblk hg hg0 HS0
          go_wp2_with fail
          refine (memory7_any _ ys _ HS1.out (Nat.le_of_eq HYl.out)).mono ?_; rintro e qb ⟨m, b, m', b', rfl, hm, hb, hb', hM, hR, hg⟩
          rw [layX_full HYl.out] at hM
          have HM := hid hM
          have HBW := hid (Nat.le_trans HG0.out.size hb)
          have HNb : Hid (R ≠ b ∧ O ≠ b) := hid ⟨by have := HRg.out.lt; omega, by have := HOp.out.lt; omega⟩
          replace HRg := hid (HRg.out.kept0 hg)
          replace HOp := hid (HOp.out.kept0 hg)
          replace HG0 := hid (grown_trans HG0.out hg)
          clear hM hR hm hb hb' hg HS1
          go_wp2_with (first
            | (refine wpList_load_row rfl 24 _ rfl R rfl _ _ _ _ HRg.out Tryd.underlying24 rfl (regs_len_info l HL.out.len) ?_)
            | (refine wpList_build_cpuR rfl _ rfl HL.out.len rfl ?_)
            | fail)
          refine (once_of HM.out Hu.out HL.out (by decide) (by decide) 0 true _ 0 0 19 0 0 0 to 2 ys HO.out).mono ?_; rintro e u1 ⟨rfl, hM, hg⟩
          replace HRg := hid (HRg.out.kept hg (by simpa using HNb.out.1))
          replace HOp := hid (HOp.out.kept hg (by simpa using HNb.out.2))
          replace HG0 := hid (grown_new' (grown_trans (grown_none HG0.out) hg) (fun k hk => by obtain rfl := Option.some.inj hk; exact HBW.out))
          clear hM hg HM HBW HNb
          have Hz := zero_cpu
          have Hz2 := zero_stop
          have HN := hid (new_cs u1 43 (y := ⟨l, to, false, false, 0, 0, 0, 0⟩) HL.out.len (spC 0 0 19 0 0 0 to 2))
          go_upto_region 19 with (first
            | (refine wpList_store_cpu rfl _ _ rfl rfl rfl ((CpuAt.new (x := zeroP) u1 rfl).alloc _) HL.out.len ?_)
            | (refine wpList_store_rw rfl 43 _ _ rfl rfl rfl ((RwAt.new2 _ _ _ _).rowOther _ _ (by omega)) (by kernel_rfl) rfl (sp_one _ _ _ _ _ _ _ _) ?_)
            | fail)
          change Code.wp _ _ _ _ (csW u1 43 ⟨l, to, false, false, 0, 0, 0, 0⟩ (spC 0 0 19 0 0 0 to 2))
          have HC0 := hid HN.out.1
          have HS0 := hid HN.out.2.1
          replace HRg := hid (HRg.out.kept0 HN.out.2.2)
          replace HOp := hid (HOp.out.kept0 HN.out.2.2)
          replace HG0 := hid (grown_trans HG0.out HN.out.2.2)
          clear HN
          generalize csW u1 43 ⟨l, to, false, false, 0, 0, 0, 0⟩ (spC 0 0 19 0 0 0 to 2) = u1b at HC0 HS0 HRg HOp HG0 ⊢
          obtain ⟨S0, hB2⟩ : ∃ B, B = u1.heap.size + 1 := ⟨_, rfl⟩
          rw [← hB2] at HS0 ⊢
          clear hB2
          generalize u1.heap.size = C0 at HC0 ⊢
          clear Hz Hz2
          have ck : u1b.cell? ⟨O, k, none⟩ = some (.int .i64 19) := HOp.out.cell k HCk.out
          have r3 : u1b.cell? ⟨R, 3, none⟩ = some (.int .u32 r) := (HRg.out.cell (HL.out.get (k := 3) (by decide) (by decide))).trans (by rw [Hr.out])
          simp only [put_noneJ]
          go_big_quiet (fail)
          clear ck r3
          replace HRg := hid (HRg.out.kept0 (grown_drewN (grown_refl _ none) nq))
          replace HOp := hid (HOp.out.kept0 (grown_drewN (grown_refl _ none) nq))
          replace HC0 := hid (HC0.out.kept0 (grown_drewN (grown_refl _ none) nq))
          replace HS0 := hid (HS0.out.kept0 (grown_drewN (grown_refl _ none) nq))
          replace HG0 := hid (grown_drewN HG0.out nq)
          generalize u1b.drewN nq = u2 at HRg HOp HC0 HS0 HG0 ⊢
          have ck : u2.cell? ⟨O, k, none⟩ = some (.int .i64 19) := HOp.out.cell k HCk.out
          have r3 : u2.cell? ⟨R, 3, none⟩ = some (.int .u32 r) := (HRg.out.cell (HL.out.get (k := 3) (by decide) (by decide))).trans (by rw [Hr.out])
          have r15 : u2.cell? ⟨R, 15, none⟩ = some (.int .u32 (regI l 15)) := HRg.out.cell (HL.out.get (k := 15) (by decide) (by decide))
          have s0 : u2.cell? ⟨S0, 0, none⟩ = some (.int .i64 0) := HS0.out.cell 0 rfl
          have s7 : u2.cell? ⟨S0, 7, none⟩ = some (.int .u32 2) := HS0.out.cell 7 rfl
          have cp : u2.cell? ⟨C0, 16, none⟩ = some (.int .u32 to) := HC0.out.pc
          have c3 : u2.cell? ⟨C0, 3, none⟩ = some (.int .u32 r) := HC0.out.regc (k := 3) (by rw [← Hr.out]; exact HL.out.get (k := 3) (by decide) (by decide))
          have c15 : u2.cell? ⟨C0, 15, none⟩ = some (.int .u32 (regI l 15)) := HC0.out.regc (k := 15) (HL.out.get (k := 15) (by decide) (by decide))
          go_wp2
          go_roundw
          case rel => exact ⟨k + 1, by omega, by go_num, HRg, HOp, HG0⟩
          case measure => simp [intOf]; omega
      · by_cases h3 : regI l 3 = 0
        · as_aux_lemma =>
            have HI : Hid (insB 20 3 0 0 0 = true) := hid (jump_ins (op := 20) c0 c1 (by decide))
            obtain ⟨x, hx⟩ : ∃ x, wrdI 20 3 0 0 = x := ⟨_, rfl⟩
            have HX0 := hid hx
            have HUl : Hid (U32s [x, to, 0]) := hid (by
              have h1 := wrd_bd HI.out
              rw [hx] at h1
              intro z hz
              simp only [List.mem_cons, List.not_mem_nil, or_false] at hz
              rcases hz with rfl | rfl | rfl <;> omega)
            obtain ⟨ys, hys⟩ : ∃ ys, mapW [x, to, 0] true true = ys := ⟨_, rfl⟩
            have HY := hid hys
            have HYl : Hid (ys.length = 384) := hid (by rw [← hys]; exact mapW_len _ true true)
            have Hu : Hid (U32s ys) := hid (by rw [← hys]; exact mapW_u32 HUl.out true true)
            obtain ⟨P0, hP0⟩ : ∃ P : Int, to = P := ⟨_, rfl⟩
            have HW : jwant 20 (regI l 3) to C = P0 := by
              rw [h3]; exact hP0
            have HO : Hid (onceP ys ((24 : Nat) : Int) 0 ⟨l, 0, false, false, 0, 0, 0, 0⟩ true = ⟨⟨l, P0, false, false, 0, 0, 0, 0⟩, ⟨0, 0, 20, 3, 0, 0, to, 2⟩, ys⟩) := hid (by
              have h1 := jump_once (l := l) (to := to) HI.out hx (by decide)
              have h2 := jump_x (l := l) (to := to) (op := 20) c0 c1 (by decide)
              rw [HW] at h2
              rw [← hys]
              exact h1.trans (by rw [show jumpX (startP l) 20 3 0 0 (jimI 20 to) (jlnI 20) = _ from h2]; rfl))
            obtain ⟨r, hr⟩ : ∃ r, regI l 3 = r ∧ r = 0 := ⟨_, rfl, h3⟩
            obtain ⟨hr, rfl⟩ := hr
            have Hr : Hid (regI l 3 = 0) := hid hr
            subst hP0
            try clear hP0
            try clear h3
            try clear HW
            try clear hys
            try clear hx
            try clear hr
            have HT : Hid (RwAt (wr.alloc (.cells #[.int .i64 3] 3)) wr.heap.size 3 #[.int .i64 3]) := hid (RwAt.new _ _ _)
            have hg : wr.grownBy (wr.alloc (.cells #[.int .i64 3] 3)) none := World.grownBy_alloc _ _ _
            replace HRg := hid (HRg.out.kept0 hg)
            replace HOp := hid (HOp.out.kept0 hg)
            replace HG0 := hid (grown_trans HG0.out hg)
            clear hg
            go_wp2_with fail
            refine (op_one 20 3 _ _ (HT.out.cell 0 rfl) HT.out.lt).mono ?_; rintro e v1 ⟨rfl, hg⟩
            replace HRg := hid (HRg.out.kept0 hg)
            replace HOp := hid (HOp.out.kept0 hg)
            replace HG0 := hid (grown_trans HG0.out hg)
            clear hg ck HT
            have Hz := zero_line
            have HX := hid ((RwAt.new v1 30 (lnC 0 0)).row (lnC 20 3))
            have HN : Hid (R ≠ v1.heap.size ∧ O ≠ v1.heap.size ∧ W.heap.size ≤ v1.heap.size) := hid ⟨by have := HRg.out.lt; omega, by have := HOp.out.lt; omega, HG0.out.size⟩
            have hg : v1.grownBy ((v1.alloc (.cells (lnC 0 0) 30)).setRow v1.heap.size (lnC 20 3)) none := grown_setRow (grown_alloc (grown_refl _ _) _) (Nat.le_refl _) _
            replace HRg := hid (HRg.out.kept0 hg)
            replace HOp := hid (HOp.out.kept0 hg)
            replace HG0 := hid (grown_trans HG0.out hg)
            clear hg
            go_upto_region 10 with (first
              | (refine wpList_store_rw rfl 30 _ _ rfl rfl rfl (RwAt.new _ _ _) (by kernel_rfl) rfl (line_one _ _) ?_)
              | fail)
            generalize ((v1.alloc (.cells (lnC 0 0) 30)).setRow v1.heap.size (lnC 20 3)) = v2 at HRg HOp HG0 HX ⊢
            generalize v1.heap.size = X at HX HN ⊢
            clear Hz
            have ck : v2.cell? ⟨O, k, none⟩ = some (.int .i64 20) := HOp.out.cell k HCk.out
            go_upto_region 12 with (fail)
            clear ck
            obtain ⟨v3, hv3⟩ : ∃ v, v2 = v := ⟨_, rfl⟩
            subst hv3
            have ck : v2.cell? ⟨O, k, none⟩ = some (.int .i64 20) := HOp.out.cell k HCk.out
            go_upto_region 14 with (fail)
            clear ck
            go_wp2_with (first
              | (refine wpList_load_mid rfl 28 _ rfl X 0 rfl _ _ HX.out.lnj Tryd.underlying28 rfl (by kernel_rfl) ?_)
              | fail)
            refine (rword_yes 20 3 0 0 0 _ HI.out).mono ?_; rw [HX0.out]; rintro e y5 ⟨rfl, hb⟩
            have hg := below_is_grown hb
            replace HRg := hid (HRg.out.kept0 hg)
            replace HOp := hid (HOp.out.kept0 hg)
            replace HG0 := hid (grown_trans HG0.out hg)
            clear hg hb HX HN
            have HS0 : Hid (SlAt (y5.alloc (.cells #[.int .u32 x, .int .u32 to, .int .u32 0] 22)) .u32 (.slice (some ⟨y5.heap.size, 0, none⟩) 3 3) [x, to, 0]) := hid (SlAt.whole (k := .u32) (c := 3) (xs := [x, to, 0]) (t := 22) (heap_alloc_last y5 _))
            have hg : y5.grownBy (y5.alloc (.cells #[.int .u32 x, .int .u32 to, .int .u32 0] 22)) none := World.grownBy_alloc _ _ _
            replace HRg := hid (HRg.out.kept0 hg)
            replace HOp := hid (HOp.out.kept0 hg)
            replace HG0 := hid (grown_trans HG0.out hg)
            clear hg
            go_wp2_with fail
            refine (mapped_any _ [x, to, 0] true true _ HS0.out (by show 3 ≤ maxLen; decide)).mono ?_; rintro e qa ⟨g, rfl, hg0, hblk, hg⟩
            rw [HY.out] at hblk
            have HS1 : Hid (SlAt qa .u32 (.slice (some ⟨g, 0, none⟩) 384 384) ys) := hid (by
              have := SlAt.whole (k := .u32) (c := 384) (xs := ys) hblk
              rwa [HYl.out] at this)
            replace HRg := hid (HRg.out.kept0 hg)
            replace HOp := hid (HOp.out.kept0 hg)
            replace HG0 := hid (grown_trans HG0.out hg)
            clear hblk hg hg0 HS0
            go_wp2_with fail
            refine (memory7_any _ ys _ HS1.out (Nat.le_of_eq HYl.out)).mono ?_; rintro e qb ⟨m, b, m', b', rfl, hm, hb, hb', hM, hR, hg⟩
            rw [layX_full HYl.out] at hM
            have HM := hid hM
            have HBW := hid (Nat.le_trans HG0.out.size hb)
            have HNb : Hid (R ≠ b ∧ O ≠ b) := hid ⟨by have := HRg.out.lt; omega, by have := HOp.out.lt; omega⟩
            replace HRg := hid (HRg.out.kept0 hg)
            replace HOp := hid (HOp.out.kept0 hg)
            replace HG0 := hid (grown_trans HG0.out hg)
            clear hM hR hm hb hb' hg HS1
            go_wp2_with (first
              | (refine wpList_load_row rfl 24 _ rfl R rfl _ _ _ _ HRg.out Tryd.underlying24 rfl (regs_len_info l HL.out.len) ?_)
              | (refine wpList_build_cpuR rfl _ rfl HL.out.len rfl ?_)
              | fail)
            refine (once_of HM.out Hu.out HL.out (by decide) (by decide) 0 true _ 0 0 20 3 0 0 to 2 ys HO.out).mono ?_; rintro e u1 ⟨rfl, hM, hg⟩
            replace HRg := hid (HRg.out.kept hg (by simpa using HNb.out.1))
            replace HOp := hid (HOp.out.kept hg (by simpa using HNb.out.2))
            replace HG0 := hid (grown_new' (grown_trans (grown_none HG0.out) hg) (fun k hk => by obtain rfl := Option.some.inj hk; exact HBW.out))
            clear hM hg HM HBW HNb
            have Hz := zero_cpu
            have Hz2 := zero_stop
            have HN := hid (new_cs u1 43 (y := ⟨l, to, false, false, 0, 0, 0, 0⟩) HL.out.len (spC 0 0 20 3 0 0 to 2))
            go_upto_region 19 with (first
              | (refine wpList_store_cpu rfl _ _ rfl rfl rfl ((CpuAt.new (x := zeroP) u1 rfl).alloc _) HL.out.len ?_)
              | (refine wpList_store_rw rfl 43 _ _ rfl rfl rfl ((RwAt.new2 _ _ _ _).rowOther _ _ (by omega)) (by kernel_rfl) rfl (sp_one _ _ _ _ _ _ _ _) ?_)
              | fail)
            change Code.wp _ _ _ _ (csW u1 43 ⟨l, to, false, false, 0, 0, 0, 0⟩ (spC 0 0 20 3 0 0 to 2))
            have HC0 := hid HN.out.1
            have HS0 := hid HN.out.2.1
            replace HRg := hid (HRg.out.kept0 HN.out.2.2)
            replace HOp := hid (HOp.out.kept0 HN.out.2.2)
            replace HG0 := hid (grown_trans HG0.out HN.out.2.2)
            clear HN
            generalize csW u1 43 ⟨l, to, false, false, 0, 0, 0, 0⟩ (spC 0 0 20 3 0 0 to 2) = u1b at HC0 HS0 HRg HOp HG0 ⊢
            obtain ⟨S0, hB2⟩ : ∃ B, B = u1.heap.size + 1 := ⟨_, rfl⟩
            rw [← hB2] at HS0 ⊢
            clear hB2
            generalize u1.heap.size = C0 at HC0 ⊢
            clear Hz Hz2
            have ck : u1b.cell? ⟨O, k, none⟩ = some (.int .i64 20) := HOp.out.cell k HCk.out
            have r3 : u1b.cell? ⟨R, 3, none⟩ = some (.int .u32 0) := (HRg.out.cell (HL.out.get (k := 3) (by decide) (by decide))).trans (by rw [Hr.out])
            simp only [put_noneJ]
            go_big_quiet (fail)
            clear ck r3
            replace HRg := hid (HRg.out.kept0 (grown_drewN (grown_refl _ none) nq))
            replace HOp := hid (HOp.out.kept0 (grown_drewN (grown_refl _ none) nq))
            replace HC0 := hid (HC0.out.kept0 (grown_drewN (grown_refl _ none) nq))
            replace HS0 := hid (HS0.out.kept0 (grown_drewN (grown_refl _ none) nq))
            replace HG0 := hid (grown_drewN HG0.out nq)
            generalize u1b.drewN nq = u2 at HRg HOp HC0 HS0 HG0 ⊢
            have ck : u2.cell? ⟨O, k, none⟩ = some (.int .i64 20) := HOp.out.cell k HCk.out
            have r3 : u2.cell? ⟨R, 3, none⟩ = some (.int .u32 0) := (HRg.out.cell (HL.out.get (k := 3) (by decide) (by decide))).trans (by rw [Hr.out])
            have r15 : u2.cell? ⟨R, 15, none⟩ = some (.int .u32 (regI l 15)) := HRg.out.cell (HL.out.get (k := 15) (by decide) (by decide))
            have s0 : u2.cell? ⟨S0, 0, none⟩ = some (.int .i64 0) := HS0.out.cell 0 rfl
            have s7 : u2.cell? ⟨S0, 7, none⟩ = some (.int .u32 2) := HS0.out.cell 7 rfl
            have cp : u2.cell? ⟨C0, 16, none⟩ = some (.int .u32 to) := HC0.out.pc
            have c3 : u2.cell? ⟨C0, 3, none⟩ = some (.int .u32 0) := HC0.out.regc (k := 3) (by rw [← Hr.out]; exact HL.out.get (k := 3) (by decide) (by decide))
            have c15 : u2.cell? ⟨C0, 15, none⟩ = some (.int .u32 (regI l 15)) := HC0.out.regc (k := 15) (HL.out.get (k := 15) (by decide) (by decide))
            go_wp2
            go_roundw
            case rel => exact ⟨k + 1, by omega, by go_num, HRg, HOp, HG0⟩
            case measure => simp [intOf]; omega
        · as_aux_lemma =>
            have HI : Hid (insB 20 3 0 0 0 = true) := hid (jump_ins (op := 20) c0 c1 (by decide))
            obtain ⟨x, hx⟩ : ∃ x, wrdI 20 3 0 0 = x := ⟨_, rfl⟩
            have HX0 := hid hx
            have HUl : Hid (U32s [x, to, 0]) := hid (by
              have h1 := wrd_bd HI.out
              rw [hx] at h1
              intro z hz
              simp only [List.mem_cons, List.not_mem_nil, or_false] at hz
              rcases hz with rfl | rfl | rfl <;> omega)
            obtain ⟨ys, hys⟩ : ∃ ys, mapW [x, to, 0] true true = ys := ⟨_, rfl⟩
            have HY := hid hys
            have HYl : Hid (ys.length = 384) := hid (by rw [← hys]; exact mapW_len _ true true)
            have Hu : Hid (U32s ys) := hid (by rw [← hys]; exact mapW_u32 HUl.out true true)
            obtain ⟨P0, hP0⟩ : ∃ P : Int, 2 = P := ⟨_, rfl⟩
            have HW : jwant 20 (regI l 3) to C = P0 := by
              unfold jwant jtkB; rw [show (regI l 3 == 0) = false by simpa using h3]; exact hP0
            have HO : Hid (onceP ys ((24 : Nat) : Int) 0 ⟨l, 0, false, false, 0, 0, 0, 0⟩ true = ⟨⟨l, P0, false, false, 0, 0, 0, 0⟩, ⟨0, 0, 20, 3, 0, 0, to, 2⟩, ys⟩) := hid (by
              have h1 := jump_once (l := l) (to := to) HI.out hx (by decide)
              have h2 := jump_x (l := l) (to := to) (op := 20) c0 c1 (by decide)
              rw [HW] at h2
              rw [← hys]
              exact h1.trans (by rw [show jumpX (startP l) 20 3 0 0 (jimI 20 to) (jlnI 20) = _ from h2]; rfl))
            obtain ⟨r, hr⟩ : ∃ r, regI l 3 = r := ⟨_, rfl⟩
            have hr1 : (r == 0) = false := by rw [← hr]; simpa using h3
            have hr2 : (r != 0) = true := by rw [← hr]; simpa using h3
            have Hr : Hid (regI l 3 = r) := hid hr
            subst hP0
            try clear hP0
            try clear h3
            try clear HW
            try clear hys
            try clear hx
            try clear hr
            have HT : Hid (RwAt (wr.alloc (.cells #[.int .i64 3] 3)) wr.heap.size 3 #[.int .i64 3]) := hid (RwAt.new _ _ _)
            have hg : wr.grownBy (wr.alloc (.cells #[.int .i64 3] 3)) none := World.grownBy_alloc _ _ _
            replace HRg := hid (HRg.out.kept0 hg)
            replace HOp := hid (HOp.out.kept0 hg)
            replace HG0 := hid (grown_trans HG0.out hg)
            clear hg
            go_wp2_with fail
            refine (op_one 20 3 _ _ (HT.out.cell 0 rfl) HT.out.lt).mono ?_; rintro e v1 ⟨rfl, hg⟩
            replace HRg := hid (HRg.out.kept0 hg)
            replace HOp := hid (HOp.out.kept0 hg)
            replace HG0 := hid (grown_trans HG0.out hg)
            clear hg ck HT
            have Hz := zero_line
            have HX := hid ((RwAt.new v1 30 (lnC 0 0)).row (lnC 20 3))
            have HN : Hid (R ≠ v1.heap.size ∧ O ≠ v1.heap.size ∧ W.heap.size ≤ v1.heap.size) := hid ⟨by have := HRg.out.lt; omega, by have := HOp.out.lt; omega, HG0.out.size⟩
            have hg : v1.grownBy ((v1.alloc (.cells (lnC 0 0) 30)).setRow v1.heap.size (lnC 20 3)) none := grown_setRow (grown_alloc (grown_refl _ _) _) (Nat.le_refl _) _
            replace HRg := hid (HRg.out.kept0 hg)
            replace HOp := hid (HOp.out.kept0 hg)
            replace HG0 := hid (grown_trans HG0.out hg)
            clear hg
            go_upto_region 10 with (first
              | (refine wpList_store_rw rfl 30 _ _ rfl rfl rfl (RwAt.new _ _ _) (by kernel_rfl) rfl (line_one _ _) ?_)
              | fail)
            generalize ((v1.alloc (.cells (lnC 0 0) 30)).setRow v1.heap.size (lnC 20 3)) = v2 at HRg HOp HG0 HX ⊢
            generalize v1.heap.size = X at HX HN ⊢
            clear Hz
            have ck : v2.cell? ⟨O, k, none⟩ = some (.int .i64 20) := HOp.out.cell k HCk.out
            go_upto_region 12 with (fail)
            clear ck
            obtain ⟨v3, hv3⟩ : ∃ v, v2 = v := ⟨_, rfl⟩
            subst hv3
            have ck : v2.cell? ⟨O, k, none⟩ = some (.int .i64 20) := HOp.out.cell k HCk.out
            go_upto_region 14 with (fail)
            clear ck
            go_wp2_with (first
              | (refine wpList_load_mid rfl 28 _ rfl X 0 rfl _ _ HX.out.lnj Tryd.underlying28 rfl (by kernel_rfl) ?_)
              | fail)
            refine (rword_yes 20 3 0 0 0 _ HI.out).mono ?_; rw [HX0.out]; rintro e y5 ⟨rfl, hb⟩
            have hg := below_is_grown hb
            replace HRg := hid (HRg.out.kept0 hg)
            replace HOp := hid (HOp.out.kept0 hg)
            replace HG0 := hid (grown_trans HG0.out hg)
            clear hg hb HX HN
            have HS0 : Hid (SlAt (y5.alloc (.cells #[.int .u32 x, .int .u32 to, .int .u32 0] 22)) .u32 (.slice (some ⟨y5.heap.size, 0, none⟩) 3 3) [x, to, 0]) := hid (SlAt.whole (k := .u32) (c := 3) (xs := [x, to, 0]) (t := 22) (heap_alloc_last y5 _))
            have hg : y5.grownBy (y5.alloc (.cells #[.int .u32 x, .int .u32 to, .int .u32 0] 22)) none := World.grownBy_alloc _ _ _
            replace HRg := hid (HRg.out.kept0 hg)
            replace HOp := hid (HOp.out.kept0 hg)
            replace HG0 := hid (grown_trans HG0.out hg)
            clear hg
            go_wp2_with fail
            refine (mapped_any _ [x, to, 0] true true _ HS0.out (by show 3 ≤ maxLen; decide)).mono ?_; rintro e qa ⟨g, rfl, hg0, hblk, hg⟩
            rw [HY.out] at hblk
            have HS1 : Hid (SlAt qa .u32 (.slice (some ⟨g, 0, none⟩) 384 384) ys) := hid (by
              have := SlAt.whole (k := .u32) (c := 384) (xs := ys) hblk
              rwa [HYl.out] at this)
            replace HRg := hid (HRg.out.kept0 hg)
            replace HOp := hid (HOp.out.kept0 hg)
            replace HG0 := hid (grown_trans HG0.out hg)
            clear hblk hg hg0 HS0
            go_wp2_with fail
            refine (memory7_any _ ys _ HS1.out (Nat.le_of_eq HYl.out)).mono ?_; rintro e qb ⟨m, b, m', b', rfl, hm, hb, hb', hM, hR, hg⟩
            rw [layX_full HYl.out] at hM
            have HM := hid hM
            have HBW := hid (Nat.le_trans HG0.out.size hb)
            have HNb : Hid (R ≠ b ∧ O ≠ b) := hid ⟨by have := HRg.out.lt; omega, by have := HOp.out.lt; omega⟩
            replace HRg := hid (HRg.out.kept0 hg)
            replace HOp := hid (HOp.out.kept0 hg)
            replace HG0 := hid (grown_trans HG0.out hg)
            clear hM hR hm hb hb' hg HS1
            go_wp2_with (first
              | (refine wpList_load_row rfl 24 _ rfl R rfl _ _ _ _ HRg.out Tryd.underlying24 rfl (regs_len_info l HL.out.len) ?_)
              | (refine wpList_build_cpuR rfl _ rfl HL.out.len rfl ?_)
              | fail)
            refine (once_of HM.out Hu.out HL.out (by decide) (by decide) 0 true _ 0 0 20 3 0 0 to 2 ys HO.out).mono ?_; rintro e u1 ⟨rfl, hM, hg⟩
            replace HRg := hid (HRg.out.kept hg (by simpa using HNb.out.1))
            replace HOp := hid (HOp.out.kept hg (by simpa using HNb.out.2))
            replace HG0 := hid (grown_new' (grown_trans (grown_none HG0.out) hg) (fun k hk => by obtain rfl := Option.some.inj hk; exact HBW.out))
            clear hM hg HM HBW HNb
            have Hz := zero_cpu
            have Hz2 := zero_stop
            have HN := hid (new_cs u1 43 (y := ⟨l, 2, false, false, 0, 0, 0, 0⟩) HL.out.len (spC 0 0 20 3 0 0 to 2))
            go_upto_region 19 with (first
              | (refine wpList_store_cpu rfl _ _ rfl rfl rfl ((CpuAt.new (x := zeroP) u1 rfl).alloc _) HL.out.len ?_)
              | (refine wpList_store_rw rfl 43 _ _ rfl rfl rfl ((RwAt.new2 _ _ _ _).rowOther _ _ (by omega)) (by kernel_rfl) rfl (sp_one _ _ _ _ _ _ _ _) ?_)
              | fail)
            change Code.wp _ _ _ _ (csW u1 43 ⟨l, 2, false, false, 0, 0, 0, 0⟩ (spC 0 0 20 3 0 0 to 2))
            have HC0 := hid HN.out.1
            have HS0 := hid HN.out.2.1
            replace HRg := hid (HRg.out.kept0 HN.out.2.2)
            replace HOp := hid (HOp.out.kept0 HN.out.2.2)
            replace HG0 := hid (grown_trans HG0.out HN.out.2.2)
            clear HN
            generalize csW u1 43 ⟨l, 2, false, false, 0, 0, 0, 0⟩ (spC 0 0 20 3 0 0 to 2) = u1b at HC0 HS0 HRg HOp HG0 ⊢
            obtain ⟨S0, hB2⟩ : ∃ B, B = u1.heap.size + 1 := ⟨_, rfl⟩
            rw [← hB2] at HS0 ⊢
            clear hB2
            generalize u1.heap.size = C0 at HC0 ⊢
            clear Hz Hz2
            have ck : u1b.cell? ⟨O, k, none⟩ = some (.int .i64 20) := HOp.out.cell k HCk.out
            have r3 : u1b.cell? ⟨R, 3, none⟩ = some (.int .u32 r) := (HRg.out.cell (HL.out.get (k := 3) (by decide) (by decide))).trans (by rw [Hr.out])
            simp only [put_noneJ]
            go_big_quiet (fail)
            clear ck r3
            replace HRg := hid (HRg.out.kept0 (grown_drewN (grown_refl _ none) nq))
            replace HOp := hid (HOp.out.kept0 (grown_drewN (grown_refl _ none) nq))
            replace HC0 := hid (HC0.out.kept0 (grown_drewN (grown_refl _ none) nq))
            replace HS0 := hid (HS0.out.kept0 (grown_drewN (grown_refl _ none) nq))
            replace HG0 := hid (grown_drewN HG0.out nq)
            generalize u1b.drewN nq = u2 at HRg HOp HC0 HS0 HG0 ⊢
            have ck : u2.cell? ⟨O, k, none⟩ = some (.int .i64 20) := HOp.out.cell k HCk.out
            have r3 : u2.cell? ⟨R, 3, none⟩ = some (.int .u32 r) := (HRg.out.cell (HL.out.get (k := 3) (by decide) (by decide))).trans (by rw [Hr.out])
            have r15 : u2.cell? ⟨R, 15, none⟩ = some (.int .u32 (regI l 15)) := HRg.out.cell (HL.out.get (k := 15) (by decide) (by decide))
            have s0 : u2.cell? ⟨S0, 0, none⟩ = some (.int .i64 0) := HS0.out.cell 0 rfl
            have s7 : u2.cell? ⟨S0, 7, none⟩ = some (.int .u32 2) := HS0.out.cell 7 rfl
            have cp : u2.cell? ⟨C0, 16, none⟩ = some (.int .u32 2) := HC0.out.pc
            have c3 : u2.cell? ⟨C0, 3, none⟩ = some (.int .u32 r) := HC0.out.regc (k := 3) (by rw [← Hr.out]; exact HL.out.get (k := 3) (by decide) (by decide))
            have c15 : u2.cell? ⟨C0, 15, none⟩ = some (.int .u32 (regI l 15)) := HC0.out.regc (k := 15) (HL.out.get (k := 15) (by decide) (by decide))
            go_wp2
            go_roundw
            case rel => exact ⟨k + 1, by omega, by go_num, HRg, HOp, HG0⟩
            case measure => simp [intOf]; omega
      · by_cases h3 : regI l 3 = 0
        · as_aux_lemma =>
            have HI : Hid (insB 21 3 0 0 0 = true) := hid (jump_ins (op := 21) c0 c1 (by decide))
            obtain ⟨x, hx⟩ : ∃ x, wrdI 21 3 0 0 = x := ⟨_, rfl⟩
            have HX0 := hid hx
            have HUl : Hid (U32s [x, to, 0]) := hid (by
              have h1 := wrd_bd HI.out
              rw [hx] at h1
              intro z hz
              simp only [List.mem_cons, List.not_mem_nil, or_false] at hz
              rcases hz with rfl | rfl | rfl <;> omega)
            obtain ⟨ys, hys⟩ : ∃ ys, mapW [x, to, 0] true true = ys := ⟨_, rfl⟩
            have HY := hid hys
            have HYl : Hid (ys.length = 384) := hid (by rw [← hys]; exact mapW_len _ true true)
            have Hu : Hid (U32s ys) := hid (by rw [← hys]; exact mapW_u32 HUl.out true true)
            obtain ⟨P0, hP0⟩ : ∃ P : Int, 2 = P := ⟨_, rfl⟩
            have HW : jwant 21 (regI l 3) to C = P0 := by
              rw [h3]; exact hP0
            have HO : Hid (onceP ys ((24 : Nat) : Int) 0 ⟨l, 0, false, false, 0, 0, 0, 0⟩ true = ⟨⟨l, P0, false, false, 0, 0, 0, 0⟩, ⟨0, 0, 21, 3, 0, 0, to, 2⟩, ys⟩) := hid (by
              have h1 := jump_once (l := l) (to := to) HI.out hx (by decide)
              have h2 := jump_x (l := l) (to := to) (op := 21) c0 c1 (by decide)
              rw [HW] at h2
              rw [← hys]
              exact h1.trans (by rw [show jumpX (startP l) 21 3 0 0 (jimI 21 to) (jlnI 21) = _ from h2]; rfl))
            obtain ⟨r, hr⟩ : ∃ r, regI l 3 = r ∧ r = 0 := ⟨_, rfl, h3⟩
            obtain ⟨hr, rfl⟩ := hr
            have Hr : Hid (regI l 3 = 0) := hid hr
            subst hP0
            try clear hP0
            try clear h3
            try clear HW
            try clear hys
            try clear hx
            try clear hr
            have HT : Hid (RwAt (wr.alloc (.cells #[.int .i64 3] 3)) wr.heap.size 3 #[.int .i64 3]) := hid (RwAt.new _ _ _)
            have hg : wr.grownBy (wr.alloc (.cells #[.int .i64 3] 3)) none := World.grownBy_alloc _ _ _
            replace HRg := hid (HRg.out.kept0 hg)
            replace HOp := hid (HOp.out.kept0 hg)
            replace HG0 := hid (grown_trans HG0.out hg)
            clear hg
            go_wp2_with fail
            refine (op_one 21 3 _ _ (HT.out.cell 0 rfl) HT.out.lt).mono ?_; rintro e v1 ⟨rfl, hg⟩
            replace HRg := hid (HRg.out.kept0 hg)
            replace HOp := hid (HOp.out.kept0 hg)
            replace HG0 := hid (grown_trans HG0.out hg)
            clear hg ck HT
            have Hz := zero_line
            have HX := hid ((RwAt.new v1 30 (lnC 0 0)).row (lnC 21 3))
            have HN : Hid (R ≠ v1.heap.size ∧ O ≠ v1.heap.size ∧ W.heap.size ≤ v1.heap.size) := hid ⟨by have := HRg.out.lt; omega, by have := HOp.out.lt; omega, HG0.out.size⟩
            have hg : v1.grownBy ((v1.alloc (.cells (lnC 0 0) 30)).setRow v1.heap.size (lnC 21 3)) none := grown_setRow (grown_alloc (grown_refl _ _) _) (Nat.le_refl _) _
            replace HRg := hid (HRg.out.kept0 hg)
            replace HOp := hid (HOp.out.kept0 hg)
            replace HG0 := hid (grown_trans HG0.out hg)
            clear hg
            go_upto_region 10 with (first
              | (refine wpList_store_rw rfl 30 _ _ rfl rfl rfl (RwAt.new _ _ _) (by kernel_rfl) rfl (line_one _ _) ?_)
              | fail)
            generalize ((v1.alloc (.cells (lnC 0 0) 30)).setRow v1.heap.size (lnC 21 3)) = v2 at HRg HOp HG0 HX ⊢
            generalize v1.heap.size = X at HX HN ⊢
            clear Hz
            have ck : v2.cell? ⟨O, k, none⟩ = some (.int .i64 21) := HOp.out.cell k HCk.out
            go_upto_region 12 with (fail)
            clear ck
            obtain ⟨v3, hv3⟩ : ∃ v, v2 = v := ⟨_, rfl⟩
            subst hv3
            have ck : v2.cell? ⟨O, k, none⟩ = some (.int .i64 21) := HOp.out.cell k HCk.out
            go_upto_region 14 with (fail)
            clear ck
            go_wp2_with (first
              | (refine wpList_load_mid rfl 28 _ rfl X 0 rfl _ _ HX.out.lnj Tryd.underlying28 rfl (by kernel_rfl) ?_)
              | fail)
            refine (rword_yes 21 3 0 0 0 _ HI.out).mono ?_; rw [HX0.out]; rintro e y5 ⟨rfl, hb⟩
            have hg := below_is_grown hb
            replace HRg := hid (HRg.out.kept0 hg)
            replace HOp := hid (HOp.out.kept0 hg)
            replace HG0 := hid (grown_trans HG0.out hg)
            clear hg hb HX HN
            have HS0 : Hid (SlAt (y5.alloc (.cells #[.int .u32 x, .int .u32 to, .int .u32 0] 22)) .u32 (.slice (some ⟨y5.heap.size, 0, none⟩) 3 3) [x, to, 0]) := hid (SlAt.whole (k := .u32) (c := 3) (xs := [x, to, 0]) (t := 22) (heap_alloc_last y5 _))
            have hg : y5.grownBy (y5.alloc (.cells #[.int .u32 x, .int .u32 to, .int .u32 0] 22)) none := World.grownBy_alloc _ _ _
            replace HRg := hid (HRg.out.kept0 hg)
            replace HOp := hid (HOp.out.kept0 hg)
            replace HG0 := hid (grown_trans HG0.out hg)
            clear hg
            go_wp2_with fail
            refine (mapped_any _ [x, to, 0] true true _ HS0.out (by show 3 ≤ maxLen; decide)).mono ?_; rintro e qa ⟨g, rfl, hg0, hblk, hg⟩
            rw [HY.out] at hblk
            have HS1 : Hid (SlAt qa .u32 (.slice (some ⟨g, 0, none⟩) 384 384) ys) := hid (by
              have := SlAt.whole (k := .u32) (c := 384) (xs := ys) hblk
              rwa [HYl.out] at this)
            replace HRg := hid (HRg.out.kept0 hg)
            replace HOp := hid (HOp.out.kept0 hg)
            replace HG0 := hid (grown_trans HG0.out hg)
            clear hblk hg hg0 HS0
            go_wp2_with fail
            refine (memory7_any _ ys _ HS1.out (Nat.le_of_eq HYl.out)).mono ?_; rintro e qb ⟨m, b, m', b', rfl, hm, hb, hb', hM, hR, hg⟩
            rw [layX_full HYl.out] at hM
            have HM := hid hM
            have HBW := hid (Nat.le_trans HG0.out.size hb)
            have HNb : Hid (R ≠ b ∧ O ≠ b) := hid ⟨by have := HRg.out.lt; omega, by have := HOp.out.lt; omega⟩
            replace HRg := hid (HRg.out.kept0 hg)
            replace HOp := hid (HOp.out.kept0 hg)
            replace HG0 := hid (grown_trans HG0.out hg)
            clear hM hR hm hb hb' hg HS1
            go_wp2_with (first
              | (refine wpList_load_row rfl 24 _ rfl R rfl _ _ _ _ HRg.out Tryd.underlying24 rfl (regs_len_info l HL.out.len) ?_)
              | (refine wpList_build_cpuR rfl _ rfl HL.out.len rfl ?_)
              | fail)
            refine (once_of HM.out Hu.out HL.out (by decide) (by decide) 0 true _ 0 0 21 3 0 0 to 2 ys HO.out).mono ?_; rintro e u1 ⟨rfl, hM, hg⟩
            replace HRg := hid (HRg.out.kept hg (by simpa using HNb.out.1))
            replace HOp := hid (HOp.out.kept hg (by simpa using HNb.out.2))
            replace HG0 := hid (grown_new' (grown_trans (grown_none HG0.out) hg) (fun k hk => by obtain rfl := Option.some.inj hk; exact HBW.out))
            clear hM hg HM HBW HNb
            have Hz := zero_cpu
            have Hz2 := zero_stop
            have HN := hid (new_cs u1 43 (y := ⟨l, 2, false, false, 0, 0, 0, 0⟩) HL.out.len (spC 0 0 21 3 0 0 to 2))
            go_upto_region 19 with (first
              | (refine wpList_store_cpu rfl _ _ rfl rfl rfl ((CpuAt.new (x := zeroP) u1 rfl).alloc _) HL.out.len ?_)
              | (refine wpList_store_rw rfl 43 _ _ rfl rfl rfl ((RwAt.new2 _ _ _ _).rowOther _ _ (by omega)) (by kernel_rfl) rfl (sp_one _ _ _ _ _ _ _ _) ?_)
              | fail)
            change Code.wp _ _ _ _ (csW u1 43 ⟨l, 2, false, false, 0, 0, 0, 0⟩ (spC 0 0 21 3 0 0 to 2))
            have HC0 := hid HN.out.1
            have HS0 := hid HN.out.2.1
            replace HRg := hid (HRg.out.kept0 HN.out.2.2)
            replace HOp := hid (HOp.out.kept0 HN.out.2.2)
            replace HG0 := hid (grown_trans HG0.out HN.out.2.2)
            clear HN
            generalize csW u1 43 ⟨l, 2, false, false, 0, 0, 0, 0⟩ (spC 0 0 21 3 0 0 to 2) = u1b at HC0 HS0 HRg HOp HG0 ⊢
            obtain ⟨S0, hB2⟩ : ∃ B, B = u1.heap.size + 1 := ⟨_, rfl⟩
            rw [← hB2] at HS0 ⊢
            clear hB2
            generalize u1.heap.size = C0 at HC0 ⊢
            clear Hz Hz2
            have ck : u1b.cell? ⟨O, k, none⟩ = some (.int .i64 21) := HOp.out.cell k HCk.out
            have r3 : u1b.cell? ⟨R, 3, none⟩ = some (.int .u32 0) := (HRg.out.cell (HL.out.get (k := 3) (by decide) (by decide))).trans (by rw [Hr.out])
            simp only [put_noneJ]
            go_big_quiet (fail)
            clear ck r3
            replace HRg := hid (HRg.out.kept0 (grown_drewN (grown_refl _ none) nq))
            replace HOp := hid (HOp.out.kept0 (grown_drewN (grown_refl _ none) nq))
            replace HC0 := hid (HC0.out.kept0 (grown_drewN (grown_refl _ none) nq))
            replace HS0 := hid (HS0.out.kept0 (grown_drewN (grown_refl _ none) nq))
            replace HG0 := hid (grown_drewN HG0.out nq)
            generalize u1b.drewN nq = u2 at HRg HOp HC0 HS0 HG0 ⊢
            have ck : u2.cell? ⟨O, k, none⟩ = some (.int .i64 21) := HOp.out.cell k HCk.out
            have r3 : u2.cell? ⟨R, 3, none⟩ = some (.int .u32 0) := (HRg.out.cell (HL.out.get (k := 3) (by decide) (by decide))).trans (by rw [Hr.out])
            have r15 : u2.cell? ⟨R, 15, none⟩ = some (.int .u32 (regI l 15)) := HRg.out.cell (HL.out.get (k := 15) (by decide) (by decide))
            have s0 : u2.cell? ⟨S0, 0, none⟩ = some (.int .i64 0) := HS0.out.cell 0 rfl
            have s7 : u2.cell? ⟨S0, 7, none⟩ = some (.int .u32 2) := HS0.out.cell 7 rfl
            have cp : u2.cell? ⟨C0, 16, none⟩ = some (.int .u32 2) := HC0.out.pc
            have c3 : u2.cell? ⟨C0, 3, none⟩ = some (.int .u32 0) := HC0.out.regc (k := 3) (by rw [← Hr.out]; exact HL.out.get (k := 3) (by decide) (by decide))
            have c15 : u2.cell? ⟨C0, 15, none⟩ = some (.int .u32 (regI l 15)) := HC0.out.regc (k := 15) (HL.out.get (k := 15) (by decide) (by decide))
            go_wp2
            go_roundw
            case rel => exact ⟨k + 1, by omega, by go_num, HRg, HOp, HG0⟩
            case measure => simp [intOf]; omega
        · as_aux_lemma =>
            have HI : Hid (insB 21 3 0 0 0 = true) := hid (jump_ins (op := 21) c0 c1 (by decide))
            obtain ⟨x, hx⟩ : ∃ x, wrdI 21 3 0 0 = x := ⟨_, rfl⟩
            have HX0 := hid hx
            have HUl : Hid (U32s [x, to, 0]) := hid (by
              have h1 := wrd_bd HI.out
              rw [hx] at h1
              intro z hz
              simp only [List.mem_cons, List.not_mem_nil, or_false] at hz
              rcases hz with rfl | rfl | rfl <;> omega)
            obtain ⟨ys, hys⟩ : ∃ ys, mapW [x, to, 0] true true = ys := ⟨_, rfl⟩
            have HY := hid hys
            have HYl : Hid (ys.length = 384) := hid (by rw [← hys]; exact mapW_len _ true true)
            have Hu : Hid (U32s ys) := hid (by rw [← hys]; exact mapW_u32 HUl.out true true)
            obtain ⟨P0, hP0⟩ : ∃ P : Int, to = P := ⟨_, rfl⟩
            have HW : jwant 21 (regI l 3) to C = P0 := by
              unfold jwant jtkB; rw [show (regI l 3 == 0) = false by simpa using h3]; exact hP0
            have HO : Hid (onceP ys ((24 : Nat) : Int) 0 ⟨l, 0, false, false, 0, 0, 0, 0⟩ true = ⟨⟨l, P0, false, false, 0, 0, 0, 0⟩, ⟨0, 0, 21, 3, 0, 0, to, 2⟩, ys⟩) := hid (by
              have h1 := jump_once (l := l) (to := to) HI.out hx (by decide)
              have h2 := jump_x (l := l) (to := to) (op := 21) c0 c1 (by decide)
              rw [HW] at h2
              rw [← hys]
              exact h1.trans (by rw [show jumpX (startP l) 21 3 0 0 (jimI 21 to) (jlnI 21) = _ from h2]; rfl))
            obtain ⟨r, hr⟩ : ∃ r, regI l 3 = r := ⟨_, rfl⟩
            have hr1 : (r == 0) = false := by rw [← hr]; simpa using h3
            have hr2 : (r != 0) = true := by rw [← hr]; simpa using h3
            have Hr : Hid (regI l 3 = r) := hid hr
            subst hP0
            try clear hP0
            try clear h3
            try clear HW
            try clear hys
            try clear hx
            try clear hr
            have HT : Hid (RwAt (wr.alloc (.cells #[.int .i64 3] 3)) wr.heap.size 3 #[.int .i64 3]) := hid (RwAt.new _ _ _)
            have hg : wr.grownBy (wr.alloc (.cells #[.int .i64 3] 3)) none := World.grownBy_alloc _ _ _
            replace HRg := hid (HRg.out.kept0 hg)
            replace HOp := hid (HOp.out.kept0 hg)
            replace HG0 := hid (grown_trans HG0.out hg)
            clear hg
            go_wp2_with fail
            refine (op_one 21 3 _ _ (HT.out.cell 0 rfl) HT.out.lt).mono ?_; rintro e v1 ⟨rfl, hg⟩
            replace HRg := hid (HRg.out.kept0 hg)
            replace HOp := hid (HOp.out.kept0 hg)
            replace HG0 := hid (grown_trans HG0.out hg)
            clear hg ck HT
            have Hz := zero_line
            have HX := hid ((RwAt.new v1 30 (lnC 0 0)).row (lnC 21 3))
            have HN : Hid (R ≠ v1.heap.size ∧ O ≠ v1.heap.size ∧ W.heap.size ≤ v1.heap.size) := hid ⟨by have := HRg.out.lt; omega, by have := HOp.out.lt; omega, HG0.out.size⟩
            have hg : v1.grownBy ((v1.alloc (.cells (lnC 0 0) 30)).setRow v1.heap.size (lnC 21 3)) none := grown_setRow (grown_alloc (grown_refl _ _) _) (Nat.le_refl _) _
            replace HRg := hid (HRg.out.kept0 hg)
            replace HOp := hid (HOp.out.kept0 hg)
            replace HG0 := hid (grown_trans HG0.out hg)
            clear hg
            go_upto_region 10 with (first
              | (refine wpList_store_rw rfl 30 _ _ rfl rfl rfl (RwAt.new _ _ _) (by kernel_rfl) rfl (line_one _ _) ?_)
              | fail)
            generalize ((v1.alloc (.cells (lnC 0 0) 30)).setRow v1.heap.size (lnC 21 3)) = v2 at HRg HOp HG0 HX ⊢
            generalize v1.heap.size = X at HX HN ⊢
            clear Hz
            have ck : v2.cell? ⟨O, k, none⟩ = some (.int .i64 21) := HOp.out.cell k HCk.out
            go_upto_region 12 with (fail)
            clear ck
            obtain ⟨v3, hv3⟩ : ∃ v, v2 = v := ⟨_, rfl⟩
            subst hv3
            have ck : v2.cell? ⟨O, k, none⟩ = some (.int .i64 21) := HOp.out.cell k HCk.out
            go_upto_region 14 with (fail)
            clear ck
            go_wp2_with (first
              | (refine wpList_load_mid rfl 28 _ rfl X 0 rfl _ _ HX.out.lnj Tryd.underlying28 rfl (by kernel_rfl) ?_)
              | fail)
            refine (rword_yes 21 3 0 0 0 _ HI.out).mono ?_; rw [HX0.out]; rintro e y5 ⟨rfl, hb⟩
            have hg := below_is_grown hb
            replace HRg := hid (HRg.out.kept0 hg)
            replace HOp := hid (HOp.out.kept0 hg)
            replace HG0 := hid (grown_trans HG0.out hg)
            clear hg hb HX HN
            have HS0 : Hid (SlAt (y5.alloc (.cells #[.int .u32 x, .int .u32 to, .int .u32 0] 22)) .u32 (.slice (some ⟨y5.heap.size, 0, none⟩) 3 3) [x, to, 0]) := hid (SlAt.whole (k := .u32) (c := 3) (xs := [x, to, 0]) (t := 22) (heap_alloc_last y5 _))
            have hg : y5.grownBy (y5.alloc (.cells #[.int .u32 x, .int .u32 to, .int .u32 0] 22)) none := World.grownBy_alloc _ _ _
            replace HRg := hid (HRg.out.kept0 hg)
            replace HOp := hid (HOp.out.kept0 hg)
            replace HG0 := hid (grown_trans HG0.out hg)
            clear hg
            go_wp2_with fail
            refine (mapped_any _ [x, to, 0] true true _ HS0.out (by show 3 ≤ maxLen; decide)).mono ?_; rintro e qa ⟨g, rfl, hg0, hblk, hg⟩
            rw [HY.out] at hblk
            have HS1 : Hid (SlAt qa .u32 (.slice (some ⟨g, 0, none⟩) 384 384) ys) := hid (by
              have := SlAt.whole (k := .u32) (c := 384) (xs := ys) hblk
              rwa [HYl.out] at this)
            replace HRg := hid (HRg.out.kept0 hg)
            replace HOp := hid (HOp.out.kept0 hg)
            replace HG0 := hid (grown_trans HG0.out hg)
            clear hblk hg hg0 HS0
            go_wp2_with fail
            refine (memory7_any _ ys _ HS1.out (Nat.le_of_eq HYl.out)).mono ?_; rintro e qb ⟨m, b, m', b', rfl, hm, hb, hb', hM, hR, hg⟩
            rw [layX_full HYl.out] at hM
            have HM := hid hM
            have HBW := hid (Nat.le_trans HG0.out.size hb)
            have HNb : Hid (R ≠ b ∧ O ≠ b) := hid ⟨by have := HRg.out.lt; omega, by have := HOp.out.lt; omega⟩
            replace HRg := hid (HRg.out.kept0 hg)
            replace HOp := hid (HOp.out.kept0 hg)
            replace HG0 := hid (grown_trans HG0.out hg)
            clear hM hR hm hb hb' hg HS1
            go_wp2_with (first
              | (refine wpList_load_row rfl 24 _ rfl R rfl _ _ _ _ HRg.out Tryd.underlying24 rfl (regs_len_info l HL.out.len) ?_)
              | (refine wpList_build_cpuR rfl _ rfl HL.out.len rfl ?_)
              | fail)
            refine (once_of HM.out Hu.out HL.out (by decide) (by decide) 0 true _ 0 0 21 3 0 0 to 2 ys HO.out).mono ?_; rintro e u1 ⟨rfl, hM, hg⟩
            replace HRg := hid (HRg.out.kept hg (by simpa using HNb.out.1))
            replace HOp := hid (HOp.out.kept hg (by simpa using HNb.out.2))
            replace HG0 := hid (grown_new' (grown_trans (grown_none HG0.out) hg) (fun k hk => by obtain rfl := Option.some.inj hk; exact HBW.out))
            clear hM hg HM HBW HNb
            have Hz := zero_cpu
            have Hz2 := zero_stop
            have HN := hid (new_cs u1 43 (y := ⟨l, to, false, false, 0, 0, 0, 0⟩) HL.out.len (spC 0 0 21 3 0 0 to 2))
            go_upto_region 19 with (first
              | (refine wpList_store_cpu rfl _ _ rfl rfl rfl ((CpuAt.new (x := zeroP) u1 rfl).alloc _) HL.out.len ?_)
              | (refine wpList_store_rw rfl 43 _ _ rfl rfl rfl ((RwAt.new2 _ _ _ _).rowOther _ _ (by omega)) (by kernel_rfl) rfl (sp_one _ _ _ _ _ _ _ _) ?_)
              | fail)
            change Code.wp _ _ _ _ (csW u1 43 ⟨l, to, false, false, 0, 0, 0, 0⟩ (spC 0 0 21 3 0 0 to 2))
            have HC0 := hid HN.out.1
            have HS0 := hid HN.out.2.1
            replace HRg := hid (HRg.out.kept0 HN.out.2.2)
            replace HOp := hid (HOp.out.kept0 HN.out.2.2)
            replace HG0 := hid (grown_trans HG0.out HN.out.2.2)
            clear HN
            generalize csW u1 43 ⟨l, to, false, false, 0, 0, 0, 0⟩ (spC 0 0 21 3 0 0 to 2) = u1b at HC0 HS0 HRg HOp HG0 ⊢
            obtain ⟨S0, hB2⟩ : ∃ B, B = u1.heap.size + 1 := ⟨_, rfl⟩
            rw [← hB2] at HS0 ⊢
            clear hB2
            generalize u1.heap.size = C0 at HC0 ⊢
            clear Hz Hz2
            have ck : u1b.cell? ⟨O, k, none⟩ = some (.int .i64 21) := HOp.out.cell k HCk.out
            have r3 : u1b.cell? ⟨R, 3, none⟩ = some (.int .u32 r) := (HRg.out.cell (HL.out.get (k := 3) (by decide) (by decide))).trans (by rw [Hr.out])
            simp only [put_noneJ]
            go_big_quiet (fail)
            clear ck r3
            replace HRg := hid (HRg.out.kept0 (grown_drewN (grown_refl _ none) nq))
            replace HOp := hid (HOp.out.kept0 (grown_drewN (grown_refl _ none) nq))
            replace HC0 := hid (HC0.out.kept0 (grown_drewN (grown_refl _ none) nq))
            replace HS0 := hid (HS0.out.kept0 (grown_drewN (grown_refl _ none) nq))
            replace HG0 := hid (grown_drewN HG0.out nq)
            generalize u1b.drewN nq = u2 at HRg HOp HC0 HS0 HG0 ⊢
            have ck : u2.cell? ⟨O, k, none⟩ = some (.int .i64 21) := HOp.out.cell k HCk.out
            have r3 : u2.cell? ⟨R, 3, none⟩ = some (.int .u32 r) := (HRg.out.cell (HL.out.get (k := 3) (by decide) (by decide))).trans (by rw [Hr.out])
            have r15 : u2.cell? ⟨R, 15, none⟩ = some (.int .u32 (regI l 15)) := HRg.out.cell (HL.out.get (k := 15) (by decide) (by decide))
            have s0 : u2.cell? ⟨S0, 0, none⟩ = some (.int .i64 0) := HS0.out.cell 0 rfl
            have s7 : u2.cell? ⟨S0, 7, none⟩ = some (.int .u32 2) := HS0.out.cell 7 rfl
            have cp : u2.cell? ⟨C0, 16, none⟩ = some (.int .u32 to) := HC0.out.pc
            have c3 : u2.cell? ⟨C0, 3, none⟩ = some (.int .u32 r) := HC0.out.regc (k := 3) (by rw [← Hr.out]; exact HL.out.get (k := 3) (by decide) (by decide))
            have c15 : u2.cell? ⟨C0, 15, none⟩ = some (.int .u32 (regI l 15)) := HC0.out.regc (k := 15) (HL.out.get (k := 15) (by decide) (by decide))
            go_wp2
            go_roundw
            case rel => exact ⟨k + 1, by omega, by go_num, HRg, HOp, HG0⟩
            case measure => simp [intOf]; omega
      · as_aux_lemma =>
          have HI : Hid (insB 22 0 0 0 0 = true) := hid (jump_ins (op := 22) c0 c1 (by decide))
          obtain ⟨x, hx⟩ : ∃ x, wrdI 22 0 0 0 = x := ⟨_, rfl⟩
          have HX0 := hid hx
          have HUl : Hid (U32s [x, to, 0]) := hid (by
            have h1 := wrd_bd HI.out
            rw [hx] at h1
            intro z hz
            simp only [List.mem_cons, List.not_mem_nil, or_false] at hz
            rcases hz with rfl | rfl | rfl <;> omega)
          obtain ⟨ys, hys⟩ : ∃ ys, mapW [x, to, 0] true true = ys := ⟨_, rfl⟩
          have HY := hid hys
          have HYl : Hid (ys.length = 384) := hid (by rw [← hys]; exact mapW_len _ true true)
          have Hu : Hid (U32s ys) := hid (by rw [← hys]; exact mapW_u32 HUl.out true true)
          obtain ⟨P0, hP0⟩ : ∃ P : Int, to = P := ⟨_, rfl⟩
          have HW : jwant 22 (regI l 3) to C = P0 := by
            exact hP0
          have HO : Hid (onceP ys ((24 : Nat) : Int) 0 ⟨l, 0, false, false, 0, 0, 0, 0⟩ true = ⟨⟨l.set 15 2, P0, false, false, 0, 0, 0, 0⟩, ⟨0, 0, 22, 0, 0, 0, to, 2⟩, ys⟩) := hid (by
            have h1 := jump_once (l := l) (to := to) HI.out hx (by decide)
            have h2 := jump_x (l := l) (to := to) (op := 22) c0 c1 (by decide)
            rw [HW] at h2
            rw [← hys]
            exact h1.trans (by rw [show jumpX (startP l) 22 0 0 0 (jimI 22 to) (jlnI 22) = _ from h2]; rfl))
          obtain ⟨r, hr⟩ : ∃ r, regI l 3 = r := ⟨_, rfl⟩
          have Hr : Hid (regI l 3 = r) := hid hr
          subst hP0
          try clear hP0
          try clear h3
          try clear HW
          try clear hys
          try clear hx
          try clear hr
          have HT : Hid (RwAt (wr.alloc (.cells #[.int .i64 3] 3)) wr.heap.size 3 #[.int .i64 3]) := hid (RwAt.new _ _ _)
          have hg : wr.grownBy (wr.alloc (.cells #[.int .i64 3] 3)) none := World.grownBy_alloc _ _ _
          replace HRg := hid (HRg.out.kept0 hg)
          replace HOp := hid (HOp.out.kept0 hg)
          replace HG0 := hid (grown_trans HG0.out hg)
          clear hg
          go_wp2_with fail
          refine (op_one 22 3 _ _ (HT.out.cell 0 rfl) HT.out.lt).mono ?_; rintro e v1 ⟨rfl, hg⟩
          replace HRg := hid (HRg.out.kept0 hg)
          replace HOp := hid (HOp.out.kept0 hg)
          replace HG0 := hid (grown_trans HG0.out hg)
          clear hg ck HT
          have Hz := zero_line
          have HX := hid ((RwAt.new v1 30 (lnC 0 0)).row (lnC 22 3))
          have HN : Hid (R ≠ v1.heap.size ∧ O ≠ v1.heap.size ∧ W.heap.size ≤ v1.heap.size) := hid ⟨by have := HRg.out.lt; omega, by have := HOp.out.lt; omega, HG0.out.size⟩
          have hg : v1.grownBy ((v1.alloc (.cells (lnC 0 0) 30)).setRow v1.heap.size (lnC 22 3)) none := grown_setRow (grown_alloc (grown_refl _ _) _) (Nat.le_refl _) _
          replace HRg := hid (HRg.out.kept0 hg)
          replace HOp := hid (HOp.out.kept0 hg)
          replace HG0 := hid (grown_trans HG0.out hg)
          clear hg
          go_upto_region 10 with (first
            | (refine wpList_store_rw rfl 30 _ _ rfl rfl rfl (RwAt.new _ _ _) (by kernel_rfl) rfl (line_one _ _) ?_)
            | fail)
          generalize ((v1.alloc (.cells (lnC 0 0) 30)).setRow v1.heap.size (lnC 22 3)) = v2 at HRg HOp HG0 HX ⊢
          generalize v1.heap.size = X at HX HN ⊢
          clear Hz
          have ck : v2.cell? ⟨O, k, none⟩ = some (.int .i64 22) := HOp.out.cell k HCk.out
          have k1 : v2.cell? ⟨X, 1, none⟩ = some (.int .i64 3) := HX.out.cell 1 rfl
          have kf := fun j => HX.out.free j
          go_upto_region 12 with (fail)
          clear k1 kf ck
          replace HX := hid (HX.out.sA 0)
          replace HRg := hid (HRg.out.kept (grown_setCell (grown_refl v2 (some X)) 1 (.int .i64 0)) (by simpa using HN.out.1))
          replace HOp := hid (HOp.out.other X 1 (.int .i64 0) HN.out.2.1)
          replace HG0 := hid (grown_setN HG0.out HN.out.2.2 1 (.int .i64 0))
          generalize v2.setCell ⟨X, 1, none⟩ (.int .i64 0) = v3 at HRg HOp HG0 HX ⊢
          have ck : v3.cell? ⟨O, k, none⟩ = some (.int .i64 22) := HOp.out.cell k HCk.out
          go_upto_region 14 with (fail)
          clear ck
          go_wp2_with (first
            | (refine wpList_load_mid rfl 28 _ rfl X 0 rfl _ _ HX.out.lnj Tryd.underlying28 rfl (by kernel_rfl) ?_)
            | fail)
          refine (rword_yes 22 0 0 0 0 _ HI.out).mono ?_; rw [HX0.out]; rintro e y5 ⟨rfl, hb⟩
          have hg := below_is_grown hb
          replace HRg := hid (HRg.out.kept0 hg)
          replace HOp := hid (HOp.out.kept0 hg)
          replace HG0 := hid (grown_trans HG0.out hg)
          clear hg hb HX HN
          have HS0 : Hid (SlAt (y5.alloc (.cells #[.int .u32 x, .int .u32 to, .int .u32 0] 22)) .u32 (.slice (some ⟨y5.heap.size, 0, none⟩) 3 3) [x, to, 0]) := hid (SlAt.whole (k := .u32) (c := 3) (xs := [x, to, 0]) (t := 22) (heap_alloc_last y5 _))
          have hg : y5.grownBy (y5.alloc (.cells #[.int .u32 x, .int .u32 to, .int .u32 0] 22)) none := World.grownBy_alloc _ _ _
          replace HRg := hid (HRg.out.kept0 hg)
          replace HOp := hid (HOp.out.kept0 hg)
          replace HG0 := hid (grown_trans HG0.out hg)
          clear hg
          go_wp2_with fail
          refine (mapped_any _ [x, to, 0] true true _ HS0.out (by show 3 ≤ maxLen; decide)).mono ?_; rintro e qa ⟨g, rfl, hg0, hblk, hg⟩
          rw [HY.out] at hblk
          have HS1 : Hid (SlAt qa .u32 (.slice (some ⟨g, 0, none⟩) 384 384) ys) := hid (by
            have := SlAt.whole (k := .u32) (c := 384) (xs := ys) hblk
            rwa [HYl.out] at this)
          replace HRg := hid (HRg.out.kept0 hg)
          replace HOp := hid (HOp.out.kept0 hg)
          replace HG0 := hid (grown_trans HG0.out hg)
          clear hblk hg hg0 HS0
          go_wp2_with fail
          refine (memory7_any _ ys _ HS1.out (Nat.le_of_eq HYl.out)).mono ?_; rintro e qb ⟨m, b, m', b', rfl, hm, hb, hb', hM, hR, hg⟩
          rw [layX_full HYl.out] at hM
          have HM := hid hM
          have HBW := hid (Nat.le_trans HG0.out.size hb)
          have HNb : Hid (R ≠ b ∧ O ≠ b) := hid ⟨by have := HRg.out.lt; omega, by have := HOp.out.lt; omega⟩
          replace HRg := hid (HRg.out.kept0 hg)
          replace HOp := hid (HOp.out.kept0 hg)
          replace HG0 := hid (grown_trans HG0.out hg)
          clear hM hR hm hb hb' hg HS1
          go_wp2_with (first
            | (refine wpList_load_row rfl 24 _ rfl R rfl _ _ _ _ HRg.out Tryd.underlying24 rfl (regs_len_info l HL.out.len) ?_)
            | (refine wpList_build_cpuR rfl _ rfl HL.out.len rfl ?_)
            | fail)
          refine (once_of HM.out Hu.out HL.out (by decide) (by decide) 0 true _ 0 0 22 0 0 0 to 2 ys HO.out).mono ?_; rintro e u1 ⟨rfl, hM, hg⟩
          replace HRg := hid (HRg.out.kept hg (by simpa using HNb.out.1))
          replace HOp := hid (HOp.out.kept hg (by simpa using HNb.out.2))
          replace HG0 := hid (grown_new' (grown_trans (grown_none HG0.out) hg) (fun k hk => by obtain rfl := Option.some.inj hk; exact HBW.out))
          clear hM hg HM HBW HNb
          have Hz := zero_cpu
          have Hz2 := zero_stop
          have HN := hid (new_cs u1 43 (y := ⟨l.set 15 2, to, false, false, 0, 0, 0, 0⟩) (HL.out.set 15 (by decide) (by decide)).len (spC 0 0 22 0 0 0 to 2))
          go_upto_region 19 with (first
            | (refine wpList_store_cpu rfl _ _ rfl rfl rfl ((CpuAt.new (x := zeroP) u1 rfl).alloc _) (HL.out.set 15 (by decide) (by decide)).len ?_)
            | (refine wpList_store_rw rfl 43 _ _ rfl rfl rfl ((RwAt.new2 _ _ _ _).rowOther _ _ (by omega)) (by kernel_rfl) rfl (sp_one _ _ _ _ _ _ _ _) ?_)
            | fail)
          change Code.wp _ _ _ _ (csW u1 43 ⟨l.set 15 2, to, false, false, 0, 0, 0, 0⟩ (spC 0 0 22 0 0 0 to 2))
          have HC0 := hid HN.out.1
          have HS0 := hid HN.out.2.1
          replace HRg := hid (HRg.out.kept0 HN.out.2.2)
          replace HOp := hid (HOp.out.kept0 HN.out.2.2)
          replace HG0 := hid (grown_trans HG0.out HN.out.2.2)
          clear HN
          generalize csW u1 43 ⟨l.set 15 2, to, false, false, 0, 0, 0, 0⟩ (spC 0 0 22 0 0 0 to 2) = u1b at HC0 HS0 HRg HOp HG0 ⊢
          obtain ⟨S0, hB2⟩ : ∃ B, B = u1.heap.size + 1 := ⟨_, rfl⟩
          rw [← hB2] at HS0 ⊢
          clear hB2
          generalize u1.heap.size = C0 at HC0 ⊢
          clear Hz Hz2
          have ck : u1b.cell? ⟨O, k, none⟩ = some (.int .i64 22) := HOp.out.cell k HCk.out
          have r3 : u1b.cell? ⟨R, 3, none⟩ = some (.int .u32 r) := (HRg.out.cell (HL.out.get (k := 3) (by decide) (by decide))).trans (by rw [Hr.out])
          simp only [put_noneJ]
          go_big_quiet (fail)
          clear ck r3
          replace HRg := hid (HRg.out.kept0 (grown_drewN (grown_refl _ none) nq))
          replace HOp := hid (HOp.out.kept0 (grown_drewN (grown_refl _ none) nq))
          replace HC0 := hid (HC0.out.kept0 (grown_drewN (grown_refl _ none) nq))
          replace HS0 := hid (HS0.out.kept0 (grown_drewN (grown_refl _ none) nq))
          replace HG0 := hid (grown_drewN HG0.out nq)
          generalize u1b.drewN nq = u2 at HRg HOp HC0 HS0 HG0 ⊢
          have ck : u2.cell? ⟨O, k, none⟩ = some (.int .i64 22) := HOp.out.cell k HCk.out
          have r3 : u2.cell? ⟨R, 3, none⟩ = some (.int .u32 r) := (HRg.out.cell (HL.out.get (k := 3) (by decide) (by decide))).trans (by rw [Hr.out])
          have r15 : u2.cell? ⟨R, 15, none⟩ = some (.int .u32 (regI l 15)) := HRg.out.cell (HL.out.get (k := 15) (by decide) (by decide))
          have s0 : u2.cell? ⟨S0, 0, none⟩ = some (.int .i64 0) := HS0.out.cell 0 rfl
          have s7 : u2.cell? ⟨S0, 7, none⟩ = some (.int .u32 2) := HS0.out.cell 7 rfl
          have cp : u2.cell? ⟨C0, 16, none⟩ = some (.int .u32 to) := HC0.out.pc
          have c3 : u2.cell? ⟨C0, 3, none⟩ = some (.int .u32 r) := HC0.out.regc (k := 3) (by show (l.set 15 2)[3]? = _; rw [List.getElem?_set_ne (by decide), ← Hr.out]; exact HL.out.get (k := 3) (by decide) (by decide))
          have c15 : u2.cell? ⟨C0, 15, none⟩ = some (.int .u32 2) := HC0.out.regc (k := 15) (by show (l.set 15 2)[15]? = _; rw [List.getElem?_set_self (by rw [HL.out.len]; decide)])
          go_wp2
          go_roundw
          case rel => exact ⟨k + 1, by omega, by go_num, HRg, HOp, HG0⟩
          case measure => simp [intOf]; omega
      · as_aux_lemma =>
          have HI : Hid (insB 23 3 0 0 0 = true) := hid (jump_ins (op := 23) c0 c1 (by decide))
          obtain ⟨x, hx⟩ : ∃ x, wrdI 23 3 0 0 = x := ⟨_, rfl⟩
          have HX0 := hid hx
          have HUl : Hid (U32s [x, to, 0]) := hid (by
            have h1 := wrd_bd HI.out
            rw [hx] at h1
            intro z hz
            simp only [List.mem_cons, List.not_mem_nil, or_false] at hz
            rcases hz with rfl | rfl | rfl <;> omega)
          obtain ⟨ys, hys⟩ : ∃ ys, mapW [x, to, 0] true true = ys := ⟨_, rfl⟩
          have HY := hid hys
          have HYl : Hid (ys.length = 384) := hid (by rw [← hys]; exact mapW_len _ true true)
          have Hu : Hid (U32s ys) := hid (by rw [← hys]; exact mapW_u32 HUl.out true true)
          obtain ⟨P0, hP0⟩ : ∃ P : Int, regI l 3 = P := ⟨_, rfl⟩
          have HW : jwant 23 (regI l 3) to C = P0 := by
            exact hP0
          have HO : Hid (onceP ys ((24 : Nat) : Int) 0 ⟨l, 0, false, false, 0, 0, 0, 0⟩ true = ⟨⟨l, P0, false, false, 0, 0, 0, 0⟩, ⟨0, 0, 23, 3, 0, 0, 0, 1⟩, ys⟩) := hid (by
            have h1 := jump_once (l := l) (to := to) HI.out hx (by decide)
            have h2 := jump_x (l := l) (to := to) (op := 23) c0 c1 (by decide)
            rw [HW] at h2
            rw [← hys]
            exact h1.trans (by rw [show jumpX (startP l) 23 3 0 0 (jimI 23 to) (jlnI 23) = _ from h2]; rfl))
          obtain ⟨r, hr⟩ : ∃ r, regI l 3 = r := ⟨_, rfl⟩
          have Hr : Hid (regI l 3 = r) := hid hr
          have HPr : P0 = r := hP0.symm.trans hr
          subst HPr
          try clear hP0
          try clear h3
          try clear HW
          try clear hys
          try clear hx
          try clear hr
          have HT : Hid (RwAt (wr.alloc (.cells #[.int .i64 3] 3)) wr.heap.size 3 #[.int .i64 3]) := hid (RwAt.new _ _ _)
          have hg : wr.grownBy (wr.alloc (.cells #[.int .i64 3] 3)) none := World.grownBy_alloc _ _ _
          replace HRg := hid (HRg.out.kept0 hg)
          replace HOp := hid (HOp.out.kept0 hg)
          replace HG0 := hid (grown_trans HG0.out hg)
          clear hg
          go_wp2_with fail
          refine (op_one 23 3 _ _ (HT.out.cell 0 rfl) HT.out.lt).mono ?_; rintro e v1 ⟨rfl, hg⟩
          replace HRg := hid (HRg.out.kept0 hg)
          replace HOp := hid (HOp.out.kept0 hg)
          replace HG0 := hid (grown_trans HG0.out hg)
          clear hg ck HT
          have Hz := zero_line
          have HX := hid ((RwAt.new v1 30 (lnC 0 0)).row (lnC 23 3))
          have HN : Hid (R ≠ v1.heap.size ∧ O ≠ v1.heap.size ∧ W.heap.size ≤ v1.heap.size) := hid ⟨by have := HRg.out.lt; omega, by have := HOp.out.lt; omega, HG0.out.size⟩
          have hg : v1.grownBy ((v1.alloc (.cells (lnC 0 0) 30)).setRow v1.heap.size (lnC 23 3)) none := grown_setRow (grown_alloc (grown_refl _ _) _) (Nat.le_refl _) _
          replace HRg := hid (HRg.out.kept0 hg)
          replace HOp := hid (HOp.out.kept0 hg)
          replace HG0 := hid (grown_trans HG0.out hg)
          clear hg
          go_upto_region 10 with (first
            | (refine wpList_store_rw rfl 30 _ _ rfl rfl rfl (RwAt.new _ _ _) (by kernel_rfl) rfl (line_one _ _) ?_)
            | fail)
          generalize ((v1.alloc (.cells (lnC 0 0) 30)).setRow v1.heap.size (lnC 23 3)) = v2 at HRg HOp HG0 HX ⊢
          generalize v1.heap.size = X at HX HN ⊢
          clear Hz
          have ck : v2.cell? ⟨O, k, none⟩ = some (.int .i64 23) := HOp.out.cell k HCk.out
          go_upto_region 12 with (fail)
          clear ck
          obtain ⟨v3, hv3⟩ : ∃ v, v2 = v := ⟨_, rfl⟩
          subst hv3
          have ck : v2.cell? ⟨O, k, none⟩ = some (.int .i64 23) := HOp.out.cell k HCk.out
          go_upto_region 14 with (fail)
          clear ck
          go_wp2_with (first
            | (refine wpList_load_mid rfl 28 _ rfl X 0 rfl _ _ HX.out.lnj Tryd.underlying28 rfl (by kernel_rfl) ?_)
            | fail)
          refine (rword_yes 23 3 0 0 0 _ HI.out).mono ?_; rw [HX0.out]; rintro e y5 ⟨rfl, hb⟩
          have hg := below_is_grown hb
          replace HRg := hid (HRg.out.kept0 hg)
          replace HOp := hid (HOp.out.kept0 hg)
          replace HG0 := hid (grown_trans HG0.out hg)
          clear hg hb HX HN
          have HS0 : Hid (SlAt (y5.alloc (.cells #[.int .u32 x, .int .u32 to, .int .u32 0] 22)) .u32 (.slice (some ⟨y5.heap.size, 0, none⟩) 3 3) [x, to, 0]) := hid (SlAt.whole (k := .u32) (c := 3) (xs := [x, to, 0]) (t := 22) (heap_alloc_last y5 _))
          have hg : y5.grownBy (y5.alloc (.cells #[.int .u32 x, .int .u32 to, .int .u32 0] 22)) none := World.grownBy_alloc _ _ _
          replace HRg := hid (HRg.out.kept0 hg)
          replace HOp := hid (HOp.out.kept0 hg)
          replace HG0 := hid (grown_trans HG0.out hg)
          clear hg
          go_wp2_with fail
          refine (mapped_any _ [x, to, 0] true true _ HS0.out (by show 3 ≤ maxLen; decide)).mono ?_; rintro e qa ⟨g, rfl, hg0, hblk, hg⟩
          rw [HY.out] at hblk
          have HS1 : Hid (SlAt qa .u32 (.slice (some ⟨g, 0, none⟩) 384 384) ys) := hid (by
            have := SlAt.whole (k := .u32) (c := 384) (xs := ys) hblk
            rwa [HYl.out] at this)
          replace HRg := hid (HRg.out.kept0 hg)
          replace HOp := hid (HOp.out.kept0 hg)
          replace HG0 := hid (grown_trans HG0.out hg)
          clear hblk hg hg0 HS0
          go_wp2_with fail
          refine (memory7_any _ ys _ HS1.out (Nat.le_of_eq HYl.out)).mono ?_; rintro e qb ⟨m, b, m', b', rfl, hm, hb, hb', hM, hR, hg⟩
          rw [layX_full HYl.out] at hM
          have HM := hid hM
          have HBW := hid (Nat.le_trans HG0.out.size hb)
          have HNb : Hid (R ≠ b ∧ O ≠ b) := hid ⟨by have := HRg.out.lt; omega, by have := HOp.out.lt; omega⟩
          replace HRg := hid (HRg.out.kept0 hg)
          replace HOp := hid (HOp.out.kept0 hg)
          replace HG0 := hid (grown_trans HG0.out hg)
          clear hM hR hm hb hb' hg HS1
          go_wp2_with (first
            | (refine wpList_load_row rfl 24 _ rfl R rfl _ _ _ _ HRg.out Tryd.underlying24 rfl (regs_len_info l HL.out.len) ?_)
            | (refine wpList_build_cpuR rfl _ rfl HL.out.len rfl ?_)
            | fail)
          refine (once_of HM.out Hu.out HL.out (by decide) (by decide) 0 true _ 0 0 23 3 0 0 0 1 ys HO.out).mono ?_; rintro e u1 ⟨rfl, hM, hg⟩
          replace HRg := hid (HRg.out.kept hg (by simpa using HNb.out.1))
          replace HOp := hid (HOp.out.kept hg (by simpa using HNb.out.2))
          replace HG0 := hid (grown_new' (grown_trans (grown_none HG0.out) hg) (fun k hk => by obtain rfl := Option.some.inj hk; exact HBW.out))
          clear hM hg HM HBW HNb
          have Hz := zero_cpu
          have Hz2 := zero_stop
          have HN := hid (new_cs u1 43 (y := ⟨l, P0, false, false, 0, 0, 0, 0⟩) HL.out.len (spC 0 0 23 3 0 0 0 1))
          go_upto_region 19 with (first
            | (refine wpList_store_cpu rfl _ _ rfl rfl rfl ((CpuAt.new (x := zeroP) u1 rfl).alloc _) HL.out.len ?_)
            | (refine wpList_store_rw rfl 43 _ _ rfl rfl rfl ((RwAt.new2 _ _ _ _).rowOther _ _ (by omega)) (by kernel_rfl) rfl (sp_one _ _ _ _ _ _ _ _) ?_)
            | fail)
          change Code.wp _ _ _ _ (csW u1 43 ⟨l, P0, false, false, 0, 0, 0, 0⟩ (spC 0 0 23 3 0 0 0 1))
          have HC0 := hid HN.out.1
          have HS0 := hid HN.out.2.1
          replace HRg := hid (HRg.out.kept0 HN.out.2.2)
          replace HOp := hid (HOp.out.kept0 HN.out.2.2)
          replace HG0 := hid (grown_trans HG0.out HN.out.2.2)
          clear HN
          generalize csW u1 43 ⟨l, P0, false, false, 0, 0, 0, 0⟩ (spC 0 0 23 3 0 0 0 1) = u1b at HC0 HS0 HRg HOp HG0 ⊢
          obtain ⟨S0, hB2⟩ : ∃ B, B = u1.heap.size + 1 := ⟨_, rfl⟩
          rw [← hB2] at HS0 ⊢
          clear hB2
          generalize u1.heap.size = C0 at HC0 ⊢
          clear Hz Hz2
          have ck : u1b.cell? ⟨O, k, none⟩ = some (.int .i64 23) := HOp.out.cell k HCk.out
          have r3 : u1b.cell? ⟨R, 3, none⟩ = some (.int .u32 P0) := (HRg.out.cell (HL.out.get (k := 3) (by decide) (by decide))).trans (by rw [Hr.out])
          simp only [put_noneJ]
          go_big_quiet (fail)
          clear ck r3
          replace HRg := hid (HRg.out.kept0 (grown_drewN (grown_refl _ none) nq))
          replace HOp := hid (HOp.out.kept0 (grown_drewN (grown_refl _ none) nq))
          replace HC0 := hid (HC0.out.kept0 (grown_drewN (grown_refl _ none) nq))
          replace HS0 := hid (HS0.out.kept0 (grown_drewN (grown_refl _ none) nq))
          replace HG0 := hid (grown_drewN HG0.out nq)
          generalize u1b.drewN nq = u2 at HRg HOp HC0 HS0 HG0 ⊢
          have ck : u2.cell? ⟨O, k, none⟩ = some (.int .i64 23) := HOp.out.cell k HCk.out
          have r3 : u2.cell? ⟨R, 3, none⟩ = some (.int .u32 P0) := (HRg.out.cell (HL.out.get (k := 3) (by decide) (by decide))).trans (by rw [Hr.out])
          have r15 : u2.cell? ⟨R, 15, none⟩ = some (.int .u32 (regI l 15)) := HRg.out.cell (HL.out.get (k := 15) (by decide) (by decide))
          have s0 : u2.cell? ⟨S0, 0, none⟩ = some (.int .i64 0) := HS0.out.cell 0 rfl
          have s7 : u2.cell? ⟨S0, 7, none⟩ = some (.int .u32 1) := HS0.out.cell 7 rfl
          have cp : u2.cell? ⟨C0, 16, none⟩ = some (.int .u32 P0) := HC0.out.pc
          have c3 : u2.cell? ⟨C0, 3, none⟩ = some (.int .u32 P0) := HC0.out.regc (k := 3) (by rw [← Hr.out]; exact HL.out.get (k := 3) (by decide) (by decide))
          have c15 : u2.cell? ⟨C0, 15, none⟩ = some (.int .u32 (regI l 15)) := HC0.out.regc (k := 15) (HL.out.get (k := 15) (by decide) (by decide))
          go_wp2
          go_roundw
          case rel => exact ⟨k + 1, by omega, by go_num, HRg, HOp, HG0⟩
          case measure => simp [intOf]; omega
    · have hge : (8 : Int) ≤ (k : Int) := by omega
      go_wp2
      go_ret
      exact ⟨rfl, grown_below HG0.out⟩
end Go.Proofs.YtkkbhifplbleiaaDoor

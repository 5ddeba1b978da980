/- The law RewriteMarks: walked. -/
import Derived.Test.YteanoklaammpiaaDoorZGRwD
import Derived.Test.YteanoklaammpiaaDoorZRwK
import Derived.Test.YteanoklaammpiaaDoorZMkOp
import Derived.Test.YteanoklaammpiaaDoorZGIsa
import Derived.Test.YteanoklaammpiaaDoorZALow
namespace Go.Proofs.YteanoklaammpiaaDoor
open Go.RowKit
/-! ### an instruction of three parts (facademake.Op) -/
def lnB (op a b : Int) : Array Value := #[.int .i64 op, .int .i64 a, .int .i64 b, .int .i64 0, .int .u32 0, .string ByteArray.empty, .string ByteArray.empty, .bool false]
theorem RwAt.sB {w : World} {B : Nat} {t : TypeId} {op a b : Int} (h : RwAt w B t (lnB op a b)) (v : Int) : RwAt (w.setCell ⟨B, 2, none⟩ (.int .i64 v)) B t (lnB op a v) := h.set 2 _
theorem lineB_one (op a b : Int) : (lnB op a b).all (·.oneCell') = true := by simp [lnB, Value.oneCell']
set_option maxRecDepth 100000 in
set_option maxHeartbeats 1000000 in
theorem op_two (op a b : Int) (g : Nat) (W : World) (hc : W.cell? ⟨g, 0, none⟩ = some (.int .i64 a)) (hc2 : W.cell? ⟨g, 1, none⟩ = some (.int .i64 b)) (hgW : g < W.heap.size) : Calls Tryd.prog 26 #[.int .i64 op, .slice (some ⟨g, 0, none⟩) 2 2] W fun e w' => e = .returned (.agg (lnB op a b)) ∧ W.grownBy w' none := by
  have Hz := zero_line
  obtain ⟨b1, b2, e1, e2⟩ : ∃ b1 b2, b1 = W.heap.size ∧ b2 = b1 + 1 := ⟨_, _, rfl, rfl⟩
  have hg : W.grownBy (((W.alloc (.cells (lnC 0 0) 65)).alloc (.cells (lnC 0 0) 65)).setRow (W.heap.size + 1) (lnC op 0)) none := grown_setRow (grown_alloc (grown_alloc (grown_refl _ _) _) _) (Nat.le_succ _) _
  have H1 : Hid (RwAt (((W.alloc (.cells (lnC 0 0) 65)).alloc (.cells (lnC 0 0) 65)).setRow (W.heap.size + 1) (lnC op 0)) W.heap.size 65 (lnC 0 0)) := hid (((RwAt.new W _ _).alloc _).rowOther _ _ (by omega))
  have H2 : Hid (RwAt (((W.alloc (.cells (lnC 0 0) 65)).alloc (.cells (lnC 0 0) 65)).setRow (W.heap.size + 1) (lnC op 0)) (W.heap.size + 1) 65 (lnC op 0)) := hid ((RwAt.new2 W _ _ _).row _)
  have HG := hid hg
  have HC := hid hc
  have HC2 := hid hc2
  have HW := hid hgW
  clear hg hc hc2 hgW
  go_enter Tryd.func26, Tryd.ntmps26
  go_upto_region 2 with (first
    | (refine wpList_build_op rfl _ rfl rfl ?_)
    | (refine wpList_build_line rfl _ rfl rfl ?_)
    | (refine wpList_store_rw rfl 65 _ _ rfl rfl rfl (RwAt.new2 _ _ _ _) (by kernel_rfl) rfl (line_one _ _) ?_)
    | fail)
  generalize (((W.alloc (.cells (lnC 0 0) 65)).alloc (.cells (lnC 0 0) 65)).setRow (W.heap.size + 1) (lnC op 0)) = w2 at H1 H2 HG ⊢
  have HB : Hid (W.heap.size ≤ b1) := hid (Nat.le_of_eq e1.symm)
  have NE : Hid (b1 ≠ b2) := hid (by omega)
  have HB2 : Hid (W.heap.size ≤ b2) := hid (by omega)
  rw [← e1, ← e2] at H2
  rw [← e1] at H1
  rw [← e1, ← e2]
  clear e1 e2
  have kc := (grown_cell (p := ⟨g, 0, none⟩) HG.out HW.out (by simp)).trans HC.out
  have k1 : w2.cell? ⟨b2, 1, none⟩ = some (.int .i64 0) := H2.out.cell 1 rfl
  have kf := fun j => H2.out.free j
  have H3 := hid (H2.out.sA a)
  have H4 := hid (H1.out.other b2 1 (.int .i64 a) NE.out)
  have HG4 := hid (grown_setN HG.out HB2.out 1 (.int .i64 a))
  go_upto_region 4 with (fail)
  clear kc k1 kf H1 H2 HG
  generalize w2.setCell ⟨b2, 1, none⟩ (.int .i64 a) = w3 at H3 H4 HG4 ⊢
  have kc := (grown_cell (p := ⟨g, 1, none⟩) HG4.out HW.out (by simp)).trans HC2.out
  have k1 : w3.cell? ⟨b2, 2, none⟩ = some (.int .i64 0) := H3.out.cell 2 rfl
  have kf := fun j => H3.out.free j
  have H5 : Hid (RwAt (w3.setCell ⟨b2, 2, none⟩ (.int .i64 b)) b2 65 (lnB op a b)) := hid (RwAt.sB (op := op) (a := a) (b := 0) H3.out b)
  have H6 := hid (H4.out.other b2 2 (.int .i64 b) NE.out)
  have HG6 := hid (grown_setN HG4.out HB2.out 2 (.int .i64 b))
  go_upto_region 6 with (fail)
  clear kc k1 kf H3 H4 HG4
  generalize w3.setCell ⟨b2, 2, none⟩ (.int .i64 b) = w4 at H5 H6 HG6 ⊢
  have E1 := hid (H6.out.row (lnB op a b))
  have EG := hid (grown_setRow HG6.out HB.out (lnB op a b))
  go_wp2_with (first
    | (refine wpList_load_rw rfl 65 _ rfl rfl H5.out rfl Tryd.underlying65 (by kernel_rfl) ?_)
    | (refine wpList_store_rw rfl 65 _ _ rfl rfl rfl H6.out (by kernel_rfl) rfl (lineB_one _ _ _) ?_)
    | fail)
  refine bodyPost_ret (results_cell_row Tryd.results26 _ _ b1 _ _ _ _ rfl E1.out.blk Tryd.underlying65 rfl (by kernel_rfl)) rfl ?_
  exact ⟨rfl, EG.out⟩
/-! ### the word, plainly -/
theorem i64_low7 (n : Int) : bits .and .i64 n 127 = n % 128 := by
  have q : (BitVec.ofInt 64 127).toNat = 2 ^ 7 - 1 := by decide
  have key : (BitVec.ofInt 64 n &&& BitVec.ofInt 64 127).toNat = (n % ((2 ^ 64 : Nat) : Int)).toNat % 2 ^ 7 := by
    rw [BitVec.toNat_and, BitVec.toNat_ofInt, q, Nat.and_two_pow_sub_one_eq_mod]
  show IntKind.i64.wrap ((BitVec.ofInt 64 n &&& BitVec.ofInt 64 127).toNat : Nat) = n % 128
  rw [key, IntKind.wrap_i64]
  omega
theorem u32_low31 {n : Int} (h0 : 0 ≤ n) (h1 : n < 4294967296) : bits .and .u32 n 2147483647 = n % 2147483648 := by
  obtain ⟨m, rfl⟩ := Int.eq_ofNat_of_zero_le h0
  rw [show (2147483647 : Int) = ((2147483647 : Nat) : Int) from rfl, u32_and_nat m 2147483647 (by omega) (by omega), show 2147483647 = 2 ^ 31 - 1 from rfl, Nat.and_two_pow_sub_one_eq_mod]
  omega
theorem or_sum (i : Nat) {x y : Int} (m : Nat) (hx : x = ((2 ^ i * m : Nat) : Int)) (hy0 : 0 ≤ y) (hy : y < ((2 ^ i : Nat) : Int)) (hs : x + y < 4294967296) : bits BinOp.or IntKind.u32 x y = x + y := by
  obtain ⟨n, rfl⟩ := Int.eq_ofNat_of_zero_le hy0
  subst hx
  rw [u32_or_nat (2 ^ i * m) n (by omega) (by omega), ← Nat.two_pow_add_eq_or_of_lt (i := i) (b := n) (by omega) m]
  omega
theorem mk_back {o a b : Int} (o0 : 0 ≤ o) (o1 : o < 128) (a0 : 0 ≤ a) (a1 : a < 16) (b0 : 0 ≤ b) (b1 : b < 16) (h : bkB (2147483648 + o * 16777216 + a * 65536 + b * 256) = true) :
    backV (2147483648 + o * 16777216 + a * 65536 + b * 256) = .tuple #[.agg #[.int .i64 o, .int .i64 a, .int .i64 b, .int .i64 0, .int .u32 0], .bool true] ∧ ((32 ≤ o ∧ o ≤ 44) ∨ (64 ≤ o ∧ o ≤ 67)) := by
  have hz : 2147483648 + o * 16777216 + a * 65536 + b * 256 - 2147483648 = o * 16777216 + a * 65536 + b * 256 := by omega
  have e0 : (o * 16777216 + a * 65536 + b * 256) / 16777216 = o := by omega
  have e1 : (o * 16777216 + a * 65536 + b * 256) / 65536 % 256 = a := by omega
  have e2 : (o * 16777216 + a * 65536 + b * 256) / 256 % 256 = b := by omega
  have e3 : (o * 16777216 + a * 65536 + b * 256) % 256 = 0 := by omega
  have e4 : wantImm o 0 = 0 := by unfold wantImm; split <;> rfl
  refine ⟨by unfold backV; rw [if_pos h]; unfold insV; rw [hz, e0, e1, e2, e3, e4], ?_⟩
  unfold bkB at h
  rw [hz, e0] at h
  simp only [Bool.and_eq_true, Bool.or_eq_true, decide_eq_true_eq] at h
  have h2 := h.2.2
  unfold clsI at h2
  rcases h2 with h2 | h2
  · repeat' split at h2
    all_goals omega
  · repeat' split at h2
    all_goals omega
theorem samI_self (op a b c i : Int) : samI op a b c i op a b c i = true := by simp [samI]
theorem sameI_yes (op a b c i : Int) (w : World) : Calls Tryd.prog 22 #[.agg #[.int .i64 op, .int .i64 a, .int .i64 b, .int .i64 c, .int .u32 i], .agg #[.int .i64 op, .int .i64 a, .int .i64 b, .int .i64 c, .int .u32 i]] w fun e w' => e = .returned (.bool true) ∧ w.grownBy w' none :=
  (same_any op a b c i op a b c i w).mono fun e w' h => ⟨by rw [h.1, samI_self], below_is_grown h.2⟩
set_option maxRecDepth 100000 in
set_option maxHeartbeats 16000000 in
theorem marks_walk (p q r y : Int) (W : World) (A : Nat → Addr) (hS : ErrC W A) (_hp0 : -9223372036854775808 ≤ p) (_hp1 : p ≤ 9223372036854775807) (_hq0 : -9223372036854775808 ≤ q) (_hq1 : q ≤ 9223372036854775807) (_hr0 : -9223372036854775808 ≤ r) (_hr1 : r ≤ 9223372036854775807) (hy0 : 0 ≤ y) (hy2 : y ≤ 4294967295) :
    Calls Tryd.prog 6 #[.int .i64 p, .int .i64 q, .int .i64 r, .int .u32 y] W fun e W' => e = .returned (.bool true) ∧ Below W.heap.size W W' := by
  have HE := hid hS
  have hy1 : y < 4294967296 := by omega
  obtain ⟨o, ho⟩ : ∃ o, p % 128 = o := ⟨_, rfl⟩
  obtain ⟨a, ha⟩ : ∃ a, q % 16 = a := ⟨_, rfl⟩
  obtain ⟨b, hb⟩ : ∃ b, r % 16 = b := ⟨_, rfl⟩
  obtain ⟨z, hz⟩ : ∃ z, y % 2147483648 = z := ⟨_, rfl⟩
  have A1 : bits .and .i64 p 127 = o := (i64_low7 p).trans ho
  have A2 : bits .and .i64 q 15 = a := (i64_low q).trans ha
  have A3 : bits .and .i64 r 15 = b := (i64_low r).trans hb
  have A4 : bits .and .u32 y 2147483647 = z := (u32_low31 hy0 hy1).trans hz
  have o0 : 0 ≤ o := by omega
  have o1 : o < 128 := by omega
  have a0 : 0 ≤ a := by omega
  have a1 : a < 16 := by omega
  have b0 : 0 ≤ b := by omega
  have b1 : b < 16 := by omega
  have z0 : 0 ≤ z := by omega
  have z1 : z < 2147483648 := by omega
  have B1 : bits BinOp.or IntKind.u32 2147483648 (o * 16777216) = 2147483648 + o * 16777216 := orM (by omega) (by omega)
  have B2 : bits BinOp.or IntKind.u32 (2147483648 + o * 16777216) (a * 65536) = 2147483648 + o * 16777216 + a * 65536 := or_sum 24 (128 + o.toNat) (by omega) (by omega) (by omega) (by omega)
  have B3 : bits BinOp.or IntKind.u32 (2147483648 + o * 16777216 + a * 65536) (b * 256) = 2147483648 + o * 16777216 + a * 65536 + b * 256 := or_sum 16 (32768 + o.toNat * 256 + a.toNat) (by omega) (by omega) (by omega) (by omega)
  have C1 : o % 4294967296 = o := by omega
  have C2 : a % 4294967296 = a := by omega
  have C3 : b % 4294967296 = b := by omega
  have D1 : o * 16777216 % 4294967296 = o * 16777216 := by omega
  have D2 : a * 65536 % 4294967296 = a * 65536 := by omega
  have D3 : b * 256 % 4294967296 = b * 256 := by omega
  have Hy := hid (And.intro hy0 hy1)
  have Hz := hid (And.intro z0 z1)
  have HK := hid (fun h => mk_back o0 o1 a0 a1 b0 b1 h)
  have HX : Hid (0 ≤ 2147483648 + o * 16777216 + a * 65536 + b * 256 ∧ 2147483648 + o * 16777216 + a * 65536 + b * 256 < 4294967296) := hid (by omega)
  clear hS hy2 ho ha hb hz
  go_enter Tryd.func6, Tryd.ntmps6
  go_wp2_with fail
  refine (first11_any HE.out).mono ?_
  rintro e w2 ⟨rfl, hg⟩
  have HG2 := hid hg
  clear hg
  have al := World.grownBy_alloc w2 (.cells #[.int .i64 a, .int .i64 b] 3) none
  have HL := hid (RwAt.new w2 3 #[.int .i64 a, .int .i64 b])
  have HG3 := hid (grown_trans HG2.out al)
  have Hop := hid (op_two o a b w2.heap.size (w2.alloc (.cells #[.int .i64 a, .int .i64 b] 3)) (HL.out.cell 0 rfl) (HL.out.cell 1 rfl) (by simp))
  have hzl : ∀ w : World, (zeroValue 65).run Tryd.prog w = .ok (.agg #[.int .i64 0, .int .i64 0, .int .i64 0, .int .i64 0, .int .u32 0, .string ByteArray.empty, .string ByteArray.empty, .bool false]) w := zero_line
  have hzi := zero_ins9
  clear al HL
  go_wp2_with fail
  refine Hop.out.mono ?_
  rintro e w4 ⟨rfl, hg⟩
  rw [show lnB o a b = #[.int .i64 o, .int .i64 a, .int .i64 b, .int .i64 0, .int .u32 0, .string ByteArray.empty, .string ByteArray.empty, .bool false] from rfl]
  have al := World.grownBy_alloc w4 (.cells #[.int .i64 o, .int .i64 a, .int .i64 b, .int .i64 0, .int .u32 0, .string ByteArray.empty, .string ByteArray.empty, .bool false] 65) none
  have HX5 := hid (RwAt.new w4 65 #[.int .i64 o, .int .i64 a, .int .i64 b, .int .i64 0, .int .u32 0, .string ByteArray.empty, .string ByteArray.empty, .bool false])
  have HG5 := hid (grown_trans (grown_trans HG3.out hg) al)
  clear hg al Hop HG3 HG2
  go_upto_region 5 with (fail)
  obtain ⟨X, hX⟩ : ∃ X, w4.heap.size = X := ⟨_, rfl⟩
  rw [hX] at HX5 ⊢
  clear hX
  generalize w4.alloc (.cells #[.int .i64 o, .int .i64 a, .int .i64 b, .int .i64 0, .int .u32 0, .string ByteArray.empty, .string ByteArray.empty, .bool false] 65) = w5 at HX5 HG5 ⊢
  go_wp2_with fail
  refine (rback_is _ _ HX.out.1 HX.out.2).mono ?_
  rintro e w6 ⟨rfl, hg⟩
  obtain ⟨t, v0, v1, v2, v3, v4, hbv, htt⟩ : ∃ t v0 v1 v2 v3 v4, backV (2147483648 + o * 16777216 + a * 65536 + b * 256) = .tuple #[.agg #[.int .i64 v0, .int .i64 v1, .int .i64 v2, .int .i64 v3, .int .u32 v4], .bool t] ∧ (t = true → v0 = o ∧ v1 = a ∧ v2 = b ∧ v3 = 0 ∧ v4 = 0 ∧ ((32 ≤ o ∧ o ≤ 44) ∨ (64 ≤ o ∧ o ≤ 67))) := by
    cases h : bkB (2147483648 + o * 16777216 + a * 65536 + b * 256) with
    | true => exact ⟨true, o, a, b, 0, 0, (HK.out h).1, fun _ => ⟨rfl, rfl, rfl, rfl, rfl, (HK.out h).2⟩⟩
    | false => exact ⟨false, 0, 0, 0, 0, 0, by unfold backV; rw [h]; rfl, fun h => by cases h⟩
  have Hbv := hid hbv
  have Htt := hid htt
  rw [hbv]
  have al := World.grownBy_alloc w6 (.cells #[.int .i64 v0, .int .i64 v1, .int .i64 v2, .int .i64 v3, .int .u32 v4] 44) none
  have HY6 := hid (RwAt.new w6 44 #[.int .i64 v0, .int .i64 v1, .int .i64 v2, .int .i64 v3, .int .u32 v4])
  have HX6 := hid ((HX5.out.kept0 hg).kept0 al)
  have HG6 := hid (grown_trans (grown_trans HG5.out hg) al)
  clear hg al hbv htt HX5 HG5
  go_upto_region 6 with (fail)
  obtain ⟨Y, hY⟩ : ∃ Y, w6.heap.size = Y := ⟨_, rfl⟩
  rw [hY] at HY6 ⊢
  clear hY
  generalize w6.alloc (.cells #[.int .i64 v0, .int .i64 v1, .int .i64 v2, .int .i64 v3, .int .u32 v4] 44) = w7 at HX6 HY6 HG6 ⊢
  go_wp2_with fail
  refine (wback_is _ _ HX.out.1 HX.out.2).mono ?_
  rintro e w8 ⟨rfl, hg⟩
  rw [Hbv.out]
  have al := World.grownBy_alloc w8 (.cells #[.int .i64 v0, .int .i64 v1, .int .i64 v2, .int .i64 v3, .int .u32 v4] 44) none
  have HZ8 := hid (RwAt.new w8 44 #[.int .i64 v0, .int .i64 v1, .int .i64 v2, .int .i64 v3, .int .u32 v4])
  have HX8 := hid ((HX6.out.kept0 hg).kept0 al)
  have HY8 := hid ((HY6.out.kept0 hg).kept0 al)
  have HG8 := hid (grown_trans (grown_trans HG6.out hg) al)
  clear hg al HX6 HY6 HG6
  go_upto_region 7 with (fail)
  obtain ⟨Z, hZ⟩ : ∃ Z, w8.heap.size = Z := ⟨_, rfl⟩
  rw [hZ] at HZ8 ⊢
  clear hZ
  generalize w8.alloc (.cells #[.int .i64 v0, .int .i64 v1, .int .i64 v2, .int .i64 v3, .int .u32 v4] 44) = w9 at HX8 HY8 HZ8 HG8 ⊢
  go_wp2_with fail
  refine (wback_is _ _ Hz.out.1 (by have := Hz.out.2; omega)).mono ?_
  rintro e w10 ⟨rfl, hg⟩
  rw [back_low Hz.out.2, noneV]
  have al := World.grownBy_alloc w10 (.cells #[.int .i64 0, .int .i64 0, .int .i64 0, .int .i64 0, .int .u32 0] 44) none
  have HX9 := hid ((HX8.out.kept0 hg).kept0 al)
  have HY9 := hid ((HY8.out.kept0 hg).kept0 al)
  have HZ9 := hid ((HZ8.out.kept0 hg).kept0 al)
  have HG9 := hid (grown_trans (grown_trans HG8.out hg) al)
  clear hg al HX8 HY8 HZ8 HG8
  go_upto_region 8 with (fail)
  generalize w10.alloc (.cells #[.int .i64 0, .int .i64 0, .int .i64 0, .int .i64 0, .int .u32 0] 44) = w11 at HX9 HY9 HZ9 HG9 ⊢
  clear hzl hzi B1 B2 B3
  cases t with
  | false =>
    go_wp2
    go_ret
    exact ⟨rfl, grown_below HG9.out⟩
  | true =>
    obtain ⟨rfl, rfl, rfl, rfl, rfl, hr⟩ := Htt.out rfl
    go_wp2_with (first
      | (refine wpList_load_rw_g (by kernel_rfl) 44 _ rfl rfl HZ9.out rfl Tryd.underlying44 info_ins9 ?_)
      | (refine wpList_load_rw_g (by kernel_rfl) 44 _ rfl rfl HY9.out rfl Tryd.underlying44 info_ins9 ?_)
      | fail)
    refine (sameI_yes _ _ _ _ _ _).mono ?_
    rintro e w12 ⟨rfl, hg⟩
    have HX10 := hid (HX9.out.kept0 hg)
    have HZ10 := hid (HZ9.out.kept0 hg)
    have HG10 := hid (grown_trans HG9.out hg)
    clear hg HX9 HY9 HZ9 HG9
    have x0 := HX10.out.cell 0 rfl
    have x1 := HX10.out.cell 1 rfl
    have x2 := HX10.out.cell 2 rfl
    have x3 := HX10.out.cell 3 rfl
    have x4 := HX10.out.cell 4 rfl
    go_wp2_with (first
      | (refine wpList_load_rw_g (by kernel_rfl) 44 _ rfl rfl HZ10.out rfl Tryd.underlying44 info_ins9 ?_)
      | fail)
    refine (sameI_yes _ _ _ _ _ _).mono ?_
    rintro e w13 ⟨rfl, hg⟩
    have HG11 := hid (grown_trans HG10.out hg)
    clear hg x0 x1 x2 x3 x4
    rcases hr with ⟨h1, h2⟩ | ⟨h1, h2⟩
    · have g1 : v0 ≥ 32 := h1
      go_wp2
      go_ret
      exact ⟨rfl, grown_below HG11.out⟩
    · have g1 : v0 ≥ 64 := h1
      have g2 : ¬ (v0 ≤ 44) := by omega
      have g3 : v0 ≥ 32 := by omega
      go_wp2
      go_ret
      exact ⟨rfl, grown_below HG11.out⟩
end Go.Proofs.YteanoklaammpiaaDoor

/- One way of the law AluNot. (Made by genANot.py.) -/
import Derived.Test.YtniahejdddoopaaANot0
namespace Go.Proofs.Ytniahejdddoopaa
open Go.RowKit
set_option maxRecDepth 100000 in
set_option maxHeartbeats 16000000 in
theorem anot_7 (op a b c imm : Int) (l : List Int) (W : World) (i0 : 0 ≤ imm) (i1 : imm ≤ 4294967295) (hl : Regs l) (p1 : 16 ≤ op) (p2 : op ≤ 23) (p6 : 1 ≤ op) (p7 : 11 < op) (p3 : (op == 14) = false) (p4 : (op == 15) = false) (p5 : (op == 24) = false) (hB : aluB op a b c imm = false) (hT : askB op a b c imm = true) :
    Calls Try.prog 6 #[.agg #[.int .i64 op, .int .i64 a, .int .i64 b, .int .i64 c, .int .u32 imm], .agg (wA l)] W fun e w' => e = .returned (.bool true) ∧ Below W.heap.size W w' := by
  obtain ⟨L, HL⟩ : ∃ L, Hid (aluL op a b c imm l = L) := ⟨_, hid rfl⟩
  have HB := hid hB
  clear hB
  obtain ⟨t1, HT⟩ : ∃ t1, Hid (takenB op a b c imm l = t1) := ⟨_, hid rfl⟩
  have HK := hid hT
  clear hT
  have E := i64_and15 a
  obtain ⟨A, hA⟩ : ∃ A, a % 16 = A := ⟨_, rfl⟩
  have a0 : 0 ≤ A := by omega
  have a1 : A < 16 := by omega
  rw [hA] at E
  clear hA
  obtain ⟨X, HX⟩ : ∃ X, Hid (regI l A = X) := ⟨_, hid rfl⟩
  obtain ⟨z, hz⟩ : ∃ z, (X == 0) = z := ⟨_, rfl⟩
  have bz := brz_any (l := l) a0 a1
  rw [HX.out, hz] at bz
  obtain ⟨z1, z2, z3, z4⟩ := bz
  have HZ1 := hid z1
  have HZ2 := hid z2
  have HZ3 := hid z3
  have HZ4 := hid z4
  clear z1 z2 z3 z4
  have Gx := hid (hl.get a0 a1)
  rw [HX.out] at Gx
  have HRl := hid hl
  have Hs := hid hl.info
  have Hq : Hid ((Try.prog.info? 29).map (·.size) = some 5) := hid (by kernel_rfl)
  have Hl : Hid (L.length = 16) := hid (by rw [← HL.out]; exact aluL_length hl)
  have Hs5 := hid (regs_len_info L Hl.out)
  have Hz : Hid (16 = (wA L).size) := hid (by rw [wA_size, Hl.out])
  have Hzz := hid hz
  clear hl hz
  go_enter Try.func6, Try.ntmps6
  go_wp2_with fail
  refine (first4_any _).mono ?_
  rintro e w1 ⟨rfl, hg⟩
  have HA1 : Hid (AAt W w1 op a b c imm l) := hid (AAt.new hg)
  clear hg
  go_wp2_with (first
    | (refine wpList_load_row rfl 29 _ rfl W.heap.size rfl _ _ _ _ HA1.out.hi Try.underlying29 rfl Hq.out ?_)
    | (refine wpList_load_row rfl 24 _ rfl (W.heap.size + 1) rfl _ _ _ _ HA1.out.hr Try.underlying24 rfl Hs.out ?_))
  refine (do_of op a b c imm HRl.out L false HL.out HB.out _).mono ?_
  rintro e w2 ⟨rfl, hg⟩
  have HA2 : Hid (AAt W (w2.alloc (.cells (wA L) 24)) op a b c imm l) := hid ((HA1.out.kept hg).kept (World.grownBy_alloc _ _ _))
  clear hg HA1
  go_wp2_with (first
    | (refine wpList_store_row rfl 24 _ _ rfl w2.heap.size _ rfl rfl _ _ (heap_alloc_last w2 _) Hs5.out Hz.out (wA_one _) ?_; rw [World.setRow_alloc_new])
    | (refine wpList_load_row rfl 29 _ rfl W.heap.size rfl _ _ _ _ HA2.out.hi Try.underlying29 rfl Hq.out ?_)
    | (refine wpList_load_row rfl 24 _ rfl (W.heap.size + 1) rfl _ _ _ _ HA2.out.hr Try.underlying24 rfl Hs.out ?_))
  refine (taken_of op a b c imm HRl.out t1 true HT.out HK.out _).mono ?_
  rintro e w3 ⟨rfl, hg⟩
  have HA3 : Hid (AAt W w3 op a b c imm l) := hid (HA2.out.kept hg)
  clear hg HA2
  have k0 := HA3.out.k0
  have k1 := HA3.out.k1
  clear HB HK HT HL
  go_upto_region 9 with (fail)
  go_wp2_with (first
      | (refine wpList_load_row rfl 24 _ rfl (W.heap.size + 1) rfl _ _ _ _ HA3.out.hr Try.underlying24 rfl Hs.out ?_))
  all_goals
    refine (taken_of 17 A 0 0 0 HRl.out z true HZ2.out HZ1.out _).mono ?_
    rintro e w4 ⟨rfl, hg⟩
    have HA4 : Hid (AAt W w4 op a b c imm l) := hid (HA3.out.kept hg)
    clear hg HA3 k0 k1
    have k1 := HA4.out.k1
    go_wp2_with (first
      | (refine wpList_load_row rfl 24 _ rfl (W.heap.size + 1) rfl _ _ _ _ HA4.out.hr Try.underlying24 rfl Hs.out ?_))
    refine (taken_of 18 A 0 0 0 HRl.out (!z) true HZ4.out HZ3.out _).mono ?_
    rintro e w5 ⟨rfl, hg⟩
    have HA5 : Hid (AAt W w5 op a b c imm l) := hid (HA4.out.kept hg)
    clear hg HA4 k1
    have k1 := HA5.out.k1
    have px := HA5.out.hr.cell Gx.out
    have hz := Hzz.out
    cases z
    all_goals
      go_wp2
      go_ret
      exact ⟨rfl, grown_below HA5.out.hg⟩
end Go.Proofs.Ytniahejdddoopaa

/- The walk of the law AluSays. -/
import Derived.Test.YtniahejdddoopaaALaw0
import Derived.Test.YtniahejdddoopaaAlu5
import Derived.Test.YtniahejdddoopaaAlu6
import Derived.Test.YtniahejdddoopaaAlu7
namespace Go.Proofs.Ytniahejdddoopaa
open Go.RowKit
/-- an instruction and registers that came in, boxed -/
structure AAt (W w1 : World) (op a b c imm : Int) (l : List Int) : Prop where
  hi : w1.heap[W.heap.size]? = some (.cells #[.int .i64 op, .int .i64 a, .int .i64 b, .int .i64 c, .int .u32 imm] 29 (0, 0))
  hr : RegAt w1 (W.heap.size + 1) l
  hg : W.grownBy w1 none
section
variable {W w1 w2 : World} {op a b c imm : Int} {l : List Int}
theorem AAt.new (hb : ((W.alloc (.cells #[.int .i64 op, .int .i64 a, .int .i64 b, .int .i64 c, .int .u32 imm] 29)).alloc (.cells (wA l) 24)).grownBy w1 none) : AAt W w1 op a b c imm l where
  hi := (hb.block _ (by simp; omega) (by simp)).trans ((heap_alloc_old _ _ (by simp)).trans (heap_alloc_last W _))
  hr := (hb.block _ (by simp) (by simp)).trans (heap_alloc2_new W _ _)
  hg := grown_trans (grown_trans (World.grownBy_alloc W _ none) (World.grownBy_alloc _ _ _)) hb
theorem AAt.kept (h : AAt W w1 op a b c imm l) (hg : w1.grownBy w2 none) : AAt W w2 op a b c imm l where
  hi := (hg.block _ (Array.getElem?_eq_some_iff.1 h.hi).1 (by simp)).trans h.hi
  hr := h.hr.kept0 hg
  hg := grown_trans h.hg hg
theorem AAt.k0 (h : AAt W w1 op a b c imm l) : w1.cell? ⟨W.heap.size, 0, none⟩ = some (.int .i64 op) := by rw [cell_of_row _ _ _ _ _ _ h.hi]; rfl
theorem AAt.k1 (h : AAt W w1 op a b c imm l) : w1.cell? ⟨W.heap.size, 1, none⟩ = some (.int .i64 a) := by rw [cell_of_row _ _ _ _ _ _ h.hi]; rfl
end
set_option maxHeartbeats 4000000 in
theorem asays_walk (op a b c imm : Int) (l : List Int) (W : World) (i0 : 0 ≤ imm) (i1 : imm ≤ 4294967295) (hl : Regs l) :
    Calls Try.prog 4 #[.agg #[.int .i64 op, .int .i64 a, .int .i64 b, .int .i64 c, .int .u32 imm], .agg (wA l)] W fun e w' => e = .returned (.bool true) ∧ Below W.heap.size W w' := by
  obtain ⟨L, HL⟩ : ∃ L, Hid (aluL op a b c imm l = L) := ⟨_, hid rfl⟩
  obtain ⟨b1, HB⟩ : ∃ b1, Hid (aluB op a b c imm = b1) := ⟨_, hid rfl⟩
  obtain ⟨t1, HT⟩ : ∃ t1, Hid (takenB op a b c imm l = t1) := ⟨_, hid rfl⟩
  obtain ⟨t2, HK⟩ : ∃ t2, Hid (askB op a b c imm = t2) := ⟨_, hid rfl⟩
  have HRl := hid hl
  have Hs := hid hl.info
  have Hq : Hid ((Try.prog.info? 29).map (·.size) = some 5) := hid (by kernel_rfl)
  have Hl : Hid (L.length = 16) := hid (by rw [← HL.out]; exact aluL_length hl)
  have Hs5 := hid (regs_len_info L Hl.out)
  have Hz : Hid (16 = (wA L).size) := hid (by rw [wA_size, Hl.out])
  have HRL : Hid (Regs L) := hid (by rw [← HL.out]; exact aluL_regs hl i0 (by omega))
  clear hl
  go_enter Try.func4, Try.ntmps4
  go_wp2_with fail
  refine (first4_any _).mono ?_
  rintro e w1 ⟨rfl, hg⟩
  have HA1 : Hid (AAt W w1 op a b c imm l) := hid (AAt.new hg)
  clear hg
  go_wp2_with (first
    | (refine wpList_load_row rfl 29 _ rfl W.heap.size rfl _ _ _ _ HA1.out.hi Try.underlying29 rfl Hq.out ?_)
    | (refine wpList_load_row rfl 24 _ rfl (W.heap.size + 1) rfl _ _ _ _ HA1.out.hr Try.underlying24 rfl Hs.out ?_))
  refine (do_of op a b c imm HRl.out L b1 HL.out HB.out _).mono ?_
  rintro e w2 ⟨rfl, hg⟩
  have HA2 : Hid (AAt W (w2.alloc (.cells (wA L) 24)) op a b c imm l) := hid ((HA1.out.kept hg).kept (World.grownBy_alloc _ _ _))
  have HD2 : Hid (RegAt (w2.alloc (.cells (wA L) 24)) w2.heap.size L) := hid (RegAt.new _ _)
  clear hg HA1
  go_wp2_with (first
    | (refine wpList_store_row rfl 24 _ _ rfl w2.heap.size _ rfl rfl _ _ (heap_alloc_last w2 _) Hs5.out Hz.out (wA_one _) ?_; rw [World.setRow_alloc_new])
    | (refine wpList_load_row rfl 29 _ rfl W.heap.size rfl _ _ _ _ HA2.out.hi Try.underlying29 rfl Hq.out ?_)
    | (refine wpList_load_row rfl 24 _ rfl (W.heap.size + 1) rfl _ _ _ _ HA2.out.hr Try.underlying24 rfl Hs.out ?_))
  refine (ralu_of op a b c imm HRl.out L b1 HL.out HB.out _).mono ?_
  rintro e w3 ⟨rfl, hg⟩
  have HA3 : Hid (AAt W (w3.alloc (.cells (wA L) 24)) op a b c imm l) := hid ((HA2.out.kept hg).kept (World.grownBy_alloc _ _ _))
  have HD3 : Hid (RegAt (w3.alloc (.cells (wA L) 24)) w2.heap.size L) := hid ((HD2.out.kept0 hg).kept0 (World.grownBy_alloc _ _ _))
  have HE3 : Hid (RegAt (w3.alloc (.cells (wA L) 24)) w3.heap.size L) := hid (RegAt.new _ _)
  clear hg HA2 HD2
  go_wp2_with (first
    | (refine wpList_store_row rfl 24 _ _ rfl w3.heap.size _ rfl rfl _ _ (heap_alloc_last w3 _) Hs5.out Hz.out (wA_one _) ?_; rw [World.setRow_alloc_new])
    | (refine wpList_load_row rfl 29 _ rfl W.heap.size rfl _ _ _ _ HA3.out.hi Try.underlying29 rfl Hq.out ?_)
    | (refine wpList_load_row rfl 24 _ rfl (W.heap.size + 1) rfl _ _ _ _ HA3.out.hr Try.underlying24 rfl Hs.out ?_))
  refine (taken_of op a b c imm HRl.out t1 t2 HT.out HK.out _).mono ?_
  rintro e w4 ⟨rfl, hg⟩
  have HA4 : Hid (AAt W w4 op a b c imm l) := hid (HA3.out.kept hg)
  have HD4 := hid (HD3.out.kept0 hg)
  have HE4 := hid (HE3.out.kept0 hg)
  clear hg HA3 HD3 HE3
  go_wp2_with (first
    | (refine wpList_load_row rfl 29 _ rfl W.heap.size rfl _ _ _ _ HA4.out.hi Try.underlying29 rfl Hq.out ?_)
    | (refine wpList_load_row rfl 24 _ rfl (W.heap.size + 1) rfl _ _ _ _ HA4.out.hr Try.underlying24 rfl Hs.out ?_))
  refine (rtaken_of op a b c imm HRl.out t1 t2 HT.out HK.out _).mono ?_
  rintro e w5 ⟨rfl, hg⟩
  have HA5 : Hid (AAt W w5 op a b c imm l) := hid (HA4.out.kept hg)
  have HD5 := hid (HD4.out.kept0 hg)
  have HE5 := hid (HE4.out.kept0 hg)
  clear hg HA4 HD4 HE4
  go_wp2_with (first
    | (refine wpList_load_row_wanted ?_ 24 _ rfl w2.heap.size rfl _ _ _ _ HD5.out Try.underlying24 rfl Hs5.out ?_; (kernel_rfl))
    | (refine wpList_load_row_wanted ?_ 24 _ rfl w3.heap.size rfl _ _ _ _ HE5.out Try.underlying24 rfl Hs5.out ?_; (kernel_rfl)))
  refine (same_regs HRL.out HRL.out true (by simp) _).mono ?_
  rintro e w6 ⟨rfl, hg⟩
  have HG6 := hid (grown_trans HA5.out.hg hg)
  clear hg
  go_wp2
  go_ret
  exact ⟨rfl, grown_below HG6.out⟩
end Go.Proofs.Ytniahejdddoopaa

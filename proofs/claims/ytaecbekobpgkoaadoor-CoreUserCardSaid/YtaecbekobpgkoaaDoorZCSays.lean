/- The walk of the law CoreSays. (Made by a program.) -/
import Derived.Test.YtaecbekobpgkoaaDoorZGFirst
import Derived.Test.YtaecbekobpgkoaaDoorZCore5
import Derived.Test.YtaecbekobpgkoaaDoorZRCore5
import Derived.Test.YtaecbekobpgkoaaDoorZGAluA
namespace Go.Proofs.YtaecbekobpgkoaaDoor
open Go.RowKit
/-- both memories lie apart -/
theorem mr_apart {w : World} {m b n c m' b' N : Nat} {xs ys : List Int} (h : MemAt w m b n c xs) (k : RefAt w m' b' N ys) : m ≠ m' ∧ m ≠ b' ∧ b ≠ m' ∧ b ≠ b' := by
  obtain ⟨cur, hb, _⟩ := h.hb
  refine ⟨?_, ?_, ?_, ?_⟩
  · rintro rfl
    have := h.hm.symm.trans k.hm
    injection this with this
    injection this with _ e
    exact absurd e (by decide)
  · rintro rfl
    have := h.hm.symm.trans k.hb
    injection this with this
    injection this with _ e
    exact absurd e (by decide)
  · rintro rfl
    have := hb.symm.trans k.hm
    injection this with this
    injection this with _ e
    exact absurd e (by decide)
  · rintro rfl
    have := hb.symm.trans k.hb
    injection this with this
    injection this with _ e
    exact absurd e (by decide)
section
variable {ops : Array Oper} {rest : List Oper} {o : Oper} {a : Act} {w : World} {Q : Exit → Act → World → Prop}
theorem wpList_load_rw_wanted (hgd : Region.wanted o (yielded ops a.tmps) = true) (t : TypeId) (p : Operand) (ho : o.op = .load t p) {g : Nat} (hx : a.eval p = .pointer (some ⟨g, 0, none⟩)) {cs : Array Value} (hg : RwAt w g t cs) {d : TypeDesc}
    (hd : d.isRow = true) (hu : Tryd.prog.underlying t = some d) (hi : (Tryd.prog.info? t).map (·.size) = some cs.size)
    (h : wpList Tryd.prog ops Q rest (a.put o.dst (.agg cs)) w) : wpList Tryd.prog ops Q (o :: rest) a w :=
  wpList_load_row_wanted hgd t p ho g hx _ _ _ d hg.blk hu (by cases d <;> first | rfl | cases hd) hi h
theorem wpList_load_cpu_wanted (hgd : Region.wanted o (yielded ops a.tmps) = true) (p : Operand) (ho : o.op = .load 46 p) {g : Nat} (hx : a.eval p = .pointer (some ⟨g, 0, none⟩)) {y : Cp} (hg : CpuAt w g y)
    (h : wpList Tryd.prog ops Q rest (a.put o.dst (.agg (cpuC y))) w) : wpList Tryd.prog ops Q (o :: rest) a w :=
  wpList_load_row_wanted hgd _ p ho g hx _ _ _ _ hg.blk Tryd.underlying46 rfl (cpu_size_info hg.len) h
end
set_option maxRecDepth 100000 in
set_option maxHeartbeats 8000000 in
theorem says_walk (v : Value) (ls : List Int) (raw : Bool) (root : Int) (x : Cp) (w u user : Bool) (W : World) (hs : SlAt W .u32 v ls) (hw : ∀ n ∈ ls, (Lit.int .u32 n).wf = true) (hl0 : ls.length ≤ maxLen)
    (_ : -9223372036854775808 ≤ root) (_ : root ≤ 9223372036854775807) (hx : CpOk x) :
    Calls Tryd.prog 4 #[v, .bool raw, .int .i64 root, .agg (cpuC x), .bool w, .bool u, .bool user] W fun e w' => e = .returned (.bool true) ∧ Below W.heap.size W w' := by
  have Hz := zero_cpu
  have Hz2 := zero_stop
  have Hz3 := zero_rstop
  have Hz4 := zero_ins
  obtain ⟨l, pc, ie, eie, epc, tv, cc, cd⟩ := x
  obtain ⟨p, c', rfl⟩ := hs.len
  have p0 : 0 ≤ pc := hx.pc0
  have p1 : pc < 4294967296 := by have : pc ≤ 4294967295 := hx.pc1; omega
  have HL : Hid (Regs l) := hid hx.regs
  have hux : U32s ls := fun n hn => by have := u32_bd (hw n hn); omega
  have HC0 := hid (CpuAt.new W (x := ⟨l, pc, ie, eie, epc, tv, cc, cd⟩) hx.regs.len)
  have HG0 := hid (grown_alloc (grown_refl W none) (.cells (cpuC ⟨l, pc, ie, eie, epc, tv, cc, cd⟩) 46))
  have HS0 := hid (hs.kept0 HG0.out)
  have HB0 : Hid (W.heap.size ≤ W.heap.size) := hid (Nat.le_refl _)
  have Hux := hid hux
  have Hl0 := hid hl0
  clear hs hw hl0 hx hux
  by_cases hlen : ls.length ≤ 384
  · have hl2 : ¬ (ls.length : Int) > 384 := by omega
    cases raw
    · obtain ⟨ys, hys⟩ : ∃ ys, mapW ls w u = ys := ⟨_, rfl⟩
      have HY := hid hys
      have HYl : Hid (ys.length = 384) := hid (by rw [← hys]; exact mapW_len ls w u)
      have Hu : Hid (U32s ys) := hid (by rw [← hys]; exact mapW_u32 Hux.out w u)
      obtain ⟨⟨fca, fad, fop, fa, fb, fc, fim, fln⟩, hf⟩ : ∃ s, fetchP ys ((24 : Nat) : Int) 0 pc user = s := ⟨_, rfl⟩
      obtain ⟨⟨y, ⟨oca, oad, oop, oa, ob, oc, oim, oln⟩, ms⟩, ho⟩ : ∃ o, onceP ys ((24 : Nat) : Int) 0 ⟨l, pc, ie, eie, epc, tv, cc, cd⟩ user = o := ⟨_, rfl⟩
      have HF := hid hf
      have HO := hid ho
      have HYr : Hid (Regs y.l) := hid (once_regs (n := 24) Hu.out HL.out ho)
      clear hys hf ho
      go_enter Tryd.func4, Tryd.ntmps4
      go_upto_region 1 with (fail)
      generalize W.alloc (.cells (cpuC ⟨l, pc, ie, eie, epc, tv, cc, cd⟩) 46) = w1 at HC0 HG0 HS0 ⊢
      generalize W.heap.size = B0 at HC0 ⊢
      go_wp2_with fail
      refine (first7_any _).mono ?_; rintro e w2 ⟨rfl, hg⟩
      replace HC0 := hid (HC0.out.kept0 hg)
      replace HS0 := hid (HS0.out.kept0 hg)
      replace HG0 := hid (grown_trans HG0.out hg)
      clear hg
      go_wp2_with fail
      refine (mapped_any _ ls w u _ HS0.out Hl0.out).mono ?_; rintro e w3 ⟨g, rfl, hg0, hblk, hg⟩
      rw [HY.out] at hblk
      have HS1 : Hid (SlAt w3 .u32 (.slice (some ⟨g, 0, none⟩) 384 384) ys) := hid (by
        have := SlAt.whole (k := .u32) (c := 384) (xs := ys) hblk
        rwa [HYl.out] at this)
      replace HC0 := hid (HC0.out.kept0 hg)
      replace HG0 := hid (grown_trans HG0.out hg)
      clear hblk hg hg0 HS0
      go_wp2_with fail
      refine (memory7_any _ ys _ HS1.out (Nat.le_of_eq HYl.out)).mono ?_; rintro e w4 ⟨m, b, m', b', rfl, hm, hb, hb', hM, hR, hg⟩
      rw [layX_full HYl.out] at hM hR
      have HNE := hid (mr_apart hM hR)
      have HM := hid hM
      have HR := hid hR
      have HBB : Hid (B0 < b ∧ B0 < b') := hid (by have := HC0.out.lt; omega)
      have HBW : Hid (W.heap.size ≤ b ∧ W.heap.size ≤ b') := hid (by have := HG0.out.size; omega)
      replace HC0 := hid (HC0.out.kept0 hg)
      replace HG0 := hid (grown_trans HG0.out hg)
      clear hM hR hm hb hb' hg HS1
      have kp := HC0.out.pc
      go_wp2_with fail
      refine (cfetch_of HM.out Hu.out 0 pc p0 p1 user fca fad fop fa fb fc fim fln HF.out).mono ?_; rintro e w5 ⟨rfl, hg⟩
      clear kp
      replace HC0 := hid (HC0.out.kept0 hg)
      replace HM := hid (HM.out.kept0 hg)
      replace HR := hid (HR.out.kept0 hg)
      replace HG0 := hid (grown_trans HG0.out hg)
      clear hg
      have HN := hid (new_is w5 35 (inC fop fa fb fc fim) (spC fca fad fop fa fb fc fim fln))
      go_upto_region 13 with (first
        | (refine wpList_store_rw rfl 27 _ _ rfl rfl rfl ((RwAt.new _ _ _).alloc _) (by kernel_rfl) rfl (in_one _ _ _ _ _) ?_)
        | (refine wpList_store_rw rfl 35 _ _ rfl rfl rfl ((RwAt.new2 _ _ _ _).rowOther _ _ (by omega)) (by kernel_rfl) rfl (sp_one _ _ _ _ _ _ _ _) ?_)
        | fail)
      change Code.wp _ _ _ _ (isW w5 35 (inC fop fa fb fc fim) (spC fca fad fop fa fb fc fim fln))
      have HI1 := hid HN.out.1
      have HS1 := hid HN.out.2.1
      replace HC0 := hid (HC0.out.kept0 HN.out.2.2)
      replace HM := hid (HM.out.kept0 HN.out.2.2)
      replace HR := hid (HR.out.kept0 HN.out.2.2)
      replace HG0 := hid (grown_trans HG0.out HN.out.2.2)
      clear HN
      generalize isW w5 35 (inC fop fa fb fc fim) (spC fca fad fop fa fb fc fim fln) = w5b at HI1 HS1 HC0 HM HR HG0 ⊢
      obtain ⟨S1, hB2⟩ : ∃ B, B = w5.heap.size + 1 := ⟨_, rfl⟩
      rw [← hB2] at HS1 ⊢
      clear hB2
      generalize w5.heap.size = I1 at HI1 ⊢
      have kp := HC0.out.pc
      go_wp2_with fail
      refine (rfetch_of (n := 24) HR.out rfl (by decide) Hu.out 0 pc p0 p1 user fca fad fop fa fb fc fim fln HF.out).mono ?_; rintro e w6 ⟨rfl, hg⟩
      clear kp
      replace HC0 := hid (HC0.out.kept0 hg)
      replace HM := hid (HM.out.kept0 hg)
      replace HR := hid (HR.out.kept0 hg)
      replace HI1 := hid (HI1.out.kept0 hg)
      replace HS1 := hid (HS1.out.kept0 hg)
      replace HG0 := hid (grown_trans HG0.out hg)
      clear hg
      have HN := hid (new_is w6 47 (inC fop fa fb fc fim) (spC fca fad fop fa fb fc fim fln))
      go_upto_region 14 with (first
        | (refine wpList_store_rw rfl 27 _ _ rfl rfl rfl ((RwAt.new _ _ _).alloc _) (by kernel_rfl) rfl (in_one _ _ _ _ _) ?_)
        | (refine wpList_store_rw rfl 47 _ _ rfl rfl rfl ((RwAt.new2 _ _ _ _).rowOther _ _ (by omega)) (by kernel_rfl) rfl (sp_one _ _ _ _ _ _ _ _) ?_)
        | fail)
      change Code.wp _ _ _ _ (isW w6 47 (inC fop fa fb fc fim) (spC fca fad fop fa fb fc fim fln))
      have HI2 := hid HN.out.1
      have HS2 := hid HN.out.2.1
      replace HC0 := hid (HC0.out.kept0 HN.out.2.2)
      replace HM := hid (HM.out.kept0 HN.out.2.2)
      replace HR := hid (HR.out.kept0 HN.out.2.2)
      replace HI1 := hid (HI1.out.kept0 HN.out.2.2)
      replace HS1 := hid (HS1.out.kept0 HN.out.2.2)
      replace HG0 := hid (grown_trans HG0.out HN.out.2.2)
      clear HN
      generalize isW w6 47 (inC fop fa fb fc fim) (spC fca fad fop fa fb fc fim fln) = w6b at HI2 HS2 HC0 HM HR HI1 HS1 HG0 ⊢
      obtain ⟨S2, hB2⟩ : ∃ B, B = w6.heap.size + 1 := ⟨_, rfl⟩
      rw [← hB2] at HS2 ⊢
      clear hB2
      generalize w6.heap.size = I2 at HI2 ⊢
      go_wp2_with (first
        | (refine wpList_load_rw rfl 27 _ rfl rfl HI1.out rfl Tryd.underlying27 (by kernel_rfl) ?_)
        | (refine wpList_load_rw rfl 27 _ rfl rfl HI2.out rfl Tryd.underlying27 (by kernel_rfl) ?_)
        | fail)
      refine (same_ins fop fa fb fc fim _).mono ?_; rintro e w7 ⟨rfl, hg⟩
      replace HC0 := hid (HC0.out.kept0 hg)
      replace HM := hid (HM.out.kept0 hg)
      replace HR := hid (HR.out.kept0 hg)
      replace HS1 := hid (HS1.out.kept0 hg)
      replace HS2 := hid (HS2.out.kept0 hg)
      replace HG0 := hid (grown_trans HG0.out hg)
      clear hg HI1 HI2
      go_wp2_with (first
        | (refine wpList_load_rw_wanted (by kernel_rfl) 35 _ rfl rfl HS1.out rfl Tryd.underlying35 (by kernel_rfl) ?_)
        | (refine wpList_load_rw_wanted (by kernel_rfl) 47 _ rfl rfl HS2.out rfl Tryd.underlying47 (by kernel_rfl) ?_)
        | fail)
      refine (stops7_any).mono ?_; rintro e w8 ⟨rfl, hg⟩
      replace HC0 := hid (HC0.out.kept0 hg)
      replace HM := hid (HM.out.kept0 hg)
      replace HR := hid (HR.out.kept0 hg)
      replace HG0 := hid (grown_trans HG0.out hg)
      clear hg HS1 HS2
      go_wp2_with (first
        | (refine wpList_load_cpu rfl _ rfl rfl HC0.out ?_)
        | fail)
      refine (once_of HM.out Hu.out HL.out p0 p1 0 user y oca oad oop oa ob oc oim oln ms HO.out).mono ?_; rintro e w9 ⟨rfl, hM, hg⟩
      replace HM := hid hM
      replace HC0 := hid (HC0.out.kept hg (by have := HBB.out; simp; omega))
      replace HR := hid (HR.out.kept hg (by simpa using HNE.out.2.2.1.symm) (by simpa using HNE.out.2.2.2.symm))
      replace HG0 := hid (grown_new' (grown_trans (grown_none HG0.out) hg) (fun k hk => by obtain rfl := Option.some.inj hk; exact HBW.out.1))
      clear hM hg
      have HN := hid (new_cs w9 35 (y := y) HYr.out.len (spC oca oad oop oa ob oc oim oln))
      go_upto_region 17 with (first
        | (refine wpList_store_cpu rfl _ _ rfl rfl rfl ((CpuAt.new (x := zeroP) w9 rfl).alloc _) HYr.out.len ?_)
        | (refine wpList_store_rw rfl 35 _ _ rfl rfl rfl ((RwAt.new2 _ _ _ _).rowOther _ _ (by omega)) (by kernel_rfl) rfl (sp_one _ _ _ _ _ _ _ _) ?_)
        | fail)
      change Code.wp _ _ _ _ (csW w9 35 y (spC oca oad oop oa ob oc oim oln))
      have HC1 := hid HN.out.1
      have HS3 := hid HN.out.2.1
      replace HC0 := hid (HC0.out.kept0 HN.out.2.2)
      replace HM := hid (HM.out.kept0 HN.out.2.2)
      replace HR := hid (HR.out.kept0 HN.out.2.2)
      replace HG0 := hid (grown_trans HG0.out HN.out.2.2)
      clear HN
      generalize csW w9 35 y (spC oca oad oop oa ob oc oim oln) = w9b at HC1 HS3 HC0 HM HR HG0 ⊢
      obtain ⟨S3, hB2⟩ : ∃ B, B = w9.heap.size + 1 := ⟨_, rfl⟩
      rw [← hB2] at HS3 ⊢
      clear hB2
      generalize w9.heap.size = C1 at HC1 ⊢
      have HCb : Hid (C1 ≠ b' ∧ S3 ≠ b') := hid (by
        refine ⟨?_, ?_⟩
        · rintro rfl
          have := HC1.out.blk.symm.trans HR.out.hb
          injection this with this
          injection this with _ e
          exact absurd e (by decide)
        · rintro rfl
          have := HS3.out.blk.symm.trans HR.out.hb
          injection this with this
          injection this with _ e
          exact absurd e (by decide))
      go_wp2_with (first
        | (refine wpList_load_cpu rfl _ rfl rfl HC0.out ?_)
        | fail)
      refine (ronce_of (n := 24) HR.out rfl (by decide) Hu.out HL.out p0 p1 0 user y oca oad oop oa ob oc oim oln ms HO.out).mono ?_; rintro e wa ⟨rfl, hR, hg⟩
      replace HR := hid hR
      replace HC1 := hid (HC1.out.kept hg (by simpa using HCb.out.1))
      replace HS3 := hid (HS3.out.kept hg (by simpa using HCb.out.2))
      replace HM := hid (HM.out.kept hg (by simpa using HNE.out.2.1) (by simpa using HNE.out.2.2.2))
      replace HG0 := hid (grown_new' (grown_trans (grown_none HG0.out) hg) (fun k hk => by obtain rfl := Option.some.inj hk; exact HBW.out.2))
      clear hR hg HC0
      have HN := hid (new_cs wa 47 (y := y) HYr.out.len (spC oca oad oop oa ob oc oim oln))
      go_upto_region 18 with (first
        | (refine wpList_store_cpu rfl _ _ rfl rfl rfl ((CpuAt.new (x := zeroP) wa rfl).alloc _) HYr.out.len ?_)
        | (refine wpList_store_rw rfl 47 _ _ rfl rfl rfl ((RwAt.new2 _ _ _ _).rowOther _ _ (by omega)) (by kernel_rfl) rfl (sp_one _ _ _ _ _ _ _ _) ?_)
        | fail)
      change Code.wp _ _ _ _ (csW wa 47 y (spC oca oad oop oa ob oc oim oln))
      have HC2 := hid HN.out.1
      have HS4 := hid HN.out.2.1
      replace HC1 := hid (HC1.out.kept0 HN.out.2.2)
      replace HS3 := hid (HS3.out.kept0 HN.out.2.2)
      replace HM := hid (HM.out.kept0 HN.out.2.2)
      replace HR := hid (HR.out.kept0 HN.out.2.2)
      replace HG0 := hid (grown_trans HG0.out HN.out.2.2)
      clear HN
      generalize csW wa 47 y (spC oca oad oop oa ob oc oim oln) = wab at HC2 HS4 HC1 HS3 HM HR HG0 ⊢
      obtain ⟨S4, hB2⟩ : ∃ B, B = wa.heap.size + 1 := ⟨_, rfl⟩
      rw [← hB2] at HS4 ⊢
      clear hB2
      generalize wa.heap.size = C2 at HC2 ⊢
      go_wp2_with (first
        | (refine wpList_load_cpu_wanted (by kernel_rfl) _ rfl rfl HC1.out ?_)
        | (refine wpList_load_cpu_wanted (by kernel_rfl) _ rfl rfl HC2.out ?_)
        | fail)
      refine (same_cpu HYr.out _).mono ?_; rintro e wb ⟨rfl, hg⟩
      replace HM := hid (HM.out.kept0 hg)
      replace HR := hid (HR.out.kept0 hg)
      replace HS3 := hid (HS3.out.kept0 hg)
      replace HS4 := hid (HS4.out.kept0 hg)
      replace HG0 := hid (grown_trans HG0.out hg)
      clear hg HC1 HC2
      go_wp2_with (first
        | (refine wpList_load_rw_wanted (by kernel_rfl) 35 _ rfl rfl HS3.out rfl Tryd.underlying35 (by kernel_rfl) ?_)
        | (refine wpList_load_rw_wanted (by kernel_rfl) 47 _ rfl rfl HS4.out rfl Tryd.underlying47 (by kernel_rfl) ?_)
        | fail)
      refine (stops7_any).mono ?_; rintro e wc ⟨rfl, hg⟩
      replace HM := hid (HM.out.kept0 hg)
      replace HR := hid (HR.out.kept0 hg)
      replace HG0 := hid (grown_trans HG0.out hg)
      clear hg HS3 HS4
      go_wp2_with fail
      refine (same7_any HM.out HR.out).mono ?_; rintro e wd ⟨rfl, hg⟩
      replace HG0 := hid (grown_trans HG0.out hg)
      clear hg
      go_wp2
      go_ret
      exact ⟨rfl, grown_below HG0.out⟩
    · obtain ⟨ys, hys⟩ : ∃ ys, layX ls ls.length = ys := ⟨_, rfl⟩
      have HY := hid hys
      have HYl : Hid (ys.length = 384) := hid (by rw [← hys]; exact layX_length (Nat.le_refl _) hlen)
      have Hu : Hid (U32s ys) := hid (by rw [← hys]; exact layX_u32 Hux.out)
      obtain ⟨⟨fca, fad, fop, fa, fb, fc, fim, fln⟩, hf⟩ : ∃ s, fetchP ys ((24 : Nat) : Int) root pc user = s := ⟨_, rfl⟩
      obtain ⟨⟨y, ⟨oca, oad, oop, oa, ob, oc, oim, oln⟩, ms⟩, ho⟩ : ∃ o, onceP ys ((24 : Nat) : Int) root ⟨l, pc, ie, eie, epc, tv, cc, cd⟩ user = o := ⟨_, rfl⟩
      have HF := hid hf
      have HO := hid ho
      have HYr : Hid (Regs y.l) := hid (once_regs (n := 24) Hu.out HL.out ho)
      clear hys hf ho
      go_enter Tryd.func4, Tryd.ntmps4
      go_upto_region 1 with (fail)
      generalize W.alloc (.cells (cpuC ⟨l, pc, ie, eie, epc, tv, cc, cd⟩) 46) = w1 at HC0 HG0 HS0 ⊢
      generalize W.heap.size = B0 at HC0 ⊢
      go_wp2_with fail
      refine (first7_any _).mono ?_; rintro e w2 ⟨rfl, hg⟩
      replace HC0 := hid (HC0.out.kept0 hg)
      replace HS0 := hid (HS0.out.kept0 hg)
      replace HG0 := hid (grown_trans HG0.out hg)
      clear hg
      go_wp2_with fail
      refine (memory7_any _ ls _ HS0.out hlen).mono ?_; rintro e w4 ⟨m, b, m', b', rfl, hm, hb, hb', hM, hR, hg⟩
      rw [HY.out] at hM hR
      have HNE := hid (mr_apart hM hR)
      have HM := hid hM
      have HR := hid hR
      have HBB : Hid (B0 < b ∧ B0 < b') := hid (by have := HC0.out.lt; omega)
      have HBW : Hid (W.heap.size ≤ b ∧ W.heap.size ≤ b') := hid (by have := HG0.out.size; omega)
      replace HC0 := hid (HC0.out.kept0 hg)
      replace HG0 := hid (grown_trans HG0.out hg)
      clear hM hR hm hb hb' hg HS0
      have kp := HC0.out.pc
      go_wp2_with fail
      refine (cfetch_of HM.out Hu.out root pc p0 p1 user fca fad fop fa fb fc fim fln HF.out).mono ?_; rintro e w5 ⟨rfl, hg⟩
      clear kp
      replace HC0 := hid (HC0.out.kept0 hg)
      replace HM := hid (HM.out.kept0 hg)
      replace HR := hid (HR.out.kept0 hg)
      replace HG0 := hid (grown_trans HG0.out hg)
      clear hg
      have HN := hid (new_is w5 35 (inC fop fa fb fc fim) (spC fca fad fop fa fb fc fim fln))
      go_upto_region 13 with (first
        | (refine wpList_store_rw rfl 27 _ _ rfl rfl rfl ((RwAt.new _ _ _).alloc _) (by kernel_rfl) rfl (in_one _ _ _ _ _) ?_)
        | (refine wpList_store_rw rfl 35 _ _ rfl rfl rfl ((RwAt.new2 _ _ _ _).rowOther _ _ (by omega)) (by kernel_rfl) rfl (sp_one _ _ _ _ _ _ _ _) ?_)
        | fail)
      change Code.wp _ _ _ _ (isW w5 35 (inC fop fa fb fc fim) (spC fca fad fop fa fb fc fim fln))
      have HI1 := hid HN.out.1
      have HS1 := hid HN.out.2.1
      replace HC0 := hid (HC0.out.kept0 HN.out.2.2)
      replace HM := hid (HM.out.kept0 HN.out.2.2)
      replace HR := hid (HR.out.kept0 HN.out.2.2)
      replace HG0 := hid (grown_trans HG0.out HN.out.2.2)
      clear HN
      generalize isW w5 35 (inC fop fa fb fc fim) (spC fca fad fop fa fb fc fim fln) = w5b at HI1 HS1 HC0 HM HR HG0 ⊢
      obtain ⟨S1, hB2⟩ : ∃ B, B = w5.heap.size + 1 := ⟨_, rfl⟩
      rw [← hB2] at HS1 ⊢
      clear hB2
      generalize w5.heap.size = I1 at HI1 ⊢
      have kp := HC0.out.pc
      go_wp2_with fail
      refine (rfetch_of (n := 24) HR.out rfl (by decide) Hu.out root pc p0 p1 user fca fad fop fa fb fc fim fln HF.out).mono ?_; rintro e w6 ⟨rfl, hg⟩
      clear kp
      replace HC0 := hid (HC0.out.kept0 hg)
      replace HM := hid (HM.out.kept0 hg)
      replace HR := hid (HR.out.kept0 hg)
      replace HI1 := hid (HI1.out.kept0 hg)
      replace HS1 := hid (HS1.out.kept0 hg)
      replace HG0 := hid (grown_trans HG0.out hg)
      clear hg
      have HN := hid (new_is w6 47 (inC fop fa fb fc fim) (spC fca fad fop fa fb fc fim fln))
      go_upto_region 14 with (first
        | (refine wpList_store_rw rfl 27 _ _ rfl rfl rfl ((RwAt.new _ _ _).alloc _) (by kernel_rfl) rfl (in_one _ _ _ _ _) ?_)
        | (refine wpList_store_rw rfl 47 _ _ rfl rfl rfl ((RwAt.new2 _ _ _ _).rowOther _ _ (by omega)) (by kernel_rfl) rfl (sp_one _ _ _ _ _ _ _ _) ?_)
        | fail)
      change Code.wp _ _ _ _ (isW w6 47 (inC fop fa fb fc fim) (spC fca fad fop fa fb fc fim fln))
      have HI2 := hid HN.out.1
      have HS2 := hid HN.out.2.1
      replace HC0 := hid (HC0.out.kept0 HN.out.2.2)
      replace HM := hid (HM.out.kept0 HN.out.2.2)
      replace HR := hid (HR.out.kept0 HN.out.2.2)
      replace HI1 := hid (HI1.out.kept0 HN.out.2.2)
      replace HS1 := hid (HS1.out.kept0 HN.out.2.2)
      replace HG0 := hid (grown_trans HG0.out HN.out.2.2)
      clear HN
      generalize isW w6 47 (inC fop fa fb fc fim) (spC fca fad fop fa fb fc fim fln) = w6b at HI2 HS2 HC0 HM HR HI1 HS1 HG0 ⊢
      obtain ⟨S2, hB2⟩ : ∃ B, B = w6.heap.size + 1 := ⟨_, rfl⟩
      rw [← hB2] at HS2 ⊢
      clear hB2
      generalize w6.heap.size = I2 at HI2 ⊢
      go_wp2_with (first
        | (refine wpList_load_rw rfl 27 _ rfl rfl HI1.out rfl Tryd.underlying27 (by kernel_rfl) ?_)
        | (refine wpList_load_rw rfl 27 _ rfl rfl HI2.out rfl Tryd.underlying27 (by kernel_rfl) ?_)
        | fail)
      refine (same_ins fop fa fb fc fim _).mono ?_; rintro e w7 ⟨rfl, hg⟩
      replace HC0 := hid (HC0.out.kept0 hg)
      replace HM := hid (HM.out.kept0 hg)
      replace HR := hid (HR.out.kept0 hg)
      replace HS1 := hid (HS1.out.kept0 hg)
      replace HS2 := hid (HS2.out.kept0 hg)
      replace HG0 := hid (grown_trans HG0.out hg)
      clear hg HI1 HI2
      go_wp2_with (first
        | (refine wpList_load_rw_wanted (by kernel_rfl) 35 _ rfl rfl HS1.out rfl Tryd.underlying35 (by kernel_rfl) ?_)
        | (refine wpList_load_rw_wanted (by kernel_rfl) 47 _ rfl rfl HS2.out rfl Tryd.underlying47 (by kernel_rfl) ?_)
        | fail)
      refine (stops7_any).mono ?_; rintro e w8 ⟨rfl, hg⟩
      replace HC0 := hid (HC0.out.kept0 hg)
      replace HM := hid (HM.out.kept0 hg)
      replace HR := hid (HR.out.kept0 hg)
      replace HG0 := hid (grown_trans HG0.out hg)
      clear hg HS1 HS2
      go_wp2_with (first
        | (refine wpList_load_cpu rfl _ rfl rfl HC0.out ?_)
        | fail)
      refine (once_of HM.out Hu.out HL.out p0 p1 root user y oca oad oop oa ob oc oim oln ms HO.out).mono ?_; rintro e w9 ⟨rfl, hM, hg⟩
      replace HM := hid hM
      replace HC0 := hid (HC0.out.kept hg (by have := HBB.out; simp; omega))
      replace HR := hid (HR.out.kept hg (by simpa using HNE.out.2.2.1.symm) (by simpa using HNE.out.2.2.2.symm))
      replace HG0 := hid (grown_new' (grown_trans (grown_none HG0.out) hg) (fun k hk => by obtain rfl := Option.some.inj hk; exact HBW.out.1))
      clear hM hg
      have HN := hid (new_cs w9 35 (y := y) HYr.out.len (spC oca oad oop oa ob oc oim oln))
      go_upto_region 17 with (first
        | (refine wpList_store_cpu rfl _ _ rfl rfl rfl ((CpuAt.new (x := zeroP) w9 rfl).alloc _) HYr.out.len ?_)
        | (refine wpList_store_rw rfl 35 _ _ rfl rfl rfl ((RwAt.new2 _ _ _ _).rowOther _ _ (by omega)) (by kernel_rfl) rfl (sp_one _ _ _ _ _ _ _ _) ?_)
        | fail)
      change Code.wp _ _ _ _ (csW w9 35 y (spC oca oad oop oa ob oc oim oln))
      have HC1 := hid HN.out.1
      have HS3 := hid HN.out.2.1
      replace HC0 := hid (HC0.out.kept0 HN.out.2.2)
      replace HM := hid (HM.out.kept0 HN.out.2.2)
      replace HR := hid (HR.out.kept0 HN.out.2.2)
      replace HG0 := hid (grown_trans HG0.out HN.out.2.2)
      clear HN
      generalize csW w9 35 y (spC oca oad oop oa ob oc oim oln) = w9b at HC1 HS3 HC0 HM HR HG0 ⊢
      obtain ⟨S3, hB2⟩ : ∃ B, B = w9.heap.size + 1 := ⟨_, rfl⟩
      rw [← hB2] at HS3 ⊢
      clear hB2
      generalize w9.heap.size = C1 at HC1 ⊢
      have HCb : Hid (C1 ≠ b' ∧ S3 ≠ b') := hid (by
        refine ⟨?_, ?_⟩
        · rintro rfl
          have := HC1.out.blk.symm.trans HR.out.hb
          injection this with this
          injection this with _ e
          exact absurd e (by decide)
        · rintro rfl
          have := HS3.out.blk.symm.trans HR.out.hb
          injection this with this
          injection this with _ e
          exact absurd e (by decide))
      go_wp2_with (first
        | (refine wpList_load_cpu rfl _ rfl rfl HC0.out ?_)
        | fail)
      refine (ronce_of (n := 24) HR.out rfl (by decide) Hu.out HL.out p0 p1 root user y oca oad oop oa ob oc oim oln ms HO.out).mono ?_; rintro e wa ⟨rfl, hR, hg⟩
      replace HR := hid hR
      replace HC1 := hid (HC1.out.kept hg (by simpa using HCb.out.1))
      replace HS3 := hid (HS3.out.kept hg (by simpa using HCb.out.2))
      replace HM := hid (HM.out.kept hg (by simpa using HNE.out.2.1) (by simpa using HNE.out.2.2.2))
      replace HG0 := hid (grown_new' (grown_trans (grown_none HG0.out) hg) (fun k hk => by obtain rfl := Option.some.inj hk; exact HBW.out.2))
      clear hR hg HC0
      have HN := hid (new_cs wa 47 (y := y) HYr.out.len (spC oca oad oop oa ob oc oim oln))
      go_upto_region 18 with (first
        | (refine wpList_store_cpu rfl _ _ rfl rfl rfl ((CpuAt.new (x := zeroP) wa rfl).alloc _) HYr.out.len ?_)
        | (refine wpList_store_rw rfl 47 _ _ rfl rfl rfl ((RwAt.new2 _ _ _ _).rowOther _ _ (by omega)) (by kernel_rfl) rfl (sp_one _ _ _ _ _ _ _ _) ?_)
        | fail)
      change Code.wp _ _ _ _ (csW wa 47 y (spC oca oad oop oa ob oc oim oln))
      have HC2 := hid HN.out.1
      have HS4 := hid HN.out.2.1
      replace HC1 := hid (HC1.out.kept0 HN.out.2.2)
      replace HS3 := hid (HS3.out.kept0 HN.out.2.2)
      replace HM := hid (HM.out.kept0 HN.out.2.2)
      replace HR := hid (HR.out.kept0 HN.out.2.2)
      replace HG0 := hid (grown_trans HG0.out HN.out.2.2)
      clear HN
      generalize csW wa 47 y (spC oca oad oop oa ob oc oim oln) = wab at HC2 HS4 HC1 HS3 HM HR HG0 ⊢
      obtain ⟨S4, hB2⟩ : ∃ B, B = wa.heap.size + 1 := ⟨_, rfl⟩
      rw [← hB2] at HS4 ⊢
      clear hB2
      generalize wa.heap.size = C2 at HC2 ⊢
      go_wp2_with (first
        | (refine wpList_load_cpu_wanted (by kernel_rfl) _ rfl rfl HC1.out ?_)
        | (refine wpList_load_cpu_wanted (by kernel_rfl) _ rfl rfl HC2.out ?_)
        | fail)
      refine (same_cpu HYr.out _).mono ?_; rintro e wb ⟨rfl, hg⟩
      replace HM := hid (HM.out.kept0 hg)
      replace HR := hid (HR.out.kept0 hg)
      replace HS3 := hid (HS3.out.kept0 hg)
      replace HS4 := hid (HS4.out.kept0 hg)
      replace HG0 := hid (grown_trans HG0.out hg)
      clear hg HC1 HC2
      go_wp2_with (first
        | (refine wpList_load_rw_wanted (by kernel_rfl) 35 _ rfl rfl HS3.out rfl Tryd.underlying35 (by kernel_rfl) ?_)
        | (refine wpList_load_rw_wanted (by kernel_rfl) 47 _ rfl rfl HS4.out rfl Tryd.underlying47 (by kernel_rfl) ?_)
        | fail)
      refine (stops7_any).mono ?_; rintro e wc ⟨rfl, hg⟩
      replace HM := hid (HM.out.kept0 hg)
      replace HR := hid (HR.out.kept0 hg)
      replace HG0 := hid (grown_trans HG0.out hg)
      clear hg HS3 HS4
      go_wp2_with fail
      refine (same7_any HM.out HR.out).mono ?_; rintro e wd ⟨rfl, hg⟩
      replace HG0 := hid (grown_trans HG0.out hg)
      clear hg
      go_wp2
      go_ret
      exact ⟨rfl, grown_below HG0.out⟩
  · have h5 : (ls.length : Int) > 384 := by omega
    go_enter Tryd.func4, Tryd.ntmps4
    go_wp2_with fail
    refine (first7_any _).mono ?_; rintro e w1 ⟨rfl, hg⟩
    have HG1 := hid (grown_trans HG0.out hg); clear hg
    go_wp2
    go_ret
    exact ⟨rfl, grown_below HG1.out⟩
end Go.Proofs.YtaecbekobpgkoaaDoor

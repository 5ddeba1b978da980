/- What would interrupt a processor (package trap; the document's own Waits): contracts. -/
import Derived.Test.YtkkbhifplbleiaaGreatDoorZGAluA
import Derived.Test.YtkkbhifplbleiaaGreatDoorZGDev
import Derived.Deep.Cut
import Derived.StillTailTactics
namespace Go.Proofs.YtkkbhifplbleiaaGreatDoor
open Go.RowKit
/-- the cause: whether it may, whether the timer is due, how many keys wait, whether there is a port -/
def waitV (ie due : Bool) (n : Nat) (port : Bool) : Int := if ie then (if due then 2 else if 0 < n then 3 else if port then 5 else 0) else 0
section
variable {w : World} {B d : Nat} {x : DvS} {v : Value} {c : Cp}
set_option maxHeartbeats 1000000 in
theorem waits_any (h : DevAt w B d x v) (hl : c.l.length = 16) (now : Int) (f0 : -9223372036854775808 ≤ x.fr) (f1 : x.fr ≤ 9223372036854775807) (a0 : 0 ≤ x.af) (a1 : x.af ≤ 4294967295) (n0 : -9223372036854775808 ≤ now) (n1 : now ≤ 9223372036854775807) (r : Bool) (hr : dueB x.fr x.af now = r) (n : Nat) (hn : x.Q.length = n) (port : Bool) (V : Int) (hV : waitV c.ie r n port = V) :
    Calls Tryz.prog 69 #[.agg (cpuC c), .pointer (some ⟨d, 0, none⟩), .int .i64 now, .bool port] w fun e w' => e = .returned (.int .i64 V) ∧ w.grownBy w' none := by
  have HA := hid (CpuAt.new w hl)
  have HG := hid (grown_alloc (grown_refl w none) (.cells (cpuC c) 39))
  have HD := hid (h.kept0 HG.out)
  obtain ⟨i, hi⟩ : ∃ i, c.ie = i := ⟨_, rfl⟩
  have HI := hid hi
  have Hv := hid hV
  have Hq := hid (h.q64)
  rw [hn] at Hq
  have HDue := fun (W : World) (hg : (w.alloc (.cells (cpuC c) 39)).grownBy W none) => due_any (HD.out.kept0 hg) now f0 f1 a0 a1 n0 n1 r hr
  have HKeys := fun (W : World) (hg : (w.alloc (.cells (cpuC c) 39)).grownBy W none) => keys_any (HD.out.kept0 hg) n hn
  have Hdue := hid HDue
  have Hkeys := hid HKeys
  clear h hl hi hV hr hn HDue HKeys HD
  rw [HI.out] at Hv
  have k2 := HA.out.ie
  rw [HI.out] at k2
  cases i
  · go_enter Tryz.func69, Tryz.ntmps69
    go_wp2_with fail
    go_ret
    exact ⟨by rw [← Hv.out]; rfl, HG.out⟩
  · go_enter Tryz.func69, Tryz.ntmps69
    go_wp2_with fail
    refine (Hdue.out _ (grown_refl _ _)).mono ?_
    rintro e w1 ⟨rfl, hg⟩
    have HG1 := hid hg
    have HG2 := hid (grown_trans HG.out hg)
    clear hg
    cases r
    · go_wp2_with fail
      refine (Hkeys.out _ HG1.out).mono ?_
      rintro e w2 ⟨rfl, rfl⟩
      by_cases h0 : n = 0
      · have h1 : ¬ (0 : Int) < (n : Int) := by omega
        subst h0
        cases port
        · go_wp2_with fail
          go_ret
          exact ⟨by rw [← Hv.out]; rfl, HG2.out⟩
        · go_wp2_with fail
          go_ret
          exact ⟨by rw [← Hv.out]; rfl, HG2.out⟩
      · have h1 : (0 : Int) < (n : Int) := by omega
        have h2 : 0 < n := by omega
        have hVV : V = 3 := by rw [← Hv.out]; simp [waitV, h2]
        go_wp2_with fail
        go_ret
        subst hVV
        exact ⟨rfl, HG2.out⟩
    · go_wp2_with fail
      go_ret
      exact ⟨by rw [← Hv.out]; rfl, HG2.out⟩
end
section
variable {w : World} {B b : Nat} {Q S : List Int} {sn : List Sn} {on : Bool} {T : Int} {vw vs : Value} {c : Cp}
set_option maxHeartbeats 1000000 in
theorem rwaits_any (h : RDAt w B b Q S sn on T vw vs) (hl : c.l.length = 16) (now : Int) (r : Bool) (hr : (on && decide (T ≤ now)) = r) (n : Nat) (hn : Q.length = n) (hn1 : n ≤ 64) (port : Bool) (V : Int) (hV : waitV c.ie r n port = V) :
    Calls Tryz.prog 53 #[.agg (cpuC c), .pointer (some ⟨b, 0, none⟩), .int .i64 now, .bool port] w fun e w' => e = .returned (.int .i64 V) ∧ w.grownBy w' none := by
  have HA := hid (CpuAt.new w hl)
  have HG := hid (grown_alloc (grown_refl w none) (.cells (cpuC c) 39))
  have HD := hid (h.kept0 HG.out)
  obtain ⟨i, hi⟩ : ∃ i, c.ie = i := ⟨_, rfl⟩
  have HI := hid hi
  have Hv := hid hV
  have Hdue := hid (rdue_any HD.out now r hr)
  obtain ⟨p, cp, hq⟩ := h.q
  have hc : (w.alloc (.cells (cpuC c) 39)).cell? ⟨b, 0, none⟩ = some (.slice p n cp) := by
    obtain ⟨cur, hb, hi⟩ := HD.out.hb
    rw [cell_of_row _ b _ _ _ _ hb, hi.c0, hq, hn]
  clear h hl hi hV hr hq hn HD
  rw [HI.out] at Hv
  have k2 := HA.out.ie
  rw [HI.out] at k2
  have hm : n ≤ 1048576 := by omega
  cases i
  · go_enter Tryz.func53, Tryz.ntmps53
    go_wp2_with fail
    go_ret
    exact ⟨by rw [← Hv.out]; rfl, HG.out⟩
  · go_enter Tryz.func53, Tryz.ntmps53
    go_wp2_with fail
    refine Hdue.out.mono ?_
    rintro e w1 ⟨rfl, rfl⟩
    cases r
    · by_cases h0 : n = 0
      · have h1 : ¬ (0 : Int) < (n : Int) := by omega
        subst h0
        cases port
        · go_wp2_with fail
          go_ret
          exact ⟨by rw [← Hv.out]; rfl, HG.out⟩
        · go_wp2_with fail
          go_ret
          exact ⟨by rw [← Hv.out]; rfl, HG.out⟩
      · have h1 : (0 : Int) < (n : Int) := by omega
        have h2 : 0 < n := by omega
        have hVV : V = 3 := by rw [← Hv.out]; simp [waitV, h2]
        go_wp2_with fail
        go_ret
        subst hVV
        exact ⟨rfl, HG.out⟩
    · go_wp2_with fail
      go_ret
      exact ⟨by rw [← Hv.out]; rfl, HG.out⟩
end
end Go.Proofs.YtkkbhifplbleiaaGreatDoor
/- Traps (package trap; the document's own): Enter, Return: contracts. -/
namespace Go.Proofs.YtkkbhifplbleiaaGreatDoor
open Go.RowKit
section
variable {x : Cp}
set_option maxHeartbeats 1000000 in
theorem enter_any (hl : Regs x.l) (c ad : Int) (W : World) (y : Cp) (hy : enterP x c ad = y) (r : Bool) (hr : (!(x.tv == 0)) = r) :
    Calls Tryz.prog 101 #[.agg (cpuC x), .int .i64 c, .int .u32 ad] W fun e w' => e = .returned (.tuple #[.agg (cpuC y), .bool r]) ∧ W.grownBy w' none := by
  have Hz := zero_cpu
  have HL := hid hl.len
  have HA : Hid (CpuAt ((W.alloc (.cells (cpuC x) 39)).alloc (.cells (cpuC zeroP) 39)) W.heap.size x) := hid ((CpuAt.new W hl.len).alloc _)
  have HZ : Hid (CpuAt ((W.alloc (.cells (cpuC x) 39)).alloc (.cells (cpuC zeroP) 39)) (W.heap.size + 1) zeroP) := hid (CpuAt.new2 W _ rfl)
  have HG : Hid (W.grownBy ((W.alloc (.cells (cpuC x) 39)).alloc (.cells (cpuC zeroP) 39)) none) := hid (grown_alloc (grown_alloc (grown_refl _ _) _) _)
  by_cases h0 : x.tv = 0
  · have HY : Hid (x = y) := hid (by rw [← hy, enterP, if_pos h0])
    obtain rfl : false = r := by rw [← hr, h0]; rfl
    clear hr hy hl
    go_enter Tryz.func101, Tryz.ntmps101
    go_upto_region 1 with (fail)
    generalize ((W.alloc (.cells (cpuC x) 39)).alloc (.cells (cpuC zeroP) 39)) = w2 at HA HZ HG ⊢
    have k5 := HA.out.tv
    obtain ⟨b1, hb1⟩ : ∃ b, b = W.heap.size := ⟨_, rfl⟩
    have HB := hid (Nat.le_of_eq hb1.symm)
    rw [← hb1] at HA HZ k5 ⊢
    clear hb1
    go_wp2_with (first
      | (refine wpList_load_cpu rfl _ rfl rfl HA.out ?_)
      | (refine wpList_store_cpu rfl _ _ rfl rfl rfl HZ.out HL.out ?_))
    have HE := hid (HZ.out.row HL.out)
    have hv := run_loadVar_row (P := Tryz.prog) _ _ _ 39 _ _ _ HE.out.blk Tryz.underlying39 rfl (cpu_size_info HL.out)
    refine bodyPost_ret (v := .tuple #[.agg (cpuC x), .bool false]) (by simp [results, Tryz.results101, asAddr, hv]) rfl ?_
    exact ⟨by rw [HY.out], grown_setRow HG.out (by have := HB.out; omega) _⟩
  · have HY : Hid ((⟨x.l, x.tv, false, x.ie, x.pc, x.tv, c % 4294967296, ad⟩ : Cp) = y) := hid (by rw [← hy, enterP, if_neg h0])
    obtain rfl : true = r := by rw [← hr]; simpa using h0
    have h0' : (x.tv == 0) = false := by simpa using h0
    clear hr hy hl h0
    go_enter Tryz.func101, Tryz.ntmps101
    go_upto_region 1 with (fail)
    generalize ((W.alloc (.cells (cpuC x) 39)).alloc (.cells (cpuC zeroP) 39)) = w2 at HA HZ HG ⊢
    have k1 := HA.out.pc
    have k2 := HA.out.ie
    have k3 := HA.out.eie
    have k4 := HA.out.epc
    have k5 := HA.out.tv
    have k6 := HA.out.ca
    have k7 := HA.out.ad
    have kf := fun j => HA.out.free j
    obtain ⟨b1, hb1⟩ : ∃ b, b = W.heap.size := ⟨_, rfl⟩
    have HB := hid (Nat.le_of_eq hb1.symm)
    rw [← hb1] at HA HZ k1 k2 k3 k4 k5 k6 k7 ⊢
    simp only [← hb1] at kf
    clear hb1
    have HA' := hid (((((((HA.out.sEpc x.pc).sEie x.ie).sPc x.tv).sIe false).sCa (c % 4294967296)).sAd ad))
    have HZ' := hid ((((((HZ.out.other b1 19 (.int .u32 x.pc) (by omega)).other b1 18 (.bool x.ie) (by omega)).other b1 16 (.int .u32 x.tv) (by omega)).other b1 17 (.bool false) (by omega)).other b1 21 (.int .u32 (c % 4294967296)) (by omega)).other b1 22 (.int .u32 ad) (by omega))
    have HG' := hid (grown_setN (grown_setN (grown_setN (grown_setN (grown_setN (grown_setN HG.out HB.out 19 (.int .u32 x.pc)) HB.out 18 (.bool x.ie)) HB.out 16 (.int .u32 x.tv)) HB.out 17 (.bool false)) HB.out 21 (.int .u32 (c % 4294967296))) HB.out 22 (.int .u32 ad))
    clear HA HZ HG
    go_upto_region 6 with (fail)
    generalize ((((((w2.setCell ⟨b1, 19, none⟩ (.int .u32 x.pc)).setCell ⟨b1, 18, none⟩ (.bool x.ie)).setCell ⟨b1, 16, none⟩ (.int .u32 x.tv)).setCell ⟨b1, 17, none⟩ (.bool false)).setCell ⟨b1, 21, none⟩ (.int .u32 (c % 4294967296))).setCell ⟨b1, 22, none⟩ (.int .u32 ad)) = w3 at HA' HZ' HG' ⊢
    clear k1 k2 k3 k4 k5 k6 k7 kf
    have HL' : Hid ((⟨x.l, x.tv, false, x.ie, x.pc, x.tv, c % 4294967296, ad⟩ : Cp).l.length = 16) := HL
    generalize (⟨x.l, x.tv, false, x.ie, x.pc, x.tv, c % 4294967296, ad⟩ : Cp) = z at HA' HY HL'
    go_wp2_with (first
      | (refine wpList_load_cpu rfl _ rfl rfl HA'.out ?_)
      | (refine wpList_store_cpu rfl _ _ rfl rfl rfl HZ'.out HL'.out ?_))
    have HE := hid (HZ'.out.row HL'.out)
    have hv := run_loadVar_row (P := Tryz.prog) _ _ _ 39 _ _ _ HE.out.blk Tryz.underlying39 rfl (cpu_size_info HL'.out)
    refine bodyPost_ret (v := .tuple #[.agg (cpuC z), .bool true]) (by simp [results, Tryz.results101, asAddr, hv]) rfl ?_
    exact ⟨by rw [HY.out], grown_setRow HG'.out (by have := HB.out; omega) _⟩
end
end Go.Proofs.YtkkbhifplbleiaaGreatDoor
/- The way back (package trap; the document's own Return): contracts. (Made by genCpu.py.) -/
namespace Go.Proofs.YtkkbhifplbleiaaGreatDoor
open Go.RowKit
section
variable {x : Cp}
set_option maxHeartbeats 1000000 in
theorem ret_any (hl : Regs x.l) (W : World) (y : Cp) (hy : retP x = y) :
    Calls Tryz.prog 108 #[.agg (cpuC x)] W fun e w' => e = .returned (.agg (cpuC y)) ∧ W.grownBy w' none := by
  have Hz := zero_cpu
  have HL := hid hl.len
  have HA : Hid (CpuAt ((W.alloc (.cells (cpuC x) 39)).alloc (.cells (cpuC zeroP) 39)) W.heap.size x) := hid ((CpuAt.new W hl.len).alloc _)
  have HZ : Hid (CpuAt ((W.alloc (.cells (cpuC x) 39)).alloc (.cells (cpuC zeroP) 39)) (W.heap.size + 1) zeroP) := hid (CpuAt.new2 W _ rfl)
  have HG : Hid (W.grownBy ((W.alloc (.cells (cpuC x) 39)).alloc (.cells (cpuC zeroP) 39)) none) := hid (grown_alloc (grown_alloc (grown_refl _ _) _) _)
  have HY : Hid ((⟨x.l, x.epc, x.eie, false, 0, x.tv, x.ca, x.ad⟩ : Cp) = y) := hid (by rw [← hy]; rfl)
  clear hy hl
  go_enter Tryz.func108, Tryz.ntmps108
  go_upto_region 1 with (fail)
  generalize ((W.alloc (.cells (cpuC x) 39)).alloc (.cells (cpuC zeroP) 39)) = w2 at HA HZ HG ⊢
  have k1 := HA.out.pc
  have k2 := HA.out.ie
  have k3 := HA.out.eie
  have k4 := HA.out.epc
  have kf := fun j => HA.out.free j
  obtain ⟨b1, hb1⟩ : ∃ b, b = W.heap.size := ⟨_, rfl⟩
  have HB := hid (Nat.le_of_eq hb1.symm)
  rw [← hb1] at HA HZ k1 k2 k3 k4 ⊢
  simp only [← hb1] at kf
  clear hb1
  have HA' := hid ((((HA.out.sPc x.epc).sIe x.eie).sEpc 0).sEie false)
  have HZ' := hid ((((HZ.out.other b1 16 (.int .u32 x.epc) (by omega)).other b1 17 (.bool x.eie) (by omega)).other b1 19 (.int .u32 0) (by omega)).other b1 18 (.bool false) (by omega))
  have HG' := hid (grown_setN (grown_setN (grown_setN (grown_setN HG.out HB.out 16 (.int .u32 x.epc)) HB.out 17 (.bool x.eie)) HB.out 19 (.int .u32 0)) HB.out 18 (.bool false))
  clear HA HZ HG
  go_upto_region 3 with (fail)
  generalize ((((w2.setCell ⟨b1, 16, none⟩ (.int .u32 x.epc)).setCell ⟨b1, 17, none⟩ (.bool x.eie)).setCell ⟨b1, 19, none⟩ (.int .u32 0)).setCell ⟨b1, 18, none⟩ (.bool false)) = w3 at HA' HZ' HG' ⊢
  clear k1 k2 k3 k4 kf
  have HL' : Hid ((⟨x.l, x.epc, x.eie, false, 0, x.tv, x.ca, x.ad⟩ : Cp).l.length = 16) := HL
  generalize (⟨x.l, x.epc, x.eie, false, 0, x.tv, x.ca, x.ad⟩ : Cp) = z at HA' HY HL'
  go_wp2_with (first
    | (refine wpList_load_cpu rfl _ rfl rfl HA'.out ?_)
    | (refine wpList_store_cpu rfl _ _ rfl rfl rfl HZ'.out HL'.out ?_))
  have HE := hid (HZ'.out.row HL'.out)
  refine bodyPost_ret (v := .agg (cpuC z)) (results_cell_row Tryz.results108 _ _ (b1 + 1) _ _ _ _ rfl HE.out.blk Tryz.underlying39 rfl (cpu_size_info HL'.out)) rfl ?_
  exact ⟨by rw [HY.out], grown_setRow HG'.out (by have := HB.out; omega) _⟩
set_option maxHeartbeats 1000000 in
theorem rret_any (hl : Regs x.l) (W : World) (y : Cp) (hy : retP x = y) :
    Calls Tryz.prog 88 #[.agg (cpuC x)] W fun e w' => e = .returned (.agg (cpuC y)) ∧ W.grownBy w' none := by
  have Hz := zero_cpu
  have HL := hid hl.len
  have HA : Hid (CpuAt ((W.alloc (.cells (cpuC x) 39)).alloc (.cells (cpuC zeroP) 39)) W.heap.size x) := hid ((CpuAt.new W hl.len).alloc _)
  have HZ : Hid (CpuAt ((W.alloc (.cells (cpuC x) 39)).alloc (.cells (cpuC zeroP) 39)) (W.heap.size + 1) zeroP) := hid (CpuAt.new2 W _ rfl)
  have HG : Hid (W.grownBy ((W.alloc (.cells (cpuC x) 39)).alloc (.cells (cpuC zeroP) 39)) none) := hid (grown_alloc (grown_alloc (grown_refl _ _) _) _)
  have HY : Hid ((⟨x.l, x.epc, x.eie, false, 0, x.tv, x.ca, x.ad⟩ : Cp) = y) := hid (by rw [← hy]; rfl)
  clear hy hl
  go_enter Tryz.func88, Tryz.ntmps88
  go_upto_region 1 with (fail)
  generalize ((W.alloc (.cells (cpuC x) 39)).alloc (.cells (cpuC zeroP) 39)) = w2 at HA HZ HG ⊢
  have k1 := HA.out.pc
  have k2 := HA.out.ie
  have k3 := HA.out.eie
  have k4 := HA.out.epc
  have kf := fun j => HA.out.free j
  obtain ⟨b1, hb1⟩ : ∃ b, b = W.heap.size := ⟨_, rfl⟩
  have HB := hid (Nat.le_of_eq hb1.symm)
  rw [← hb1] at HA HZ k1 k2 k3 k4 ⊢
  simp only [← hb1] at kf
  clear hb1
  have HA' := hid ((((HA.out.sPc x.epc).sIe x.eie).sEpc 0).sEie false)
  have HZ' := hid ((((HZ.out.other b1 16 (.int .u32 x.epc) (by omega)).other b1 17 (.bool x.eie) (by omega)).other b1 19 (.int .u32 0) (by omega)).other b1 18 (.bool false) (by omega))
  have HG' := hid (grown_setN (grown_setN (grown_setN (grown_setN HG.out HB.out 16 (.int .u32 x.epc)) HB.out 17 (.bool x.eie)) HB.out 19 (.int .u32 0)) HB.out 18 (.bool false))
  clear HA HZ HG
  go_upto_region 5 with (fail)
  generalize ((((w2.setCell ⟨b1, 16, none⟩ (.int .u32 x.epc)).setCell ⟨b1, 17, none⟩ (.bool x.eie)).setCell ⟨b1, 19, none⟩ (.int .u32 0)).setCell ⟨b1, 18, none⟩ (.bool false)) = w3 at HA' HZ' HG' ⊢
  clear k1 k2 k3 k4 kf
  have HL' : Hid ((⟨x.l, x.epc, x.eie, false, 0, x.tv, x.ca, x.ad⟩ : Cp).l.length = 16) := HL
  generalize (⟨x.l, x.epc, x.eie, false, 0, x.tv, x.ca, x.ad⟩ : Cp) = z at HA' HY HL'
  go_wp2_with (first
    | (refine wpList_load_cpu rfl _ rfl rfl HA'.out ?_)
    | (refine wpList_store_cpu rfl _ _ rfl rfl rfl HZ'.out HL'.out ?_))
  have HE := hid (HZ'.out.row HL'.out)
  refine bodyPost_ret (v := .agg (cpuC z)) (results_cell_row Tryz.results88 _ _ (b1 + 1) _ _ _ _ rfl HE.out.blk Tryz.underlying39 rfl (cpu_size_info HL'.out)) rfl ?_
  exact ⟨by rw [HY.out], grown_setRow HG'.out (by have := HB.out; omega) _⟩
end
end Go.Proofs.YtkkbhifplbleiaaGreatDoor
/- The chapter's examples (facadelaw6.first): a contract. -/
namespace Go.Proofs.YtkkbhifplbleiaaGreatDoor
open Go.RowKit
section
variable {ops : Array Oper} {rest : List Oper} {o : Oper} {a : Act} {w : World} {Q : Exit → Act → World → Prop} {y : Cp}
/-- a whole processor into the block that was made last -/
theorem wpList_store_cpu_new {z : Cp} (hgd : o.guard = none) (p q : Operand) (ho : o.op = .store 39 p q) (hx : a.eval p = .pointer (some ⟨w.heap.size, 0, none⟩)) (hy : a.eval q = .agg (cpuC y)) (hz : z.l.length = 16) (hl : y.l.length = 16)
    (h : wpList Tryz.prog ops Q rest (a.put o.dst undef) (w.alloc (.cells (cpuC y) 39))) : wpList Tryz.prog ops Q (o :: rest) a (w.alloc (.cells (cpuC z) 39)) :=
  wpList_store_cpu hgd p q ho hx hy (CpuAt.new w hz) hl (by rw [World.setRow_alloc_new]; exact h)
def exC : Cp := ⟨[0, 0, 0, 0, 0, 0, 0, 0, 0, 0, 0, 0, 0, 0, 0, 0], 9, true, false, 0, 5, 0, 0⟩
def exD : Cp := ⟨[0, 0, 0, 0, 0, 0, 0, 0, 0, 0, 0, 0, 0, 0, 0, 0], 5, false, true, 9, 5, 1, 3⟩
def exE : Cp := ⟨[0, 0, 0, 0, 0, 0, 0, 0, 0, 0, 0, 0, 0, 0, 0, 0], 9, true, false, 0, 5, 1, 3⟩
theorem zero16 : Regs [0, 0, 0, 0, 0, 0, 0, 0, 0, 0, 0, 0, 0, 0, 0, 0] := ⟨rfl, by decide⟩
theorem build_exC (w : World) : (Instr.build 39 #[(1, .int .u32 9), (2, .bool true), (5, .int .u32 5)]).run Tryz.prog w = .ok (.agg (cpuC exC)) w := by kernel_rfl
theorem wpList_build_exC (hgd : o.guard = none) (ho : o.op = .build 39 #[(1, .const (.int .u32 9)), (2, .const (.bool true)), (5, .const (.int .u32 5))])
    (h : wpList Tryz.prog ops Q rest (a.put o.dst (.agg (cpuC exC))) w) : wpList Tryz.prog ops Q (o :: rest) a w := by
  refine wpList_plain hgd fun K hK => ?_
  unfold Oper.wp
  simp [execOp, ho, Act.eval, build_exC w, Result.andThen]
  exact hK _ _ h
end
end Go.Proofs.YtkkbhifplbleiaaGreatDoor
/- Traps (the document's own Enter): a contract. (Made by genCpu.py.) -/
namespace Go.Proofs.YtkkbhifplbleiaaGreatDoor
open Go.RowKit
section
variable {x : Cp}
set_option maxHeartbeats 1000000 in
theorem renter_any (hl : Regs x.l) (c ad : Int) (W : World) (y : Cp) (hy : enterP x c ad = y) (r : Bool) (hr : (!(x.tv == 0)) = r) :
    Calls Tryz.prog 54 #[.agg (cpuC x), .int .i64 c, .int .u32 ad] W fun e w' => e = .returned (.tuple #[.agg (cpuC y), .bool r]) ∧ W.grownBy w' none := by
  have Hz := zero_cpu
  have HL := hid hl.len
  have HA : Hid (CpuAt ((W.alloc (.cells (cpuC x) 39)).alloc (.cells (cpuC zeroP) 39)) W.heap.size x) := hid ((CpuAt.new W hl.len).alloc _)
  have HZ : Hid (CpuAt ((W.alloc (.cells (cpuC x) 39)).alloc (.cells (cpuC zeroP) 39)) (W.heap.size + 1) zeroP) := hid (CpuAt.new2 W _ rfl)
  have HG : Hid (W.grownBy ((W.alloc (.cells (cpuC x) 39)).alloc (.cells (cpuC zeroP) 39)) none) := hid (grown_alloc (grown_alloc (grown_refl _ _) _) _)
  by_cases h0 : x.tv = 0
  · have HY : Hid (x = y) := hid (by rw [← hy, enterP, if_pos h0])
    obtain rfl : false = r := by rw [← hr, h0]; rfl
    clear hr hy hl
    go_enter Tryz.func54, Tryz.ntmps54
    go_upto_region 1 with (fail)
    generalize ((W.alloc (.cells (cpuC x) 39)).alloc (.cells (cpuC zeroP) 39)) = w2 at HA HZ HG ⊢
    have k5 := HA.out.tv
    obtain ⟨b1, hb1⟩ : ∃ b, b = W.heap.size := ⟨_, rfl⟩
    have HB := hid (Nat.le_of_eq hb1.symm)
    rw [← hb1] at HA HZ k5 ⊢
    clear hb1
    go_wp2_with (first
      | (refine wpList_load_cpu rfl _ rfl rfl HA.out ?_)
      | (refine wpList_store_cpu rfl _ _ rfl rfl rfl HZ.out HL.out ?_))
    have HE := hid (HZ.out.row HL.out)
    have hv := run_loadVar_row (P := Tryz.prog) _ _ _ 39 _ _ _ HE.out.blk Tryz.underlying39 rfl (cpu_size_info HL.out)
    refine bodyPost_ret (v := .tuple #[.agg (cpuC x), .bool false]) (by simp [results, Tryz.results54, asAddr, hv]) rfl ?_
    exact ⟨by rw [HY.out], grown_setRow HG.out (by have := HB.out; omega) _⟩
  · have HY : Hid ((⟨x.l, x.tv, false, x.ie, x.pc, x.tv, c % 4294967296, ad⟩ : Cp) = y) := hid (by rw [← hy, enterP, if_neg h0])
    obtain rfl : true = r := by rw [← hr]; simpa using h0
    have h0' : (x.tv == 0) = false := by simpa using h0
    clear hr hy hl h0
    go_enter Tryz.func54, Tryz.ntmps54
    go_upto_region 1 with (fail)
    generalize ((W.alloc (.cells (cpuC x) 39)).alloc (.cells (cpuC zeroP) 39)) = w2 at HA HZ HG ⊢
    have k1 := HA.out.pc
    have k2 := HA.out.ie
    have k3 := HA.out.eie
    have k4 := HA.out.epc
    have k5 := HA.out.tv
    have k6 := HA.out.ca
    have k7 := HA.out.ad
    have kf := fun j => HA.out.free j
    obtain ⟨b1, hb1⟩ : ∃ b, b = W.heap.size := ⟨_, rfl⟩
    have HB := hid (Nat.le_of_eq hb1.symm)
    rw [← hb1] at HA HZ k1 k2 k3 k4 k5 k6 k7 ⊢
    simp only [← hb1] at kf
    clear hb1
    have HA' := hid (((((((HA.out.sEpc x.pc).sEie x.ie).sIe false).sCa (c % 4294967296)).sAd ad).sPc x.tv))
    have HZ' := hid ((((((HZ.out.other b1 19 (.int .u32 x.pc) (by omega)).other b1 18 (.bool x.ie) (by omega)).other b1 17 (.bool false) (by omega)).other b1 21 (.int .u32 (c % 4294967296)) (by omega)).other b1 22 (.int .u32 ad) (by omega)).other b1 16 (.int .u32 x.tv) (by omega))
    have HG' := hid (grown_setN (grown_setN (grown_setN (grown_setN (grown_setN (grown_setN HG.out HB.out 19 (.int .u32 x.pc)) HB.out 18 (.bool x.ie)) HB.out 17 (.bool false)) HB.out 21 (.int .u32 (c % 4294967296))) HB.out 22 (.int .u32 ad)) HB.out 16 (.int .u32 x.tv))
    clear HA HZ HG
    go_upto_region 9 with (fail)
    generalize ((((((w2.setCell ⟨b1, 19, none⟩ (.int .u32 x.pc)).setCell ⟨b1, 18, none⟩ (.bool x.ie)).setCell ⟨b1, 17, none⟩ (.bool false)).setCell ⟨b1, 21, none⟩ (.int .u32 (c % 4294967296))).setCell ⟨b1, 22, none⟩ (.int .u32 ad)).setCell ⟨b1, 16, none⟩ (.int .u32 x.tv)) = w3 at HA' HZ' HG' ⊢
    clear k1 k2 k3 k4 k5 k6 k7 kf
    have HL' : Hid ((⟨x.l, x.tv, false, x.ie, x.pc, x.tv, c % 4294967296, ad⟩ : Cp).l.length = 16) := HL
    generalize (⟨x.l, x.tv, false, x.ie, x.pc, x.tv, c % 4294967296, ad⟩ : Cp) = z at HA' HY HL'
    go_wp2_with (first
      | (refine wpList_load_cpu rfl _ rfl rfl HA'.out ?_)
      | (refine wpList_store_cpu rfl _ _ rfl rfl rfl HZ'.out HL'.out ?_))
    have HE := hid (HZ'.out.row HL'.out)
    have hv := run_loadVar_row (P := Tryz.prog) _ _ _ 39 _ _ _ HE.out.blk Tryz.underlying39 rfl (cpu_size_info HL'.out)
    refine bodyPost_ret (v := .tuple #[.agg (cpuC z), .bool true]) (by simp [results, Tryz.results54, asAddr, hv]) rfl ?_
    exact ⟨by rw [HY.out], grown_setRow HG'.out (by have := HB.out; omega) _⟩
end
end Go.Proofs.YtkkbhifplbleiaaGreatDoor
/- Whole processors and their registers, loaded where a guard says yes. -/
namespace Go.Proofs.YtkkbhifplbleiaaGreatDoor
open Go.RowKit
section
variable {ops : Array Oper} {rest : List Oper} {o : Oper} {a : Act} {w : World} {Q : Exit → Act → World → Prop} {g : Nat} {y : Cp}
theorem wpList_load_cpu_w (hgd : Region.wanted o (yielded ops a.tmps) = true) (p : Operand) (ho : o.op = .load 39 p) (hx : a.eval p = .pointer (some ⟨g, 0, none⟩)) (hg : CpuAt w g y)
    (h : wpList Tryz.prog ops Q rest (a.put o.dst (.agg (cpuC y))) w) : wpList Tryz.prog ops Q (o :: rest) a w := by
  simp only [wpList, hgd, if_true]
  exact Or.inl (wp_load_row 39 p ho g hx _ _ _ _ hg.blk Tryz.underlying39 rfl (cpu_size_info hg.len) h)
theorem wpList_load_regs_w (hgd : Region.wanted o (yielded ops a.tmps) = true) (p : Operand) (ho : o.op = .load 37 p) (hx : a.eval p = .pointer (some ⟨g, 0, none⟩)) (hg : CpuAt w g y)
    (h : wpList Tryz.prog ops Q rest (a.put o.dst (.agg (wA y.l))) w) : wpList Tryz.prog ops Q (o :: rest) a w := by
  simp only [wpList, hgd, if_true]
  exact Or.inl (wp_load_mid 37 p ho g 0 hx _ _ hg.regs Tryz.underlying37 rfl (regs16_info hg.len) h)
end
end Go.Proofs.YtkkbhifplbleiaaGreatDoor

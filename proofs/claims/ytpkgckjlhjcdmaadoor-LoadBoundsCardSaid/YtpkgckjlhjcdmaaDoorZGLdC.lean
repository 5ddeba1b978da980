/- Package load: whether an image may be, its processor: contracts. -/
import Derived.Test.YtpkgckjlhjcdmaaDoorZGLdB
import Derived.Test.YtpkgckjlhjcdmaaDoorZGBareC
import Derived.Test.YtpkgckjlhjcdmaaDoorZGErr
import Derived.Deep.RegionHeld3
namespace Go.Proofs.YtpkgckjlhjcdmaaDoor
open Go.RowKit
structure LdE (w : World) (A : Nat → Addr) : Prop where
  many : w.cell? ⟨0, 0, none⟩ = some (errV (A 3))
  rng : w.cell? ⟨1, 0, none⟩ = some (errV (A 2))
theorem LdE.kept0 {w w1 : World} {A : Nat → Addr} (h : LdE w A) (hg : w.grownBy w1 none) : LdE w1 A := by
  obtain ⟨h1, h2⟩ := h
  refine ⟨?_, ?_⟩
  · rw [grown_cell hg (World.block_lt_of_cell? w _ h1) (by simp)]; exact h1
  · rw [grown_cell hg (World.block_lt_of_cell? w _ h2) (by simp)]; exact h2
theorem Sents.lde {w : World} {A : Nat → Addr} (h : Sents w A) : LdE w A := ⟨h.cell 3 _ rfl, h.cell 2 _ rfl⟩
/-- the error of a code -/
def lvV (A : Nat → Addr) (c : Int) : Value := if c = 104 then errV (A 3) else if c = 103 then errV (A 2) else .nilIface
theorem lvV_fine (A : Nat → Addr) : lvV A 0 = .nilIface := rfl
theorem lvV_many (A : Nat → Addr) : lvV A 104 = errV (A 3) := rfl
theorem lvV_range (A : Nat → Addr) : lvV A 103 = errV (A 2) := rfl
set_option maxRecDepth 100000 in
set_option maxHeartbeats 2000000 in
theorem valid_load {V : IV} {x : Ig} {A : Nat → Addr} (W : World) (h : ImAt W V x) (hE : LdE W A) (hd : V.dn ≤ 1000000) (hc : V.cn ≤ 1000000) :
    Calls Tryd.prog 28 #[.agg (imgC V x.e)] W fun e' w' => e' = .returned (lvV A (valI x)) ∧ W.grownBy w' none := by
  obtain ⟨e, D, C⟩ := x
  have hdl := h.dl
  have hcl := h.cl
  have e0 := h.e0
  have e1 := h.e1
  obtain ⟨dp, dn, dc, cp, cn, cc, rp, rn, rc, pp, pn, pc, sp, sn, sc⟩ := V
  simp only at hd hc hdl hcl e0 e1 ⊢
  have al := World.grownBy_alloc W (.cells (imgC ⟨dp, dn, dc, cp, cn, cc, rp, rn, rc, pp, pn, pc, sp, sn, sc⟩ e) 29) none
  have HE := hid (hE.kept0 al)
  have Hal := hid al
  have h1 := hE.kept0 al
  have m1 := h1.many
  have m2 := h1.rng
  unfold errV at m1 m2
  simp only [imgC] at m1 m2
  clear h hE h1 al
  unfold valI
  simp only [hdl, hcl]
  by_cases c1 : 2048 < dn
  · rw [if_pos (Or.inl c1), lvV_many]
    have i1 : (2048 : Int) < (dn : Int) := by omega
    unfold errV
    go_enter Tryd.func28, Tryd.ntmps28
    go_wp2
    go_ret
    exact ⟨rfl, Hal.out⟩
  · by_cases c2 : 2048 < cn
    · rw [if_pos (Or.inr c2), lvV_many]
      have i1 : ¬ (2048 : Int) < (dn : Int) := by omega
      have i2 : (2048 : Int) < (cn : Int) := by omega
      unfold errV
      go_enter Tryd.func28, Tryd.ntmps28
      go_wp2
      go_ret
      exact ⟨rfl, Hal.out⟩
    · rw [if_neg (by omega)]
      have i1 : ¬ (2048 : Int) < (dn : Int) := by omega
      have i2 : ¬ (2048 : Int) < (cn : Int) := by omega
      have i3 : (0 : Int) ≤ (cn : Int) := by omega
      by_cases c3 : e < 2048
      · rw [if_pos (Or.inl c3), lvV_range]
        unfold errV
        go_enter Tryd.func28, Tryd.ntmps28
        go_wp2
        go_ret
        exact ⟨rfl, Hal.out⟩
      · by_cases c4 : 2048 + (cn : Int) ≤ e
        · rw [if_pos (Or.inr c4), lvV_range]
          have i4 : (cn : Int) ≤ e - 2048 := by omega
          unfold errV
          go_enter Tryd.func28, Tryd.ntmps28
          go_wp2
          go_ret
          exact ⟨rfl, Hal.out⟩
        · rw [if_neg (by omega), lvV_fine]
          have i4 : ¬ (cn : Int) ≤ e - 2048 := by omega
          go_enter Tryd.func28, Tryd.ntmps28
          go_wp2
          go_ret
          exact ⟨rfl, Hal.out⟩
/-- the processor with which an image begins -/
def cpuI (x : Ig) (q : Int) : Cp := ⟨[0, q % 4294967296, (quoI x : Int) % 4294967296, 0, 0, 0, 0, 0, 0, 0, 0, 0, 0, 0, 0, 0], x.e, false, false, 0, 0, 0, 0⟩
theorem build_regs2 (a b : Int) (w : World) : (Instr.build 67 #[(1, .int .u32 a), (2, .int .u32 b)]).run Tryd.prog w =
    .ok (.agg #[.int .u32 0, .int .u32 a, .int .u32 b, .int .u32 0, .int .u32 0, .int .u32 0, .int .u32 0, .int .u32 0, .int .u32 0, .int .u32 0, .int .u32 0, .int .u32 0, .int .u32 0, .int .u32 0, .int .u32 0, .int .u32 0]) w := by kernel_rfl
theorem build_cpu2 (e a b : Int) (w : World) : (Instr.build 69 #[(1, .int .u32 e), (0, .agg #[.int .u32 0, .int .u32 a, .int .u32 b, .int .u32 0, .int .u32 0, .int .u32 0, .int .u32 0, .int .u32 0, .int .u32 0, .int .u32 0, .int .u32 0, .int .u32 0, .int .u32 0, .int .u32 0, .int .u32 0, .int .u32 0])]).run Tryd.prog w =
    .ok (.agg (cpuC ⟨[0, a, b, 0, 0, 0, 0, 0, 0, 0, 0, 0, 0, 0, 0, 0], e, false, false, 0, 0, 0, 0⟩)) w := by kernel_rfl
end Go.Proofs.YtpkgckjlhjcdmaaDoor
/- Package load: the processor with which an image begins: contract. -/
namespace Go.Proofs.YtpkgckjlhjcdmaaDoor
open Go.RowKit
set_option maxRecDepth 100000 in
set_option maxHeartbeats 4000000 in
theorem cpu_load {V : IV} {x : Ig} (W : World) (hd : V.dn ≤ 1000000) (hdl : x.D.length = V.dn) (q : Int) (_q0 : -9223372036854775808 ≤ q) (_q1 : q ≤ 9223372036854775807) (y : Cp) (hy : cpuI x q = y) :
    Calls Tryd.prog 33 #[.agg (imgC V x.e), .int .i64 q] W fun e' w' => e' = .returned (.agg (cpuC y)) ∧ W.grownBy w' none := by
  subst hy
  obtain ⟨e, D, C⟩ := x
  unfold cpuI
  obtain ⟨dp, dn, dc, cp, cn, cc, rp, rn, rc, pp, pn, pc, sp, sn, sc⟩ := V
  simp only at hd hdl ⊢
  obtain ⟨Q, hQ⟩ : ∃ Q, 17 + (dn + 15) / 16 = Q := ⟨_, rfl⟩
  have hQ2 : quoI ⟨e, D, C⟩ = Q := by unfold quoI pgN; simp only; rw [hdl, hQ]
  rw [hQ2]
  have HQ := hid (fun W => quota_any ⟨dp, dn, dc, cp, cn, cc, rp, rn, rc, pp, pn, pc, sp, sn, sc⟩ e W (by simp only; omega) Q (by simp only; omega))
  have ha : q % 4294967296 = IntKind.u32.wrap q := (IntKind.wrap_u32 q).symm
  have hb : (Q : Int) % 4294967296 = IntKind.u32.wrap (Q : Int) := (IntKind.wrap_u32 _).symm
  rw [ha, hb]
  clear ha hb
  have hz := zero_cpu
  have hb1 := build_regs2
  have hb2 := build_cpu2
  have hI := RwAt.new W 29 (imgC ⟨dp, dn, dc, cp, cn, cc, rp, rn, rc, pp, pn, pc, sp, sn, sc⟩ e)
  have HG0 := hid (World.grownBy_alloc W (.cells (imgC ⟨dp, dn, dc, cp, cn, cc, rp, rn, rc, pp, pn, pc, sp, sn, sc⟩ e) 29) none)
  clear hd hdl hQ hQ2
  have HI := hid hI
  clear hI
  go_enter Tryd.func33, Tryd.ntmps33
  go_upto_region 1 with (fail)
  clear hz
  have al := World.grownBy_alloc (W.alloc (.cells (imgC ⟨dp, dn, dc, cp, cn, cc, rp, rn, rc, pp, pn, pc, sp, sn, sc⟩ e) 29)) (.cells (cpuC zeroP) 69) none
  have HI1 := hid (HI.out.kept0 al)
  have HC := hid (CpuAt.new (W.alloc (.cells (imgC ⟨dp, dn, dc, cp, cn, cc, rp, rn, rc, pp, pn, pc, sp, sn, sc⟩ e) 29)) (x := zeroP) rfl)
  have HG1 := hid (grown_trans HG0.out al)
  have hR : (W.alloc (.cells (imgC ⟨dp, dn, dc, cp, cn, cc, rp, rn, rc, pp, pn, pc, sp, sn, sc⟩ e) 29)).heap.size = W.heap.size + 1 := by simp
  rw [hR] at HC
  obtain ⟨I, hIe⟩ : ∃ I, W.heap.size = I := ⟨_, rfl⟩
  obtain ⟨R, hRe⟩ : ∃ R, I + 1 = R := ⟨_, rfl⟩
  have Hge : Hid (W.heap.size ≤ R) := hid (by omega)
  have HIR : Hid (I ≠ R) := hid (by omega)
  try rw [hR]
  rw [hIe, hRe] at HC
  rw [hIe] at HI1
  try rw [hIe, hRe]
  clear al hR HI HG0 hIe hRe
  generalize (W.alloc (.cells (imgC ⟨dp, dn, dc, cp, cn, cc, rp, rn, rc, pp, pn, pc, sp, sn, sc⟩ e) 29)).alloc (.cells (cpuC zeroP) 69) = w1 at HI1 HC HG1 ⊢
  have hg0 : w1.grownBy w1.drew none := grown_drew (grown_refl _ none)
  refine wp_region_held_drew (S := fun W => RwAt W I 29 (imgC ⟨dp, dn, dc, cp, cn, cc, rp, rn, rc, pp, pn, pc, sp, sn, sc⟩ e)) (by kernel_rfl) (HI1.out.kept0 hg0) (fun hS0 => ?_)
  replace HC := hid (HC.out.kept0 hg0)
  replace HG1 := hid (grown_trans HG1.out hg0)
  clear hg0 HI1
  generalize w1.drew = w2 at HC HG1 hS0 ⊢
  refine wpAnyH_take (i := 0) (v := ?_) rfl (by kernel_rfl) (by kernel_rfl) (by kernel_rfl) (fun _ _ _ h => h) (Or.inl ⟨by kernel_rfl, ?_⟩) hS0 ?_
  rotate_left
  · (intro W hSw; clear hSw; go_simp; try with_reducible rfl)
  try simp only [Act.put, List.setIfInBounds_toArray, List.set_cons_zero, List.set_cons_succ, List.getElem_toArray, List.getElem_cons_zero]
  refine wpAnyH_take (i := 1) (v := ?_) rfl (by kernel_rfl) (by kernel_rfl) (by kernel_rfl) (fun _ _ _ h => h) (Or.inl ⟨by kernel_rfl, ?_⟩) hS0 ?_
  rotate_left
  · (intro W hSw; have hc := hSw.cell 0 (v := .int .u32 e) rfl; clear hSw; go_simp; try with_reducible rfl)
  try simp only [Act.put, List.setIfInBounds_toArray, List.set_cons_zero, List.set_cons_succ, List.getElem_toArray, List.getElem_cons_succ, List.getElem_cons_zero]
  refine wpAnyH_take (i := 2) (v := ?_) rfl (by kernel_rfl) (by kernel_rfl) (by kernel_rfl) (fun _ _ _ h => h) (Or.inl ⟨by kernel_rfl, ?_⟩) hS0 ?_
  rotate_left
  · (intro W hSw; clear hSw; go_simp; try with_reducible rfl)
  try simp only [Act.put, List.setIfInBounds_toArray, List.set_cons_zero, List.set_cons_succ, List.getElem_toArray, List.getElem_cons_succ, List.getElem_cons_zero]
  refine wpAnyH_take (i := 3) (v := ?_) rfl (by kernel_rfl) (by kernel_rfl) (by kernel_rfl) (fun _ _ _ h => h) (Or.inl ⟨by kernel_rfl, ?_⟩) hS0 ?_
  rotate_left
  · (intro W hSw; clear hSw; go_simp; try with_reducible rfl)
  try simp only [Act.put, List.setIfInBounds_toArray, List.set_cons_zero, List.set_cons_succ, List.getElem_toArray, List.getElem_cons_succ, List.getElem_cons_zero]
  refine wpAnyH_take (i := 4) (v := .agg (imgC ⟨dp, dn, dc, cp, cn, cc, rp, rn, rc, pp, pn, pc, sp, sn, sc⟩ e)) rfl (by kernel_rfl) (by kernel_rfl) (by kernel_rfl) (fun _ _ _ h => h) (Or.inl ⟨by kernel_rfl, fun W hW => run_load_row _ _ rfl rfl hW.blk rfl Tryd.underlying29 info_image⟩) hS0 ?_
  try simp only [Act.put, List.setIfInBounds_toArray, List.set_cons_zero, List.set_cons_succ, List.getElem_toArray, List.getElem_cons_succ, List.getElem_cons_zero]
  refine wpAnyH_ready (rs := [5]) (by kernel_rfl) (by simp) ?_
  refine AllReadyH.cons rfl (fun KK hKK => ?_) AllReadyH.nil
  go_simp
  refine (HQ.out _).mono ?_; rintro e' w3 ⟨rfl, hg⟩
  have hS1 := hS0.kept0 hg
  replace HC := hid (HC.out.kept0 hg)
  replace HG1 := hid (grown_trans HG1.out hg)
  clear hg hS0
  have hS0 := hS1
  refine hKK.out _ _ hS1 (fun _ => ?_)
  clear hKK KK hS1
  try simp only [Act.put, List.setIfInBounds_toArray, List.set_cons_zero, List.set_cons_succ, List.getElem_toArray, List.getElem_cons_succ, List.getElem_cons_zero]
  refine wpAnyH_take (i := 6) (v := ?_) rfl (by kernel_rfl) (by kernel_rfl) (by kernel_rfl) (fun _ _ _ h => h) (Or.inl ⟨by kernel_rfl, ?_⟩) hS0 ?_
  rotate_left
  · (intro W hSw; clear hSw; go_simp; try with_reducible rfl)
  try simp only [Act.put, List.setIfInBounds_toArray, List.set_cons_zero, List.set_cons_succ, List.getElem_toArray, List.getElem_cons_succ, List.getElem_cons_zero]
  refine wpAnyH_take (i := 7) (v := ?_) rfl (by kernel_rfl) (by kernel_rfl) (by kernel_rfl) (fun _ _ _ h => h) (Or.inl ⟨by kernel_rfl, ?_⟩) hS0 ?_
  rotate_left
  · (intro W hSw; clear hSw; go_simp; try with_reducible rfl)
  try simp only [Act.put, List.setIfInBounds_toArray, List.set_cons_zero, List.set_cons_succ, List.getElem_toArray, List.getElem_cons_succ, List.getElem_cons_zero]
  refine wpAnyH_take (i := 8) (v := ?_) rfl (by kernel_rfl) (by kernel_rfl) (by kernel_rfl) (fun _ _ _ h => h) (Or.inl ⟨by kernel_rfl, ?_⟩) hS0 ?_
  rotate_left
  · (intro W hSw; clear hSw; go_simp; try with_reducible rfl)
  try simp only [Act.put, List.setIfInBounds_toArray, List.set_cons_zero, List.set_cons_succ, List.getElem_toArray, List.getElem_cons_succ, List.getElem_cons_zero]
  refine wpAnyH_ready (rs := [9]) (by kernel_rfl) (by simp) ?_
  refine AllReadyH.cons rfl (fun KK hKK => ?_) AllReadyH.nil
  refine wp_store_row 69 (.tmp 4) (.tmp 13) rfl R (cpuC ⟨[0, IntKind.u32.wrap q, IntKind.u32.wrap (Q : Int), 0, 0, 0, 0, 0, 0, 0, 0, 0, 0, 0, 0, 0], e, false, false, 0, 0, 0, 0⟩) rfl rfl _ _ HC.out.blk (cpu_size_info rfl) (by rw [cpu_size HC.out.len, cpu_size rfl]) (cpu_one _) ?_
  have hS1 := hS0.rowOther R (cpuC ⟨[0, IntKind.u32.wrap q, IntKind.u32.wrap (Q : Int), 0, 0, 0, 0, 0, 0, 0, 0, 0, 0, 0, 0, 0], e, false, false, 0, 0, 0, 0⟩) (by have := HIR.out; omega)
  have E := hid (HC.out.row (y := ⟨[0, IntKind.u32.wrap q, IntKind.u32.wrap (Q : Int), 0, 0, 0, 0, 0, 0, 0, 0, 0, 0, 0, 0, 0], e, false, false, 0, 0, 0, 0⟩) rfl)
  have EG := hid (grown_setRow HG1.out Hge.out (cpuC ⟨[0, IntKind.u32.wrap q, IntKind.u32.wrap (Q : Int), 0, 0, 0, 0, 0, 0, 0, 0, 0, 0, 0, 0, 0], e, false, false, 0, 0, 0, 0⟩))
  refine hKK.out _ _ hS1 (fun _ => ?_)
  clear hKK KK hS0 hS1
  try simp only [Act.put, List.getElem_toArray, List.getElem_cons_succ, List.getElem_cons_zero]
  refine wpAnyH_done (by kernel_rfl) ?_ _
  go_wp2
  refine bodyPost_ret (results_cell_row Tryd.results33 _ _ R _ _ _ _ rfl E.out.blk Tryd.underlying69 rfl (cpu_size_info E.out.len)) rfl ?_
  exact ⟨rfl, EG.out⟩
end Go.Proofs.YtpkgckjlhjcdmaaDoor
/- Package load: an image as it is laid in memory: contracts. -/
namespace Go.Proofs.YtpkgckjlhjcdmaaDoor
open Go.RowKit
theorem padded_full {l : List Int} (h : l.length = 16) : padded l = l := by simp [padded, h]
theorem build_e3 (f : Int) (w : World) : (Instr.build 142 #[(0, .int .i64 f), (1, .bool true), (2, .bool true), (3, .bool true)]).run Tryd.prog w = .ok (.agg #[.int .i64 f, .bool true, .bool true, .bool true]) w := by kernel_rfl
theorem build_e2 (f : Int) (w : World) : (Instr.build 142 #[(0, .int .i64 f), (1, .bool true), (3, .bool true)]).run Tryd.prog w = .ok (.agg #[.int .i64 f, .bool true, .bool false, .bool true]) w := by kernel_rfl
set_option maxRecDepth 100000 in
set_option maxHeartbeats 1000000 in
theorem enter_load {W : World} {m b n c : Nat} {xs : List Int} (h : MemAt W m b n c xs) (a : Int) (k : Nat) (ha : a = (k : Int)) (hk : k < n * 16) (f : Int) (wr : Bool) (f0 : 0 ≤ f) (f1 : f < 1024) (v : Int) (hv : bitV f true wr true = v) :
    Calls Tryd.prog 82 #[.pointer (some ⟨m, 0, none⟩), .int .i64 a, .agg #[.int .i64 f, .bool true, .bool wr, .bool true]] W fun e w' => e = .returned (.tuple #[]) ∧ MemAt w' m b n c (xs.set k v) ∧ W.grownBy w' (some b) := by
  subst ha
  have al := World.grownBy_alloc W (.cells #[.int .i64 f, .bool true, .bool wr, .bool true] 142) none
  have HM := hid (h.kept0 al)
  have HG := hid al
  have HB := hid (fun W => bits_of f true wr true v true hv (bitB_there wr true f0 f1) W)
  have Hk := hid hk
  clear h al hk hv
  go_enter Tryd.func82, Tryd.ntmps82
  go_wp2_with fail
  refine (HB.out _).mono ?_; rintro e w1 ⟨rfl, hg⟩
  have HM1 := hid (HM.out.kept0 hg)
  have HG1 := hid (grown_trans HG.out hg)
  clear hg HM HG
  go_wp2_with fail
  refine (write_of HM1.out _ v k rfl Hk.out).mono ?_; rintro e w2 ⟨rfl, hm, hg⟩
  have HM2 := hid hm
  have HG2 := hid (grown_trans (grown_none HG1.out) hg)
  clear hg hm
  go_wp2
  go_end0
  exact ⟨rfl, HM2.out, HG2.out⟩
set_option maxRecDepth 100000 in
set_option maxHeartbeats 2000000 in
theorem put_load {W0 W : World} {V : IV} {x : Ig} {m b n c : Nat} {xs : List Int} (h : MemAt W m b n c xs) (hi : ImAt W0 V x) (hW : W0.grownBy W none) (hb : W0.heap.size ≤ b) (hd : V.dn ≤ 1000000) (hc : V.cn ≤ 1000000)
    (p : Int) (P : Nat) (hP : p = (P : Int)) (hP2 : P < 256) (hn : 17 ≤ n) {L : List Int} (hL : pageI x p = some L) (hL2 : L.length = 16) (f : Nat) (fi : Int) (hf : fi = (f : Int)) (hfn : f < n) (wr : Bool) (v : Int) (hv : bitV fi true wr true = v) :
    Calls Tryd.prog 83 #[.pointer (some ⟨m, 0, none⟩), .agg (imgC V x.e), .int .i64 p, .agg #[.int .i64 fi, .bool true, .bool wr, .bool true]] W fun e w' => e = .returned (.tuple #[]) ∧ MemAt w' m b n c ((setMany xs (f * 16) L).set (16 + P) v) ∧ W.grownBy w' (some b) := by
  subst hP
  subst hf
  have hn2 := h.n2
  obtain ⟨T, hT⟩ : ∃ T, 16 + P = T := ⟨_, rfl⟩
  have hT1 : 16 + (P : Int) = (T : Int) := by omega
  have HTn : Hid (T < n * 16) := hid (by omega)
  have t0 : (0 : Int) ≤ (P : Int) := by omega
  have t1 : (P : Int) < 256 := by omega
  have al := grown_alloc (World.grownBy_alloc W (.cells (imgC V x.e) 29) none) (.cells #[.int .i64 (f : Int), .bool true, .bool wr, .bool true] 142)
  have HM := hid (h.kept0 al)
  have HG := hid (grown_trans hW al)
  have HK := hid al
  have HX := hid ((RwAt.new W 29 (imgC V x.e)).alloc (.cells #[.int .i64 (f : Int), .bool true, .bool wr, .bool true] 142))
  have HY := hid (RwAt.new2 W (.cells (imgC V x.e) 29) 142 #[.int .i64 (f : Int), .bool true, .bool wr, .bool true])
  have Hi := hid hi
  have Hb := hid hb
  have Hd := hid (And.intro hd hc)
  have HL := hid hL
  have HL2 := hid hL2
  have Hfn := hid (And.intro hfn (show (f : Int) < 1024 by omega))
  have Hv := hid hv
  have HT := hid hT
  rw [hT]
  clear h hi hW hb hd hc hL hL2 hfn hv hP2 hn hn2 al hT
  go_enter Tryd.func83, Tryd.ntmps83
  go_upto_region 1 with (fail)
  try rw [show (W.alloc (.cells (imgC V x.e) 29)).heap.size = W.heap.size + 1 by simp]
  generalize (W.alloc (.cells (imgC V x.e) 29)).alloc (.cells #[.int .i64 (f : Int), .bool true, .bool wr, .bool true] 142) = w1 at HM HG HX HY HK ⊢
  generalize W.heap.size = I at HX HY ⊢
  obtain ⟨J, hJ⟩ : ∃ J, I + 1 = J := ⟨_, rfl⟩
  try rw [hJ]
  rw [hJ] at HY
  clear hJ
  go_wp2_with (first
    | (refine wpList_load_im (by kernel_rfl) _ rfl rfl HX.out ?_)
    | fail)
  refine (page_yes (e := x.e) _ (Hi.out.kept0 HG.out) Hd.out.1 Hd.out.2 (P : Int) HL.out (by omega) (by omega)).mono ?_
  rintro e w2 ⟨g, rfl, _, hs, hg⟩
  have HS := hid hs
  have HM2 := hid (HM.out.kept0 hg)
  have HK2 := hid (grown_trans HK.out hg)
  have HY2 := hid (HY.out.kept0 hg)
  clear hs hg HM HG HX HY HK
  have y0 := HY2.out.cell 0 (v := .int .i64 (f : Int)) rfl
  go_wp2_with fail
  refine (fill_yes HM2.out f _ L Hfn.out.1 HS.out (by rw [HL2.out]; exact Nat.le_refl _)).mono ?_
  rintro e w3 ⟨rfl, hm, hg⟩
  rw [padded_full HL2.out] at hm
  have HM3 := hid hm
  have HK3 := hid (grown_trans (grown_none HK2.out) hg)
  have hY3 := HY2.out.kept hg (fun e => by
    have e := Option.some.inj e
    subst e
    obtain ⟨cur, h1, _⟩ := HM2.out.hb
    have h2 := h1.symm.trans HY2.out.blk
    simp only [Option.some.injEq, Obj.cells.injEq] at h2
    exact absurd h2.2.1 (by decide))
  clear hm hg HM2 HK2 y0
  have y0 := hY3.cell 0 (v := .int .i64 (f : Int)) rfl
  have y1 := hY3.cell 1 (v := .bool true) rfl
  have y2 := hY3.cell 2 (v := .bool wr) rfl
  have y3 := hY3.cell 3 (v := .bool true) rfl
  clear hY3 HY2
  go_wp2_with fail
  refine (enter_load HM3.out _ T rfl HTn.out (f : Int) wr (by omega) Hfn.out.2 v Hv.out).mono ?_
  rintro e w4 ⟨rfl, hm, hg⟩
  have HM4 := hid hm
  have HK4 := hid (grown_trans HK3.out hg)
  clear hm hg y0 y1 y2 y3
  go_wp2
  go_end0
  exact ⟨rfl, HM4.out, HK4.out⟩
end Go.Proofs.YtpkgckjlhjcdmaaDoor
/- Package load: the memory of an image, and its bare machine: contracts. -/
namespace Go.Proofs.YtpkgckjlhjcdmaaDoor
open Go.RowKit
/-- where the laying of memory stands -/
structure LmW (W w : World) (I m b n : Nat) (V : IV) (x : Ig) (xs : List Int) : Prop where
  g : W.grownBy w none
  box : RwAt w I 29 (imgC V x.e)
  mem : MemAt w m b n n xs
theorem LmW.kept0 {W w w1 : World} {I m b n : Nat} {V : IV} {x : Ig} {xs : List Int} (h : LmW W w I m b n V x xs) (hg : w.grownBy w1 none) : LmW W w1 I m b n V x xs := ⟨grown_trans h.g hg, h.box.kept0 hg, h.mem.kept0 hg⟩
theorem RwAt.notMem {w w1 : World} {I m b n c : Nat} {xs : List Int} {cs : Array Value} (h : RwAt w I 29 cs) (hm : MemAt w m b n c xs) (hg : w.grownBy w1 (some b)) : RwAt w1 I 29 cs := h.kept hg (fun e => by
  have e := Option.some.inj e
  subst e
  obtain ⟨cur, h1, _⟩ := hm.hb
  have h2 := h1.symm.trans h.blk
  simp only [Option.some.injEq, Obj.cells.injEq] at h2
  exact absurd h2.2.1 (by decide))
def LmAt (W : World) (n : Nat) (xs : List Int) (e : Ending) (w' : World) : Prop :=
  ∃ m b, e = .returned (.tuple #[.pointer (some ⟨m, 0, none⟩), .nilIface]) ∧ W.heap.size ≤ m ∧ W.heap.size ≤ b ∧ MemAt w' m b n n xs ∧ W.grownBy w' none
set_option maxRecDepth 100000 in
set_option maxHeartbeats 8000000 in
theorem mem_load {W : World} {V : IV} {x : Ig} (hi : ImAt W V x) (hd : V.dn ≤ 2048) (hc : V.cn ≤ 2048) (q : Int) (Q : Nat) (hq : q = (Q : Int)) (hQ : 17 + pgN x.D ≤ Q) (hQ2 : Q ≤ 256) (n : Nat) (hn : Q + pgN x.C = n) :
    Calls Tryd.prog 56 #[.agg (imgC V x.e), .int .i64 q] W (LmAt W n (memI x Q)) := by
  subst hq
  obtain ⟨d, hd1⟩ : ∃ d, (V.dn + 15) / 16 = d := ⟨_, rfl⟩
  obtain ⟨c, hc1⟩ : ∃ c, (V.cn + 15) / 16 = c := ⟨_, rfl⟩
  have hD : pgN x.D = d := by unfold pgN; rw [hi.dl, hd1]
  have hC : pgN x.C = c := by unfold pgN; rw [hi.cl, hc1]
  rw [hD] at hQ
  rw [hC] at hn
  have Hd := hid hD
  have Hc := hid hC
  have Hq := hid (And.intro hQ (And.intro hQ2 hn))
  have Hb : Hid (d ≤ 128 ∧ c ≤ 128 ∧ V.dn ≤ 1000000 ∧ V.cn ≤ 1000000) := hid (by omega)
  have Hi := hid hi
  have q0 : (0 : Int) ≤ (Q : Int) := by omega
  have q1 : (Q : Int) ≤ 256 := by omega
  have d0 : (0 : Int) ≤ (d : Int) := by omega
  have d1 : (d : Int) ≤ 128 := by omega
  have c0 : (0 : Int) ≤ (c : Int) := by omega
  have c1 : (c : Int) ≤ 128 := by omega
  have hn1 : (Q : Int) + (c : Int) = (n : Int) := by omega
  have Hn : Hid (1 ≤ n ∧ n ≤ 1024) := hid (by omega)
  have HP := hid (fun W => pages_any V x.e W (by omega) (by omega) d c hd1 hc1)
  have he3 := build_e3
  have he2 := build_e2
  have al := World.grownBy_alloc W (.cells (imgC V x.e) 29) none
  have HG := hid al
  have HX := hid (RwAt.new W 29 (imgC V x.e))
  clear hi hd hc hQ hQ2 hn hd1 hc1 hD hC al
  go_enter Tryd.func56, Tryd.ntmps56
  go_upto_region 1 with (fail)
  generalize W.alloc (.cells (imgC V x.e) 29) = w1 at HG HX ⊢
  obtain ⟨I, hI⟩ : ∃ I, W.heap.size = I := ⟨_, rfl⟩
  rw [hI] at HX ⊢
  clear hI
  go_wp2_with (first
    | (refine wpList_load_im (by kernel_rfl) _ rfl rfl HX.out ?_)
    | fail)
  refine (HP.out _).mono ?_; rintro e w2 ⟨rfl, hg⟩
  have HG2 := hid (grown_trans HG.out hg)
  have HX2 := hid (HX.out.kept0 hg)
  clear hg HG HX
  go_wp2_with fail
  refine (new_of _ n rfl Hn.out.1 Hn.out.2).mono ?_
  rintro e w3 ⟨m, b, rfl, hm, hb, hM, hg⟩
  have HL : Hid (LmW W w3 I m b n V x (memL x Q 0 0 0 0 0)) := hid ⟨grown_trans HG2.out hg, HX2.out.kept0 hg, by
    rw [memL_zero, show 16 * (Q + pgN x.C) = n * 16 by rw [Hc.out, Hq.out.2.2]; omega]; exact hM⟩
  have Hm := hid (And.intro (Nat.le_trans HG2.out.size hm) (Nat.le_trans HG2.out.size hb))
  clear hm hb hM hg HG2 HX2
  go_wp2
  clear hn1
  go_loopw [28] (fun i wr => ∃ k : Nat, k ≤ 16 ∧ i = .int .i64 k ∧ Hid (LmW W wr I m b n V x (memL x Q k 0 0 0 0))) (fun i _ => 16 - (intOf i).toNat)
  case atStart => exact ⟨0, Nat.zero_le _, rfl, HL⟩
  case round =>
    clear HL
    obtain ⟨k, hk, rfl, HL⟩ := hrel
    have k0 : (0 : Int) ≤ (k : Int) := by omega
    by_cases hlt : k < 16
    · have k1 : (k : Int) < 16 := by omega
      go_wp2_with fail
      refine (enter_load HL.out.mem _ k rfl (by have := Hq.out; omega) ((k : Int) + 1) true (by omega) (by omega) (((k : Int) + 1) * 256 + 7) (bit7 (by omega) (by omega))).mono ?_
      rintro e w4 ⟨rfl, hm, hg⟩
      rw [memL_k hlt] at hm
      have HL4 : Hid (LmW W w4 I m b n V x (memL x Q (k + 1) 0 0 0 0)) := hid ⟨grown_new' (grown_trans (grown_none HL.out.g) hg) (fun j hj => by obtain rfl := Option.some.inj hj; exact Hm.out.2), HL.out.box.notMem HL.out.mem hg, hm⟩
      clear hm hg HL
      go_wp2
      go_roundw
      case rel => exact ⟨k + 1, by omega, by go_num, HL4⟩
      case measure => simp [intOf]; omega
    · have k1 : ¬ (k : Int) < 16 := by omega
      have hk16 : k = 16 := by omega
      have HL0 := HL.out
      rw [hk16] at HL0
      have HL := hid HL0
      clear HL0 hlt hk hk16
      go_wp2
      clear k0 k1
      go_loopw [39] (fun i wr => ∃ k : Nat, k ≤ d ∧ i = .int .i64 k ∧ Hid (LmW W wr I m b n V x (memL x Q 16 k k 0 0))) (fun i _ => d - (intOf i).toNat)
      case atStart => exact ⟨0, Nat.zero_le _, rfl, HL⟩
      case round =>
        clear HL
        obtain ⟨p, hp, rfl, HL⟩ := hrel
        have p0 : (0 : Int) ≤ (p : Int) := by omega
        by_cases hlt : p < d
        · have p1 : (p : Int) < (d : Int) := by omega
          obtain ⟨F, hF⟩ : ∃ F, 17 + p = F := ⟨_, rfl⟩
          have hF1 : 17 + (p : Int) = (F : Int) := by omega
          have HF := hid hF
          clear hF
          go_wp2_with (first
            | (refine wpList_load_im (by kernel_rfl) _ rfl rfl HL.out.box ?_)
            | fail)
          refine (put_load (L := pgW x.D p) HL.out.mem Hi.out HL.out.g Hm.out.2 Hb.out.2.2.1 Hb.out.2.2.2 (p : Int) p rfl (by have := Hb.out; omega) (by have := Hq.out; omega) (by rw [pageI_low (by have := Hb.out; omega), pageOfI_some (by rw [Hd.out]; exact hlt)]) (pgW_length _ _) F _ rfl (by have := Hq.out; have := HF.out; omega) true ((17 + (p : Int)) * 256 + 7) (by rw [bit7 (by omega) (by have := HF.out; have := Hb.out; omega)]; omega)).mono ?_
          rintro e w4 ⟨rfl, hm, hg⟩
          have hm2 : MemAt w4 m b n n (memL x Q 16 (p + 1) (p + 1) 0 0) := by
            rw [← HF.out, memL_df (by have := Hq.out; omega), memL_de (by have := Hb.out; omega)] at hm
            exact hm
          have HL4 : Hid (LmW W w4 I m b n V x (memL x Q 16 (p + 1) (p + 1) 0 0)) := hid ⟨grown_new' (grown_trans (grown_none HL.out.g) hg) (fun j hj => by obtain rfl := Option.some.inj hj; exact Hm.out.2), HL.out.box.notMem HL.out.mem hg, hm2⟩
          clear hm hm2 hg HL hF1
          go_wp2
          go_roundw
          case rel => exact ⟨p + 1, by omega, by go_num, HL4⟩
          case measure => simp [intOf]; omega
        · have p1 : ¬ (p : Int) < (d : Int) := by omega
          have hpd : p = d := by omega
          have HL0 := HL.out
          rw [hpd] at HL0
          have HL := hid HL0
          clear HL0 hlt hp hpd
          go_wp2
          clear p0 p1
          go_loopw [51] (fun i wr => ∃ k : Nat, k ≤ c ∧ i = .int .i64 k ∧ Hid (LmW W wr I m b n V x (memL x Q 16 d d k k))) (fun i _ => c - (intOf i).toNat)
          case atStart => exact ⟨0, Nat.zero_le _, rfl, HL⟩
          case round =>
            clear HL
            obtain ⟨p, hp, rfl, HL⟩ := hrel
            have p0 : (0 : Int) ≤ (p : Int) := by omega
            by_cases hlt : p < c
            · have p1 : (p : Int) < (c : Int) := by omega
              obtain ⟨F, hF⟩ : ∃ F, Q + p = F := ⟨_, rfl⟩
              obtain ⟨G, hG⟩ : ∃ G, 128 + p = G := ⟨_, rfl⟩
              have hF1 : (Q : Int) + (p : Int) = (F : Int) := by omega
              have hG1 : 128 + (p : Int) = (G : Int) := by omega
              have HF := hid hF
              have HGe := hid hG
              clear hF hG
              go_wp2_with (first
                | (refine wpList_load_im (by kernel_rfl) _ rfl rfl HL.out.box ?_)
                | fail)
              refine (put_load (L := pgW x.C p) HL.out.mem Hi.out HL.out.g Hm.out.2 Hb.out.2.2.1 Hb.out.2.2.2 (G : Int) G rfl (by have := HGe.out; have := Hb.out; omega) (by have := Hq.out; omega) (by rw [pageI_high (by omega), show (G : Int) - 128 = (p : Int) from by omega, pageOfI_some (by rw [Hc.out]; exact hlt)]) (pgW_length _ _) F _ rfl (by have := Hq.out; have := HF.out; omega) false (((Q : Int) + (p : Int)) * 256 + 5) (by rw [bit5 (by omega) (by have := HF.out; have := Hb.out; omega)]; omega)).mono ?_
              rintro e w4 ⟨rfl, hm, hg⟩
              have hm2 : MemAt w4 m b n n (memL x Q 16 d d (p + 1) (p + 1)) := by
                rw [← HF.out, memL_cf (by have := Hq.out; omega) (by rw [Hc.out]; exact hlt), show 16 + G = 144 + p from by have := HGe.out; omega, memL_ce (by have := Hb.out; omega) (by have := Hb.out; omega)] at hm
                exact hm
              have HL4 : Hid (LmW W w4 I m b n V x (memL x Q 16 d d (p + 1) (p + 1))) := hid ⟨grown_new' (grown_trans (grown_none HL.out.g) hg) (fun j hj => by obtain rfl := Option.some.inj hj; exact Hm.out.2), HL.out.box.notMem HL.out.mem hg, hm2⟩
              clear hm hm2 hg HL hF1 hG1
              go_wp2
              go_roundw
              case rel => exact ⟨p + 1, by omega, by go_num, HL4⟩
              case measure => simp [intOf]; omega
            · have p1 : ¬ (p : Int) < (c : Int) := by omega
              have hpd : p = c := by omega
              have HL0 := HL.out
              rw [hpd] at HL0
              have HLf := hid HL0
              clear HL0 HL hlt hp hpd
              go_wp2
              go_ret2
              refine ⟨m, b, rfl, Hm.out.1, Hm.out.2, ?_, HLf.out.g⟩
              unfold memI
              rw [Hd.out, Hc.out]
              exact HLf.out.mem
/-- the words of an image are words -/
theorem mem_u32 {V : IV} {x : Ig} {W : World} (h : ImAt W V x) {Q : Nat} (hQ : Q ≤ 512) : U32s (memI x Q) := by
  intro v hv
  obtain ⟨j, hj⟩ := List.getElem?_of_mem hv
  unfold memI at hj
  have hl : j < 16 * (Q + pgN x.C) := by
    have := (List.getElem?_eq_some_iff.1 hj).1
    rwa [memL_length] at this
  rw [memF_get hl] at hj
  have := memF_u32 (x := x) (q := Q) (kk := 16) (de := pgN x.D) (df := pgN x.D) (ce := pgN x.C) (cf := pgN x.C) h.dw h.cw hQ j
  rw [← Option.some.inj hj]
  exact this
theorem cpu_ok {V : IV} {x : Ig} {W : World} (h : ImAt W V x) (q : Int) : CpOk (cpuI x q) := by
  have e0 := h.e0
  have e1 := h.e1
  refine ⟨⟨rfl, ?_⟩, e0, by show x.e ≤ _; omega, (by show (0 : Int) ≤ 0; decide), (by show (0 : Int) ≤ 4294967295; decide), (by show (0 : Int) ≤ 0; decide), (by show (0 : Int) ≤ 4294967295; decide), (by show (0 : Int) ≤ 0; decide), (by show (0 : Int) ≤ 4294967295; decide), (by show (0 : Int) ≤ 0; decide), (by show (0 : Int) ≤ 4294967295; decide)⟩
  intro v hv
  simp only [cpuI, List.mem_cons, List.not_mem_nil, or_false] at hv
  rcases hv with rfl | rfl | rfl | rfl | rfl | rfl | rfl | rfl | rfl | rfl | rfl | rfl | rfl | rfl | rfl | rfl <;> omega
/-- what is wrong with the loading of an image -/
def codeB (x : Ig) (q : Int) : Int := if valI x ≠ 0 then valI x else if q < (quoI x : Int) ∨ 256 < q then 103 else 0
theorem codeB_fine {x : Ig} {q : Int} (h : codeB x q = 0) : valI x = 0 ∧ (quoI x : Int) ≤ q ∧ q ≤ 256 := by
  unfold codeB at h
  by_cases h1 : valI x ≠ 0
  · rw [if_pos h1] at h; exact absurd h h1
  · rw [if_neg h1] at h
    by_cases h2 : q < (quoI x : Int) ∨ 256 < q
    · rw [if_pos h2] at h; cases h
    · exact ⟨by simpa using h1, by omega, by omega⟩
theorem valI_cases (x : Ig) : valI x = 104 ∨ valI x = 103 ∨ valI x = 0 := by
  unfold valI
  by_cases h1 : 2048 < x.D.length ∨ 2048 < x.C.length
  · rw [if_pos h1]; exact .inl rfl
  · rw [if_neg h1]
    by_cases h2 : x.e < 2048 ∨ 2048 + (x.C.length : Int) ≤ x.e
    · rw [if_pos h2]; exact .inr (.inl rfl)
    · rw [if_neg h2]; exact .inr (.inr rfl)
theorem valI_lens {x : Ig} (h : valI x = 0) : x.D.length ≤ 2048 ∧ x.C.length ≤ 2048 := by
  unfold valI at h
  by_cases h1 : 2048 < x.D.length ∨ 2048 < x.C.length
  · rw [if_pos h1] at h; cases h
  · omega
set_option maxRecDepth 100000 in
set_option maxHeartbeats 4000000 in
theorem bare_no {W : World} {V : IV} {x : Ig} {A : Nat → Addr} (hi : ImAt W V x) (hE : LdE W A) (hd : V.dn ≤ 1000000) (hc : V.cn ≤ 1000000) (q : Int) (q0 : -9223372036854775808 ≤ q) (q1 : q ≤ 9223372036854775807) (hcode : codeB x q ≠ 0) :
    Calls Tryd.prog 35 #[.agg (imgC V x.e), .int .i64 q] W fun e w' => e = .returned (.tuple #[.pointer none, lvV A (codeB x q)]) ∧ W.grownBy w' none := by
  have al := World.grownBy_alloc W (.cells (imgC V x.e) 29) none
  have HG := hid al
  have HX := hid (RwAt.new W 29 (imgC V x.e))
  have HV := hid (fun (w : World) (hg : W.grownBy w none) => valid_load w (hi.kept0 hg) (hE.kept0 hg) hd hc)
  have HE := hid hE
  obtain ⟨Q, hQ⟩ : ∃ Q, quoI x = Q := ⟨_, rfl⟩
  have HQ := hid (fun W => quota_any V x.e W hd Q (by rw [← hQ]; unfold quoI pgN; rw [hi.dl]))
  have hnil := run_err_nil
  unfold codeB at hcode ⊢
  rw [hQ] at hcode ⊢
  rcases valI_cases x with hv | hv | hv
  · rw [hv] at HV hcode ⊢
    rw [if_pos (by decide), lvV_many]
    rw [lvV_many] at HV
    unfold errV at hnil HV ⊢
    have hn := hnil (A 3)
    clear hnil hi hE hcode hv
    go_enter Tryd.func35, Tryd.ntmps35
    go_upto_region 1 with (fail)
    generalize W.alloc (.cells (imgC V x.e) 29) = w1 at HG HX ⊢
    generalize W.heap.size = I at HX ⊢
    go_wp2_with (first
      | (refine wpList_load_im (by kernel_rfl) _ rfl rfl HX.out ?_)
      | fail)
    refine (HV.out _ HG.out).mono ?_; rintro e w2 ⟨rfl, hg⟩
    have HG2 := hid (grown_trans HG.out hg)
    clear hg HG HX
    go_wp2
    go_ret2
    exact ⟨rfl, HG2.out⟩
  · rw [hv] at HV hcode ⊢
    rw [if_pos (by decide), lvV_range]
    rw [lvV_range] at HV
    unfold errV at hnil HV ⊢
    have hn := hnil (A 2)
    clear hnil hi hE hcode hv
    go_enter Tryd.func35, Tryd.ntmps35
    go_upto_region 1 with (fail)
    generalize W.alloc (.cells (imgC V x.e) 29) = w1 at HG HX ⊢
    generalize W.heap.size = I at HX ⊢
    go_wp2_with (first
      | (refine wpList_load_im (by kernel_rfl) _ rfl rfl HX.out ?_)
      | fail)
    refine (HV.out _ HG.out).mono ?_; rintro e w2 ⟨rfl, hg⟩
    have HG2 := hid (grown_trans HG.out hg)
    clear hg HG HX
    go_wp2
    go_ret2
    exact ⟨rfl, HG2.out⟩
  · rw [hv] at HV hcode ⊢
    rw [if_neg (by decide)] at hcode ⊢
    rw [lvV_fine] at HV
    have hor : q < (Q : Int) ∨ 256 < q := by
      by_cases h : q < (Q : Int) ∨ 256 < q
      · exact h
      · rw [if_neg h] at hcode; exact absurd rfl hcode
    rw [if_pos hor, lvV_range]
    clear hcode hv hi hnil
    by_cases hlt : q < (Q : Int)
    · clear hor
      unfold errV
      go_enter Tryd.func35, Tryd.ntmps35
      go_upto_region 1 with (fail)
      generalize W.alloc (.cells (imgC V x.e) 29) = w1 at HG HX ⊢
      generalize W.heap.size = I at HX ⊢
      go_wp2_with (first
        | (refine wpList_load_im (by kernel_rfl) _ rfl rfl HX.out ?_)
        | fail)
      refine (HV.out _ HG.out).mono ?_; rintro e w2 ⟨rfl, hg⟩
      have HG2 := hid (grown_trans HG.out hg)
      have HX2 := hid (HX.out.kept0 hg)
      clear hg HG HX
      go_wp2_with (first
        | (refine wpList_load_im (by kernel_rfl) _ rfl rfl HX2.out ?_)
        | fail)
      refine (HQ.out _).mono ?_; rintro e w3 ⟨rfl, hg⟩
      have HG3 := hid (grown_trans HG2.out hg)
      have hE3 := (HE.out.kept0 HG3.out).rng
      unfold errV at hE3
      clear hg HG2 HX2 hE
      go_wp2
      go_quiet (fail)
      go_wp2
      go_ret2
      exact ⟨rfl, grown_drewN HG3.out _⟩
    · have hgt : 256 < q := by omega
      clear hor
      unfold errV
      go_enter Tryd.func35, Tryd.ntmps35
      go_upto_region 1 with (fail)
      generalize W.alloc (.cells (imgC V x.e) 29) = w1 at HG HX ⊢
      generalize W.heap.size = I at HX ⊢
      go_wp2_with (first
        | (refine wpList_load_im (by kernel_rfl) _ rfl rfl HX.out ?_)
        | fail)
      refine (HV.out _ HG.out).mono ?_; rintro e w2 ⟨rfl, hg⟩
      have HG2 := hid (grown_trans HG.out hg)
      have HX2 := hid (HX.out.kept0 hg)
      clear hg HG HX
      go_wp2_with (first
        | (refine wpList_load_im (by kernel_rfl) _ rfl rfl HX2.out ?_)
        | fail)
      refine (HQ.out _).mono ?_; rintro e w3 ⟨rfl, hg⟩
      have HG3 := hid (grown_trans HG2.out hg)
      have hE3 := (HE.out.kept0 HG3.out).rng
      unfold errV at hE3
      clear hg HG2 HX2 hE
      go_wp2
      go_quiet (fail)
      go_wp2
      go_ret2
      exact ⟨rfl, grown_drewN HG3.out _⟩
set_option maxRecDepth 100000 in
set_option maxHeartbeats 4000000 in
theorem bare_yes {W : World} {V : IV} {x : Ig} {A : Nat → Addr} (hi : ImAt W V x) (hE : LdE W A) (q : Int) (Q : Nat) (hq : q = (Q : Int)) (hcode : codeB x q = 0) (n : Nat) (hn : Q + pgN x.C = n) :
    Calls Tryd.prog 35 #[.agg (imgC V x.e), .int .i64 q] W (MNew W n q (initM (memI x Q) (cpuI x q))) := by
  subst hq
  obtain ⟨hv, hq1, hq2⟩ := codeB_fine hcode
  obtain ⟨hl1, hl2⟩ := valI_lens hv
  have hd : V.dn ≤ 2048 := by rw [← hi.dl]; exact hl1
  have hc : V.cn ≤ 2048 := by rw [← hi.cl]; exact hl2
  have al := World.grownBy_alloc W (.cells (imgC V x.e) 29) none
  have HG := hid al
  have HX := hid (RwAt.new W 29 (imgC V x.e))
  have HV := hid (fun (w : World) (hg : W.grownBy w none) => valid_load w (hi.kept0 hg) (hE.kept0 hg) (by omega) (by omega))
  rw [hv, lvV_fine] at HV
  obtain ⟨K, hK⟩ : ∃ K, quoI x = K := ⟨_, rfl⟩
  have HQ := hid (fun W => quota_any V x.e W (by omega) K (by rw [← hK]; unfold quoI pgN; rw [hi.dl]))
  have HM := hid (fun (w : World) (hg : W.grownBy w none) => mem_load (hi.kept0 hg) hd hc (Q : Int) Q rfl (by unfold quoI at hq1; omega) (by omega) n hn)
  obtain ⟨y, hy⟩ : ∃ y, cpuI x (Q : Int) = y := ⟨_, rfl⟩
  have HC := hid (fun W => cpu_load (V := V) (x := x) W (by omega) hi.dl (Q : Int) (by omega) (by omega) y hy)
  have HY : Hid (CpOk y) := hid (by rw [← hy]; exact cpu_ok hi _)
  have HU := hid (mem_u32 hi (Q := Q) (by omega))
  have HQ17 : Hid (17 ≤ (Q : Int)) := hid (by unfold quoI at hq1; omega)
  rw [hy]
  rw [hK] at hq1
  have k1 : ¬ (Q : Int) < (K : Int) := by omega
  have k2 : ¬ 256 < (Q : Int) := by omega
  have k3 : (0 : Int) ≤ (Q : Int) := by omega
  have HQ256 : Hid ((Q : Int) ≤ 256) := hid (by omega)
  clear hi hE hcode hv hq1 hl1 hl2 hd hc al hy hK hn
  go_enter Tryd.func35, Tryd.ntmps35
  go_upto_region 1 with (fail)
  generalize W.alloc (.cells (imgC V x.e) 29) = w1 at HG HX ⊢
  generalize W.heap.size = I at HX ⊢
  go_wp2_with (first
    | (refine wpList_load_im (by kernel_rfl) _ rfl rfl HX.out ?_)
    | fail)
  refine (HV.out _ HG.out).mono ?_; rintro e w2 ⟨rfl, hg⟩
  have HG2 := hid (grown_trans HG.out hg)
  have HX2 := hid (HX.out.kept0 hg)
  clear hg HG HX
  go_wp2_with (first
    | (refine wpList_load_im (by kernel_rfl) _ rfl rfl HX2.out ?_)
    | fail)
  refine (HQ.out _).mono ?_; rintro e w3 ⟨rfl, hg⟩
  have HG3 := hid (grown_trans HG2.out hg)
  have HX3 := hid (HX2.out.kept0 hg)
  clear hg HG2 HX2
  go_wp2_with (first
    | (refine wpList_load_im (by kernel_rfl) _ rfl rfl HX3.out ?_)
    | fail)
  refine (HM.out _ HG3.out).mono ?_; rintro e w4 ⟨m, b, rfl, _, _, hm, hg⟩
  have HG4 := hid (grown_trans HG3.out hg)
  have HX4 := hid (HX3.out.kept0 hg)
  have HM4 := hid hm
  clear hg HG3 HX3 hm
  go_wp2_with (first
    | (refine wpList_load_im (by kernel_rfl) _ rfl rfl HX4.out ?_)
    | fail)
  refine (HC.out _).mono ?_; rintro e w5 ⟨rfl, hg⟩
  have HG5 := hid (grown_trans HG4.out hg)
  have HM5 := hid (HM4.out.kept0 hg)
  clear hg HG4 HX4 HM4
  go_wp2_with fail
  refine (mb_new (W := W) HM5.out HG5.out HY.out HU.out (q := (Q : Int)) HQ17.out HQ256.out).mono ?_; rintro e w6 ⟨p, rfl, hB⟩
  have HB := hid hB
  clear hB
  go_wp2
  go_ret2
  exact ⟨p, rfl, HB.out⟩
end Go.Proofs.YtpkgckjlhjcdmaaDoor

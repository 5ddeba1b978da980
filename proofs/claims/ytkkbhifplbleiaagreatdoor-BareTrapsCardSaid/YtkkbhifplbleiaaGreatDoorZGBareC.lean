/- A bare machine's step; what it tells: contracts. -/
import Derived.Test.YtkkbhifplbleiaaGreatDoorZBare8
import Derived.Test.YtkkbhifplbleiaaGreatDoorZGMem
import Derived.Test.YtkkbhifplbleiaaGreatDoorZGDev
import Derived.Test.YtkkbhifplbleiaaGreatDoorZMem8P
import Derived.Test.YtkkbhifplbleiaaGreatDoorZLMem8
import Derived.Deep.RegionHeld3
namespace Go.Proofs.YtkkbhifplbleiaaGreatDoor
open Go.RowKit
section
variable {n : Nat} {q : Int}
theorem take_now (X : Mc) (c a : Int) : (takeP X c a).now = X.now := by unfold takeP; split <;> rfl
theorem int_now (M : Mc) : (intP M).now = M.now := by
  unfold intP
  repeat' split
  · rfl
  · rw [take_now]; rfl
  · rw [take_now]
theorem put_now (X : Mc) (a b : Int) : (putP n q X a b).now = X.now := by unfold putP; (repeat' split) <;> rfl
theorem mid_now (X : Mc) (o a b : Int) : (midP n q X o a b).now = X.now := by
  unfold midP
  repeat' split
  · exact put_now _ _ _
  all_goals rfl
theorem priv_now (X : Mc) (o a b l : Int) : (privP n q X o a b l).now = X.now := by
  unfold privP
  repeat' split
  · rfl
  · rfl
  · exact mid_now _ _ _ _
theorem ins_now (X : Mc) : (insP n q X).now = X.now := by
  unfold insP
  repeat' split
  · rfl
  · exact priv_now _ _ _ _ _
  · exact take_now _ _ _
  · exact take_now _ _ _
theorem step_over (M : Mc) (h : M.ov = true) : stepP n q M = M := by unfold stepP; rw [if_pos h]
theorem step_int (M : Mc) (h : M.ov = false) (h2 : (intP M).ov = true) : stepP n q M = tickP (intP M) := by unfold stepP; rw [if_neg (by simp [h]), if_pos h2]
theorem step_ins (M : Mc) (h : M.ov = false) (h2 : (intP M).ov = false) : stepP n q M = tickP (insP n q (intP M)) := by unfold stepP; rw [if_neg (by simp [h]), if_neg (by simp [h2])]
end
section
variable {w : World} {B p m bm d n cap : Nat} {q : Int} {M : Mc} {vs vw : Value}
theorem MachAt.tickT (h : MachAt w B p m bm d n cap q M vs vw) : MTurned w B p m bm d n cap q vs vw (tickP M) (w.setCell ⟨p, 26, none⟩ (.int .i64 (M.now + 1))) vs vw :=
  h.ownT (now' := M.now + 1) (ov' := M.ov) (h.g.sTl 2 _) (lv_cell w p 26 _)
/-- behind a step -/
def Stepped (w : World) (B p m bm d n cap : Nat) (q : Int) (vs vw : Value) (b : Bool) (M' : Mc) (e : Ending) (w' : World) : Prop := e = .returned (.bool b) ∧ ∃ vs' vw', MTurned w B p m bm d n cap q vs vw M' w' vs' vw'
set_option maxRecDepth 100000 in
set_option maxHeartbeats 2000000 in
theorem bstep_any (h : MachAt w B p m bm d n cap q M vs vw) (hB : B ≤ w.heap.size) (g : Good n M) (hn : M.now ≤ 1000000) :
    Calls Tryz.prog 15 #[.pointer (some ⟨p, 0, none⟩)] w (Stepped w B p m bm d n cap q vs vw (!M.ov) (stepP n q M)) := by
  have hov := h.g.tail 3 (v := .bool M.ov) rfl
  have H := hid h
  have HB := hid hB
  have HGd := hid g
  have n0 := g.now0
  cases ho : M.ov
  · rw [ho] at hov
    have Ho := hid ho
    clear h hB g ho
    go_enter Tryz.func15, Tryz.ntmps15
    go_wp2_with fail
    refine (bint_any H.out HB.out HGd.out hn).mono ?_; rintro e w1 ⟨rfl, vs1, vw1, ht⟩
    have HT := hid ht
    clear ht hov
    obtain ⟨M1, hM1⟩ : ∃ M1, intP M = M1 := ⟨_, rfl⟩
    have hn1 := int_now M
    rw [hM1] at HT hn1
    cases ho1 : M1.ov
    · have hov1 := HT.out.at_.g.tail 3 (v := .bool false) (by rw [ho1]; rfl)
      have Hg1 : Hid (Good n M1) := hid (by rw [← hM1]; exact int_good HGd.out (by rw [hM1]; exact ho1))
      have He : Hid (stepP n q M = tickP (insP n q M1)) := hid (by rw [step_ins M Ho.out (by rw [hM1]; exact ho1), hM1])
      have Hn1 := hid hn1
      clear hM1 hn1 ho1
      obtain ⟨xs1, ⟨l1, pc1, ie1, eie1, epc1, tv1, cc1, cd1⟩, d1, now1, ov1, ws1⟩ := M1
      have hle : now1 ≤ 1000000 := by have h1 : now1 = M.now := Hn1.out; omega
      go_wp2_with fail
      refine (bins_any HT.out.at_ (HT.out.base HB.out) Hg1.out hle).mono ?_; rintro e w2 ⟨rfl, vs2, vw2, ht⟩
      have HT2 := hid ht
      clear ht hov1
      obtain ⟨M2, hM2⟩ : ∃ M2, insP n q ⟨xs1, ⟨l1, pc1, ie1, eie1, epc1, tv1, cc1, cd1⟩, d1, now1, ov1, ws1⟩ = M2 := ⟨_, rfl⟩
      have hn2 := ins_now (n := n) (q := q) ⟨xs1, ⟨l1, pc1, ie1, eie1, epc1, tv1, cc1, cd1⟩, d1, now1, ov1, ws1⟩
      rw [hM2] at HT2 hn2 He
      have hn2 : M2.now = M.now := hn2.trans Hn1.out
      have hnw := HT2.out.at_.g.tail 2 (v := .int .i64 M.now) (by rw [hn2]; rfl)
      have hnf := HT2.out.at_.g.free 26
      have HN2 := hid hn2
      clear hM2 hn2
      go_wp2
      go_ret
      have ht := HT2.out.at_.tickT
      rw [HN2.out] at ht
      rw [He.out]
      exact ⟨rfl, _, _, HT.out.trans (HT2.out.trans ht)⟩
    · have hov1 := HT.out.at_.g.tail 3 (v := .bool true) (by rw [ho1]; rfl)
      have He : Hid (stepP n q M = tickP M1) := hid (by rw [step_int M Ho.out (by rw [hM1]; exact ho1), hM1])
      have hnw := HT.out.at_.g.tail 2 (v := .int .i64 M.now) (by rw [hn1]; rfl)
      have hnf := HT.out.at_.g.free 26
      have Hn1 := hid hn1
      clear hM1 hn1 ho1
      go_wp2
      go_ret
      have ht := HT.out.at_.tickT
      rw [Hn1.out] at ht
      rw [He.out]
      exact ⟨rfl, _, _, HT.out.trans ht⟩
  · rw [ho] at hov
    have He := hid (step_over (n := n) (q := q) M ho)
    clear h hB g ho
    go_enter Tryz.func15, Tryz.ntmps15
    go_wp2
    go_ret
    rw [He.out]
    exact ⟨rfl, _, _, MTurned.refl H.out⟩
/-! ### what it tells -/
theorem bover_any (h : MachAt w B p m bm d n cap q M vs vw) (b : Bool) (hb : M.ov = b) :
    Calls Tryz.prog 14 #[.pointer (some ⟨p, 0, none⟩)] w fun e w' => e = .returned (.bool b) ∧ w = w' := by
  have hov := h.g.tail 3 (v := .bool b) (by rw [← hb]; rfl)
  clear h hb
  go_enter Tryz.func14, Tryz.ntmps14
  go_wp2
  go_ret
  exact ⟨rfl, rfl⟩
theorem bnow_any (h : MachAt w B p m bm d n cap q M vs vw) (k : Int) (hk : M.now = k) :
    Calls Tryz.prog 23 #[.pointer (some ⟨p, 0, none⟩)] w fun e w' => e = .returned (.int .i64 k) ∧ w = w' := by
  have hov := h.g.tail 2 (v := .int .i64 k) (by rw [← hk]; rfl)
  clear h hk
  go_enter Tryz.func23, Tryz.ntmps23
  go_wp2
  go_ret
  exact ⟨rfl, rfl⟩
theorem bwait_any (h : MachAt w B p m bm d n cap q M vs vw) (k : Nat) (hk : M.ws.length = k) :
    Calls Tryz.prog 31 #[.pointer (some ⟨p, 0, none⟩)] w fun e w' => e = .returned (.int .i64 k) ∧ w = w' := by
  obtain ⟨vp, vc, hv⟩ := own_form h.wait
  have hov := h.g.tail 4 (v := .slice vp k vc) (by rw [hv, hk]; rfl)
  clear h hk hv
  go_enter Tryz.func31, Tryz.ntmps31
  go_wp2
  go_ret
  exact ⟨rfl, rfl⟩
theorem bseen_any (h : MachAt w B p m bm d n cap q M vs vw) (hl : M.d.sn.length ≤ 1000000) :
    Calls Tryz.prog 16 #[.pointer (some ⟨p, 0, none⟩)] w (CopiedAt w M.d.sn) := by
  have hdp := h.g.tail 0 (v := .pointer (some ⟨d, 0, none⟩)) rfl
  have HD := hid h.dev
  have Hl := hid hl
  clear h hl
  go_enter Tryz.func16, Tryz.ntmps16
  go_wp2_with fail
  refine (seen_any HD.out Hl.out).mono ?_; rintro e w1 hc
  obtain ⟨v, rfl, h2⟩ := hc
  have H2 := hid h2
  clear h2
  go_wp2
  go_ret
  exact ⟨_, rfl, H2.out⟩
theorem bmem_any (h : MachAt w B p m bm d n cap q M vs vw) :
    Calls Tryz.prog 18 #[.pointer (some ⟨p, 0, none⟩)] w (CloneAt w n M.xs) := by
  have hmp := h.g.head
  have HM := hid h.mem
  clear h
  go_enter Tryz.func18, Tryz.ntmps18
  go_wp2_with fail
  refine (clone_any HM.out).mono ?_; rintro e w1 ⟨m', b', c', rfl, h1, h2, h3, h4⟩
  have H := hid (And.intro h1 (And.intro h2 (And.intro h3 h4)))
  clear h1 h2 h3 h4
  go_wp2
  go_ret
  exact ⟨_, _, _, rfl, H.out⟩
theorem bcpu_any (h : MachAt w B p m bm d n cap q M vs vw) (y : Cp) (hy : M.c = y) :
    Calls Tryz.prog 20 #[.pointer (some ⟨p, 0, none⟩)] w fun e w' => e = .returned (.agg (cpuC y)) ∧ w.grownBy w' none := by
  subst hy
  have Hz := zero_cpu
  have HG := hid (h.g.kept0 (World.grownBy_alloc w (.cells (cpuC zeroP) 39) none))
  have Hr := hid (CpuAt.new (x := zeroP) w rfl)
  have Hl := hid h.g.len
  have E := hid (Hr.out.row (y := M.c) h.g.len)
  have EG := hid (grown_setRow (World.grownBy_alloc w (.cells (cpuC zeroP) 39) none) (Nat.le_refl _) (cpuC M.c))
  clear h
  go_enter Tryz.func20, Tryz.ntmps20
  go_wp2_with (first
    | (refine wpList_load_gcpu rfl _ rfl rfl HG.out ?_)
    | (refine wpList_store_cpu (y := M.c) rfl _ _ rfl rfl rfl Hr.out Hl.out ?_)
    | fail)
  refine bodyPost_ret (results_cell_row Tryz.results20 _ _ w.heap.size _ _ _ _ rfl E.out.blk Tryz.underlying39 rfl (cpu_size_info Hl.out)) rfl ?_
  exact ⟨rfl, EG.out⟩
end
end Go.Proofs.YtkkbhifplbleiaaGreatDoor
/- A new bare machine: a contract. -/
namespace Go.Proofs.YtkkbhifplbleiaaGreatDoor
open Go.RowKit
/-- a machine at its beginning -/
def initM (xs : List Int) (c : Cp) : Mc := ⟨xs, c, zeroS, 0, false, []⟩
theorem build_mach16 (x0 x1 x2 x3 x4 x5 x6 x7 x8 x9 x10 x11 x12 x13 x14 x15 pc : Int) (ie eie : Bool) (epc tv ca ad : Int) (m d : Nat) (q : Int) (w : World) :
    (Instr.build 91 #[(0, .pointer (some ⟨m, 0, none⟩)), (1, .agg (cpuC ⟨[x0, x1, x2, x3, x4, x5, x6, x7, x8, x9, x10, x11, x12, x13, x14, x15], pc, ie, eie, epc, tv, ca, ad⟩)), (2, .pointer (some ⟨d, 0, none⟩)), (3, .int .i64 q)]).run Tryz.prog w =
      .ok (.agg (gL (.pointer (some ⟨m, 0, none⟩)) ⟨[x0, x1, x2, x3, x4, x5, x6, x7, x8, x9, x10, x11, x12, x13, x14, x15], pc, ie, eie, epc, tv, ca, ad⟩ (bT d q 0 false (.slice none 0 0))).toArray) w := by kernel_rfl
theorem run_build_mach {c : Cp} (hl : c.l.length = 16) (m d : Nat) (q : Int) (w : World) :
    (Instr.build 91 #[(0, .pointer (some ⟨m, 0, none⟩)), (1, .agg (cpuC c)), (2, .pointer (some ⟨d, 0, none⟩)), (3, .int .i64 q)]).run Tryz.prog w = .ok (.agg (gL (.pointer (some ⟨m, 0, none⟩)) c (bT d q 0 false (.slice none 0 0))).toArray) w := by
  obtain ⟨l, pc, ie, eie, epc, tv, ca, ad⟩ := c
  match l, hl with
  | [x0, x1, x2, x3, x4, x5, x6, x7, x8, x9, x10, x11, x12, x13, x14, x15], _ => exact build_mach16 x0 x1 x2 x3 x4 x5 x6 x7 x8 x9 x10 x11 x12 x13 x14 x15 pc ie eie epc tv ca ad m d q w
theorem build_yields {o : Oper} {a : Act} {x0 x1 x2 x3 : Operand} {c : Cp} (hl : c.l.length = 16) (m d : Nat) (q : Int) (ho : o.op = .build 91 #[(0, x0), (1, x1), (2, x2), (3, x3)]) (h0 : a.eval x0 = .pointer (some ⟨m, 0, none⟩)) (h1 : a.eval x1 = .agg (cpuC c)) (h2 : a.eval x2 = .pointer (some ⟨d, 0, none⟩)) (h3 : a.eval x3 = .int .i64 q) (w : World) :
    (execOp a.eval o).run Tryz.prog w = .ok (.value (.agg (gL (.pointer (some ⟨m, 0, none⟩)) c (bT d q 0 false (.slice none 0 0))).toArray)) w := by
  simp [execOp, ho, h0, h1, h2, h3, run_build_mach hl m d q w, Result.andThen]
def NewMach (w : World) (n : Nat) (q : Int) (M : Mc) (e : Ending) (w' : World) : Prop :=
  ∃ p m bm d cap vs vw, e = .returned (.tuple #[.pointer (some ⟨p, 0, none⟩), .nilIface]) ∧ MachAt w' w.heap.size p m bm d n cap q M vs vw ∧ w.grownBy w' none
section
variable {w : World} {m bm n cap : Nat} {xs : List Int}
/-- what was made lies there -/
theorem mach_new {w w1 w2 : World} {m' b' n cap' d : Nat} {xs : List Int} {c : Cp} {q : Int} (hl : c.l.length = 16) (hg1 : w.grownBy w1 none) (hm : MemAt w1 m' b' n cap' xs) (h1 : w.heap.size ≤ m') (h2 : w.heap.size ≤ b') (hd : DevAt w1 w.heap.size d zeroS (.slice none 0 0))
    (hw2 : w2 = w1.alloc (.cells (gL (.pointer (some ⟨m', 0, none⟩)) c (bT d q 0 false (.slice none 0 0))).toArray 91)) :
    MachAt w2 w.heap.size w1.heap.size m' b' d n cap' q (initM xs c) (.slice none 0 0) (.slice none 0 0) ∧ w.grownBy w2 none := by
  subst hw2
  have hg := World.grownBy_alloc w1 (.cells (gL (.pointer (some ⟨m', 0, none⟩)) c (bT d q 0 false (.slice none 0 0))).toArray 91) none
  exact ⟨⟨⟨heap_alloc_last w1 _, hl⟩, hm.kept0 hg, hd.kept0 hg, World.ownsRow_nil _ _ _ _, hg1.size, h1, h2⟩, grown_trans hg1 hg⟩
set_option maxRecDepth 100000 in
set_option maxHeartbeats 4000000 in
theorem bnew_yes (h : MemAt w m bm n cap xs) {c : Cp} (hl : c.l.length = 16) (q : Int) (q0 : 17 ≤ q) (q1 : q ≤ 256) :
    Calls Tryz.prog 13 #[.pointer (some ⟨m, 0, none⟩), .agg (cpuC c), .int .i64 q] w (NewMach w n q (initM xs c)) := by
  have Hz := zero_dev
  have hq1 : ¬ q < 17 := by omega
  have hq2 : ¬ q > 256 := by omega
  have HC := hid (CpuAt.new w hl)
  have HG := hid (World.grownBy_alloc w (.cells (cpuC c) 39) none)
  have HM := hid (h.kept0 HG.out)
  have Hl := hid hl
  clear h hl
  go_enter Tryz.func13, Tryz.ntmps13
  go_upto_region 3 with (fail)
  have hg0 : (w.alloc (.cells (cpuC c) 39)).grownBy (w.alloc (.cells (cpuC c) 39)).drew none := grown_drew (grown_refl _ none)
  refine wp_region_held_drew (S := fun W => CpuAt W w.heap.size c) (by kernel_rfl) (HC.out.kept0 hg0) (fun hS0 => ?_)
  replace HM := hid (HM.out.kept0 hg0)
  replace HG := hid (grown_trans HG.out hg0)
  clear hg0
  generalize (w.alloc (.cells (cpuC c) 39)).drew = w1 at HM HG hS0 ⊢
  refine wpAnyH_take (i := 0) (v := ?_) rfl (by kernel_rfl) (by kernel_rfl) (by kernel_rfl) (fun _ _ _ h => h) (Or.inl ⟨by kernel_rfl, ?_⟩) hS0 ?_
  rotate_left
  · (intro W hSw; clear hSw; go_simp; try with_reducible rfl)
  try simp only [Act.put, List.setIfInBounds_toArray, List.set_cons_zero, List.set_cons_succ, List.getElem_toArray, List.getElem_cons_zero]
  refine wpAnyH_take (i := 2) (v := .agg (cpuC c)) rfl (by kernel_rfl) (by kernel_rfl) (by kernel_rfl) (fun _ _ _ h => h) (Or.inl ⟨by kernel_rfl, fun W hW => run_load_row _ _ rfl rfl hW.blk rfl Tryz.underlying39 (cpu_size_info Hl.out)⟩) hS0 ?_
  try simp only [Act.put, List.setIfInBounds_toArray, List.set_cons_zero, List.set_cons_succ, List.getElem_toArray, List.getElem_cons_succ, List.getElem_cons_zero]
  refine wpAnyH_take (i := 4) (v := ?_) rfl (by kernel_rfl) (by kernel_rfl) (by kernel_rfl) (fun _ _ _ h => h) (Or.inl ⟨by kernel_rfl, ?_⟩) hS0 ?_
  rotate_left
  · (intro W hSw; clear hSw; go_simp; try with_reducible rfl)
  try simp only [Act.put, List.setIfInBounds_toArray, List.set_cons_zero, List.set_cons_succ, List.getElem_toArray, List.getElem_cons_succ, List.getElem_cons_zero]
  refine wpAnyH_ready (rs := [1, 3]) (by kernel_rfl) (by simp) ?_
  refine AllReadyH.cons rfl (fun KK hKK => ?_) ?_
  · go_simp
    refine (clone_any HM.out).mono ?_; rintro e w2 ⟨m', b', c', rfl, h1, h2, h3, hg⟩
    have H3 := hid h3
    have Hb := hid (And.intro (Nat.le_trans HG.out.size h1) (Nat.le_trans HG.out.size h2))
    have HG2 := hid (grown_trans HG.out hg)
    have hS1 := hS0.kept0 hg
    clear h1 h2 h3 hg
    refine hKK.out _ _ hS1 (fun _ => ?_)
    clear hKK KK hS0
    try simp only [Act.put, List.setIfInBounds_toArray, List.set_cons_zero, List.set_cons_succ, List.getElem_toArray, List.getElem_cons_succ, List.getElem_cons_zero]
    refine wpAnyH_ready (rs := [3]) (by kernel_rfl) (by simp) ?_
    refine AllReadyH.cons rfl (fun KK hKK => ?_) AllReadyH.nil
    go_simp
    have HD := hid (dev_zero w2 HG2.out.size)
    have hg3 := World.grownBy_alloc w2 (.cells zeroD 88) none
    have HG3 := hid (grown_trans HG2.out hg3)
    have HM3 := hid (H3.out.kept0 hg3)
    have hS2 := hS1.kept0 hg3
    clear hg3 hS1
    refine hKK.out _ _ hS2 (fun _ => ?_)
    clear hKK KK
    try simp only [Act.put, List.setIfInBounds_toArray, List.set_cons_zero, List.set_cons_succ, List.getElem_toArray, List.getElem_cons_succ, List.getElem_cons_zero]
    obtain ⟨d, hd⟩ : ∃ d, d = w2.heap.size := ⟨_, rfl⟩
    rw [← hd] at HD ⊢
    clear hd
    generalize w2.alloc (.cells zeroD 88) = w3 at HD HG3 HM3 hS2 ⊢
    refine wpAnyH_take (i := 5) (v := .agg (gL (.pointer (some ⟨m', 0, none⟩)) c (bT d q 0 false (.slice none 0 0))).toArray) rfl (by kernel_rfl) (by kernel_rfl) (by kernel_rfl) (fun _ _ _ h => h) (Or.inl ⟨by kernel_rfl, fun W _ => build_yields Hl.out m' d q rfl rfl rfl rfl rfl W⟩) hS2 ?_
    try simp only [Act.put, List.setIfInBounds_toArray, List.set_cons_zero, List.set_cons_succ, List.getElem_toArray, List.getElem_cons_succ, List.getElem_cons_zero]
    refine wpAnyH_ready (rs := [6]) (by kernel_rfl) (by simp) ?_
    refine AllReadyH.cons rfl (fun KK hKK => ?_) AllReadyH.nil
    go_simp
    refine hKK.out _ _ (hS2.alloc _) (fun hS3 => ?_)
    clear hKK KK
    try simp only [Act.put, List.setIfInBounds_toArray, List.set_cons_zero, List.set_cons_succ, List.getElem_toArray, List.getElem_cons_succ, List.getElem_cons_zero]
    refine wpAnyH_take (i := 7) (v := ?_) rfl (by kernel_rfl) (by kernel_rfl) (by kernel_rfl) (fun _ _ _ h => h) (Or.inl ⟨by kernel_rfl, ?_⟩) hS3 ?_
    rotate_left
    · (intro W hSw; clear hSw; go_simp; try with_reducible rfl)
    try simp only [Act.put, List.setIfInBounds_toArray, List.set_cons_zero, List.set_cons_succ, List.getElem_toArray, List.getElem_cons_succ, List.getElem_cons_zero]
    refine wpAnyH_take (i := 8) (v := ?_) rfl (by kernel_rfl) (by kernel_rfl) (by kernel_rfl) (fun _ _ _ h => h) (Or.inl ⟨by kernel_rfl, ?_⟩) hS3 ?_
    rotate_left
    · (intro W hSw; clear hSw; go_simp; try with_reducible rfl)
    try simp only [Act.put, List.setIfInBounds_toArray, List.set_cons_zero, List.set_cons_succ, List.getElem_toArray, List.getElem_cons_succ, List.getElem_cons_zero]
    refine wpAnyH_done (by kernel_rfl) ?_ _
    go_wp2
    go_ret2
    have hN := mach_new (q := q) Hl.out HG3.out HM3.out Hb.out.1 Hb.out.2 HD.out rfl
    exact ⟨_, _, _, _, _, _, _, rfl, hN.1, hN.2⟩
  · refine AllReadyH.cons rfl (fun KK hKK => ?_) AllReadyH.nil
    go_simp
    have HD := hid (dev_zero w1 HG.out.size)
    have hg3 := World.grownBy_alloc w1 (.cells zeroD 88) none
    have HG2 := hid (grown_trans HG.out hg3)
    have HM2 := hid (HM.out.kept0 hg3)
    have hS1 := hS0.kept0 hg3
    clear hg3 hS0
    refine hKK.out _ _ hS1 (fun _ => ?_)
    clear hKK KK
    try simp only [Act.put, List.setIfInBounds_toArray, List.set_cons_zero, List.set_cons_succ, List.getElem_toArray, List.getElem_cons_succ, List.getElem_cons_zero]
    obtain ⟨d, hd⟩ : ∃ d, d = w1.heap.size := ⟨_, rfl⟩
    rw [← hd] at HD ⊢
    clear hd
    generalize w1.alloc (.cells zeroD 88) = w2 at HD HG2 HM2 hS1 ⊢
    refine wpAnyH_ready (rs := [1]) (by kernel_rfl) (by simp) ?_
    refine AllReadyH.cons rfl (fun KK hKK => ?_) AllReadyH.nil
    go_simp
    refine (clone_any HM2.out).mono ?_; rintro e w3 ⟨m', b', c', rfl, h1, h2, h3, hg⟩
    have HM3 := hid h3
    have Hb := hid (And.intro (Nat.le_trans HG2.out.size h1) (Nat.le_trans HG2.out.size h2))
    have HG3 := hid (grown_trans HG2.out hg)
    have hS2 := hS1.kept0 hg
    replace HD := hid (HD.out.kept0 hg)
    clear h1 h2 h3 hg hS1
    refine hKK.out _ _ hS2 (fun _ => ?_)
    clear hKK KK
    try simp only [Act.put, List.setIfInBounds_toArray, List.set_cons_zero, List.set_cons_succ, List.getElem_toArray, List.getElem_cons_succ, List.getElem_cons_zero]
    refine wpAnyH_take (i := 5) (v := .agg (gL (.pointer (some ⟨m', 0, none⟩)) c (bT d q 0 false (.slice none 0 0))).toArray) rfl (by kernel_rfl) (by kernel_rfl) (by kernel_rfl) (fun _ _ _ h => h) (Or.inl ⟨by kernel_rfl, fun W _ => build_yields Hl.out m' d q rfl rfl rfl rfl rfl W⟩) hS2 ?_
    try simp only [Act.put, List.setIfInBounds_toArray, List.set_cons_zero, List.set_cons_succ, List.getElem_toArray, List.getElem_cons_succ, List.getElem_cons_zero]
    refine wpAnyH_ready (rs := [6]) (by kernel_rfl) (by simp) ?_
    refine AllReadyH.cons rfl (fun KK hKK => ?_) AllReadyH.nil
    go_simp
    refine hKK.out _ _ (hS2.alloc _) (fun hS3 => ?_)
    clear hKK KK
    try simp only [Act.put, List.setIfInBounds_toArray, List.set_cons_zero, List.set_cons_succ, List.getElem_toArray, List.getElem_cons_succ, List.getElem_cons_zero]
    refine wpAnyH_take (i := 7) (v := ?_) rfl (by kernel_rfl) (by kernel_rfl) (by kernel_rfl) (fun _ _ _ h => h) (Or.inl ⟨by kernel_rfl, ?_⟩) hS3 ?_
    rotate_left
    · (intro W hSw; clear hSw; go_simp; try with_reducible rfl)
    try simp only [Act.put, List.setIfInBounds_toArray, List.set_cons_zero, List.set_cons_succ, List.getElem_toArray, List.getElem_cons_succ, List.getElem_cons_zero]
    refine wpAnyH_take (i := 8) (v := ?_) rfl (by kernel_rfl) (by kernel_rfl) (by kernel_rfl) (fun _ _ _ h => h) (Or.inl ⟨by kernel_rfl, ?_⟩) hS3 ?_
    rotate_left
    · (intro W hSw; clear hSw; go_simp; try with_reducible rfl)
    try simp only [Act.put, List.setIfInBounds_toArray, List.set_cons_zero, List.set_cons_succ, List.getElem_toArray, List.getElem_cons_succ, List.getElem_cons_zero]
    refine wpAnyH_done (by kernel_rfl) ?_ _
    go_wp2
    go_ret2
    have hN := mach_new (q := q) Hl.out HG3.out HM3.out Hb.out.1 Hb.out.2 HD.out rfl
    exact ⟨_, _, _, _, _, _, _, rfl, hN.1, hN.2⟩
end
end Go.Proofs.YtkkbhifplbleiaaGreatDoor
/- Code in the memory of a bare machine, and what its instructions do, one by one: plain facts. -/
namespace Go.Proofs.YtkkbhifplbleiaaGreatDoor
open Go.RowKit
/-- code lies behind quota q, and its pages are there to be read -/
structure CodeIn (q : Nat) (code xs : List Int) : Prop where
  root : xs[8]? = some 2311
  page : ∀ j : Nat, j < 16 → xs[144 + j]? = some (bitV ((q : Int) + (j : Int)) true false true)
  cod : ∀ i : Nat, i < code.length → xs[16 * q + i]? = some (code.getD i 0)
  small : code.length ≤ 256
  q17 : 17 ≤ q
  q40 : q ≤ 40
theorem code_mem8 {q : Nat} (hq : 17 ≤ q) (hq2 : q ≤ 40) (data : List Int) {code : List Int} (h : code.length ≤ 256) : CodeIn q code (memW8 q data code) where
  root := by rw [mem8_root hq data code (by decide)]; rfl
  page := fun j hj => mem8_page hq data code hj
  cod := fun i hi => mem8_code q data hi (by omega)
  small := h
  q17 := hq
  q40 := hq2
section
variable {q : Nat} {code xs : List Int}
/-- a word elsewhere is written -/
theorem CodeIn.set (C : CodeIn q code xs) {k : Nat} (h1 : k ≠ 8) (h2 : k < 144 ∨ 160 ≤ k) (h3 : k < 16 * q ∨ 16 * q + code.length ≤ k) (y : Int) : CodeIn q code (xs.set k y) :=
  ⟨by rw [List.getElem?_set_ne (by omega)]; exact C.root, fun j hj => by rw [List.getElem?_set_ne (by omega)]; exact C.page j hj, fun i hi => by rw [List.getElem?_set_ne (by omega)]; exact C.cod i hi, C.small, C.q17, C.q40⟩
theorem word_get {xs : List Int} {k : Nat} {x : Int} (h : xs[k]? = some x) {a : Int} (ha : a = (k : Int)) : wordI xs a = x := by
  subst ha
  unfold wordI
  rw [Int.toNat_natCast, List.getD_eq_getElem?_getD, h]; rfl
theorem bitV_tab {f : Int} (h0 : 0 ≤ f) (h1 : f < 1024) (w u : Bool) : liveB (bitV f true w u) = true ∧ bitV f true w u / 256 = f := by
  rw [bitV_yes h0 h1]
  unfold liveB
  rcases two_cases w with ⟨_, h2⟩ | ⟨_, h2⟩ <;> rcases four_cases u with ⟨_, h4⟩ | ⟨_, h4⟩ <;> rw [h2, h4] <;> simp only [decide_eq_true_eq] <;> omega
theorem page_code (C : CodeIn q code xs) {i : Nat} (hi : i < 256) : pageO xs ((q + 16 : Nat) : Int) 0 ((2048 + (i : Int)) / 16) = some (bitV ((q : Int) + ((i / 16 : Nat) : Int)) true false true) := by
  have h17 := C.q17
  have h40 := C.q40
  have hr : wordI xs (0 * 16 + (2048 + (i : Int)) / 16 / 16) = 2311 := word_get C.root (by omega)
  unfold pageO
  rw [if_pos (by omega), hr, if_pos ⟨by decide, by omega⟩]
  have hp : wordI xs (2311 / 256 * 16 + (2048 + (i : Int)) / 16 % 16) = bitV ((q : Int) + ((i / 16 : Nat) : Int)) true false true := word_get (C.page (i / 16) (by omega)) (by omega)
  rw [hp]
  exact liveO_yes (bitV_tab (by omega) (by omega) false true).1
theorem fetch_at (C : CodeIn q code xs) {i : Nat} (hi : i < code.length) {pc : Int} (hpc : pc = 2048 + (i : Int)) :
    atB xs ((q + 16 : Nat) : Int) 0 pc false false = true ∧ rdV xs ((q + 16 : Nat) : Int) 0 pc false = code.getD i 0 := by
  have hs := C.small
  have h17 := C.q17
  have h40 := C.q40
  subst hpc
  have hp := page_code C (i := i) (by omega)
  obtain ⟨_, hF⟩ := bitV_tab (f := (q : Int) + ((i / 16 : Nat) : Int)) (by omega) (by omega) false true
  have hB : atB xs ((q + 16 : Nat) : Int) 0 (2048 + (i : Int)) false false = true := by
    unfold atB
    rw [hp]
    unfold wayB
    simp only [hF]
    simp
    omega
  refine ⟨hB, ?_⟩
  unfold rdV
  rw [if_pos hB]
  refine word_get (C.cod i hi) ?_
  unfold atV wayV
  unfold atB at hB
  rw [if_pos hB, hp]
  show bitV ((q : Int) + ((i / 16 : Nat) : Int)) true false true / 256 * 16 + (2048 + (i : Int)) % 16 = _
  rw [hF]
  omega
/-- the instruction of one word at i -/
theorem fetch_w1 (C : CodeIn q code xs) {i : Nat} (hi : i < code.length) {pc : Int} (hpc : pc = 2048 + (i : Int)) {op a b c : Int} (hx : code.getD i 0 = wrdI op a b c) (hok : insB op a b c 0 = true) (ht : twoB op = false) :
    fetchP xs ((q + 16 : Nat) : Int) 0 pc false = ⟨0, 0, op, a, b, c, 0, 1⟩ := by
  obtain ⟨h1, h2⟩ := fetch_at C hi hpc
  obtain ⟨_, ha, hb, hc⟩ := ins_bd hok
  obtain ⟨e1, e2, e3, e4⟩ := wrd_parts op a b c ha hb hc
  unfold fetchP okW
  rw [h2, hx, e1, e2, e3, e4, if_pos h1, if_pos hok, ht, if_neg (by decide)]
  unfold insS
  rw [e1, e2, e3, e4]
/-- the instruction of two words at i -/
theorem fetch_w2 (C : CodeIn q code xs) {i : Nat} (hi : i + 1 < code.length) {pc : Int} (hpc : pc = 2048 + (i : Int)) {op a b c : Int} (hx : code.getD i 0 = wrdI op a b c) (hok : insB op a b c 0 = true) (ht : twoB op = true) :
    fetchP xs ((q + 16 : Nat) : Int) 0 pc false = ⟨0, 0, op, a, b, c, code.getD (i + 1) 0, 2⟩ := by
  have hs := C.small
  obtain ⟨h1, h2⟩ := fetch_at C (by omega : i < code.length) hpc
  have hn : nextI pc = 2048 + ((i + 1 : Nat) : Int) := by unfold nextI; omega
  obtain ⟨h3, h4⟩ := fetch_at C hi hn
  obtain ⟨_, ha, hb, hc⟩ := ins_bd hok
  obtain ⟨e1, e2, e3, e4⟩ := wrd_parts op a b c ha hb hc
  unfold fetchP okW
  rw [h2, hx, e1, e2, e3, e4, if_pos h1, if_pos hok, ht, if_pos rfl, if_pos h3, h4]
  unfold insS
  rw [e1, e2, e3, e4]
end
/-! ### what an instruction does -/
section
variable {n : Nat} {Q : Int} {M : Mc}
theorem ins_sup {op a b c im ln : Int} (hf : fetchP M.xs n 0 M.c.pc false = ⟨0, 0, op, a, b, c, im, ln⟩) (hc : clsI op = 2 ∨ clsI op = 3) : insP n Q M = privP n Q M op a b ln := by
  have ho : onceP M.xs n 0 M.c false = ⟨M.c, ⟨6, 0, op, a, b, c, im, ln⟩, M.xs⟩ := by
    unfold onceP doP
    rw [hf]
    rcases hc with h | h <;> simp [h]
  exact ins_priv ho
theorem ins_alu {op a b c im ln : Int} (hf : fetchP M.xs n 0 M.c.pc false = ⟨0, 0, op, a, b, c, im, ln⟩) (hc : clsI op = 1) (h12 : op ≠ 12) (h13 : op ≠ 13) (hj : jmpB op = false) : insP n Q M = ⟨M.xs, aluX M.c op a b c im ln, M.d, M.now, M.ov, M.ws⟩ := by
  have ho : onceP M.xs n 0 M.c false = ⟨aluX M.c op a b c im ln, ⟨0, 0, op, a, b, c, im, ln⟩, M.xs⟩ := by
    unfold onceP doP innP
    rw [hf]
    simp [hc, h12, h13, hj]
  exact ins_go ho
/-- nothing interrupts -/
theorem step_calm (hov : M.ov = false) (hw : waitM M = 0) : stepP n Q M = tickP (insP n Q M) := by
  have hi := int_none hw
  rw [step_ins M hov (by rw [hi]; exact hov), hi]
theorem wait_calm (hq : M.d.Q = []) (haf : M.d.af = 0) : waitM M = 0 := by
  unfold waitM waitV dueB
  rw [hq, haf]
  cases M.c.ie <;> rfl
theorem wait_off (hie : M.c.ie = false) : waitM M = 0 := by unfold waitM waitV; rw [hie]; rfl
end
/-- so many steps -/
def iterP (n : Nat) (Q : Int) : Nat → Mc → Mc
  | 0, M => M
  | k + 1, M => iterP n Q k (stepP n Q M)
theorem iter_snoc (n : Nat) (Q : Int) : ∀ (k : Nat) (M : Mc), iterP n Q (k + 1) M = stepP n Q (iterP n Q k M)
  | 0, _ => rfl
  | k + 1, M => iter_snoc n Q k (stepP n Q M)
theorem iter_add (n : Nat) (Q : Int) : ∀ (k j : Nat) (M : Mc), iterP n Q (k + j) M = iterP n Q j (iterP n Q k M)
  | 0, j, M => by rw [Nat.zero_add]; rfl
  | k + 1, j, M => by rw [show k + 1 + j = (k + j) + 1 by omega]; exact iter_add n Q k j (stepP n Q M)
theorem iter_over (n : Nat) (Q : Int) : ∀ (k : Nat) (M : Mc), M.ov = true → iterP n Q k M = M
  | 0, _, _ => rfl
  | k + 1, M, h => by
    show iterP n Q k (stepP n Q M) = M
    rw [step_over M h]
    exact iter_over n Q k M h
/-- once it is over nothing changes -/
theorem iter_stays {n : Nat} {Q : Int} {k j : Nat} {M : Mc} (h : (iterP n Q k M).ov = true) (hkj : k ≤ j) : iterP n Q j M = iterP n Q k M := by
  obtain ⟨e, rfl⟩ : ∃ e, j = k + e := ⟨j - k, by omega⟩
  rw [iter_add]
  exact iter_over n Q e _ h
theorem iter_good {n : Nat} {Q : Int} : ∀ (k : Nat) {M : Mc}, Good n M → Good n (iterP n Q k M)
  | 0, _, h => h
  | k + 1, _, h => iter_good k (step_good h)
theorem iter_now {n : Nat} {Q : Int} : ∀ (k : Nat) (M : Mc), (iterP n Q k M).now ≤ M.now + k
  | 0, M => by show M.now ≤ _; omega
  | k + 1, M => by
    have h1 := iter_now (n := n) (Q := Q) k (stepP n Q M)
    have h2 := (step_now n Q M).1
    show (iterP n Q k (stepP n Q M)).now ≤ _
    omega
theorem init_good {n : Nat} {xs : List Int} {c : Cp} (hc : CpOk c) (hu : U32s xs) (hl : xs.length = n * 16) : Good n (initM xs c) :=
  ⟨hc, hu, hl, fun x hx => (by cases hx), Nat.zero_le _, fun x hx => (by have := List.eq_of_mem_replicate (n := 16) (a := (0 : Int)) hx; omega), rfl, Int.le_refl _, Int.le_refl _, Int.le_refl _, (by show (0 : Int) ≤ _; decide), Int.le_refl _, Nat.zero_le _, fun u hu => (by cases hu)⟩
def pcP (pc tv : Int) : Cp := ⟨[0, 0, 0, 0, 0, 0, 0, 0, 0, 0, 0, 0, 0, 0, 0, 0], pc, false, false, 0, tv, 0, 0⟩
theorem pcP_ok {pc tv : Int} (h0 : 0 ≤ pc) (h1 : pc ≤ 4294967295) (h2 : 0 ≤ tv) (h3 : tv ≤ 4294967295) : CpOk (pcP pc tv) :=
  ⟨zeros_regs, h0, h1, Int.le_refl _, (by show (0 : Int) ≤ _; decide), h2, h3, Int.le_refl _, (by show (0 : Int) ≤ _; decide), Int.le_refl _, (by show (0 : Int) ≤ _; decide)⟩
/-! ### instructions of the laws, one by one -/
section
variable {q : Nat} {code : List Int} {Q : Int} {M : Mc}
/-- one of the supervisor's, of one word -/
theorem run_sup (C : CodeIn q code M.xs) {i : Nat} (hi : i < code.length) (hpc : M.c.pc = 2048 + (i : Int)) {op a b c : Int} (hx : code.getD i 0 = wrdI op a b c) (hok : insB op a b c 0 = true) (ht : twoB op = false) (hc : clsI op = 2 ∨ clsI op = 3)
    (hov : M.ov = false) (hw : waitM M = 0) : stepP (q + 16) Q M = tickP (privP (q + 16) Q M op a b 1) := by
  rw [step_calm hov hw, ins_sup (fetch_w1 C hi hpc hx hok ht) hc]
theorem run_nop (C : CodeIn q code M.xs) {i : Nat} (hi : i < code.length) (hpc : M.c.pc = 2048 + (i : Int)) (hx : code.getD i 0 = 16777216) (hl : Regs M.c.l)
    (hov : M.ov = false) (hw : waitM M = 0) : stepP (q + 16) Q M = ⟨M.xs, ⟨M.c.l, (M.c.pc + 1) % 4294967296, M.c.ie, M.c.eie, M.c.epc, M.c.tv, M.c.ca, M.c.ad⟩, M.d, M.now + 1, M.ov, M.ws⟩ := by
  rw [step_calm hov hw, ins_alu (fetch_w1 C hi hpc (op := 1) (a := 0) (b := 0) (c := 0) hx (by decide) (by decide)) (by decide) (by decide) (by decide) (by decide)]
  unfold aluX aluL tickP behI
  rw [if_pos (by decide)]
  have e : M.c.l.set (0 : Int).toNat (reckV 1 M.c.l 0 0 0 0) = M.c.l := by
    have h0 := hl.len
    show M.c.l.set 0 (M.c.l.getD 0 0) = M.c.l
    rw [List.getD_eq_getElem?_getD, List.getElem?_eq_getElem (by omega)]
    exact List.set_getElem_self (by omega)
  rw [e]
theorem run_li (C : CodeIn q code M.xs) {i : Nat} (hi : i + 1 < code.length) (hpc : M.c.pc = 2048 + (i : Int)) {a : Nat} (ha : a < 16) (hx : code.getD i 0 = wrdI 14 (a : Int) 0 0) {v : Int} (hv : code.getD (i + 1) 0 = v)
    (hov : M.ov = false) (hw : waitM M = 0) : stepP (q + 16) Q M = ⟨M.xs, ⟨M.c.l.set a v, (M.c.pc + 2) % 4294967296, M.c.ie, M.c.eie, M.c.epc, M.c.tv, M.c.ca, M.c.ad⟩, M.d, M.now + 1, M.ov, M.ws⟩ := by
  have hins : ∀ im : Int, insB 14 (a : Int) 0 0 im = true := by
    intro im
    have e1 : alwB (hasA 14) (a : Int) = true := by rw [show hasA 14 = 1 by decide]; unfold alwB; simp; omega
    unfold insB
    rw [e1, show alwB (hasB 14) 0 = true by decide, show alwB (hasC 14) 0 = true by decide, show twoB 14 = true by decide]
    simp; decide
  rw [step_calm hov hw, ins_alu (fetch_w2 C hi hpc hx (hins 0) (by decide)) (by decide) (by decide) (by decide) (by decide), hv]
  unfold aluX aluL tickP behI
  have hb : aluB 14 (a : Int) 0 0 v = true := by
    unfold aluB
    rw [hins v]
    decide
  rw [if_pos hb, Int.toNat_natCast]
  rfl
end
end Go.Proofs.YtkkbhifplbleiaaGreatDoor
/- A bare machine of a law's own: contracts with all but its address out of sight; facadelaw8's first. -/
namespace Go.Proofs.YtkkbhifplbleiaaGreatDoor
open Go.RowKit
/-- a machine at p, made since W -/
def MBox (W : World) (p n : Nat) (q : Int) (M : Mc) (w : World) : Prop :=
  ∃ B m bm d cap vs vw, MachAt w B p m bm d n cap q M vs vw ∧ W.grownBy w none ∧ W.heap.size ≤ B ∧ B ≤ w.heap.size ∧ Good n M
section
variable {W w w1 : World} {p n : Nat} {q : Int} {M : Mc}
theorem MBox.keep (h : MBox W p n q M w) (hg : w.grownBy w1 none) : MBox W p n q M w1 := by
  obtain ⟨B, m, bm, d, cap, vs, vw, h1, h2, h3, h4, h5⟩ := h
  exact ⟨B, m, bm, d, cap, vs, vw, h1.kept0 hg, grown_trans h2 hg, h3, Nat.le_trans h4 hg.size, h5⟩
theorem MBox.old (h : MBox W p n q M w) : W.grownBy w none := by
  obtain ⟨B, m, bm, d, cap, vs, vw, h1, h2, h3, h4, h5⟩ := h
  exact h2
theorem MBox.good (h : MBox W p n q M w) : Good n M := by
  obtain ⟨B, m, bm, d, cap, vs, vw, h1, h2, h3, h4, h5⟩ := h
  exact h5
/-- blocks of other types than a machine's are as they were -/
def othT (t : TypeId) : Bool := t != 91 && t != 132 && t != 136 && t != 88 && t != 43 && t != 95
def Oth (w w' : World) : Prop := ∀ (b : Nat) (cs : Array Value) (t : TypeId) (fr : Nat × Nat), w.heap[b]? = some (.cells cs t fr) → othT t = true → w'.heap[b]? = some (.cells cs t fr)
theorem foot_oth {B m bm d cap : Nat} {vs vw : Value} (h : MachAt w B p m bm d n cap q M vs vw) {b : Nat} {cs : Array Value} {t : TypeId} {fr : Nat × Nat} (hb : w.heap[b]? = some (.cells cs t fr)) (ht : othT t = true) : b ∉ mfoot p m bm d vs vw := by
  unfold othT at ht
  simp only [Bool.and_eq_true, bne_iff_ne] at ht
  obtain ⟨⟨⟨⟨⟨t1, t2⟩, t3⟩, t4⟩, t5⟩, t6⟩ := ht
  obtain ⟨c1, h1⟩ := h.mem.bblk
  obtain ⟨c2, h2⟩ := h.dev.blk
  intro hi
  rcases mem_mfoot.1 hi with e | e | e | e | e | e
  · exact blk_ne hb h.g.blk t1 e
  · exact blk_ne hb h.mem.hm t2 e
  · exact blk_ne hb h1 t3 e
  · exact blk_ne hb h2 t4 e
  · exact own_ne_blk h.dev.own hb t5 e
  · exact own_ne_blk h.wait hb t6 e
theorem MTurned.oth {B m bm d cap : Nat} {vs vw vs' vw' : Value} {M' : Mc} (h : MachAt w B p m bm d n cap q M vs vw) (ht : MTurned w B p m bm d n cap q vs vw M' w1 vs' vw') : Oth w w1 := by
  intro b cs t fr hb hT
  rw [ht.lv.block b (Array.getElem?_eq_some_iff.1 hb).1 (foot_oth h hb hT)]
  exact hb
theorem Oth.of_none (hg : w.grownBy w1 none) : Oth w w1 := fun b cs t fr hb _ => (hg.block b (Array.getElem?_eq_some_iff.1 hb).1 (by simp)).trans hb
theorem Oth.refl (w : World) : Oth w w := fun _ _ _ _ h _ => h
theorem Oth.trans {w2 : World} (h : Oth w w1) (k : Oth w1 w2) : Oth w w2 := fun b cs t fr hb ht => k b cs t fr (h b cs t fr hb ht) ht
theorem Oth.cpu (h : Oth w w1) {b : Nat} {y : Cp} (hc : CpuAt w b y) : CpuAt w1 b y := ⟨h _ _ _ _ hc.blk (by decide), hc.len⟩
theorem Oth.own (h : Oth w w1) {B : Nat} {e : TypeId} {size : Nat} {v : Value} {k : Nat} {l : List Value} (ho : w.ownsRow B e size v k l) (he : othT e = true) : w1.ownsRow B e size v k l := by
  refine ⟨ho.1, ?_⟩
  rcases ho.2 with hn | ⟨g, cap, cur, rfl, hb, hgg, rest⟩
  · exact .inl hn
  · exact .inr ⟨g, cap, cur, rfl, hb, h _ _ _ _ hgg he, rest⟩
/-- behind a step -/
def MStep (W : World) (p n : Nat) (q : Int) (b : Bool) (M : Mc) (w : World) (e : Ending) (w' : World) : Prop := e = .returned (.bool b) ∧ MBox W p n q M w' ∧ Oth w w'
theorem mb_step (h : MBox W p n q M w) (hn : M.now ≤ 1000000) (b : Bool) (hb : (!M.ov) = b) (M' : Mc) (hM : stepP n q M = M') :
    Calls Tryz.prog 15 #[.pointer (some ⟨p, 0, none⟩)] w (MStep W p n q b M' w) := by
  subst hb hM
  obtain ⟨B, m, bm, d, cap, vs, vw, h1, h2, h3, h4, h5⟩ := h
  refine (bstep_any h1 h4 h5 hn).mono ?_
  rintro e w' ⟨rfl, vs', vw', ht⟩
  exact ⟨rfl, ⟨B, m, bm, d, cap, vs', vw', ht.at_, Lv.after h2 ht.lv (fun i hi => Nat.le_trans h3 (h1.old i hi)), h3, ht.base h4, step_good h5⟩, MTurned.oth h1 ht⟩
theorem mb_over (h : MBox W p n q M w) (b : Bool) (hb : M.ov = b) :
    Calls Tryz.prog 14 #[.pointer (some ⟨p, 0, none⟩)] w fun e w' => e = .returned (.bool b) ∧ w = w' := by
  obtain ⟨B, m, bm, d, cap, vs, vw, h1, h2, h3, h4, h5⟩ := h
  exact bover_any h1 b hb
theorem mb_now (h : MBox W p n q M w) (k : Int) (hk : M.now = k) :
    Calls Tryz.prog 23 #[.pointer (some ⟨p, 0, none⟩)] w fun e w' => e = .returned (.int .i64 k) ∧ w = w' := by
  obtain ⟨B, m, bm, d, cap, vs, vw, h1, h2, h3, h4, h5⟩ := h
  exact bnow_any h1 k hk
theorem mb_wait (h : MBox W p n q M w) (k : Nat) (hk : M.ws.length = k) :
    Calls Tryz.prog 31 #[.pointer (some ⟨p, 0, none⟩)] w fun e w' => e = .returned (.int .i64 k) ∧ w = w' := by
  obtain ⟨B, m, bm, d, cap, vs, vw, h1, h2, h3, h4, h5⟩ := h
  exact bwait_any h1 k hk
theorem mb_seen (h : MBox W p n q M w) (hl : M.d.sn.length ≤ 1000000) (l : List Sn) (hs : M.d.sn = l) :
    Calls Tryz.prog 16 #[.pointer (some ⟨p, 0, none⟩)] w (CopiedAt w l) := by
  subst hs
  obtain ⟨B, m, bm, d, cap, vs, vw, h1, h2, h3, h4, h5⟩ := h
  exact bseen_any h1 hl
theorem press_of {B d : Nat} {x : DvS} {v : Value} (h : DevAt w B d x v) (key : Int) (b : Bool) (hb : decide (x.Q.length < 64) = b) :
    Calls Tryz.prog 52 #[.pointer (some ⟨d, 0, none⟩), .int .u32 key] w fun e w' => e = .returned (.bool b) ∧ Turned w B d v ⟨if x.Q.length < 64 then x.Q ++ [key] else x.Q, x.S, x.fr, x.af, x.sn⟩ w' v := by
  have hq := h.q64
  by_cases hl : x.Q.length < 64
  · rw [if_pos hl]
    have : b = true := by rw [← hb]; simpa using hl
    subst this
    exact (press_yes h hl key).mono fun e w' ⟨he, ht⟩ => ⟨he, ht⟩
  · rw [if_neg hl]
    have : b = false := by rw [← hb]; simpa using hl
    subst this
    exact (press_no h (by omega) key).mono fun e w' ⟨he, hw⟩ => by subst hw; exact ⟨he, Turned.none h (grown_refl _ _)⟩
/-- a key is pressed -/
def pressM (M : Mc) (key : Int) : Mc := ⟨M.xs, M.c, ⟨if M.d.Q.length < 64 then M.d.Q ++ [key] else M.d.Q, M.d.S, M.d.fr, M.d.af, M.d.sn⟩, M.now, M.ov, M.ws⟩
theorem press_good (h : Good n M) {key : Int} (k0 : 0 ≤ key) (k1 : key < 4294967296) : Good n (pressM M key) := by
  refine ⟨h.cpu, h.u32, h.len, ?_, ?_, h.secs, h.s16, h.f0, h.f1, h.a0, h.a1, h.seen, h.w16, h.wait⟩
  · show U32s (if M.d.Q.length < 64 then M.d.Q ++ [key] else M.d.Q)
    split
    · intro x hx
      rcases List.mem_append.1 hx with e | e
      · exact h.keys x e
      · rw [List.mem_singleton.1 e]; exact ⟨k0, k1⟩
    · exact h.keys
  · show (if M.d.Q.length < 64 then M.d.Q ++ [key] else M.d.Q).length ≤ 64
    split
    · rw [List.length_append]; simp; omega
    · exact h.q64
set_option maxHeartbeats 1000000 in
theorem mb_press (h : MBox W p n q M w) (key : Int) (k0 : 0 ≤ key) (k1 : key < 4294967296) (b : Bool) (hb : decide (M.d.Q.length < 64) = b) :
    Calls Tryz.prog 26 #[.pointer (some ⟨p, 0, none⟩), .int .u32 key] w (MStep W p n q b (pressM M key) w) := by
  obtain ⟨B, m, bm, d, cap, vs, vw, h1, h2, h3, h4, h5⟩ := h
  have hdp := h1.g.tail 0 (v := .pointer (some ⟨d, 0, none⟩)) rfl
  have H1 := hid h1
  have Hb := hid hb
  have H5 := hid h5
  have H2 := hid (And.intro h2 (And.intro h3 h4))
  clear h1 hb h5 h2 h3 h4
  go_enter Tryz.func26, Tryz.ntmps26
  go_wp2_with fail
  refine (press_of H1.out.dev key b Hb.out).mono ?_; rintro e w1 ⟨rfl, ht⟩
  have HT := hid (H1.out.devT ht)
  clear ht hdp
  go_wp2
  go_ret
  obtain ⟨h2, h3, h4⟩ := H2.out
  exact ⟨rfl, ⟨B, m, bm, d, cap, _, _, HT.out.at_, Lv.after h2 HT.out.lv (fun i hi => Nat.le_trans h3 (H1.out.old i hi)), h3, HT.out.base h4, press_good H5.out k0 k1⟩, MTurned.oth H1.out HT.out⟩
theorem mb_mem (h : MBox W p n q M w) :
    Calls Tryz.prog 18 #[.pointer (some ⟨p, 0, none⟩)] w (CloneAt w n M.xs) := by
  obtain ⟨B, m, bm, d, cap, vs, vw, h1, h2, h3, h4, h5⟩ := h
  exact bmem_any h1
/-- behind New -/
def MNew (W : World) (n : Nat) (q : Int) (M : Mc) (e : Ending) (w' : World) : Prop := ∃ p, e = .returned (.tuple #[.pointer (some ⟨p, 0, none⟩), .nilIface]) ∧ MBox W p n q M w'
theorem mb_new {m b cap : Nat} {xs : List Int} (h : MemAt w m b n cap xs) (hW : W.grownBy w none) {c : Cp} (hc : CpOk c) (hu : U32s xs) (q0 : 17 ≤ q) (q1 : q ≤ 256) :
    Calls Tryz.prog 13 #[.pointer (some ⟨m, 0, none⟩), .agg (cpuC c), .int .i64 q] w (MNew W n q (initM xs c)) := by
  refine (bnew_yes h hc.regs.len q q0 q1).mono ?_
  rintro e w' ⟨p, m', bm', d, cap', vs, vw, rfl, hm, hg⟩
  exact ⟨p, rfl, w.heap.size, m', bm', d, cap', vs, vw, hm, grown_trans hW hg, hW.size, hg.size, init_good hc hu h.len⟩
end
theorem sl_nil (w : World) : SlAt w .u32 (.slice none 0 0) [] := .inl ⟨⟨none, 0, rfl⟩, rfl⟩
theorem build_pc (pc : Int) (w : World) : (Instr.build 39 #[(1, .int .u32 pc)]).run Tryz.prog w = .ok (.agg (cpuC (pcP pc 0))) w := by kernel_rfl
theorem wpList_build_pc {ops : Array Oper} {rest : List Oper} {o : Oper} {A : Act} {w : World} {Q : Exit → Act → World → Prop} (hgd : o.guard = none) (x : Operand) (ho : o.op = .build 39 #[(1, x)]) {pc : Int} (hx : A.eval x = .int .u32 pc)
    (h : wpList Tryz.prog ops Q rest (A.put o.dst (.agg (cpuC (pcP pc 0)))) w) : wpList Tryz.prog ops Q (o :: rest) A w := by
  refine wpList_plain hgd fun K hK => ?_
  unfold Oper.wp
  simp [execOp, ho, hx, build_pc pc w, Result.andThen]
  exact hK _ _ h
/-- a machine that halts at once -/
def haltM : Mc := initM (memW8 20 [] [536870912]) (pcP 2048 0)
theorem halt_step : (stepP (20 + 16) 20 haltM).ov = true ∧ (stepP (20 + 16) 20 haltM).now = 1 := by
  have C : CodeIn 20 [536870912] haltM.xs := code_mem8 (by decide) (by decide) [] (by decide)
  have h := run_sup (Q := 20) (M := haltM) C (i := 0) (by decide) rfl (op := 32) (a := 0) (b := 0) (c := 0) rfl (by decide) (by decide) (.inl (by decide)) rfl (wait_off rfl)
  rw [h]
  exact ⟨rfl, rfl⟩
set_option maxRecDepth 100000 in
set_option maxHeartbeats 4000000 in
theorem first8_any (W : World) : Calls Tryz.prog 10 #[] W fun e w' => e = .returned (.bool true) ∧ W.grownBy w' none := by
  have HS0 : Hid (SlAt (W.alloc (.cells #[.int .u32 536870912] 25)) .u32 (.slice (some ⟨W.heap.size, 0, none⟩) 1 1) [536870912]) := hid (SlAt.whole (k := .u32) (c := 1) (xs := [536870912]) (t := 25) (heap_alloc_last W _))
  have HG0 := hid (grown_alloc (grown_refl W none) (.cells #[.int .u32 536870912] 25))
  have HU := hid (memW8_u32 20 (data := []) (code := [536870912]) (fun x hx => by cases hx) (fun x hx => by simp at hx; subst hx; decide))
  obtain ⟨h1, h2⟩ := halt_step
  obtain ⟨M1, hM1⟩ : ∃ M1, stepP (20 + 16) 20 haltM = M1 := ⟨_, rfl⟩
  rw [hM1] at h1 h2
  have HM1 := hid hM1
  have Hov := hid h1
  have Hnw := hid h2
  have HM2 := hid (step_over (n := 20 + 16) (q := 20) M1 h1)
  clear hM1 h1 h2
  go_enter Tryz.func10, Tryz.ntmps10
  go_wp2_with fail
  refine (memory8_any 20 (by decide) (by decide) (.slice none 0 0) (.slice (some ⟨W.heap.size, 0, none⟩) 1 1) [] [536870912] _ (sl_nil _) HS0.out (by decide) (by decide)).mono ?_; rintro e w1 ⟨m, b, m', b', rfl, hm, hb, hb', hM, hR, hg⟩
  have HM := hid hM
  replace HG0 := hid (grown_trans HG0.out hg)
  clear hM hR hm hb hb' hg HS0
  go_wp2_with (first
    | (refine wpList_build_pc rfl _ rfl rfl ?_)
    | fail)
  refine (mb_new (W := W) HM.out HG0.out (pcP_ok (pc := 2048) (tv := 0) (by decide) (by decide) (by decide) (by decide)) HU.out (q := 20) (by decide) (by decide)).mono ?_; rintro e w2 ⟨p, rfl, hB⟩
  have HB := hid hB
  clear hB HM HG0
  go_wp2_with fail
  refine (mb_now HB.out 0 rfl).mono ?_; rintro e w3 ⟨rfl, rfl⟩
  go_wp2_with fail
  refine (mb_step HB.out (by decide) true rfl M1 HM1.out).mono ?_; rintro e w3 ⟨rfl, hB, _⟩
  have HB1 := hid hB
  clear hB HB
  go_wp2_with fail
  refine (mb_over HB1.out true Hov.out).mono ?_; rintro e w4 ⟨rfl, rfl⟩
  go_wp2_with fail
  refine (mb_step HB1.out (by rw [Hnw.out]; decide) false (by rw [Hov.out]; rfl) M1 HM2.out).mono ?_; rintro e w4 ⟨rfl, hB, _⟩
  have HB2 := hid hB
  clear hB HB1
  go_wp2_with fail
  refine (mb_now HB2.out 1 Hnw.out).mono ?_; rintro e w5 ⟨rfl, rfl⟩
  go_wp2
  go_ret
  exact ⟨rfl, HB2.out.old⟩
end Go.Proofs.YtkkbhifplbleiaaGreatDoor
/- A copy of a bare machine: contracts. -/
namespace Go.Proofs.YtkkbhifplbleiaaGreatDoor
open Go.RowKit
theorem gL_setHead (h : Value) (x : Cp) (tl : List Value) (v : Value) : (gL h x tl).set 0 v = gL v x tl := rfl
theorem GAt.sHd {w : World} {p : Nat} {t : TypeId} {h : Value} {x : Cp} {tl : List Value} (g : GAt w p t h x tl) (v : Value) : GAt (w.setCell ⟨p, 0, none⟩ v) p t v x tl :=
  ⟨by rw [heap_setCell_same w p _ _ _ _ g.blk, List.setIfInBounds_toArray, gL_setHead], g.len⟩
def UCopiedAt (w : World) (l : List (Int × Int)) (e : Ending) (w' : World) : Prop :=
  ∃ v, e = .returned v ∧ w'.ownsRow w.heap.size 95 2 v l.length (wsCells l) ∧ w.grownBy w' none
theorem clone_upds {w : World} {B : Nat} {v : Value} {l : List (Int × Int)} (h : w.ownsRow B 95 2 v l.length (wsCells l)) (hl : l.length ≤ 16) :
    Calls Tryz.prog 45 #[v] w (UCopiedAt w l) := by
  have hnil := @Lib.run_eql_slice_nil Tryz.prog
  have H := hid h
  rcases h.2 with ⟨rfl, h0⟩ | ⟨b, c, cur, rfl, hB, hb, hcl, hcm, hsz, ht⟩
  · obtain rfl := List.eq_nil_of_length_eq_zero h0
    clear h
    go_enter Tryz.func45, Tryz.ntmps45
    go_wp2
    go_ret
    exact ⟨_, rfl, World.ownsRow_nil _ _ _ _, grown_refl _ _⟩
  · obtain ⟨i, hi, hz0, hz1, hz2⟩ := upd_info
    have Hi := hid hi
    have Hz0 := hid hz0
    have Hz1 := hid hz1
    have Hz2 := hid hz2
    have hblt : b < w.heap.size := (Array.getElem?_eq_some_iff.1 hb).1
    have Hnew : Hid (∀ j u, (wsCells l)[j]? = some u → (w.alloc (.cells #[] 95)).cell? ((⟨b, 0, none⟩ : Addr).add j) = some u) := hid (by
      intro j u hu
      rw [Addr.add_mid, World.cell?_alloc_lt _ _ _ hblt, ← Addr.add_mid]
      exact H.out.cells rfl j u hu)
    have Hl : Hid ((wsCells l).length = l.length * 2) := hid (wsCells_length l)
    have H1 : Hid (∀ v ∈ wsCells l, v.oneCell' = true) := hid (wsCells_one l)
    have Hown : Hid ((w.alloc (.cells #[] 95)).ownsRow w.heap.size 95 2 (.slice (some ⟨w.heap.size, 0, none⟩) 0 0) 0 []) :=
      hid (World.ownsRow_lit w #[] 0 (Nat.le_refl _) (by unfold maxLen; omega) rfl)
    have Hb : Hid ((0 + l.length) * 16 ≤ 140737488355328) := hid (by omega)
    have Hx : Hid (0 + l.length ≤ maxLen) := hid (by unfold maxLen; omega)
    clear hi hz0 hz1 hz2 h hb ht hsz hcm hcl
    go_enter Tryz.func45, Tryz.ntmps45
    go_wp2_with (refine wpList_append_own _ rfl _ _ 89 rfl w.heap.size 95 i _ 2 16 Tryz.underlying89 Hi.out Hz0.out Hz1.out Hz2.out rfl (by decide) (.slice (some ⟨w.heap.size, 0, none⟩) 0 0) 0 [] rfl Hown.out ⟨b, 0, none⟩ l.length _ (wsCells l) rfl Hl.out Hnew.out H1.out Hx.out Hb.out (by simp) ?_; intro v' w2 hown2 hgrow2 _; have HO := hid hown2; have HG := hid hgrow2; clear hown2 hgrow2)
    go_ret
    refine ⟨v', rfl, ?_, ?_⟩
    · have := HO.out; rwa [Nat.zero_add, List.nil_append] at this
    · exact grown_new' (grown_trans (World.grownBy_alloc _ _ _) HG.out) (fun k hk => by simp [Value.ownBlock] at hk; omega)
def zM : Array Value := (gL (.pointer none) zeroP [.pointer none, .int .i64 0, .int .i64 0, .bool false, .slice none 0 0]).toArray
theorem zero_mach (w : World) : (zeroValue 91).run Tryz.prog w = .ok (.agg zM) w := by kernel_rfl
theorem mach_info {h : Value} {x : Cp} {tl : List Value} (hl : x.l.length = 16) (ht : tl.length = 5) : (Tryz.prog.info? 91).map (·.size) = some (gL h x tl).toArray.size := by
  rw [List.size_toArray, gL_len hl, ht]; kernel_rfl
theorem bT_one (d : Nat) (q now : Int) (ov : Bool) {v : Value} (hv : v.oneCell' = true) : ∀ u ∈ bT d q now ov v, u.oneCell' = true := by
  intro u hu
  simp only [bT, List.mem_cons, List.not_mem_nil, or_false] at hu
  rcases hu with rfl | rfl | rfl | rfl | rfl
  · rfl
  · rfl
  · rfl
  · rfl
  · exact hv
theorem gL_one {h : Value} {x : Cp} {tl : List Value} (hh : h.oneCell' = true) (ht : ∀ u ∈ tl, u.oneCell' = true) : (gL h x tl).toArray.all (·.oneCell') = true := by
  rw [Array.all_eq_true_iff_forall_mem]
  intro v hv
  have hv : v ∈ gL h x tl := by simpa using hv
  unfold gL at hv
  rcases List.mem_cons.1 hv with rfl | hv
  · exact hh
  · rcases List.mem_append.1 hv with hv | hv
    · exact (Array.all_eq_true_iff_forall_mem.1 (cpu_one x)) v (by simpa [cpuC] using hv)
    · exact ht v hv
/-- behind Clone -/
def BClone (w : World) (n : Nat) (q : Int) (M : Mc) (e : Ending) (w' : World) : Prop :=
  ∃ p m bm d cap vs vw, e = .returned (.pointer (some ⟨p, 0, none⟩)) ∧ MachAt w' w.heap.size p m bm d n cap q M vs vw ∧ w.grownBy w' none
section
variable {w : World} {B p m bm d n cap : Nat} {q : Int} {M : Mc} {vs vw : Value}
set_option maxRecDepth 100000 in
set_option maxHeartbeats 4000000 in
theorem bclone_any (h : MachAt w B p m bm d n cap q M vs vw) (hsn : M.d.sn.length ≤ 1000000) (hw16 : M.ws.length ≤ 16) :
    Calls Tryz.prog 17 #[.pointer (some ⟨p, 0, none⟩)] w (BClone w n q M) := by
  have Hz := zero_mach
  obtain ⟨vp, vc, hvw⟩ := own_form h.wait
  subst hvw
  have H := hid h
  have Hsn := hid hsn
  have H16 := hid hw16
  have Hp : Hid (RwAt (w.alloc (.cells zM 91)) p 91 (gL (.pointer (some ⟨m, 0, none⟩)) M.c (bT d q M.now M.ov (.slice vp M.ws.length vc))).toArray) := hid ((RwAt.mk h.g.blk).alloc _)
  have Hpw : Hid (RwAt w p 91 (gL (.pointer (some ⟨m, 0, none⟩)) M.c (bT d q M.now M.ov (.slice vp M.ws.length vc))).toArray) := hid ⟨h.g.blk⟩
  have Hn : Hid (RwAt (w.alloc (.cells zM 91)) w.heap.size 91 zM) := hid (RwAt.new w _ _)
  have Hi := hid (mach_info (h := .pointer (some ⟨m, 0, none⟩)) (x := M.c) (tl := bT d q M.now M.ov (.slice vp M.ws.length vc)) h.g.len rfl)
  have Hs : Hid (zM.size = (gL (.pointer (some ⟨m, 0, none⟩)) M.c (bT d q M.now M.ov (.slice vp M.ws.length vc))).toArray.size) := hid ((show zM.size = 24 + 5 from rfl).trans (gL_len (h := .pointer (some ⟨m, 0, none⟩)) (x := M.c) (tl := bT d q M.now M.ov (.slice vp M.ws.length vc)) h.g.len).symm)
  have Ho := hid (gL_one (h := .pointer (some ⟨m, 0, none⟩)) (x := M.c) (tl := bT d q M.now M.ov (.slice vp M.ws.length vc)) rfl (bT_one _ _ _ _ rfl))
  have HG : Hid (w.grownBy ((w.alloc (.cells zM 91)).setRow w.heap.size (gL (.pointer (some ⟨m, 0, none⟩)) M.c (bT d q M.now M.ov (.slice vp M.ws.length vc))).toArray) none) := hid (grown_setRow (World.grownBy_alloc _ _ _) (Nat.le_refl _) _)
  have HN : Hid (GAt ((w.alloc (.cells zM 91)).setRow w.heap.size (gL (.pointer (some ⟨m, 0, none⟩)) M.c (bT d q M.now M.ov (.slice vp M.ws.length vc))).toArray) w.heap.size 91 (.pointer (some ⟨m, 0, none⟩)) M.c (bT d q M.now M.ov (.slice vp M.ws.length vc))) := hid ⟨(Hn.out.row _).blk, h.g.len⟩
  clear h hsn hw16
  go_enter Tryz.func17, Tryz.ntmps17
  go_upto_region 2 with (first
    | (refine wpList_load_rw rfl 91 _ rfl rfl Hpw.out rfl Tryz.underlying91 Hi.out ?_)
    | (refine wpList_store_rw rfl 91 _ _ rfl rfl rfl Hn.out Hi.out Hs.out Ho.out ?_)
    | fail)
  obtain ⟨b3, hb3⟩ : ∃ b3, b3 = w.heap.size := ⟨_, rfl⟩
  have NB : Hid (w.heap.size ≤ b3) := hid (Nat.le_of_eq hb3.symm)
  rw [← hb3] at HN HG ⊢
  have HPne : Hid (p ≠ b3) := hid (by have := H.out.g.lt; omega)
  clear hb3
  generalize (w.alloc (.cells zM 91)).setRow b3 (gL (.pointer (some ⟨m, 0, none⟩)) M.c (bT d q M.now M.ov (.slice vp M.ws.length vc))).toArray = w1 at HN HG ⊢
  clear Hp Hpw Hn Hi Hs Ho
  have hgd : w1.grownBy w1.drew none := grown_drew (grown_refl _ none)
  have HGd := hid (grown_trans HG.out hgd)
  have HNd := hid (HN.out.kept0 hgd)
  have H1 := hid (H.out.kept0 HGd.out)
  have k0 := (H.out.kept0 HG.out).g.head
  have k1 := (H.out.kept0 HG.out).g.tail 0 (v := .pointer (some ⟨d, 0, none⟩)) rfl
  have k2 := (H.out.kept0 HG.out).g.tail 4 (v := .slice vp M.ws.length vc) rfl
  clear hgd
  go_region_held3 (fun W => W.cell? ⟨p, 0, none⟩ = some (.pointer (some ⟨m, 0, none⟩)) ∧ W.cell? ⟨p, 24, none⟩ = some (.pointer (some ⟨d, 0, none⟩)) ∧ W.cell? ⟨p, 28, none⟩ = some (.slice vp M.ws.length vc))
    (first | (exact ⟨k0, k1, k2⟩) | (exact ⟨k0a, k1a, k2a⟩) | (exact ⟨k0b, k1b, k2b⟩) | (exact ⟨k0c, k1c, k2c⟩) | (go_split_ands; refine ⟨?_, ?_, ?_⟩ <;> first | assumption | (refine keep_set ?_ HPne.out; assumption)))
    (first
      | (go_at_call 40; refine (clone_any H1.out.mem).mono ?_; rintro e w2 ⟨m', bm', cap', rfl, hm1, hm2, hm3, hg2⟩; have HM2 := hid hm3; have HG2 := hid hg2; have Hm2 := hid (And.intro hm1 hm2); have k0a := (H1.out.kept0 hg2).g.head; have k1a := (H1.out.kept0 hg2).g.tail 0 (v := .pointer (some ⟨d, 0, none⟩)) rfl; have k2a := (H1.out.kept0 hg2).g.tail 4 (v := .slice vp M.ws.length vc) rfl; have H2 := hid (H1.out.kept0 hg2); clear hm1 hm2 hm3 hg2)
      | (go_at_call 44; refine (dclone_any H2.out.dev Hsn.out).mono ?_; rintro e w3 ⟨d', vs', rfl, hd1, hg3⟩; have HD3 := hid hd1; have HG3 := hid hg3; have k0b := (H2.out.kept0 hg3).g.head; have k1b := (H2.out.kept0 hg3).g.tail 0 (v := .pointer (some ⟨d, 0, none⟩)) rfl; have k2b := (H2.out.kept0 hg3).g.tail 4 (v := .slice vp M.ws.length vc) rfl; have H3 := hid (H2.out.kept0 hg3); clear hd1 hg3)
      | (go_at_call 45; refine (clone_upds H3.out.wait H16.out).mono ?_; rintro e w4 ⟨vw', rfl, ho4, hg4⟩; obtain ⟨vp', vc', rfl⟩ := own_form ho4; have HW4 := hid ho4; have HG4 := hid hg4; have k0c := (H3.out.kept0 hg4).g.head; have k1c := (H3.out.kept0 hg4).g.tail 0 (v := .pointer (some ⟨d, 0, none⟩)) rfl; have k2c := (H3.out.kept0 hg4).g.tail 4 (v := .slice vp M.ws.length vc) rfl; have HN4 := hid (((HNd.out.kept0 HG2.out).kept0 HG3.out).kept0 hg4); have n0 := HN4.out.head; have n1 := HN4.out.tail 0 (v := .pointer (some ⟨d, 0, none⟩)) rfl; have n2 := HN4.out.tail 4 (v := .slice vp M.ws.length vc) rfl; have nf := fun j => HN4.out.free j; clear ho4 hg4))
  go_split_ands
  go_wp2
  go_ret
  have hlt3 : b3 < w1.heap.size := HN.out.lt
  have hsz1 : w1.heap.size ≤ w1.drew.heap.size := Nat.le_refl _
  have hL : Lv w4 (((w4.setCell ⟨b3, 0, none⟩ (.pointer (some ⟨m', 0, none⟩))).setCell ⟨b3, 24, none⟩ (.pointer (some ⟨d', 0, none⟩))).setCell ⟨b3, 28, none⟩ (.slice vp' M.ws.length vc')) [b3] := (((Lv.refl w4 [b3]).set (by simp) _ _).set (by simp) _ _).set (by simp) _ _
  have hG5 := ((HN4.out.sHd (.pointer (some ⟨m', 0, none⟩))).sTl 0 (.pointer (some ⟨d', 0, none⟩))).sTl 4 (.slice vp' M.ws.length vc')
  have s1 := HGd.out.size
  have s2 := HG2.out.size
  have s3 := HG3.out.size
  have s4 := HG4.out.size
  have hm := Hm2.out
  refine ⟨b3, m', bm', d', cap', vs', _, rfl, ⟨hG5, mem_keptL ((HM2.out.kept0 HG3.out).kept0 HG4.out) hL (by simp; omega) (by simp; omega), ((HD3.out.base (by omega)).kept0 HG4.out).keptL hL (fun i hi => ?_), own_keptL (own_base HW4.out (by omega)) hL (fun g hg => ?_), NB.out, by omega, by omega⟩, Lv.after (grown_trans (grown_trans (grown_trans HGd.out HG2.out) HG3.out) HG4.out) hL (by intro i hi; rw [List.mem_singleton.1 hi]; exact NB.out)⟩
  · have := HD3.out.foot_ge i hi
    simp
    omega
  · have := (HW4.out.lt g hg).1
    simp
    omega
end
end Go.Proofs.YtkkbhifplbleiaaGreatDoor
/- Some bare machines side by side: contracts. -/
namespace Go.Proofs.YtkkbhifplbleiaaGreatDoor
open Go.RowKit
/-- a machine at p that lies in the blocks F, made since W -/
def MX (W : World) (p n : Nat) (q : Int) (M : Mc) (F : List Nat) (w : World) : Prop :=
  ∃ B m bm d cap vs vw, F = mfoot p m bm d vs vw ∧ MachAt w B p m bm d n cap q M vs vw ∧ W.grownBy w none ∧ W.heap.size ≤ B ∧ B ≤ w.heap.size ∧ Good n M
section
variable {W w w1 : World} {p n : Nat} {q : Int} {M : Mc} {F R : List Nat}
theorem MX.box (h : MX W p n q M F w) : MBox W p n q M w := by
  obtain ⟨B, m, bm, d, cap, vs, vw, _, h⟩ := h
  exact ⟨B, m, bm, d, cap, vs, vw, h⟩
theorem MBox.mx (h : MBox W p n q M w) : ∃ F, MX W p n q M F w := by
  obtain ⟨B, m, bm, d, cap, vs, vw, h⟩ := h
  exact ⟨_, B, m, bm, d, cap, vs, vw, rfl, h⟩
theorem MX.lt (h : MX W p n q M F w) : ∀ i ∈ F, i < w.heap.size := by
  obtain ⟨B, m, bm, d, cap, vs, vw, rfl, h, _⟩ := h
  exact h.lt
theorem MX.ge (h : MX W p n q M F w) : ∀ i ∈ F, W.heap.size ≤ i := by
  obtain ⟨B, m, bm, d, cap, vs, vw, rfl, h, _, h2, _⟩ := h
  exact fun i hi => Nat.le_trans h2 (h.old i hi)
theorem MX.old (h : MX W p n q M F w) : W.grownBy w none := h.box.old
theorem MX.keptL (h : MX W p n q M F w) (hL : Lv w w1 R) (hd : ∀ i ∈ F, i ∉ R) (hR : ∀ i ∈ R, W.heap.size ≤ i) : MX W p n q M F w1 := by
  obtain ⟨B, m, bm, d, cap, vs, vw, rfl, h1, h2, h3, h4, h5⟩ := h
  exact ⟨B, m, bm, d, cap, vs, vw, rfl, h1.keptL hL hd, Lv.after h2 hL hR, h3, Nat.le_trans h4 hL.size, h5⟩
theorem MX.keep (h : MX W p n q M F w) (hg : w.grownBy w1 none) : MX W p n q M F w1 := h.keptL (Lv.of_none hg []) (by simp) (by simp)
/-- behind a step -/
def XStep (W : World) (p n : Nat) (q : Int) (b : Bool) (M' : Mc) (F : List Nat) (w : World) (e : Ending) (w' : World) : Prop :=
  e = .returned (.bool b) ∧ ∃ F', MX W p n q M' F' w' ∧ Lv w w' F ∧ (∀ i ∈ F', i ∈ F ∨ w.heap.size ≤ i) ∧ Oth w w'
theorem foot_mine {w : World} {p m bm d : Nat} {vs vw vs' vw' : Value} (h1 : Mine w vs vs') (h2 : Mine w vw vw') : ∀ i ∈ mfoot p m bm d vs' vw', i ∈ mfoot p m bm d vs vw ∨ w.heap.size ≤ i := by
  intro i hi
  rcases mem_mfoot.1 hi with e | e | e | e | e | e
  · exact .inl (mem_mfoot.2 (.inl e))
  · exact .inl (mem_mfoot.2 (.inr (.inl e)))
  · exact .inl (mem_mfoot.2 (.inr (.inr (.inl e))))
  · exact .inl (mem_mfoot.2 (.inr (.inr (.inr (.inl e)))))
  · rcases h1 with h | h
    · exact .inl (mem_mfoot.2 (.inr (.inr (.inr (.inr (.inl (h.symm.trans e)))))))
    · exact .inr (h i e)
  · rcases h2 with h | h
    · exact .inl (mem_mfoot.2 (.inr (.inr (.inr (.inr (.inr (h.symm.trans e)))))))
    · exact .inr (h i e)
theorem mx_step (h : MX W p n q M F w) (hn : M.now ≤ 1000000) (b : Bool) (hb : (!M.ov) = b) (M' : Mc) (hM : stepP n q M = M') :
    Calls Tryz.prog 15 #[.pointer (some ⟨p, 0, none⟩)] w (XStep W p n q b M' F w) := by
  subst hb hM
  obtain ⟨B, m, bm, d, cap, vs, vw, rfl, h1, h2, h3, h4, h5⟩ := h
  refine (bstep_any h1 h4 h5 hn).mono ?_
  rintro e w' ⟨rfl, vs', vw', ht⟩
  exact ⟨rfl, _, ⟨B, m, bm, d, cap, vs', vw', rfl, ht.at_, Lv.after h2 ht.lv (fun i hi => Nat.le_trans h3 (h1.old i hi)), h3, ht.base h4, step_good h5⟩, ht.lv, foot_mine ht.m1 ht.m2, MTurned.oth h1 ht⟩
/-- two side by side -/
def S2 (W : World) (n : Nat) (q : Int) (p1 : Nat) (M1 : Mc) (p2 : Nat) (M2 : Mc) (w : World) : Prop :=
  ∃ F1 F2, MX W p1 n q M1 F1 w ∧ MX W p2 n q M2 F2 w ∧ Apart F1 F2
/-- three -/
def S3 (W : World) (n : Nat) (q : Int) (p1 : Nat) (M1 : Mc) (p2 : Nat) (M2 : Mc) (p3 : Nat) (M3 : Mc) (w : World) : Prop :=
  ∃ F1 F2 F3, MX W p1 n q M1 F1 w ∧ MX W p2 n q M2 F2 w ∧ MX W p3 n q M3 F3 w ∧ Apart F1 F2 ∧ Apart F1 F3 ∧ Apart F2 F3
variable {p1 p2 p3 : Nat} {M1 M2 M3 : Mc}
theorem S2.keep (h : S2 W n q p1 M1 p2 M2 w) (hg : w.grownBy w1 none) : S2 W n q p1 M1 p2 M2 w1 := by
  obtain ⟨F1, F2, h1, h2, h3⟩ := h
  exact ⟨F1, F2, h1.keep hg, h2.keep hg, h3⟩
theorem S2.box1 (h : S2 W n q p1 M1 p2 M2 w) : MBox W p1 n q M1 w := by
  obtain ⟨F1, F2, h1, h2, h3⟩ := h
  exact h1.box
theorem S2.box2 (h : S2 W n q p1 M1 p2 M2 w) : MBox W p2 n q M2 w := by
  obtain ⟨F1, F2, h1, h2, h3⟩ := h
  exact h2.box
theorem S3.keep (h : S3 W n q p1 M1 p2 M2 p3 M3 w) (hg : w.grownBy w1 none) : S3 W n q p1 M1 p2 M2 p3 M3 w1 := by
  obtain ⟨F1, F2, F3, h1, h2, h3, h4⟩ := h
  exact ⟨F1, F2, F3, h1.keep hg, h2.keep hg, h3.keep hg, h4⟩
theorem S3.turn (h : S3 W n q p1 M1 p2 M2 p3 M3 w) : S3 W n q p2 M2 p3 M3 p1 M1 w := by
  obtain ⟨F1, F2, F3, h1, h2, h3, a, b, c⟩ := h
  exact ⟨F2, F3, F1, h2, h3, h1, c, a.symm, b.symm⟩
theorem S3.box1 (h : S3 W n q p1 M1 p2 M2 p3 M3 w) : MBox W p1 n q M1 w := by
  obtain ⟨F1, F2, F3, h1, _⟩ := h
  exact h1.box
theorem S3.box2 (h : S3 W n q p1 M1 p2 M2 p3 M3 w) : MBox W p2 n q M2 w := h.turn.box1
theorem S3.box3 (h : S3 W n q p1 M1 p2 M2 p3 M3 w) : MBox W p3 n q M3 w := h.turn.turn.box1
theorem apart_new {F F' G : List Nat} (ha : Apart F G) (hG : ∀ i ∈ G, i < w.heap.size) (hF : ∀ i ∈ F', i ∈ F ∨ w.heap.size ≤ i) : Apart F' G := by
  intro i hi hi2
  rcases hF i hi with e | e
  · exact ha i e hi2
  · have := hG i hi2; omega
/-- the first of two does a step -/
def S2Step (W : World) (n : Nat) (q : Int) (b : Bool) (p1 : Nat) (M1 : Mc) (p2 : Nat) (M2 : Mc) (w : World) (e : Ending) (w' : World) : Prop := e = .returned (.bool b) ∧ S2 W n q p1 M1 p2 M2 w' ∧ Oth w w'
theorem s2_step (h : S2 W n q p1 M1 p2 M2 w) (hn : M1.now ≤ 1000000) (b : Bool) (hb : (!M1.ov) = b) (M' : Mc) (hM : stepP n q M1 = M') :
    Calls Tryz.prog 15 #[.pointer (some ⟨p1, 0, none⟩)] w (S2Step W n q b p1 M' p2 M2 w) := by
  obtain ⟨F1, F2, h1, h2, h3⟩ := h
  refine (mx_step h1 hn b hb M' hM).mono ?_
  rintro e w' ⟨rfl, F', hx, hL, hF, hO⟩
  exact ⟨rfl, ⟨F', F2, hx, h2.keptL hL h3.symm h1.ge, apart_new h3 h2.lt hF⟩, hO⟩
/-- the first of three does a step -/
def S3Step (W : World) (n : Nat) (q : Int) (b : Bool) (p1 : Nat) (M1 : Mc) (p2 : Nat) (M2 : Mc) (p3 : Nat) (M3 : Mc) (w : World) (e : Ending) (w' : World) : Prop := e = .returned (.bool b) ∧ S3 W n q p1 M1 p2 M2 p3 M3 w' ∧ Oth w w'
theorem s3_step (h : S3 W n q p1 M1 p2 M2 p3 M3 w) (hn : M1.now ≤ 1000000) (b : Bool) (hb : (!M1.ov) = b) (M' : Mc) (hM : stepP n q M1 = M') :
    Calls Tryz.prog 15 #[.pointer (some ⟨p1, 0, none⟩)] w (S3Step W n q b p1 M' p2 M2 p3 M3 w) := by
  obtain ⟨F1, F2, F3, h1, h2, h3, a, b', c⟩ := h
  refine (mx_step h1 hn b hb M' hM).mono ?_
  rintro e w' ⟨rfl, F', hx, hL, hF, hO⟩
  exact ⟨rfl, ⟨F', F2, F3, hx, h2.keptL hL a.symm h1.ge, h3.keptL hL b'.symm h1.ge, apart_new a h2.lt hF, apart_new b' h3.lt hF, c⟩, hO⟩
/-- behind a copy -/
def XClone (W : World) (n : Nat) (q : Int) (M : Mc) (w : World) (e : Ending) (w' : World) : Prop :=
  ∃ p' F', e = .returned (.pointer (some ⟨p', 0, none⟩)) ∧ MX W p' n q M F' w' ∧ w.grownBy w' none ∧ ∀ i ∈ F', w.heap.size ≤ i
theorem mx_clone (h : MBox W p n q M w) (hn : M.now ≤ 1000000) :
    Calls Tryz.prog 17 #[.pointer (some ⟨p, 0, none⟩)] w (XClone W n q M w) := by
  obtain ⟨B, m, bm, d, cap, vs, vw, h1, h2, h3, h4, h5⟩ := h
  refine (bclone_any h1 (by have := h5.seen; omega) h5.w16).mono ?_
  rintro e w' ⟨p', m', bm', d', cap', vs', vw', rfl, ha, hg⟩
  exact ⟨p', _, rfl, ⟨w.heap.size, m', bm', d', cap', vs', vw', rfl, ha, grown_trans h2 hg, h2.size, hg.size, h5⟩, hg, ha.old⟩
def C2 (W : World) (n : Nat) (q : Int) (p : Nat) (M : Mc) (e : Ending) (w' : World) : Prop := ∃ p', e = .returned (.pointer (some ⟨p', 0, none⟩)) ∧ S2 W n q p M p' M w'
theorem s1_clone (h : MBox W p n q M w) (hn : M.now ≤ 1000000) : Calls Tryz.prog 17 #[.pointer (some ⟨p, 0, none⟩)] w (C2 W n q p M) := by
  obtain ⟨F, hx⟩ := h.mx
  refine (mx_clone h hn).mono ?_
  rintro e w' ⟨p', F', rfl, hx', hg, hF⟩
  exact ⟨p', rfl, F, F', hx.keep hg, hx', fun i hi hi2 => by have h1 := hx.lt i hi; have h2 := hF i hi2; omega⟩
def C3 (W : World) (n : Nat) (q : Int) (p : Nat) (M : Mc) (p2 : Nat) (M2 : Mc) (e : Ending) (w' : World) : Prop := ∃ p', e = .returned (.pointer (some ⟨p', 0, none⟩)) ∧ S3 W n q p M p2 M2 p' M w'
theorem s2_clone (h : S2 W n q p M p2 M2 w) (hn : M.now ≤ 1000000) : Calls Tryz.prog 17 #[.pointer (some ⟨p, 0, none⟩)] w (C3 W n q p M p2 M2) := by
  obtain ⟨F1, F2, h1, h2, h3⟩ := h
  refine (mx_clone h1.box hn).mono ?_
  rintro e w' ⟨p', F', rfl, hx', hg, hF⟩
  exact ⟨p', rfl, F1, F2, F', h1.keep hg, h2.keep hg, hx', h3, fun i hi hi2 => by have ha := h1.lt i hi; have hb := hF i hi2; omega, fun i hi hi2 => by have ha := h2.lt i hi; have hb := hF i hi2; omega⟩
theorem mb_cpu (h : MBox W p n q M w) (y : Cp) (hy : M.c = y) :
    Calls Tryz.prog 20 #[.pointer (some ⟨p, 0, none⟩)] w fun e w' => e = .returned (.agg (cpuC y)) ∧ w.grownBy w' none := by
  obtain ⟨B, m, bm, d, cap, vs, vw, h1, _⟩ := h
  exact bcpu_any h1 y hy
end
end Go.Proofs.YtkkbhifplbleiaaGreatDoor

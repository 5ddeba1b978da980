/- A bare machine's step; what it tells: contracts. -/
import Derived.Test.YtpkgckjlhjcdmaaDoorZBare8
import Derived.Test.YtpkgckjlhjcdmaaDoorZGMem
import Derived.Test.YtpkgckjlhjcdmaaDoorZGDev
import Derived.Test.YtpkgckjlhjcdmaaDoorZMem8P
import Derived.Test.YtpkgckjlhjcdmaaDoorZLMem8
namespace Go.Proofs.YtpkgckjlhjcdmaaDoor
open Go.RowKit
section
variable {n : Nat} {q : Int}
theorem take_now (X : Mc) (c a : Int) : (takeP X c a).now = X.now := by unfold takeP; split <;> rfl
theorem int_now (M : Mc) : (intP M).now = M.now := by
  unfold intP
  repeat' split
  · rfl
  · rw [take_now]; rfl
  · rw [take_now]
theorem put_now (X : Mc) (a b : Int) : (putP n q X a b).now = X.now := by unfold putP; (repeat' split) <;> rfl
theorem mid_now (X : Mc) (o a b : Int) : (midP n q X o a b).now = X.now := by
  unfold midP
  repeat' split
  · exact put_now _ _ _
  all_goals rfl
theorem priv_now (X : Mc) (o a b l : Int) : (privP n q X o a b l).now = X.now := by
  unfold privP
  repeat' split
  · rfl
  · rfl
  · exact mid_now _ _ _ _
theorem ins_now (X : Mc) : (insP n q X).now = X.now := by
  unfold insP
  repeat' split
  · rfl
  · exact priv_now _ _ _ _ _
  · exact take_now _ _ _
  · exact take_now _ _ _
theorem step_over (M : Mc) (h : M.ov = true) : stepP n q M = M := by unfold stepP; rw [if_pos h]
theorem step_int (M : Mc) (h : M.ov = false) (h2 : (intP M).ov = true) : stepP n q M = tickP (intP M) := by unfold stepP; rw [if_neg (by simp [h]), if_pos h2]
theorem step_ins (M : Mc) (h : M.ov = false) (h2 : (intP M).ov = false) : stepP n q M = tickP (insP n q (intP M)) := by unfold stepP; rw [if_neg (by simp [h]), if_neg (by simp [h2])]
end
section
variable {w : World} {B p m bm d n cap : Nat} {q : Int} {M : Mc} {vs vw : Value}
theorem MachAt.tickT (h : MachAt w B p m bm d n cap q M vs vw) : MTurned w B p m bm d n cap q vs vw (tickP M) (w.setCell ⟨p, 26, none⟩ (.int .i64 (M.now + 1))) vs vw :=
  h.ownT (now' := M.now + 1) (ov' := M.ov) (h.g.sTl 2 _) (lv_cell w p 26 _)
/-- behind a step -/
def Stepped (w : World) (B p m bm d n cap : Nat) (q : Int) (vs vw : Value) (b : Bool) (M' : Mc) (e : Ending) (w' : World) : Prop := e = .returned (.bool b) ∧ ∃ vs' vw', MTurned w B p m bm d n cap q vs vw M' w' vs' vw'
/-! ### what it tells -/
theorem bover_any (h : MachAt w B p m bm d n cap q M vs vw) (b : Bool) (hb : M.ov = b) :
    Calls Tryd.prog 64 #[.pointer (some ⟨p, 0, none⟩)] w fun e w' => e = .returned (.bool b) ∧ w = w' := by
  have hov := h.g.tail 3 (v := .bool b) (by rw [← hb]; rfl)
  clear h hb
  go_enter Tryd.func64, Tryd.ntmps64
  go_wp2
  go_ret
  exact ⟨rfl, rfl⟩
theorem bnow_any (h : MachAt w B p m bm d n cap q M vs vw) (k : Int) (hk : M.now = k) :
    Calls Tryd.prog 63 #[.pointer (some ⟨p, 0, none⟩)] w fun e w' => e = .returned (.int .i64 k) ∧ w = w' := by
  have hov := h.g.tail 2 (v := .int .i64 k) (by rw [← hk]; rfl)
  clear h hk
  go_enter Tryd.func63, Tryd.ntmps63
  go_wp2
  go_ret
  exact ⟨rfl, rfl⟩
theorem bmem_any (h : MachAt w B p m bm d n cap q M vs vw) :
    Calls Tryd.prog 38 #[.pointer (some ⟨p, 0, none⟩)] w (CloneAt w n M.xs) := by
  have hmp := h.g.head
  have HM := hid h.mem
  clear h
  go_enter Tryd.func38, Tryd.ntmps38
  go_wp2_with fail
  refine (clone_any HM.out).mono ?_; rintro e w1 ⟨m', b', c', rfl, h1, h2, h3, h4⟩
  have H := hid (And.intro h1 (And.intro h2 (And.intro h3 h4)))
  clear h1 h2 h3 h4
  go_wp2
  go_ret
  exact ⟨_, _, _, rfl, H.out⟩
theorem bcpu_any (h : MachAt w B p m bm d n cap q M vs vw) (y : Cp) (hy : M.c = y) :
    Calls Tryd.prog 61 #[.pointer (some ⟨p, 0, none⟩)] w fun e w' => e = .returned (.agg (cpuC y)) ∧ w.grownBy w' none := by
  subst hy
  have Hz := zero_cpu
  have HG := hid (h.g.kept0 (World.grownBy_alloc w (.cells (cpuC zeroP) 69) none))
  have Hr := hid (CpuAt.new (x := zeroP) w rfl)
  have Hl := hid h.g.len
  have E := hid (Hr.out.row (y := M.c) h.g.len)
  have EG := hid (grown_setRow (World.grownBy_alloc w (.cells (cpuC zeroP) 69) none) (Nat.le_refl _) (cpuC M.c))
  clear h
  go_enter Tryd.func61, Tryd.ntmps61
  go_wp2_with (first
    | (refine wpList_load_gcpu rfl _ rfl rfl HG.out ?_)
    | (refine wpList_store_cpu (y := M.c) rfl _ _ rfl rfl rfl Hr.out Hl.out ?_)
    | fail)
  refine bodyPost_ret (results_cell_row Tryd.results61 _ _ w.heap.size _ _ _ _ rfl E.out.blk Tryd.underlying69 rfl (cpu_size_info Hl.out)) rfl ?_
  exact ⟨rfl, EG.out⟩
end
end Go.Proofs.YtpkgckjlhjcdmaaDoor
/- A new bare machine: a contract. -/
namespace Go.Proofs.YtpkgckjlhjcdmaaDoor
open Go.RowKit
/-- a machine at its beginning -/
def initM (xs : List Int) (c : Cp) : Mc := ⟨xs, c, zeroS, 0, false, []⟩
theorem build_mach16 (x0 x1 x2 x3 x4 x5 x6 x7 x8 x9 x10 x11 x12 x13 x14 x15 pc : Int) (ie eie : Bool) (epc tv ca ad : Int) (m d : Nat) (q : Int) (w : World) :
    (Instr.build 133 #[(0, .pointer (some ⟨m, 0, none⟩)), (1, .agg (cpuC ⟨[x0, x1, x2, x3, x4, x5, x6, x7, x8, x9, x10, x11, x12, x13, x14, x15], pc, ie, eie, epc, tv, ca, ad⟩)), (2, .pointer (some ⟨d, 0, none⟩)), (3, .int .i64 q)]).run Tryd.prog w =
      .ok (.agg (gL (.pointer (some ⟨m, 0, none⟩)) ⟨[x0, x1, x2, x3, x4, x5, x6, x7, x8, x9, x10, x11, x12, x13, x14, x15], pc, ie, eie, epc, tv, ca, ad⟩ (bT d q 0 false (.slice none 0 0))).toArray) w := by kernel_rfl
theorem run_build_mach {c : Cp} (hl : c.l.length = 16) (m d : Nat) (q : Int) (w : World) :
    (Instr.build 133 #[(0, .pointer (some ⟨m, 0, none⟩)), (1, .agg (cpuC c)), (2, .pointer (some ⟨d, 0, none⟩)), (3, .int .i64 q)]).run Tryd.prog w = .ok (.agg (gL (.pointer (some ⟨m, 0, none⟩)) c (bT d q 0 false (.slice none 0 0))).toArray) w := by
  obtain ⟨l, pc, ie, eie, epc, tv, ca, ad⟩ := c
  match l, hl with
  | [x0, x1, x2, x3, x4, x5, x6, x7, x8, x9, x10, x11, x12, x13, x14, x15], _ => exact build_mach16 x0 x1 x2 x3 x4 x5 x6 x7 x8 x9 x10 x11 x12 x13 x14 x15 pc ie eie epc tv ca ad m d q w
theorem build_yields {o : Oper} {a : Act} {x0 x1 x2 x3 : Operand} {c : Cp} (hl : c.l.length = 16) (m d : Nat) (q : Int) (ho : o.op = .build 133 #[(0, x0), (1, x1), (2, x2), (3, x3)]) (h0 : a.eval x0 = .pointer (some ⟨m, 0, none⟩)) (h1 : a.eval x1 = .agg (cpuC c)) (h2 : a.eval x2 = .pointer (some ⟨d, 0, none⟩)) (h3 : a.eval x3 = .int .i64 q) (w : World) :
    (execOp a.eval o).run Tryd.prog w = .ok (.value (.agg (gL (.pointer (some ⟨m, 0, none⟩)) c (bT d q 0 false (.slice none 0 0))).toArray)) w := by
  simp [execOp, ho, h0, h1, h2, h3, run_build_mach hl m d q w, Result.andThen]
def NewMach (w : World) (n : Nat) (q : Int) (M : Mc) (e : Ending) (w' : World) : Prop :=
  ∃ p m bm d cap vs vw, e = .returned (.tuple #[.pointer (some ⟨p, 0, none⟩), .nilIface]) ∧ MachAt w' w.heap.size p m bm d n cap q M vs vw ∧ w.grownBy w' none
section
variable {w : World} {m bm n cap : Nat} {xs : List Int}
/-- what was made lies there -/
theorem mach_new {w w1 w2 : World} {m' b' n cap' d : Nat} {xs : List Int} {c : Cp} {q : Int} (hl : c.l.length = 16) (hg1 : w.grownBy w1 none) (hm : MemAt w1 m' b' n cap' xs) (h1 : w.heap.size ≤ m') (h2 : w.heap.size ≤ b') (hd : DevAt w1 w.heap.size d zeroS (.slice none 0 0))
    (hw2 : w2 = w1.alloc (.cells (gL (.pointer (some ⟨m', 0, none⟩)) c (bT d q 0 false (.slice none 0 0))).toArray 133)) :
    MachAt w2 w.heap.size w1.heap.size m' b' d n cap' q (initM xs c) (.slice none 0 0) (.slice none 0 0) ∧ w.grownBy w2 none := by
  subst hw2
  have hg := World.grownBy_alloc w1 (.cells (gL (.pointer (some ⟨m', 0, none⟩)) c (bT d q 0 false (.slice none 0 0))).toArray 133) none
  exact ⟨⟨⟨heap_alloc_last w1 _, hl⟩, hm.kept0 hg, hd.kept0 hg, World.ownsRow_nil _ _ _ _, hg1.size, h1, h2⟩, grown_trans hg1 hg⟩
set_option maxRecDepth 100000 in
set_option maxHeartbeats 4000000 in
theorem bnew_yes (h : MemAt w m bm n cap xs) {c : Cp} (hl : c.l.length = 16) (q : Int) (q0 : 17 ≤ q) (q1 : q ≤ 256) :
    Calls Tryd.prog 57 #[.pointer (some ⟨m, 0, none⟩), .agg (cpuC c), .int .i64 q] w (NewMach w n q (initM xs c)) := by
  have Hz := zero_dev
  have hq1 : ¬ q < 17 := by omega
  have hq2 : ¬ q > 256 := by omega
  have HC := hid (CpuAt.new w hl)
  have HG := hid (World.grownBy_alloc w (.cells (cpuC c) 69) none)
  have HM := hid (h.kept0 HG.out)
  have Hl := hid hl
  clear h hl
  go_enter Tryd.func57, Tryd.ntmps57
  go_upto_region 3 with (fail)
  have hg0 : (w.alloc (.cells (cpuC c) 69)).grownBy (w.alloc (.cells (cpuC c) 69)).drew none := grown_drew (grown_refl _ none)
  refine wp_region_held_drew (S := fun W => CpuAt W w.heap.size c) (by kernel_rfl) (HC.out.kept0 hg0) (fun hS0 => ?_)
  replace HM := hid (HM.out.kept0 hg0)
  replace HG := hid (grown_trans HG.out hg0)
  clear hg0
  generalize (w.alloc (.cells (cpuC c) 69)).drew = w1 at HM HG hS0 ⊢
  refine wpAnyH_take (i := 0) (v := ?_) rfl (by kernel_rfl) (by kernel_rfl) (by kernel_rfl) (fun _ _ _ h => h) (Or.inl ⟨by kernel_rfl, ?_⟩) hS0 ?_
  rotate_left
  · (intro W hSw; clear hSw; go_simp; try with_reducible rfl)
  try simp only [Act.put, List.setIfInBounds_toArray, List.set_cons_zero, List.set_cons_succ, List.getElem_toArray, List.getElem_cons_zero]
  refine wpAnyH_take (i := 2) (v := .agg (cpuC c)) rfl (by kernel_rfl) (by kernel_rfl) (by kernel_rfl) (fun _ _ _ h => h) (Or.inl ⟨by kernel_rfl, fun W hW => run_load_row _ _ rfl rfl hW.blk rfl Tryd.underlying69 (cpu_size_info Hl.out)⟩) hS0 ?_
  try simp only [Act.put, List.setIfInBounds_toArray, List.set_cons_zero, List.set_cons_succ, List.getElem_toArray, List.getElem_cons_succ, List.getElem_cons_zero]
  refine wpAnyH_take (i := 4) (v := ?_) rfl (by kernel_rfl) (by kernel_rfl) (by kernel_rfl) (fun _ _ _ h => h) (Or.inl ⟨by kernel_rfl, ?_⟩) hS0 ?_
  rotate_left
  · (intro W hSw; clear hSw; go_simp; try with_reducible rfl)
  try simp only [Act.put, List.setIfInBounds_toArray, List.set_cons_zero, List.set_cons_succ, List.getElem_toArray, List.getElem_cons_succ, List.getElem_cons_zero]
  refine wpAnyH_ready (rs := [1, 3]) (by kernel_rfl) (by simp) ?_
  refine AllReadyH.cons rfl (fun KK hKK => ?_) ?_
  · go_simp
    refine (clone_any HM.out).mono ?_; rintro e w2 ⟨m', b', c', rfl, h1, h2, h3, hg⟩
    have H3 := hid h3
    have Hb := hid (And.intro (Nat.le_trans HG.out.size h1) (Nat.le_trans HG.out.size h2))
    have HG2 := hid (grown_trans HG.out hg)
    have hS1 := hS0.kept0 hg
    clear h1 h2 h3 hg
    refine hKK.out _ _ hS1 (fun _ => ?_)
    clear hKK KK hS0
    try simp only [Act.put, List.setIfInBounds_toArray, List.set_cons_zero, List.set_cons_succ, List.getElem_toArray, List.getElem_cons_succ, List.getElem_cons_zero]
    refine wpAnyH_ready (rs := [3]) (by kernel_rfl) (by simp) ?_
    refine AllReadyH.cons rfl (fun KK hKK => ?_) AllReadyH.nil
    go_simp
    have HD := hid (dev_zero w2 HG2.out.size)
    have hg3 := World.grownBy_alloc w2 (.cells zeroD 176) none
    have HG3 := hid (grown_trans HG2.out hg3)
    have HM3 := hid (H3.out.kept0 hg3)
    have hS2 := hS1.kept0 hg3
    clear hg3 hS1
    refine hKK.out _ _ hS2 (fun _ => ?_)
    clear hKK KK
    try simp only [Act.put, List.setIfInBounds_toArray, List.set_cons_zero, List.set_cons_succ, List.getElem_toArray, List.getElem_cons_succ, List.getElem_cons_zero]
    obtain ⟨d, hd⟩ : ∃ d, d = w2.heap.size := ⟨_, rfl⟩
    rw [← hd] at HD ⊢
    clear hd
    generalize w2.alloc (.cells zeroD 176) = w3 at HD HG3 HM3 hS2 ⊢
    refine wpAnyH_take (i := 5) (v := .agg (gL (.pointer (some ⟨m', 0, none⟩)) c (bT d q 0 false (.slice none 0 0))).toArray) rfl (by kernel_rfl) (by kernel_rfl) (by kernel_rfl) (fun _ _ _ h => h) (Or.inl ⟨by kernel_rfl, fun W _ => build_yields Hl.out m' d q rfl rfl rfl rfl rfl W⟩) hS2 ?_
    try simp only [Act.put, List.setIfInBounds_toArray, List.set_cons_zero, List.set_cons_succ, List.getElem_toArray, List.getElem_cons_succ, List.getElem_cons_zero]
    refine wpAnyH_ready (rs := [6]) (by kernel_rfl) (by simp) ?_
    refine AllReadyH.cons rfl (fun KK hKK => ?_) AllReadyH.nil
    go_simp
    refine hKK.out _ _ (hS2.alloc _) (fun hS3 => ?_)
    clear hKK KK
    try simp only [Act.put, List.setIfInBounds_toArray, List.set_cons_zero, List.set_cons_succ, List.getElem_toArray, List.getElem_cons_succ, List.getElem_cons_zero]
    refine wpAnyH_take (i := 7) (v := ?_) rfl (by kernel_rfl) (by kernel_rfl) (by kernel_rfl) (fun _ _ _ h => h) (Or.inl ⟨by kernel_rfl, ?_⟩) hS3 ?_
    rotate_left
    · (intro W hSw; clear hSw; go_simp; try with_reducible rfl)
    try simp only [Act.put, List.setIfInBounds_toArray, List.set_cons_zero, List.set_cons_succ, List.getElem_toArray, List.getElem_cons_succ, List.getElem_cons_zero]
    refine wpAnyH_take (i := 8) (v := ?_) rfl (by kernel_rfl) (by kernel_rfl) (by kernel_rfl) (fun _ _ _ h => h) (Or.inl ⟨by kernel_rfl, ?_⟩) hS3 ?_
    rotate_left
    · (intro W hSw; clear hSw; go_simp; try with_reducible rfl)
    try simp only [Act.put, List.setIfInBounds_toArray, List.set_cons_zero, List.set_cons_succ, List.getElem_toArray, List.getElem_cons_succ, List.getElem_cons_zero]
    refine wpAnyH_done (by kernel_rfl) ?_ _
    go_wp2
    go_ret2
    have hN := mach_new (q := q) Hl.out HG3.out HM3.out Hb.out.1 Hb.out.2 HD.out rfl
    exact ⟨_, _, _, _, _, _, _, rfl, hN.1, hN.2⟩
  · refine AllReadyH.cons rfl (fun KK hKK => ?_) AllReadyH.nil
    go_simp
    have HD := hid (dev_zero w1 HG.out.size)
    have hg3 := World.grownBy_alloc w1 (.cells zeroD 176) none
    have HG2 := hid (grown_trans HG.out hg3)
    have HM2 := hid (HM.out.kept0 hg3)
    have hS1 := hS0.kept0 hg3
    clear hg3 hS0
    refine hKK.out _ _ hS1 (fun _ => ?_)
    clear hKK KK
    try simp only [Act.put, List.setIfInBounds_toArray, List.set_cons_zero, List.set_cons_succ, List.getElem_toArray, List.getElem_cons_succ, List.getElem_cons_zero]
    obtain ⟨d, hd⟩ : ∃ d, d = w1.heap.size := ⟨_, rfl⟩
    rw [← hd] at HD ⊢
    clear hd
    generalize w1.alloc (.cells zeroD 176) = w2 at HD HG2 HM2 hS1 ⊢
    refine wpAnyH_ready (rs := [1]) (by kernel_rfl) (by simp) ?_
    refine AllReadyH.cons rfl (fun KK hKK => ?_) AllReadyH.nil
    go_simp
    refine (clone_any HM2.out).mono ?_; rintro e w3 ⟨m', b', c', rfl, h1, h2, h3, hg⟩
    have HM3 := hid h3
    have Hb := hid (And.intro (Nat.le_trans HG2.out.size h1) (Nat.le_trans HG2.out.size h2))
    have HG3 := hid (grown_trans HG2.out hg)
    have hS2 := hS1.kept0 hg
    replace HD := hid (HD.out.kept0 hg)
    clear h1 h2 h3 hg hS1
    refine hKK.out _ _ hS2 (fun _ => ?_)
    clear hKK KK
    try simp only [Act.put, List.setIfInBounds_toArray, List.set_cons_zero, List.set_cons_succ, List.getElem_toArray, List.getElem_cons_succ, List.getElem_cons_zero]
    refine wpAnyH_take (i := 5) (v := .agg (gL (.pointer (some ⟨m', 0, none⟩)) c (bT d q 0 false (.slice none 0 0))).toArray) rfl (by kernel_rfl) (by kernel_rfl) (by kernel_rfl) (fun _ _ _ h => h) (Or.inl ⟨by kernel_rfl, fun W _ => build_yields Hl.out m' d q rfl rfl rfl rfl rfl W⟩) hS2 ?_
    try simp only [Act.put, List.setIfInBounds_toArray, List.set_cons_zero, List.set_cons_succ, List.getElem_toArray, List.getElem_cons_succ, List.getElem_cons_zero]
    refine wpAnyH_ready (rs := [6]) (by kernel_rfl) (by simp) ?_
    refine AllReadyH.cons rfl (fun KK hKK => ?_) AllReadyH.nil
    go_simp
    refine hKK.out _ _ (hS2.alloc _) (fun hS3 => ?_)
    clear hKK KK
    try simp only [Act.put, List.setIfInBounds_toArray, List.set_cons_zero, List.set_cons_succ, List.getElem_toArray, List.getElem_cons_succ, List.getElem_cons_zero]
    refine wpAnyH_take (i := 7) (v := ?_) rfl (by kernel_rfl) (by kernel_rfl) (by kernel_rfl) (fun _ _ _ h => h) (Or.inl ⟨by kernel_rfl, ?_⟩) hS3 ?_
    rotate_left
    · (intro W hSw; clear hSw; go_simp; try with_reducible rfl)
    try simp only [Act.put, List.setIfInBounds_toArray, List.set_cons_zero, List.set_cons_succ, List.getElem_toArray, List.getElem_cons_succ, List.getElem_cons_zero]
    refine wpAnyH_take (i := 8) (v := ?_) rfl (by kernel_rfl) (by kernel_rfl) (by kernel_rfl) (fun _ _ _ h => h) (Or.inl ⟨by kernel_rfl, ?_⟩) hS3 ?_
    rotate_left
    · (intro W hSw; clear hSw; go_simp; try with_reducible rfl)
    try simp only [Act.put, List.setIfInBounds_toArray, List.set_cons_zero, List.set_cons_succ, List.getElem_toArray, List.getElem_cons_succ, List.getElem_cons_zero]
    refine wpAnyH_done (by kernel_rfl) ?_ _
    go_wp2
    go_ret2
    have hN := mach_new (q := q) Hl.out HG3.out HM3.out Hb.out.1 Hb.out.2 HD.out rfl
    exact ⟨_, _, _, _, _, _, _, rfl, hN.1, hN.2⟩
end
end Go.Proofs.YtpkgckjlhjcdmaaDoor
/- Code in the memory of a bare machine, and what its instructions do, one by one: plain facts. -/
namespace Go.Proofs.YtpkgckjlhjcdmaaDoor
open Go.RowKit
/-- code lies behind quota q, and its pages are there to be read -/
structure CodeIn (q : Nat) (code xs : List Int) : Prop where
  root : xs[8]? = some 2311
  page : ∀ j : Nat, j < 16 → xs[144 + j]? = some (bitV ((q : Int) + (j : Int)) true false true)
  cod : ∀ i : Nat, i < code.length → xs[16 * q + i]? = some (code.getD i 0)
  small : code.length ≤ 256
  q17 : 17 ≤ q
  q40 : q ≤ 40
theorem code_mem8 {q : Nat} (hq : 17 ≤ q) (hq2 : q ≤ 40) (data : List Int) {code : List Int} (h : code.length ≤ 256) : CodeIn q code (memW8 q data code) where
  root := by rw [mem8_root hq data code (by decide)]; rfl
  page := fun j hj => mem8_page hq data code hj
  cod := fun i hi => mem8_code q data hi (by omega)
  small := h
  q17 := hq
  q40 := hq2
section
variable {q : Nat} {code xs : List Int}
/-- a word elsewhere is written -/
theorem CodeIn.set (C : CodeIn q code xs) {k : Nat} (h1 : k ≠ 8) (h2 : k < 144 ∨ 160 ≤ k) (h3 : k < 16 * q ∨ 16 * q + code.length ≤ k) (y : Int) : CodeIn q code (xs.set k y) :=
  ⟨by rw [List.getElem?_set_ne (by omega)]; exact C.root, fun j hj => by rw [List.getElem?_set_ne (by omega)]; exact C.page j hj, fun i hi => by rw [List.getElem?_set_ne (by omega)]; exact C.cod i hi, C.small, C.q17, C.q40⟩
theorem word_get {xs : List Int} {k : Nat} {x : Int} (h : xs[k]? = some x) {a : Int} (ha : a = (k : Int)) : wordI xs a = x := by
  subst ha
  unfold wordI
  rw [Int.toNat_natCast, List.getD_eq_getElem?_getD, h]; rfl
theorem bitV_tab {f : Int} (h0 : 0 ≤ f) (h1 : f < 1024) (w u : Bool) : liveB (bitV f true w u) = true ∧ bitV f true w u / 256 = f := by
  rw [bitV_yes h0 h1]
  unfold liveB
  rcases two_cases w with ⟨_, h2⟩ | ⟨_, h2⟩ <;> rcases four_cases u with ⟨_, h4⟩ | ⟨_, h4⟩ <;> rw [h2, h4] <;> simp only [decide_eq_true_eq] <;> omega
theorem page_code (C : CodeIn q code xs) {i : Nat} (hi : i < 256) : pageO xs ((q + 16 : Nat) : Int) 0 ((2048 + (i : Int)) / 16) = some (bitV ((q : Int) + ((i / 16 : Nat) : Int)) true false true) := by
  have h17 := C.q17
  have h40 := C.q40
  have hr : wordI xs (0 * 16 + (2048 + (i : Int)) / 16 / 16) = 2311 := word_get C.root (by omega)
  unfold pageO
  rw [if_pos (by omega), hr, if_pos ⟨by decide, by omega⟩]
  have hp : wordI xs (2311 / 256 * 16 + (2048 + (i : Int)) / 16 % 16) = bitV ((q : Int) + ((i / 16 : Nat) : Int)) true false true := word_get (C.page (i / 16) (by omega)) (by omega)
  rw [hp]
  exact liveO_yes (bitV_tab (by omega) (by omega) false true).1
theorem fetch_at (C : CodeIn q code xs) {i : Nat} (hi : i < code.length) {pc : Int} (hpc : pc = 2048 + (i : Int)) :
    atB xs ((q + 16 : Nat) : Int) 0 pc false false = true ∧ rdV xs ((q + 16 : Nat) : Int) 0 pc false = code.getD i 0 := by
  have hs := C.small
  have h17 := C.q17
  have h40 := C.q40
  subst hpc
  have hp := page_code C (i := i) (by omega)
  obtain ⟨_, hF⟩ := bitV_tab (f := (q : Int) + ((i / 16 : Nat) : Int)) (by omega) (by omega) false true
  have hB : atB xs ((q + 16 : Nat) : Int) 0 (2048 + (i : Int)) false false = true := by
    unfold atB
    rw [hp]
    unfold wayB
    simp only [hF]
    simp
    omega
  refine ⟨hB, ?_⟩
  unfold rdV
  rw [if_pos hB]
  refine word_get (C.cod i hi) ?_
  unfold atV wayV
  unfold atB at hB
  rw [if_pos hB, hp]
  show bitV ((q : Int) + ((i / 16 : Nat) : Int)) true false true / 256 * 16 + (2048 + (i : Int)) % 16 = _
  rw [hF]
  omega
/-- the instruction of one word at i -/
theorem fetch_w1 (C : CodeIn q code xs) {i : Nat} (hi : i < code.length) {pc : Int} (hpc : pc = 2048 + (i : Int)) {op a b c : Int} (hx : code.getD i 0 = wrdI op a b c) (hok : insB op a b c 0 = true) (ht : twoB op = false) :
    fetchP xs ((q + 16 : Nat) : Int) 0 pc false = ⟨0, 0, op, a, b, c, 0, 1⟩ := by
  obtain ⟨h1, h2⟩ := fetch_at C hi hpc
  obtain ⟨_, ha, hb, hc⟩ := ins_bd hok
  obtain ⟨e1, e2, e3, e4⟩ := wrd_parts op a b c ha hb hc
  unfold fetchP okW
  rw [h2, hx, e1, e2, e3, e4, if_pos h1, if_pos hok, ht, if_neg (by decide)]
  unfold insS
  rw [e1, e2, e3, e4]
/-- the instruction of two words at i -/
theorem fetch_w2 (C : CodeIn q code xs) {i : Nat} (hi : i + 1 < code.length) {pc : Int} (hpc : pc = 2048 + (i : Int)) {op a b c : Int} (hx : code.getD i 0 = wrdI op a b c) (hok : insB op a b c 0 = true) (ht : twoB op = true) :
    fetchP xs ((q + 16 : Nat) : Int) 0 pc false = ⟨0, 0, op, a, b, c, code.getD (i + 1) 0, 2⟩ := by
  have hs := C.small
  obtain ⟨h1, h2⟩ := fetch_at C (by omega : i < code.length) hpc
  have hn : nextI pc = 2048 + ((i + 1 : Nat) : Int) := by unfold nextI; omega
  obtain ⟨h3, h4⟩ := fetch_at C hi hn
  obtain ⟨_, ha, hb, hc⟩ := ins_bd hok
  obtain ⟨e1, e2, e3, e4⟩ := wrd_parts op a b c ha hb hc
  unfold fetchP okW
  rw [h2, hx, e1, e2, e3, e4, if_pos h1, if_pos hok, ht, if_pos rfl, if_pos h3, h4]
  unfold insS
  rw [e1, e2, e3, e4]
end
/-! ### what an instruction does -/
section
variable {n : Nat} {Q : Int} {M : Mc}
theorem ins_sup {op a b c im ln : Int} (hf : fetchP M.xs n 0 M.c.pc false = ⟨0, 0, op, a, b, c, im, ln⟩) (hc : clsI op = 2 ∨ clsI op = 3) : insP n Q M = privP n Q M op a b ln := by
  have ho : onceP M.xs n 0 M.c false = ⟨M.c, ⟨6, 0, op, a, b, c, im, ln⟩, M.xs⟩ := by
    unfold onceP doP
    rw [hf]
    rcases hc with h | h <;> simp [h]
  exact ins_priv ho
theorem ins_alu {op a b c im ln : Int} (hf : fetchP M.xs n 0 M.c.pc false = ⟨0, 0, op, a, b, c, im, ln⟩) (hc : clsI op = 1) (h12 : op ≠ 12) (h13 : op ≠ 13) (hj : jmpB op = false) : insP n Q M = ⟨M.xs, aluX M.c op a b c im ln, M.d, M.now, M.ov, M.ws⟩ := by
  have ho : onceP M.xs n 0 M.c false = ⟨aluX M.c op a b c im ln, ⟨0, 0, op, a, b, c, im, ln⟩, M.xs⟩ := by
    unfold onceP doP innP
    rw [hf]
    simp [hc, h12, h13, hj]
  exact ins_go ho
/-- nothing interrupts -/
theorem step_calm (hov : M.ov = false) (hw : waitM M = 0) : stepP n Q M = tickP (insP n Q M) := by
  have hi := int_none hw
  rw [step_ins M hov (by rw [hi]; exact hov), hi]
theorem wait_calm (hq : M.d.Q = []) (haf : M.d.af = 0) : waitM M = 0 := by
  unfold waitM waitV dueB
  rw [hq, haf]
  cases M.c.ie <;> rfl
theorem wait_off (hie : M.c.ie = false) : waitM M = 0 := by unfold waitM waitV; rw [hie]; rfl
end
/-- so many steps -/
def iterP (n : Nat) (Q : Int) : Nat → Mc → Mc
  | 0, M => M
  | k + 1, M => iterP n Q k (stepP n Q M)
theorem iter_snoc (n : Nat) (Q : Int) : ∀ (k : Nat) (M : Mc), iterP n Q (k + 1) M = stepP n Q (iterP n Q k M)
  | 0, _ => rfl
  | k + 1, M => iter_snoc n Q k (stepP n Q M)
theorem iter_add (n : Nat) (Q : Int) : ∀ (k j : Nat) (M : Mc), iterP n Q (k + j) M = iterP n Q j (iterP n Q k M)
  | 0, j, M => by rw [Nat.zero_add]; rfl
  | k + 1, j, M => by rw [show k + 1 + j = (k + j) + 1 by omega]; exact iter_add n Q k j (stepP n Q M)
theorem iter_over (n : Nat) (Q : Int) : ∀ (k : Nat) (M : Mc), M.ov = true → iterP n Q k M = M
  | 0, _, _ => rfl
  | k + 1, M, h => by
    show iterP n Q k (stepP n Q M) = M
    rw [step_over M h]
    exact iter_over n Q k M h
/-- once it is over nothing changes -/
theorem iter_stays {n : Nat} {Q : Int} {k j : Nat} {M : Mc} (h : (iterP n Q k M).ov = true) (hkj : k ≤ j) : iterP n Q j M = iterP n Q k M := by
  obtain ⟨e, rfl⟩ : ∃ e, j = k + e := ⟨j - k, by omega⟩
  rw [iter_add]
  exact iter_over n Q e _ h
theorem iter_good {n : Nat} {Q : Int} : ∀ (k : Nat) {M : Mc}, Good n M → Good n (iterP n Q k M)
  | 0, _, h => h
  | k + 1, _, h => iter_good k (step_good h)
theorem iter_now {n : Nat} {Q : Int} : ∀ (k : Nat) (M : Mc), (iterP n Q k M).now ≤ M.now + k
  | 0, M => by show M.now ≤ _; omega
  | k + 1, M => by
    have h1 := iter_now (n := n) (Q := Q) k (stepP n Q M)
    have h2 := (step_now n Q M).1
    show (iterP n Q k (stepP n Q M)).now ≤ _
    omega
theorem init_good {n : Nat} {xs : List Int} {c : Cp} (hc : CpOk c) (hu : U32s xs) (hl : xs.length = n * 16) : Good n (initM xs c) :=
  ⟨hc, hu, hl, fun x hx => (by cases hx), Nat.zero_le _, fun x hx => (by have := List.eq_of_mem_replicate (n := 16) (a := (0 : Int)) hx; omega), rfl, Int.le_refl _, Int.le_refl _, Int.le_refl _, (by show (0 : Int) ≤ _; decide), Int.le_refl _, Nat.zero_le _, fun u hu => (by cases hu)⟩
def pcP (pc tv : Int) : Cp := ⟨[0, 0, 0, 0, 0, 0, 0, 0, 0, 0, 0, 0, 0, 0, 0, 0], pc, false, false, 0, tv, 0, 0⟩
theorem pcP_ok {pc tv : Int} (h0 : 0 ≤ pc) (h1 : pc ≤ 4294967295) (h2 : 0 ≤ tv) (h3 : tv ≤ 4294967295) : CpOk (pcP pc tv) :=
  ⟨zeros_regs, h0, h1, Int.le_refl _, (by show (0 : Int) ≤ _; decide), h2, h3, Int.le_refl _, (by show (0 : Int) ≤ _; decide), Int.le_refl _, (by show (0 : Int) ≤ _; decide)⟩
/-! ### instructions of the laws, one by one -/
section
variable {q : Nat} {code : List Int} {Q : Int} {M : Mc}
/-- one of the supervisor's, of one word -/
theorem run_sup (C : CodeIn q code M.xs) {i : Nat} (hi : i < code.length) (hpc : M.c.pc = 2048 + (i : Int)) {op a b c : Int} (hx : code.getD i 0 = wrdI op a b c) (hok : insB op a b c 0 = true) (ht : twoB op = false) (hc : clsI op = 2 ∨ clsI op = 3)
    (hov : M.ov = false) (hw : waitM M = 0) : stepP (q + 16) Q M = tickP (privP (q + 16) Q M op a b 1) := by
  rw [step_calm hov hw, ins_sup (fetch_w1 C hi hpc hx hok ht) hc]
theorem run_nop (C : CodeIn q code M.xs) {i : Nat} (hi : i < code.length) (hpc : M.c.pc = 2048 + (i : Int)) (hx : code.getD i 0 = 16777216) (hl : Regs M.c.l)
    (hov : M.ov = false) (hw : waitM M = 0) : stepP (q + 16) Q M = ⟨M.xs, ⟨M.c.l, (M.c.pc + 1) % 4294967296, M.c.ie, M.c.eie, M.c.epc, M.c.tv, M.c.ca, M.c.ad⟩, M.d, M.now + 1, M.ov, M.ws⟩ := by
  rw [step_calm hov hw, ins_alu (fetch_w1 C hi hpc (op := 1) (a := 0) (b := 0) (c := 0) hx (by decide) (by decide)) (by decide) (by decide) (by decide) (by decide)]
  unfold aluX aluL tickP behI
  rw [if_pos (by decide)]
  have e : M.c.l.set (0 : Int).toNat (reckV 1 M.c.l 0 0 0 0) = M.c.l := by
    have h0 := hl.len
    show M.c.l.set 0 (M.c.l.getD 0 0) = M.c.l
    rw [List.getD_eq_getElem?_getD, List.getElem?_eq_getElem (by omega)]
    exact List.set_getElem_self (by omega)
  rw [e]
theorem run_li (C : CodeIn q code M.xs) {i : Nat} (hi : i + 1 < code.length) (hpc : M.c.pc = 2048 + (i : Int)) {a : Nat} (ha : a < 16) (hx : code.getD i 0 = wrdI 14 (a : Int) 0 0) {v : Int} (hv : code.getD (i + 1) 0 = v)
    (hov : M.ov = false) (hw : waitM M = 0) : stepP (q + 16) Q M = ⟨M.xs, ⟨M.c.l.set a v, (M.c.pc + 2) % 4294967296, M.c.ie, M.c.eie, M.c.epc, M.c.tv, M.c.ca, M.c.ad⟩, M.d, M.now + 1, M.ov, M.ws⟩ := by
  have hins : ∀ im : Int, insB 14 (a : Int) 0 0 im = true := by
    intro im
    have e1 : alwB (hasA 14) (a : Int) = true := by rw [show hasA 14 = 1 by decide]; unfold alwB; simp; omega
    unfold insB
    rw [e1, show alwB (hasB 14) 0 = true by decide, show alwB (hasC 14) 0 = true by decide, show twoB 14 = true by decide]
    simp; decide
  rw [step_calm hov hw, ins_alu (fetch_w2 C hi hpc hx (hins 0) (by decide)) (by decide) (by decide) (by decide) (by decide), hv]
  unfold aluX aluL tickP behI
  have hb : aluB 14 (a : Int) 0 0 v = true := by
    unfold aluB
    rw [hins v]
    decide
  rw [if_pos hb, Int.toNat_natCast]
  rfl
end
end Go.Proofs.YtpkgckjlhjcdmaaDoor
/- A bare machine of a law's own: contracts with all but its address out of sight; facadelaw8's first. -/
namespace Go.Proofs.YtpkgckjlhjcdmaaDoor
open Go.RowKit
/-- a machine at p, made since W -/
def MBox (W : World) (p n : Nat) (q : Int) (M : Mc) (w : World) : Prop :=
  ∃ B m bm d cap vs vw, MachAt w B p m bm d n cap q M vs vw ∧ W.grownBy w none ∧ W.heap.size ≤ B ∧ B ≤ w.heap.size ∧ Good n M
section
variable {W w w1 : World} {p n : Nat} {q : Int} {M : Mc}
theorem MBox.keep (h : MBox W p n q M w) (hg : w.grownBy w1 none) : MBox W p n q M w1 := by
  obtain ⟨B, m, bm, d, cap, vs, vw, h1, h2, h3, h4, h5⟩ := h
  exact ⟨B, m, bm, d, cap, vs, vw, h1.kept0 hg, grown_trans h2 hg, h3, Nat.le_trans h4 hg.size, h5⟩
theorem MBox.old (h : MBox W p n q M w) : W.grownBy w none := by
  obtain ⟨B, m, bm, d, cap, vs, vw, h1, h2, h3, h4, h5⟩ := h
  exact h2
theorem MBox.good (h : MBox W p n q M w) : Good n M := by
  obtain ⟨B, m, bm, d, cap, vs, vw, h1, h2, h3, h4, h5⟩ := h
  exact h5
/-- blocks of other types than a machine's are as they were -/
def othT (t : TypeId) : Bool := t != 133 && t != 138 && t != 181 && t != 176 && t != 282 && t != 279
def Oth (w w' : World) : Prop := ∀ (b : Nat) (cs : Array Value) (t : TypeId) (fr : Nat × Nat), w.heap[b]? = some (.cells cs t fr) → othT t = true → w'.heap[b]? = some (.cells cs t fr)
theorem foot_oth {B m bm d cap : Nat} {vs vw : Value} (h : MachAt w B p m bm d n cap q M vs vw) {b : Nat} {cs : Array Value} {t : TypeId} {fr : Nat × Nat} (hb : w.heap[b]? = some (.cells cs t fr)) (ht : othT t = true) : b ∉ mfoot p m bm d vs vw := by
  unfold othT at ht
  simp only [Bool.and_eq_true, bne_iff_ne] at ht
  obtain ⟨⟨⟨⟨⟨t1, t2⟩, t3⟩, t4⟩, t5⟩, t6⟩ := ht
  obtain ⟨c1, h1⟩ := h.mem.bblk
  obtain ⟨c2, h2⟩ := h.dev.blk
  intro hi
  rcases mem_mfoot.1 hi with e | e | e | e | e | e
  · exact blk_ne hb h.g.blk t1 e
  · exact blk_ne hb h.mem.hm t2 e
  · exact blk_ne hb h1 t3 e
  · exact blk_ne hb h2 t4 e
  · exact own_ne_blk h.dev.own hb t5 e
  · exact own_ne_blk h.wait hb t6 e
theorem MTurned.oth {B m bm d cap : Nat} {vs vw vs' vw' : Value} {M' : Mc} (h : MachAt w B p m bm d n cap q M vs vw) (ht : MTurned w B p m bm d n cap q vs vw M' w1 vs' vw') : Oth w w1 := by
  intro b cs t fr hb hT
  rw [ht.lv.block b (Array.getElem?_eq_some_iff.1 hb).1 (foot_oth h hb hT)]
  exact hb
theorem Oth.of_none (hg : w.grownBy w1 none) : Oth w w1 := fun b cs t fr hb _ => (hg.block b (Array.getElem?_eq_some_iff.1 hb).1 (by simp)).trans hb
theorem Oth.refl (w : World) : Oth w w := fun _ _ _ _ h _ => h
theorem Oth.trans {w2 : World} (h : Oth w w1) (k : Oth w1 w2) : Oth w w2 := fun b cs t fr hb ht => k b cs t fr (h b cs t fr hb ht) ht
theorem Oth.cpu (h : Oth w w1) {b : Nat} {y : Cp} (hc : CpuAt w b y) : CpuAt w1 b y := ⟨h _ _ _ _ hc.blk (by decide), hc.len⟩
theorem Oth.own (h : Oth w w1) {B : Nat} {e : TypeId} {size : Nat} {v : Value} {k : Nat} {l : List Value} (ho : w.ownsRow B e size v k l) (he : othT e = true) : w1.ownsRow B e size v k l := by
  refine ⟨ho.1, ?_⟩
  rcases ho.2 with hn | ⟨g, cap, cur, rfl, hb, hgg, rest⟩
  · exact .inl hn
  · exact .inr ⟨g, cap, cur, rfl, hb, h _ _ _ _ hgg he, rest⟩
/-- behind a step -/
def MStep (W : World) (p n : Nat) (q : Int) (b : Bool) (M : Mc) (w : World) (e : Ending) (w' : World) : Prop := e = .returned (.bool b) ∧ MBox W p n q M w' ∧ Oth w w'
theorem mb_over (h : MBox W p n q M w) (b : Bool) (hb : M.ov = b) :
    Calls Tryd.prog 64 #[.pointer (some ⟨p, 0, none⟩)] w fun e w' => e = .returned (.bool b) ∧ w = w' := by
  obtain ⟨B, m, bm, d, cap, vs, vw, h1, h2, h3, h4, h5⟩ := h
  exact bover_any h1 b hb
theorem mb_now (h : MBox W p n q M w) (k : Int) (hk : M.now = k) :
    Calls Tryd.prog 63 #[.pointer (some ⟨p, 0, none⟩)] w fun e w' => e = .returned (.int .i64 k) ∧ w = w' := by
  obtain ⟨B, m, bm, d, cap, vs, vw, h1, h2, h3, h4, h5⟩ := h
  exact bnow_any h1 k hk
/-- a key is pressed -/
def pressM (M : Mc) (key : Int) : Mc := ⟨M.xs, M.c, ⟨if M.d.Q.length < 64 then M.d.Q ++ [key] else M.d.Q, M.d.S, M.d.fr, M.d.af, M.d.sn⟩, M.now, M.ov, M.ws⟩
theorem press_good (h : Good n M) {key : Int} (k0 : 0 ≤ key) (k1 : key < 4294967296) : Good n (pressM M key) := by
  refine ⟨h.cpu, h.u32, h.len, ?_, ?_, h.secs, h.s16, h.f0, h.f1, h.a0, h.a1, h.seen, h.w16, h.wait⟩
  · show U32s (if M.d.Q.length < 64 then M.d.Q ++ [key] else M.d.Q)
    split
    · intro x hx
      rcases List.mem_append.1 hx with e | e
      · exact h.keys x e
      · rw [List.mem_singleton.1 e]; exact ⟨k0, k1⟩
    · exact h.keys
  · show (if M.d.Q.length < 64 then M.d.Q ++ [key] else M.d.Q).length ≤ 64
    split
    · rw [List.length_append]; simp; omega
    · exact h.q64
theorem mb_mem (h : MBox W p n q M w) :
    Calls Tryd.prog 38 #[.pointer (some ⟨p, 0, none⟩)] w (CloneAt w n M.xs) := by
  obtain ⟨B, m, bm, d, cap, vs, vw, h1, h2, h3, h4, h5⟩ := h
  exact bmem_any h1
/-- behind New -/
def MNew (W : World) (n : Nat) (q : Int) (M : Mc) (e : Ending) (w' : World) : Prop := ∃ p, e = .returned (.tuple #[.pointer (some ⟨p, 0, none⟩), .nilIface]) ∧ MBox W p n q M w'
theorem mb_new {m b cap : Nat} {xs : List Int} (h : MemAt w m b n cap xs) (hW : W.grownBy w none) {c : Cp} (hc : CpOk c) (hu : U32s xs) (q0 : 17 ≤ q) (q1 : q ≤ 256) :
    Calls Tryd.prog 57 #[.pointer (some ⟨m, 0, none⟩), .agg (cpuC c), .int .i64 q] w (MNew W n q (initM xs c)) := by
  refine (bnew_yes h hc.regs.len q q0 q1).mono ?_
  rintro e w' ⟨p, m', bm', d, cap', vs, vw, rfl, hm, hg⟩
  exact ⟨p, rfl, w.heap.size, m', bm', d, cap', vs, vw, hm, grown_trans hW hg, hW.size, hg.size, init_good hc hu h.len⟩
end
theorem sl_nil (w : World) : SlAt w .u32 (.slice none 0 0) [] := .inl ⟨⟨none, 0, rfl⟩, rfl⟩
theorem build_pc (pc : Int) (w : World) : (Instr.build 69 #[(1, .int .u32 pc)]).run Tryd.prog w = .ok (.agg (cpuC (pcP pc 0))) w := by kernel_rfl
theorem wpList_build_pc {ops : Array Oper} {rest : List Oper} {o : Oper} {A : Act} {w : World} {Q : Exit → Act → World → Prop} (hgd : o.guard = none) (x : Operand) (ho : o.op = .build 69 #[(1, x)]) {pc : Int} (hx : A.eval x = .int .u32 pc)
    (h : wpList Tryd.prog ops Q rest (A.put o.dst (.agg (cpuC (pcP pc 0)))) w) : wpList Tryd.prog ops Q (o :: rest) A w := by
  refine wpList_plain hgd fun K hK => ?_
  unfold Oper.wp
  simp [execOp, ho, hx, build_pc pc w, Result.andThen]
  exact hK _ _ h
/-- a machine that halts at once -/
def haltM : Mc := initM (memW8 20 [] [536870912]) (pcP 2048 0)
theorem halt_step : (stepP (20 + 16) 20 haltM).ov = true ∧ (stepP (20 + 16) 20 haltM).now = 1 := by
  have C : CodeIn 20 [536870912] haltM.xs := code_mem8 (by decide) (by decide) [] (by decide)
  have h := run_sup (Q := 20) (M := haltM) C (i := 0) (by decide) rfl (op := 32) (a := 0) (b := 0) (c := 0) rfl (by decide) (by decide) (.inl (by decide)) rfl (wait_off rfl)
  rw [h]
  exact ⟨rfl, rfl⟩
end Go.Proofs.YtpkgckjlhjcdmaaDoor

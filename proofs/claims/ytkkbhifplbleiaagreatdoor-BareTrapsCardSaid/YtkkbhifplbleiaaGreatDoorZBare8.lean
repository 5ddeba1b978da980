/- bare's instruct: contracts. (Made by a program.) -/
import Derived.Test.YtkkbhifplbleiaaGreatDoorZBare7
import Derived.Deep.RegionHeld3
import Derived.Deep.DeepCutAuto
namespace Go.Proofs.YtkkbhifplbleiaaGreatDoor
open Go.RowKit
section
variable {w : World} {B p m bm d n cap : Nat} {q : Int} {xs : List Int} {l : List Int} {pc : Int} {ie eie : Bool} {epc tv cc cd : Int} {dv : DvS} {now : Int} {ov : Bool} {ws : List (Int × Int)} {vs vw : Value}
theorem priv_all (h : MachAt w B p m bm d n cap q ⟨xs, ⟨l, pc, ie, eie, epc, tv, cc, cd⟩, dv, now, ov, ws⟩ vs vw) (hB : B ≤ w.heap.size) (g : Good n ⟨xs, ⟨l, pc, ie, eie, epc, tv, cc, cd⟩, dv, now, ov, ws⟩) (hn : now ≤ 1000000) (op a b c im ln : Int)
    (hi : insB op a b c im = true) (hk : clsI op = 2 ∨ clsI op = 3) :
    Calls Tryz.prog 73 #[.pointer (some ⟨p, 0, none⟩), .agg (spC 6 0 op a b c im ln)] w (Ran w B p m bm d n cap q vs vw (privP n q ⟨xs, ⟨l, pc, ie, eie, epc, tv, cc, cd⟩, dv, now, ov, ws⟩ op a b ln)) := by
  obtain ⟨⟨a0, a1⟩, b0, b1⟩ := ins_ab hi
  obtain ⟨k, rfl⟩ := Int.eq_ofNat_of_zero_le a0
  obtain ⟨j, rfl⟩ := Int.eq_ofNat_of_zero_le b0
  have hop : (32 ≤ op ∧ op ≤ 44) ∨ (64 ≤ op ∧ op ≤ 67) := by
    unfold clsI at hk
    repeat' (split at hk)
    all_goals omega
  have k1 : k < 16 := by omega
  have j1 : j < 16 := by omega
  by_cases e32 : op = 32
  · exact priv32 h hB g hn op c im ln k j k1 j1 e32
  by_cases e34 : op = 34
  · exact priv34 h hB g hn op c im ln k j k1 j1 e34
  by_cases e41 : op = 41
  · exact priv41 h hB g hn op c im ln k j k1 j1 e41
  by_cases e42 : op = 42
  · exact priv42 h hB g hn op c im ln k j k1 j1 e42
  by_cases e35 : op = 35
  · exact priv35 h hB g hn op c im ln k j k1 j1 e35
  by_cases e36 : op = 36
  · exact priv36 h hB g hn op c im ln k j k1 j1 e36
  by_cases e37 : op = 37
  · exact priv37 h hB g hn op c im ln k j k1 j1 e37
  by_cases e38 : op = 38
  · exact priv38 h hB g hn op c im ln k j k1 j1 e38
  by_cases e39 : op = 39
  · exact priv39 h hB g hn op c im ln k j k1 j1 e39
  exact privP_any h hB g hn op c im ln k j k1 j1 (by omega)
end
/-- a stop of the supervisor's bears no address -/
theorem once_ad0 {xs : List Int} {n root : Int} {x : Cp} {user : Bool} {y : Cp} {ad op a b c im ln : Int} {ms : List Int} (ho : onceP xs n root x user = ⟨y, ⟨6, ad, op, a, b, c, im, ln⟩, ms⟩) : ad = 0 := by
  unfold onceP doP at ho
  obtain ⟨t, hs⟩ : ∃ t, fetchP xs n root x.pc user = t := ⟨_, rfl⟩
  rw [hs] at ho
  have hca := fetch_ca xs n root x.pc user
  rw [hs] at hca
  obtain ⟨ca0, ad0, op0, a0, b0, c0, im0, ln0⟩ := t
  have hca : ca0 = 0 ∨ ca0 = 1 ∨ ca0 = 4 := hca
  have had : ca0 = 0 → ad0 = 0 := by
    intro e; subst e
    unfold fetchP at hs
    repeat' (split at hs)
    all_goals first | (unfold insS at hs; injection hs with e1 e2; exact e2.symm) | (unfold noneS at hs; injection hs with e1; omega)
  simp only at ho
  split at ho
  · rename_i e0
    split at ho
    · unfold innP moveP at ho
      repeat' (split at ho)
      all_goals (injection ho with q1 q2 q3; injection q2 with e1; omega)
    · repeat' (split at ho)
      all_goals (injection ho with q1 q2 q3; injection q2 with e1 e2; first | omega | (rw [← e2]; exact had e0))
  · injection ho with q1 q2 q3
    injection q2 with e1
    omega
/-- in the midst of 'c, s := ..': what lies where -/
structure RS (W : World) (p m bm n cap : Nat) (hd : Value) (c : Cp) (tl : List Value) (ys : List Int) (o2 o3 : Option Nat) (w : World) : Prop where
  g : GAt w p 91 hd c tl
  mem : MemAt w m bm n cap ys
  lv : W.grownBy w (some bm)
  c2 : ∀ i, o2 = some i → CpuAt w i zeroP
  c3 : ∀ i, o3 = some i → RwAt w i 138 (spC 0 0 0 0 0 0 0 0)
section
variable {W w w1 : World} {p m bm n cap : Nat} {hd : Value} {c : Cp} {tl : List Value} {ys ms : List Int} {o2 o3 : Option Nat}
theorem RS.keep (h : RS W p m bm n cap hd c tl ys o2 o3 w) (hg : w.grownBy w1 none) : RS W p m bm n cap hd c tl ys o2 o3 w1 :=
  ⟨h.g.kept0 hg, h.mem.kept0 hg, grown_trans h.lv (grown_none hg), fun i hi => (h.c2 i hi).kept0 hg, fun i hi => (h.c3 i hi).kept0 hg⟩
theorem RS.call (h : RS W p m bm n cap hd c tl ys o2 o3 w) (hm : MemAt w1 m bm n cap ms) (hg : w.grownBy w1 (some bm)) : RS W p m bm n cap hd c tl ms o2 o3 w1 := by
  obtain ⟨cur, hb⟩ := h.mem.bblk
  exact ⟨h.g.kept hg (by simpa using blk_ne h.g.blk hb (by decide)), hm, grown_trans h.lv hg, fun i hi => (h.c2 i hi).kept hg (by simpa using blk_ne (h.c2 i hi).blk hb (by decide)), fun i hi => (h.c3 i hi).kept hg (by simpa using blk_ne (h.c3 i hi).blk hb (by decide))⟩
theorem RS.a2 (h : RS W p m bm n cap hd c tl ys o2 o3 w) : RS W p m bm n cap hd c tl ys (some w.heap.size) o3 (w.alloc (.cells (cpuC zeroP) 39)) := by
  have hk := h.keep (World.grownBy_alloc w (.cells (cpuC zeroP) 39) none)
  exact ⟨hk.g, hk.mem, hk.lv, fun i hi => by obtain rfl := Option.some.inj hi; exact CpuAt.new w rfl, hk.c3⟩
theorem RS.a3 (h : RS W p m bm n cap hd c tl ys o2 o3 w) : RS W p m bm n cap hd c tl ys o2 (some w.heap.size) (w.alloc (.cells (spC 0 0 0 0 0 0 0 0) 138)) := by
  have hk := h.keep (World.grownBy_alloc w (.cells (spC 0 0 0 0 0 0 0 0) 138) none)
  exact ⟨hk.g, hk.mem, hk.lv, hk.c2, fun i hi => by obtain rfl := Option.some.inj hi; exact RwAt.new w _ _⟩
theorem RS.st2 {i2 : Nat} (h : RS W p m bm n cap hd c tl ys (some i2) o3 w) : w.heap[i2]? = some (.cells (cpuC zeroP) 39 (0, 0)) := (h.c2 _ rfl).blk
theorem RS.g2 {i2 : Nat} (h : RS W p m bm n cap hd c tl ys (some i2) o3 w) (z : Array Value) : GAt (w.setRow i2 z) p 91 hd c tl :=
  h.g.keptL (R := [i2]) (lv_row (Lv.refl _ _) (by simp) _) (by simpa using blk_ne h.g.blk h.st2 (by decide))
theorem RS.st3 {i2 i3 : Nat} (h : RS W p m bm n cap hd c tl ys (some i2) (some i3) w) (z : Array Value) : (w.setRow i2 z).heap[i3]? = some (.cells (spC 0 0 0 0 0 0 0 0) 138 (0, 0)) :=
  ((h.c3 _ rfl).rowOther i2 z (blk_ne (h.c3 _ rfl).blk h.st2 (by decide))).blk
theorem RS.g3 {i2 i3 : Nat} (h : RS W p m bm n cap hd c tl ys (some i2) (some i3) w) (z s : Array Value) : GAt ((w.setRow i2 z).setRow i3 s) p 91 hd c tl :=
  (h.g2 z).keptL (R := [i3]) (lv_row (Lv.refl _ _) (by simp) _) (by simpa using blk_ne h.g.blk (h.c3 _ rfl).blk (by decide))
/-- behind it -/
def InsAt (W : World) (m bm n cap : Nat) (y : Cp) (s : Array Value) (ms : List Int) (s2 s3 : Value) (w : World) : Prop :=
  ∃ i2 i3, s2 = .pointer (some ⟨i2, 0, none⟩) ∧ s3 = .pointer (some ⟨i3, 0, none⟩) ∧ CpuAt w i2 y ∧ RwAt w i3 138 s ∧ MemAt w m bm n cap ms ∧ W.grownBy w (some bm) ∧ W.heap.size ≤ i2 ∧ W.heap.size ≤ i3
theorem RS.done {i2 i3 : Nat} (h : RS W p m bm n cap hd c tl ys (some i2) (some i3) w) (h2 : W.heap.size ≤ i2) (h3 : W.heap.size ≤ i3) (_hb : bm < W.heap.size) {y : Cp} (hy : y.l.length = 16) (s : Array Value) :
    InsAt W m bm n cap y s ys (.pointer (some ⟨i2, 0, none⟩)) (.pointer (some ⟨i3, 0, none⟩)) ((w.setRow i2 (cpuC y)).setRow i3 s) := by
  have hne : i2 ≠ i3 := blk_ne (h.c2 _ rfl).blk (h.c3 _ rfl).blk (by decide)
  have hL : Lv w ((w.setRow i2 (cpuC y)).setRow i3 s) [i2, i3] := lv_row (lv_row (Lv.refl w _) (by simp) _) (by simp) _
  obtain ⟨cur, hbb⟩ := h.mem.bblk
  have m2 : m ∉ [i2, i3] := by
    simp only [List.mem_cons, List.not_mem_nil, or_false]
    rintro (e | e)
    · exact blk_ne h.mem.hm (h.c2 _ rfl).blk (by decide) e
    · exact blk_ne h.mem.hm (h.c3 _ rfl).blk (by decide) e
  have b2 : bm ∉ [i2, i3] := by
    simp only [List.mem_cons, List.not_mem_nil, or_false]
    rintro (e | e)
    · exact blk_ne hbb (h.c2 _ rfl).blk (by decide) e
    · exact blk_ne hbb (h.c3 _ rfl).blk (by decide) e
  refine ⟨i2, i3, rfl, rfl, ((h.c2 _ rfl).row hy).rowOther _ _ hne, ((h.c3 _ rfl).rowOther _ _ hne.symm).row _, mem_keptL h.mem hL m2 b2, ⟨hL.os.trans h.lv.os, hL.tape.trans h.lv.tape, hL.output.trans h.lv.output, Nat.le_trans h.lv.size hL.size, fun i hi hr => (hL.block i (Nat.lt_of_lt_of_le hi h.lv.size) ?_).trans (h.lv.block i hi hr)⟩, h2, h3⟩
  simp only [List.mem_cons, List.not_mem_nil, or_false]
  omega
end
section
variable {w : World} {B p m bm d n cap : Nat} {q : Int} {xs : List Int} {l : List Int} {pc : Int} {ie eie : Bool} {epc tv cc cd : Int} {dv : DvS} {now : Int} {ov : Bool} {ws : List (Int × Int)} {vs vw : Value}
theorem ins_go {M : Mc} {y : Cp} {ad op a b c im ln : Int} {ms : List Int} (ho : onceP M.xs n 0 M.c false = ⟨y, ⟨0, ad, op, a, b, c, im, ln⟩, ms⟩) : insP n q M = ⟨ms, y, M.d, M.now, M.ov, M.ws⟩ := by unfold insP; rw [ho]; rfl
theorem ins_priv {M : Mc} {y : Cp} {ad op a b c im ln : Int} {ms : List Int} (ho : onceP M.xs n 0 M.c false = ⟨y, ⟨6, ad, op, a, b, c, im, ln⟩, ms⟩) : insP n q M = privP n q M op a b ln := by unfold insP; rw [ho]; rfl
theorem ins_call {M : Mc} {y : Cp} {ad op a b c im ln : Int} {ms : List Int} (ho : onceP M.xs n 0 M.c false = ⟨y, ⟨7, ad, op, a, b, c, im, ln⟩, ms⟩) : insP n q M = takeP M 4 0 := by unfold insP; rw [ho]; rfl
theorem ins_trap {M : Mc} {y : Cp} {ca ad op a b c im ln : Int} {ms : List Int} (ho : onceP M.xs n 0 M.c false = ⟨y, ⟨ca, ad, op, a, b, c, im, ln⟩, ms⟩) (h : ca = 1 ∨ ca = 4) : insP n q M = takeP M ca ad := by
  unfold insP; rw [ho]
  rcases h with rfl | rfl <;> rfl
set_option maxRecDepth 100000 in
set_option maxHeartbeats 8000000 in
theorem bins_any (h : MachAt w B p m bm d n cap q ⟨xs, ⟨l, pc, ie, eie, epc, tv, cc, cd⟩, dv, now, ov, ws⟩ vs vw) (hB : B ≤ w.heap.size) (g : Good n ⟨xs, ⟨l, pc, ie, eie, epc, tv, cc, cd⟩, dv, now, ov, ws⟩) (hn : now ≤ 1000000) :
    Calls Tryz.prog 42 #[.pointer (some ⟨p, 0, none⟩)] w (Ran w B p m bm d n cap q vs vw (insP n q ⟨xs, ⟨l, pc, ie, eie, epc, tv, cc, cd⟩, dv, now, ov, ws⟩)) := by
  have Hz := zero_cpu
  have Hz2 := zero_stop
  obtain ⟨⟨y, ⟨ca, ad, op, a, b, c, im, ln⟩, ms⟩, ho⟩ : ∃ o, onceP xs n 0 ⟨l, pc, ie, eie, epc, tv, cc, cd⟩ false = o := ⟨_, rfl⟩
  have HO := hid ho
  have p0 : 0 ≤ pc := g.cpu.pc0
  have p1 : pc < 4294967296 := by have h1 := g.cpu.pc1; have h1 : pc ≤ 4294967295 := h1; omega
  have hst := stops_once g.u32 (n := (n : Int)) (root := 0) (x := ⟨l, pc, ie, eie, epc, tv, cc, cd⟩) (user := false) p0 p1
  have hst : Stops (onceP xs n 0 ⟨l, pc, ie, eie, epc, tv, cc, cd⟩ false).s := hst
  rw [ho] at hst
  have hke := keeps_once xs n 0 ⟨l, pc, ie, eie, epc, tv, cc, cd⟩ false
  rw [ho] at hke
  have Hke := hid hke
  have Hst := hid hst
  have Hu : Hid (U32s xs) := hid g.u32
  have HL : Hid (Regs l) := hid g.cpu.regs
  have Hyl : Hid (y.l.length = 16) := hid (once_regs (n := n) Hu.out HL.out ho).len
  have HGd := hid g
  have H := hid h
  have HB := hid hB
  have Hsn : Hid (dv.sn.length ≤ 1000000) := hid (by have h1 := g.seen; have h1 : (dv.sn.length : Int) ≤ now := h1; omega)
  have Hbm := hid h.mem.blt
  have HW : Hid (RS w p m bm n cap (.pointer (some ⟨m, 0, none⟩)) ⟨l, pc, ie, eie, epc, tv, cc, cd⟩ (bT d q now ov vw) xs none none w) := hid ⟨h.g, h.mem, grown_refl _ _, fun _ e => (by cases e), fun _ e => (by cases e)⟩
  clear ho hst hke h hB g
  go_enter Tryz.func42, Tryz.ntmps42
  go_upto_region 0 with (fail)
  go_cut [2, 3] (fun s2 s3 wx => InsAt w m bm n cap y (spC ca ad op a b c im ln) ms s2 s3 wx)
  case first =>
    refine wp_region_held_drew (S := fun W => GAt W p 91 (.pointer (some ⟨m, 0, none⟩)) ⟨l, pc, ie, eie, epc, tv, cc, cd⟩ (bT d q now ov vw)) (by kernel_rfl) (HW.out.g.kept0 (grown_drew (grown_refl _ none))) (fun hS0 => ?_)
    replace HW := hid (HW.out.keep (grown_drew (grown_refl _ none)))
    have Hsz : Hid (w.heap.size ≤ w.drew.heap.size) := hid (Nat.le_refl _)
    generalize w.drew = w0 at HW Hsz hS0 ⊢
    refine wpAnyH_take (i := 0) (v := ?_) rfl (by kernel_rfl) (by kernel_rfl) (by kernel_rfl) (fun _ _ _ h => h) (Or.inl ⟨by kernel_rfl, ?_⟩) hS0 ?_
    rotate_left
    · (intro W hSw; clear hSw; go_simp; try with_reducible rfl)
    try simp only [Act.put, List.setIfInBounds_toArray, List.set_cons_zero, List.set_cons_succ, List.getElem_toArray, List.getElem_cons_zero]
    refine wpAnyH_take (i := 1) (v := ?_) rfl (by kernel_rfl) (by kernel_rfl) (by kernel_rfl) (fun _ _ _ h => h) (Or.inl ⟨by kernel_rfl, ?_⟩) hS0 ?_
    rotate_left
    · (intro W hSw; clear hSw; go_simp; try with_reducible rfl)
    try simp only [Act.put, List.setIfInBounds_toArray, List.set_cons_zero, List.set_cons_succ, List.getElem_toArray, List.getElem_cons_succ, List.getElem_cons_zero]
    refine wpAnyH_take (i := 2) (v := ?_) rfl (by kernel_rfl) (by kernel_rfl) (by kernel_rfl) (fun _ _ _ h => h) (Or.inl ⟨by kernel_rfl, ?_⟩) hS0 ?_
    rotate_left
    · (intro W hSw; clear hSw; go_simp; try with_reducible rfl)
    try simp only [Act.put, List.setIfInBounds_toArray, List.set_cons_zero, List.set_cons_succ, List.getElem_toArray, List.getElem_cons_succ, List.getElem_cons_zero]
    refine wpAnyH_take (i := 3) (v := ?_) rfl (by kernel_rfl) (by kernel_rfl) (by kernel_rfl) (fun _ _ _ h => h) (Or.inl ⟨by kernel_rfl, ?_⟩) hS0 ?_
    rotate_left
    · (intro W hSw; have k := hSw.head; clear hSw; go_simp; try with_reducible rfl)
    try simp only [Act.put, List.setIfInBounds_toArray, List.set_cons_zero, List.set_cons_succ, List.getElem_toArray, List.getElem_cons_succ, List.getElem_cons_zero]
    refine wpAnyH_take (i := 4) (v := ?_) rfl (by kernel_rfl) (by kernel_rfl) (by kernel_rfl) (fun _ _ _ h => h) (Or.inl ⟨by kernel_rfl, ?_⟩) hS0 ?_
    rotate_left
    · (intro W hSw; clear hSw; go_simp; try with_reducible rfl)
    try simp only [Act.put, List.setIfInBounds_toArray, List.set_cons_zero, List.set_cons_succ, List.getElem_toArray, List.getElem_cons_succ, List.getElem_cons_zero]
    refine wpAnyH_take (i := 5) (v := ?_) rfl (by kernel_rfl) (by kernel_rfl) (by kernel_rfl) (fun _ _ _ h => h) (Or.inl ⟨by kernel_rfl, ?_⟩) hS0 ?_
    rotate_left
    · (intro W hSw; clear hSw; go_simp; try with_reducible rfl)
    try simp only [Act.put, List.setIfInBounds_toArray, List.set_cons_zero, List.set_cons_succ, List.getElem_toArray, List.getElem_cons_succ, List.getElem_cons_zero]
    refine wpAnyH_take (i := 6) (v := ?_) rfl (by kernel_rfl) (by kernel_rfl) (by kernel_rfl) (fun _ _ _ h => h) (Or.inl ⟨by kernel_rfl, ?_⟩) hS0 ?_
    rotate_left
    · (intro W hSw; clear hSw; go_simp; try with_reducible rfl)
    try simp only [Act.put, List.setIfInBounds_toArray, List.set_cons_zero, List.set_cons_succ, List.getElem_toArray, List.getElem_cons_succ, List.getElem_cons_zero]
    refine wpAnyH_take (i := 7) (v := .agg (cpuC ⟨l, pc, ie, eie, epc, tv, cc, cd⟩)) rfl (by kernel_rfl) (by kernel_rfl) (by kernel_rfl) (fun _ _ _ h => h) (yieldsIf_load_mid (by kernel_rfl) 39 _ rfl p 1 rfl _ _ (fun W hW => hW.cpu) Tryz.underlying39 rfl (cpuL_info HL.out.len)) hS0 ?_
    try simp only [Act.put, List.setIfInBounds_toArray, List.set_cons_zero, List.set_cons_succ, List.getElem_toArray, List.getElem_cons_succ, List.getElem_cons_zero]
    refine wpAnyH_ready (rs := [8, 12, 13]) (by kernel_rfl) (by simp) ?_
    refine AllReadyH.cons rfl (fun KK hKK => ?_) ?_
    · go_simp
      refine (once_of HW.out.mem Hu.out HL.out p0 p1 0 false y ca ad op a b c im ln ms HO.out).mono ?_; rintro e wc1 ⟨rfl, hM, hg⟩
      have HR1 := hid (HW.out.call hM hg)
      have hsz := hg.size
      have Hq1 : Hid (w.heap.size ≤ wc1.heap.size) := hid (Nat.le_trans Hsz.out hsz)
      clear hM hg hsz
      refine hKK.out _ _ HR1.out.g (fun hS1 => ?_)
      clear hKK KK
      try simp only [Act.put, List.setIfInBounds_toArray, List.set_cons_zero, List.set_cons_succ, List.getElem_toArray, List.getElem_cons_succ, List.getElem_cons_zero]
      refine wpAnyH_take (i := 9) (v := ?_) rfl (by kernel_rfl) (by kernel_rfl) (by kernel_rfl) (fun _ _ _ h => h) (Or.inl ⟨by kernel_rfl, ?_⟩) hS1 ?_
      rotate_left
      · (intro W hSw; clear hSw; go_simp; try with_reducible rfl)
      try simp only [Act.put, List.setIfInBounds_toArray, List.set_cons_zero, List.set_cons_succ, List.getElem_toArray, List.getElem_cons_succ, List.getElem_cons_zero]
      refine wpAnyH_take (i := 10) (v := ?_) rfl (by kernel_rfl) (by kernel_rfl) (by kernel_rfl) (fun _ _ _ h => h) (Or.inl ⟨by kernel_rfl, ?_⟩) hS1 ?_
      rotate_left
      · (intro W hSw; clear hSw; go_simp; try with_reducible rfl)
      try simp only [Act.put, List.setIfInBounds_toArray, List.set_cons_zero, List.set_cons_succ, List.getElem_toArray, List.getElem_cons_succ, List.getElem_cons_zero]
      refine wpAnyH_take (i := 11) (v := ?_) rfl (by kernel_rfl) (by kernel_rfl) (by kernel_rfl) (fun _ _ _ h => h) (Or.inl ⟨by kernel_rfl, ?_⟩) hS1 ?_
      rotate_left
      · (intro W hSw; clear hSw; go_simp; try with_reducible rfl)
      try simp only [Act.put, List.setIfInBounds_toArray, List.set_cons_zero, List.set_cons_succ, List.getElem_toArray, List.getElem_cons_succ, List.getElem_cons_zero]
      refine wpAnyH_ready (rs := [12, 13]) (by kernel_rfl) (by simp) ?_
      refine AllReadyH.cons rfl (fun KK hKK => ?_) ?_
      · go_simp
        have HR2 := hid (HR1.out.a2)
        have Hq2 : Hid (w.heap.size ≤ wc1.heap.size + 1) := hid (Nat.le_succ_of_le Hq1.out)
        refine hKK.out _ _ HR2.out.g (fun hS2 => ?_)
        clear hKK KK
        try simp only [Act.put, List.setIfInBounds_toArray, List.set_cons_zero, List.set_cons_succ, List.getElem_toArray, List.getElem_cons_succ, List.getElem_cons_zero]
        refine wpAnyH_ready (rs := [13]) (by kernel_rfl) (by simp) ?_
        refine AllReadyH.cons rfl (fun KK hKK => ?_) ?_
        · go_simp
          have HR3 := hid (HR2.out.a3)
          simp only [World.size_alloc] at HR3
          have Hq3 : Hid (w.heap.size ≤ wc1.heap.size + 1 + 1) := hid (Nat.le_succ_of_le Hq2.out)
          refine hKK.out _ _ HR3.out.g (fun hS3 => ?_)
          clear hKK KK
          try simp only [Act.put, List.setIfInBounds_toArray, List.set_cons_zero, List.set_cons_succ, List.getElem_toArray, List.getElem_cons_succ, List.getElem_cons_zero]
          refine anyH_store_row (i := 14) (by kernel_rfl) rfl rfl rfl rfl rfl HR3.out.st2 (cpu_size_info Hyl.out) (by rw [cpu_size Hyl.out]; rfl) (cpu_one _) (HR3.out.g2 _) ?_
          try simp only [Act.put, List.getElem_toArray, List.getElem_cons_succ, List.getElem_cons_zero]
          refine anyH_store_row (i := 15) (by kernel_rfl) rfl rfl rfl rfl rfl (HR3.out.st3 _) (by kernel_rfl) rfl (sp_one _ _ _ _ _ _ _ _) (HR3.out.g3 _ _) ?_
          try simp only [Act.put, List.getElem_toArray, List.getElem_cons_succ, List.getElem_cons_zero]
          refine wpAnyH_done (by kernel_rfl) ?_ _
          go_wp2_with fail
          go_meet
          exact HR3.out.done Hq1.out Hq2.out Hbm.out Hyl.out _
        exact AllReadyH.nil
      refine AllReadyH.cons rfl (fun KK hKK => ?_) ?_
      · go_simp
        have HR4 := hid (HR1.out.a3)
        have Hq4 : Hid (w.heap.size ≤ wc1.heap.size + 1) := hid (Nat.le_succ_of_le Hq1.out)
        refine hKK.out _ _ HR4.out.g (fun hS4 => ?_)
        clear hKK KK
        try simp only [Act.put, List.setIfInBounds_toArray, List.set_cons_zero, List.set_cons_succ, List.getElem_toArray, List.getElem_cons_succ, List.getElem_cons_zero]
        refine wpAnyH_ready (rs := [12]) (by kernel_rfl) (by simp) ?_
        refine AllReadyH.cons rfl (fun KK hKK => ?_) ?_
        · go_simp
          have HR5 := hid (HR4.out.a2)
          simp only [World.size_alloc] at HR5
          have Hq5 : Hid (w.heap.size ≤ wc1.heap.size + 1 + 1) := hid (Nat.le_succ_of_le Hq4.out)
          refine hKK.out _ _ HR5.out.g (fun hS5 => ?_)
          clear hKK KK
          try simp only [Act.put, List.setIfInBounds_toArray, List.set_cons_zero, List.set_cons_succ, List.getElem_toArray, List.getElem_cons_succ, List.getElem_cons_zero]
          refine anyH_store_row (i := 14) (by kernel_rfl) rfl rfl rfl rfl rfl HR5.out.st2 (cpu_size_info Hyl.out) (by rw [cpu_size Hyl.out]; rfl) (cpu_one _) (HR5.out.g2 _) ?_
          try simp only [Act.put, List.getElem_toArray, List.getElem_cons_succ, List.getElem_cons_zero]
          refine anyH_store_row (i := 15) (by kernel_rfl) rfl rfl rfl rfl rfl (HR5.out.st3 _) (by kernel_rfl) rfl (sp_one _ _ _ _ _ _ _ _) (HR5.out.g3 _ _) ?_
          try simp only [Act.put, List.getElem_toArray, List.getElem_cons_succ, List.getElem_cons_zero]
          refine wpAnyH_done (by kernel_rfl) ?_ _
          go_wp2_with fail
          go_meet
          exact HR5.out.done Hq4.out Hq1.out Hbm.out Hyl.out _
        exact AllReadyH.nil
      exact AllReadyH.nil
    refine AllReadyH.cons rfl (fun KK hKK => ?_) ?_
    · go_simp
      have HR6 := hid (HW.out.a2)
      have Hq6 : Hid (w.heap.size ≤ w0.heap.size + 1) := hid (Nat.le_succ_of_le Hsz.out)
      refine hKK.out _ _ HR6.out.g (fun hS6 => ?_)
      clear hKK KK
      try simp only [Act.put, List.setIfInBounds_toArray, List.set_cons_zero, List.set_cons_succ, List.getElem_toArray, List.getElem_cons_succ, List.getElem_cons_zero]
      refine wpAnyH_ready (rs := [8, 13]) (by kernel_rfl) (by simp) ?_
      refine AllReadyH.cons rfl (fun KK hKK => ?_) ?_
      · go_simp
        refine (once_of HR6.out.mem Hu.out HL.out p0 p1 0 false y ca ad op a b c im ln ms HO.out).mono ?_; rintro e wc7 ⟨rfl, hM, hg⟩
        have HR7 := hid (HR6.out.call hM hg)
        have hsz := hg.size
        simp only [World.size_alloc] at hsz
        have Hq7 : Hid (w.heap.size ≤ wc7.heap.size) := hid (Nat.le_trans Hq6.out hsz)
        clear hM hg hsz
        refine hKK.out _ _ HR7.out.g (fun hS7 => ?_)
        clear hKK KK
        try simp only [Act.put, List.setIfInBounds_toArray, List.set_cons_zero, List.set_cons_succ, List.getElem_toArray, List.getElem_cons_succ, List.getElem_cons_zero]
        refine wpAnyH_take (i := 9) (v := ?_) rfl (by kernel_rfl) (by kernel_rfl) (by kernel_rfl) (fun _ _ _ h => h) (Or.inl ⟨by kernel_rfl, ?_⟩) hS7 ?_
        rotate_left
        · (intro W hSw; clear hSw; go_simp; try with_reducible rfl)
        try simp only [Act.put, List.setIfInBounds_toArray, List.set_cons_zero, List.set_cons_succ, List.getElem_toArray, List.getElem_cons_succ, List.getElem_cons_zero]
        refine wpAnyH_take (i := 10) (v := ?_) rfl (by kernel_rfl) (by kernel_rfl) (by kernel_rfl) (fun _ _ _ h => h) (Or.inl ⟨by kernel_rfl, ?_⟩) hS7 ?_
        rotate_left
        · (intro W hSw; clear hSw; go_simp; try with_reducible rfl)
        try simp only [Act.put, List.setIfInBounds_toArray, List.set_cons_zero, List.set_cons_succ, List.getElem_toArray, List.getElem_cons_succ, List.getElem_cons_zero]
        refine wpAnyH_take (i := 11) (v := ?_) rfl (by kernel_rfl) (by kernel_rfl) (by kernel_rfl) (fun _ _ _ h => h) (Or.inl ⟨by kernel_rfl, ?_⟩) hS7 ?_
        rotate_left
        · (intro W hSw; clear hSw; go_simp; try with_reducible rfl)
        try simp only [Act.put, List.setIfInBounds_toArray, List.set_cons_zero, List.set_cons_succ, List.getElem_toArray, List.getElem_cons_succ, List.getElem_cons_zero]
        refine wpAnyH_ready (rs := [13]) (by kernel_rfl) (by simp) ?_
        refine AllReadyH.cons rfl (fun KK hKK => ?_) ?_
        · go_simp
          have HR8 := hid (HR7.out.a3)
          have Hq8 : Hid (w.heap.size ≤ wc7.heap.size + 1) := hid (Nat.le_succ_of_le Hq7.out)
          refine hKK.out _ _ HR8.out.g (fun hS8 => ?_)
          clear hKK KK
          try simp only [Act.put, List.setIfInBounds_toArray, List.set_cons_zero, List.set_cons_succ, List.getElem_toArray, List.getElem_cons_succ, List.getElem_cons_zero]
          refine anyH_store_row (i := 14) (by kernel_rfl) rfl rfl rfl rfl rfl HR8.out.st2 (cpu_size_info Hyl.out) (by rw [cpu_size Hyl.out]; rfl) (cpu_one _) (HR8.out.g2 _) ?_
          try simp only [Act.put, List.getElem_toArray, List.getElem_cons_succ, List.getElem_cons_zero]
          refine anyH_store_row (i := 15) (by kernel_rfl) rfl rfl rfl rfl rfl (HR8.out.st3 _) (by kernel_rfl) rfl (sp_one _ _ _ _ _ _ _ _) (HR8.out.g3 _ _) ?_
          try simp only [Act.put, List.getElem_toArray, List.getElem_cons_succ, List.getElem_cons_zero]
          refine wpAnyH_done (by kernel_rfl) ?_ _
          go_wp2_with fail
          go_meet
          exact HR8.out.done Hsz.out Hq7.out Hbm.out Hyl.out _
        exact AllReadyH.nil
      refine AllReadyH.cons rfl (fun KK hKK => ?_) ?_
      · go_simp
        have HR9 := hid (HR6.out.a3)
        simp only [World.size_alloc] at HR9
        have Hq9 : Hid (w.heap.size ≤ w0.heap.size + 1 + 1) := hid (Nat.le_succ_of_le Hq6.out)
        refine hKK.out _ _ HR9.out.g (fun hS9 => ?_)
        clear hKK KK
        try simp only [Act.put, List.setIfInBounds_toArray, List.set_cons_zero, List.set_cons_succ, List.getElem_toArray, List.getElem_cons_succ, List.getElem_cons_zero]
        refine wpAnyH_ready (rs := [8]) (by kernel_rfl) (by simp) ?_
        refine AllReadyH.cons rfl (fun KK hKK => ?_) ?_
        · go_simp
          refine (once_of HR9.out.mem Hu.out HL.out p0 p1 0 false y ca ad op a b c im ln ms HO.out).mono ?_; rintro e wc10 ⟨rfl, hM, hg⟩
          have HR10 := hid (HR9.out.call hM hg)
          have hsz := hg.size
          simp only [World.size_alloc] at hsz
          have Hq10 : Hid (w.heap.size ≤ wc10.heap.size) := hid (Nat.le_trans Hq9.out hsz)
          clear hM hg hsz
          refine hKK.out _ _ HR10.out.g (fun hS10 => ?_)
          clear hKK KK
          try simp only [Act.put, List.setIfInBounds_toArray, List.set_cons_zero, List.set_cons_succ, List.getElem_toArray, List.getElem_cons_succ, List.getElem_cons_zero]
          refine wpAnyH_take (i := 9) (v := ?_) rfl (by kernel_rfl) (by kernel_rfl) (by kernel_rfl) (fun _ _ _ h => h) (Or.inl ⟨by kernel_rfl, ?_⟩) hS10 ?_
          rotate_left
          · (intro W hSw; clear hSw; go_simp; try with_reducible rfl)
          try simp only [Act.put, List.setIfInBounds_toArray, List.set_cons_zero, List.set_cons_succ, List.getElem_toArray, List.getElem_cons_succ, List.getElem_cons_zero]
          refine wpAnyH_take (i := 10) (v := ?_) rfl (by kernel_rfl) (by kernel_rfl) (by kernel_rfl) (fun _ _ _ h => h) (Or.inl ⟨by kernel_rfl, ?_⟩) hS10 ?_
          rotate_left
          · (intro W hSw; clear hSw; go_simp; try with_reducible rfl)
          try simp only [Act.put, List.setIfInBounds_toArray, List.set_cons_zero, List.set_cons_succ, List.getElem_toArray, List.getElem_cons_succ, List.getElem_cons_zero]
          refine wpAnyH_take (i := 11) (v := ?_) rfl (by kernel_rfl) (by kernel_rfl) (by kernel_rfl) (fun _ _ _ h => h) (Or.inl ⟨by kernel_rfl, ?_⟩) hS10 ?_
          rotate_left
          · (intro W hSw; clear hSw; go_simp; try with_reducible rfl)
          try simp only [Act.put, List.setIfInBounds_toArray, List.set_cons_zero, List.set_cons_succ, List.getElem_toArray, List.getElem_cons_succ, List.getElem_cons_zero]
          refine anyH_store_row (i := 14) (by kernel_rfl) rfl rfl rfl rfl rfl HR10.out.st2 (cpu_size_info Hyl.out) (by rw [cpu_size Hyl.out]; rfl) (cpu_one _) (HR10.out.g2 _) ?_
          try simp only [Act.put, List.getElem_toArray, List.getElem_cons_succ, List.getElem_cons_zero]
          refine anyH_store_row (i := 15) (by kernel_rfl) rfl rfl rfl rfl rfl (HR10.out.st3 _) (by kernel_rfl) rfl (sp_one _ _ _ _ _ _ _ _) (HR10.out.g3 _ _) ?_
          try simp only [Act.put, List.getElem_toArray, List.getElem_cons_succ, List.getElem_cons_zero]
          refine wpAnyH_done (by kernel_rfl) ?_ _
          go_wp2_with fail
          go_meet
          exact HR10.out.done Hsz.out Hq6.out Hbm.out Hyl.out _
        exact AllReadyH.nil
      exact AllReadyH.nil
    refine AllReadyH.cons rfl (fun KK hKK => ?_) ?_
    · go_simp
      have HR11 := hid (HW.out.a3)
      have Hq11 : Hid (w.heap.size ≤ w0.heap.size + 1) := hid (Nat.le_succ_of_le Hsz.out)
      refine hKK.out _ _ HR11.out.g (fun hS11 => ?_)
      clear hKK KK
      try simp only [Act.put, List.setIfInBounds_toArray, List.set_cons_zero, List.set_cons_succ, List.getElem_toArray, List.getElem_cons_succ, List.getElem_cons_zero]
      refine wpAnyH_ready (rs := [8, 12]) (by kernel_rfl) (by simp) ?_
      refine AllReadyH.cons rfl (fun KK hKK => ?_) ?_
      · go_simp
        refine (once_of HR11.out.mem Hu.out HL.out p0 p1 0 false y ca ad op a b c im ln ms HO.out).mono ?_; rintro e wc12 ⟨rfl, hM, hg⟩
        have HR12 := hid (HR11.out.call hM hg)
        have hsz := hg.size
        simp only [World.size_alloc] at hsz
        have Hq12 : Hid (w.heap.size ≤ wc12.heap.size) := hid (Nat.le_trans Hq11.out hsz)
        clear hM hg hsz
        refine hKK.out _ _ HR12.out.g (fun hS12 => ?_)
        clear hKK KK
        try simp only [Act.put, List.setIfInBounds_toArray, List.set_cons_zero, List.set_cons_succ, List.getElem_toArray, List.getElem_cons_succ, List.getElem_cons_zero]
        refine wpAnyH_take (i := 9) (v := ?_) rfl (by kernel_rfl) (by kernel_rfl) (by kernel_rfl) (fun _ _ _ h => h) (Or.inl ⟨by kernel_rfl, ?_⟩) hS12 ?_
        rotate_left
        · (intro W hSw; clear hSw; go_simp; try with_reducible rfl)
        try simp only [Act.put, List.setIfInBounds_toArray, List.set_cons_zero, List.set_cons_succ, List.getElem_toArray, List.getElem_cons_succ, List.getElem_cons_zero]
        refine wpAnyH_take (i := 10) (v := ?_) rfl (by kernel_rfl) (by kernel_rfl) (by kernel_rfl) (fun _ _ _ h => h) (Or.inl ⟨by kernel_rfl, ?_⟩) hS12 ?_
        rotate_left
        · (intro W hSw; clear hSw; go_simp; try with_reducible rfl)
        try simp only [Act.put, List.setIfInBounds_toArray, List.set_cons_zero, List.set_cons_succ, List.getElem_toArray, List.getElem_cons_succ, List.getElem_cons_zero]
        refine wpAnyH_take (i := 11) (v := ?_) rfl (by kernel_rfl) (by kernel_rfl) (by kernel_rfl) (fun _ _ _ h => h) (Or.inl ⟨by kernel_rfl, ?_⟩) hS12 ?_
        rotate_left
        · (intro W hSw; clear hSw; go_simp; try with_reducible rfl)
        try simp only [Act.put, List.setIfInBounds_toArray, List.set_cons_zero, List.set_cons_succ, List.getElem_toArray, List.getElem_cons_succ, List.getElem_cons_zero]
        refine wpAnyH_ready (rs := [12]) (by kernel_rfl) (by simp) ?_
        refine AllReadyH.cons rfl (fun KK hKK => ?_) ?_
        · go_simp
          have HR13 := hid (HR12.out.a2)
          have Hq13 : Hid (w.heap.size ≤ wc12.heap.size + 1) := hid (Nat.le_succ_of_le Hq12.out)
          refine hKK.out _ _ HR13.out.g (fun hS13 => ?_)
          clear hKK KK
          try simp only [Act.put, List.setIfInBounds_toArray, List.set_cons_zero, List.set_cons_succ, List.getElem_toArray, List.getElem_cons_succ, List.getElem_cons_zero]
          refine anyH_store_row (i := 14) (by kernel_rfl) rfl rfl rfl rfl rfl HR13.out.st2 (cpu_size_info Hyl.out) (by rw [cpu_size Hyl.out]; rfl) (cpu_one _) (HR13.out.g2 _) ?_
          try simp only [Act.put, List.getElem_toArray, List.getElem_cons_succ, List.getElem_cons_zero]
          refine anyH_store_row (i := 15) (by kernel_rfl) rfl rfl rfl rfl rfl (HR13.out.st3 _) (by kernel_rfl) rfl (sp_one _ _ _ _ _ _ _ _) (HR13.out.g3 _ _) ?_
          try simp only [Act.put, List.getElem_toArray, List.getElem_cons_succ, List.getElem_cons_zero]
          refine wpAnyH_done (by kernel_rfl) ?_ _
          go_wp2_with fail
          go_meet
          exact HR13.out.done Hq12.out Hsz.out Hbm.out Hyl.out _
        exact AllReadyH.nil
      refine AllReadyH.cons rfl (fun KK hKK => ?_) ?_
      · go_simp
        have HR14 := hid (HR11.out.a2)
        simp only [World.size_alloc] at HR14
        have Hq14 : Hid (w.heap.size ≤ w0.heap.size + 1 + 1) := hid (Nat.le_succ_of_le Hq11.out)
        refine hKK.out _ _ HR14.out.g (fun hS14 => ?_)
        clear hKK KK
        try simp only [Act.put, List.setIfInBounds_toArray, List.set_cons_zero, List.set_cons_succ, List.getElem_toArray, List.getElem_cons_succ, List.getElem_cons_zero]
        refine wpAnyH_ready (rs := [8]) (by kernel_rfl) (by simp) ?_
        refine AllReadyH.cons rfl (fun KK hKK => ?_) ?_
        · go_simp
          refine (once_of HR14.out.mem Hu.out HL.out p0 p1 0 false y ca ad op a b c im ln ms HO.out).mono ?_; rintro e wc15 ⟨rfl, hM, hg⟩
          have HR15 := hid (HR14.out.call hM hg)
          have hsz := hg.size
          simp only [World.size_alloc] at hsz
          have Hq15 : Hid (w.heap.size ≤ wc15.heap.size) := hid (Nat.le_trans Hq14.out hsz)
          clear hM hg hsz
          refine hKK.out _ _ HR15.out.g (fun hS15 => ?_)
          clear hKK KK
          try simp only [Act.put, List.setIfInBounds_toArray, List.set_cons_zero, List.set_cons_succ, List.getElem_toArray, List.getElem_cons_succ, List.getElem_cons_zero]
          refine wpAnyH_take (i := 9) (v := ?_) rfl (by kernel_rfl) (by kernel_rfl) (by kernel_rfl) (fun _ _ _ h => h) (Or.inl ⟨by kernel_rfl, ?_⟩) hS15 ?_
          rotate_left
          · (intro W hSw; clear hSw; go_simp; try with_reducible rfl)
          try simp only [Act.put, List.setIfInBounds_toArray, List.set_cons_zero, List.set_cons_succ, List.getElem_toArray, List.getElem_cons_succ, List.getElem_cons_zero]
          refine wpAnyH_take (i := 10) (v := ?_) rfl (by kernel_rfl) (by kernel_rfl) (by kernel_rfl) (fun _ _ _ h => h) (Or.inl ⟨by kernel_rfl, ?_⟩) hS15 ?_
          rotate_left
          · (intro W hSw; clear hSw; go_simp; try with_reducible rfl)
          try simp only [Act.put, List.setIfInBounds_toArray, List.set_cons_zero, List.set_cons_succ, List.getElem_toArray, List.getElem_cons_succ, List.getElem_cons_zero]
          refine wpAnyH_take (i := 11) (v := ?_) rfl (by kernel_rfl) (by kernel_rfl) (by kernel_rfl) (fun _ _ _ h => h) (Or.inl ⟨by kernel_rfl, ?_⟩) hS15 ?_
          rotate_left
          · (intro W hSw; clear hSw; go_simp; try with_reducible rfl)
          try simp only [Act.put, List.setIfInBounds_toArray, List.set_cons_zero, List.set_cons_succ, List.getElem_toArray, List.getElem_cons_succ, List.getElem_cons_zero]
          refine anyH_store_row (i := 14) (by kernel_rfl) rfl rfl rfl rfl rfl HR15.out.st2 (cpu_size_info Hyl.out) (by rw [cpu_size Hyl.out]; rfl) (cpu_one _) (HR15.out.g2 _) ?_
          try simp only [Act.put, List.getElem_toArray, List.getElem_cons_succ, List.getElem_cons_zero]
          refine anyH_store_row (i := 15) (by kernel_rfl) rfl rfl rfl rfl rfl (HR15.out.st3 _) (by kernel_rfl) rfl (sp_one _ _ _ _ _ _ _ _) (HR15.out.g3 _ _) ?_
          try simp only [Act.put, List.getElem_toArray, List.getElem_cons_succ, List.getElem_cons_zero]
          refine wpAnyH_done (by kernel_rfl) ?_ _
          go_wp2_with fail
          go_meet
          exact HR15.out.done Hq11.out Hsz.out Hbm.out Hyl.out _
        exact AllReadyH.nil
      exact AllReadyH.nil
    exact AllReadyH.nil
  case rest =>
    obtain ⟨i2, i3, rfl, rfl, hC, hS, hM, hg, h2, h3⟩ := hcut
    have HC := hid hC
    have HS := hid hS
    have HT := hid (H.out.memT hM hg)
    have HB1 := hid (HT.out.base HB.out)
    have s0 := hS.cell 0 (v := .int .i64 ca) rfl
    have s1 := hS.cell 1 (v := .int .u32 ad) rfl
    clear hC hS hM hg h2 h3 HW Hbm
    have hca := Hst.out.ca
    have hca : ca = 0 ∨ ca = 1 ∨ ca = 4 ∨ ca = 6 ∨ ca = 7 := hca
    have hstop : Hid (ca ≠ 0 → y = ⟨l, pc, ie, eie, epc, tv, cc, cd⟩ ∧ ms = xs) := hid (fun e => Hke.out.stop e)
    rcases hca with rfl | rfl | rfl | rfl | rfl
    · have He := hid (ins_go (M := ⟨xs, ⟨l, pc, ie, eie, epc, tv, cc, cd⟩, dv, now, ov, ws⟩) (q := q) HO.out)
      go_wp2_with (first
        | (refine wpList_load_cpu rfl _ rfl rfl HC.out ?_)
        | (refine wpList_store_gcpu (z := y) rfl _ _ rfl rfl rfl HT.out.at_.g Hyl.out ?_; intro w9 hG hL; have HT2 := hid (HT.out.trans (HT.out.at_.ownT (now' := now) (ov' := ov) hG hL)); clear hG hL)
        | fail)
      go_end0
      rw [He.out]
      exact ⟨rfl, _, _, HT2.out⟩
    · have He := hid (ins_trap (M := ⟨xs, ⟨l, pc, ie, eie, epc, tv, cc, cd⟩, dv, now, ov, ws⟩) (q := q) HO.out (by decide))
      obtain ⟨e1, e2⟩ := hstop.out (by decide)
      rw [e2] at HT
      have HTm := hid HT.out
      clear e1 e2 hstop
      go_wp2_with fail
      refine (btake_any (M := ⟨xs, ⟨l, pc, ie, eie, epc, tv, cc, cd⟩, dv, now, ov, ws⟩) HTm.out.at_ HB1.out HL.out Hsn.out 1 ad (by decide) (by decide)).mono ?_; rintro e w9 ⟨rfl, vs', vw', ht⟩
      have HT2 := hid ht
      clear ht s0 s1
      go_wp2
      go_end0
      rw [He.out]
      exact ⟨rfl, _, _, HTm.out.trans HT2.out⟩
    · have He := hid (ins_trap (M := ⟨xs, ⟨l, pc, ie, eie, epc, tv, cc, cd⟩, dv, now, ov, ws⟩) (q := q) HO.out (by decide))
      obtain ⟨e1, e2⟩ := hstop.out (by decide)
      rw [e2] at HT
      have HTm := hid HT.out
      clear e1 e2 hstop
      go_wp2_with fail
      refine (btake_any (M := ⟨xs, ⟨l, pc, ie, eie, epc, tv, cc, cd⟩, dv, now, ov, ws⟩) HTm.out.at_ HB1.out HL.out Hsn.out 4 ad (by decide) (by decide)).mono ?_; rintro e w9 ⟨rfl, vs', vw', ht⟩
      have HT2 := hid ht
      clear ht s0 s1
      go_wp2
      go_end0
      rw [He.out]
      exact ⟨rfl, _, _, HTm.out.trans HT2.out⟩
    · have He := hid (ins_priv (M := ⟨xs, ⟨l, pc, ie, eie, epc, tv, cc, cd⟩, dv, now, ov, ws⟩) (q := q) HO.out)
      obtain ⟨e1, e2⟩ := hstop.out (by decide)
      obtain ⟨q1, q2, q3⟩ := Hst.out.priv rfl
      have HQ1 := hid q1
      have HQ2 := hid q2
      obtain rfl : ad = 0 := once_ad0 HO.out
      rw [e2] at HT
      have HTm := hid HT.out
      clear e1 e2 hstop q1 q2 q3
      go_wp2_with (first
        | (refine wpList_load_rw rfl 138 _ rfl rfl HS.out rfl Tryz.underlying138 (by kernel_rfl) ?_)
        | fail)
      refine (priv_all HTm.out.at_ HB1.out HGd.out hn op a b c im ln HQ1.out HQ2.out).mono ?_; rintro e w9 ⟨rfl, vs', vw', ht⟩
      have HT2 := hid ht
      clear ht s0 s1
      go_wp2
      go_end0
      rw [He.out]
      exact ⟨rfl, _, _, HTm.out.trans HT2.out⟩
    · have He := hid (ins_call (M := ⟨xs, ⟨l, pc, ie, eie, epc, tv, cc, cd⟩, dv, now, ov, ws⟩) (q := q) HO.out)
      obtain ⟨e1, e2⟩ := hstop.out (by decide)
      rw [e2] at HT
      have HTm := hid HT.out
      clear e1 e2 hstop
      go_wp2_with fail
      refine (btake_any (M := ⟨xs, ⟨l, pc, ie, eie, epc, tv, cc, cd⟩, dv, now, ov, ws⟩) HTm.out.at_ HB1.out HL.out Hsn.out 4 0 (by decide) (by decide)).mono ?_; rintro e w9 ⟨rfl, vs', vw', ht⟩
      have HT2 := hid ht
      clear ht s0 s1
      go_wp2
      go_end0
      rw [He.out]
      exact ⟨rfl, _, _, HTm.out.trans HT2.out⟩
end
end Go.Proofs.YtkkbhifplbleiaaGreatDoor

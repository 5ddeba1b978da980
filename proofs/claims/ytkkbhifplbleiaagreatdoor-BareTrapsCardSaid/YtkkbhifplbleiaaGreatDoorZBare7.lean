/- bare's privileged: contracts. (Made by a program.) -/
import Derived.Test.YtkkbhifplbleiaaGreatDoorZGBareA
import Derived.Test.YtkkbhifplbleiaaGreatDoorZBare4
import Derived.Test.YtkkbhifplbleiaaGreatDoorZBare5
import Derived.Test.YtkkbhifplbleiaaGreatDoorZBare6
import Derived.Test.YtkkbhifplbleiaaGreatDoorZOrder
namespace Go.Proofs.YtkkbhifplbleiaaGreatDoor
open Go.RowKit
theorem GAt.sPcX {w : World} {p : Nat} {t : TypeId} {h : Value} {x : Cp} {tl : List Value} (g : GAt w p t h x tl) (v : Int) : GAt (w.setCell ⟨p, 17, none⟩ (.int .u32 v)) p t h ⟨x.l, v, x.ie, x.eie, x.epc, x.tv, x.ca, x.ad⟩ tl := by
  obtain ⟨l, pc, ie, eie, epc, tv, ca, ad⟩ := x
  exact g.sPc v
theorem MachAt.advT {w : World} {B p m bm d n cap : Nat} {q : Int} {M : Mc} {vs vw : Value} (h : MachAt w B p m bm d n cap q M vs vw) (ln : Int) : MTurned w B p m bm d n cap q vs vw (advP M ln) (w.setCell ⟨p, 17, none⟩ (.int .u32 ((M.c.pc + ln) % 4294967296))) vs vw :=
  h.ownT (now' := M.now) (ov' := M.ov) (h.g.sPcX _) (lv_cell w p 17 _)
theorem RwAt.mt {w w1 w2 : World} {B p m bm d n cap : Nat} {q : Int} {M M' : Mc} {vs vw vs' vw' : Value} {b : Nat} {t : TypeId} {cs : Array Value} (hr : RwAt w1 b t cs) (h : MachAt w B p m bm d n cap q M vs vw) (hb : w.heap.size ≤ b) (ht : MTurned w1 B p m bm d n cap q vs vw M' w2 vs' vw') : RwAt w2 b t cs :=
  hr.keptL ht.lv (fun hi => by have := h.lt b hi; omega)
theorem wpStill_load_rng {ops : Array Oper} {rest : List Oper} {o : Oper} {a : Act} {w : World} {Q : Act → Prop} (hgd : o.guard = none) (t : TypeId) (p : Operand) (ho : o.op = .load t p) {g k : Nat} (hx : a.eval p = .pointer (some ⟨g, k, none⟩)) {cs : List Value} (hg : w.rangeAt g k cs) {d : TypeDesc}
    (hd : d.isRow = true) (hu : Tryz.prog.underlying t = some d) (hi : (Tryz.prog.info? t).map (·.size) = some cs.length) (h : wpStill Tryz.prog ops w Q rest (a.put o.dst (.agg cs.toArray))) : wpStill Tryz.prog ops w Q (o :: rest) a :=
  wpStill_yields hgd (by
    have := run_loadAt_mid (P := Tryz.prog) w g k t cs d hg hu hd hi
    unfold execOp
    simp only [ho, hx, this, Sem.run_bind, Sem.run_pure, Result.andThen_ok]) h
theorem hasA_is (op : Int) : hasA op = 0 ∨ hasA op = 1 := by unfold hasA; split; exact .inr rfl; exact .inl rfl
theorem hasB_is (op : Int) : hasB op = 0 ∨ hasB op = 1 := by unfold hasB; split; exact .inr rfl; exact .inl rfl
theorem alw_reg {k n : Int} (hk : k = 0 ∨ k = 1) (h : alwB k n = true) : 0 ≤ n ∧ n < 16 := by
  unfold alwB at h
  rcases hk with rfl | rfl
  · simp at h; omega
  · simpa using h
theorem ins_ab {op a b c im : Int} (h : insB op a b c im = true) : (0 ≤ a ∧ a < 16) ∧ 0 ≤ b ∧ b < 16 := by
  obtain ⟨_, h1, h2, _⟩ := ins_parts h
  exact ⟨alw_reg (hasA_is op) h1, alw_reg (hasB_is op) h2⟩
section
variable {l : List Int} {pc : Int} {ie eie : Bool} {epc tv cc cd : Int}
theorem prc_all (hl : Regs l) (now op : Int) (n0 : 0 ≤ now) (n1 : now ≤ 1000000) (hop : op = 33 ∨ op = 40 ∨ op = 43 ∨ op = 44 ∨ op = 64 ∨ op = 65 ∨ op = 66 ∨ op = 67) (k : Nat) (hk : k < 16) (b c im : Int) (w : World) :
    Calls Tryz.prog 112 #[.agg (cpuC ⟨l, pc, ie, eie, epc, tv, cc, cd⟩), .int .i64 now, .agg (inC op (k : Int) b c im)] w fun e w' => e = .returned (.agg (cpuC (prcP now ⟨l, pc, ie, eie, epc, tv, cc, cd⟩ op (k : Int)))) ∧ w.grownBy w' none := by
  rcases hop with h | h | h | h | h | h | h | h
  · exact prc33 hl now op n0 n1 h k hk b c im w
  · exact prc40 hl now op n0 n1 h k hk b c im w
  · exact prc43 hl now op n0 n1 h k hk b c im w
  · exact prc44 hl now op n0 n1 h k hk b c im w
  · exact prc64 hl now op n0 n1 h k hk b c im w
  · exact prc65 hl now op n0 n1 h k hk b c im w
  · cases ie
    · exact prc66_f hl now op n0 n1 h k hk b c im w
    · exact prc66_t hl now op n0 n1 h k hk b c im w
  · exact prc67 hl now op n0 n1 h k hk b c im w
theorem prcP_len (hl : Regs l) (now op a : Int) : (prcP now ⟨l, pc, ie, eie, epc, tv, cc, cd⟩ op a).l.length = 16 := by
  unfold prcP setR
  repeat' split
  all_goals first | exact hl.len | (show (List.set _ _ _).length = 16; rw [List.length_set]; exact hl.len)
theorem devL_len {x : DvS} (hl : Regs l) (now op a b : Int) : (devL now x l op a b).length = 16 := by
  unfold devL
  repeat' split
  all_goals first | exact hl.len | (rw [List.length_set]; exact hl.len)
end
section
variable {w : World} {B p m bm d n cap : Nat} {q : Int} {xs : List Int} {l : List Int} {pc : Int} {ie eie : Bool} {epc tv cc cd : Int} {dv : DvS} {now : Int} {ov : Bool} {ws : List (Int × Int)} {vs vw : Value}
set_option maxRecDepth 100000 in
set_option maxHeartbeats 4000000 in
theorem priv32 (h : MachAt w B p m bm d n cap q ⟨xs, ⟨l, pc, ie, eie, epc, tv, cc, cd⟩, dv, now, ov, ws⟩ vs vw) (hB : B ≤ w.heap.size) (g : Good n ⟨xs, ⟨l, pc, ie, eie, epc, tv, cc, cd⟩, dv, now, ov, ws⟩) (hn : now ≤ 1000000) (op c im ln : Int) (k j : Nat) (hk : k < 16) (hj : j < 16) (hop : op = 32) :
    Calls Tryz.prog 73 #[.pointer (some ⟨p, 0, none⟩), .agg (spC 6 0 op (k : Int) (j : Int) c im ln)] w (Ran w B p m bm d n cap q vs vw (privP n q ⟨xs, ⟨l, pc, ie, eie, epc, tv, cc, cd⟩, dv, now, ov, ws⟩ op (k : Int) (j : Int) ln)) := by
  have HR0 := hid (RwAt.new w 138 (spC 6 0 op (k : Int) (j : Int) c im ln))
  have HG := hid (grown_alloc (grown_refl w none) (.cells (spC 6 0 op (k : Int) (j : Int) c im ln) 138))
  have H0 := hid h
  have HB := hid hB
  have HGd := hid g
  have HL : Hid (Regs l) := hid g.cpu.regs
  have Hsn : Hid (dv.sn.length ≤ 1000000) := hid (by have h1 := g.seen; have h1 : (dv.sn.length : Int) ≤ now := h1; omega)
  have n0 : 0 ≤ now := g.now0
  obtain ⟨R, hR⟩ : ∃ R, l[k]? = some R := ⟨_, List.getElem?_eq_getElem (by rw [HL.out.len]; exact hk)⟩
  obtain ⟨Z, hZ⟩ : ∃ Z, l[j]? = some Z := ⟨_, List.getElem?_eq_getElem (by rw [HL.out.len]; exact hj)⟩
  have hRI : regI l (k : Int) = R := by unfold regI; rw [Int.toNat_natCast, List.getD_eq_getElem?_getD, hR]; rfl
  have hZI : regI l (j : Int) = Z := by unfold regI; rw [Int.toNat_natCast, List.getD_eq_getElem?_getD, hZ]; rfl
  have HR := hid hR
  have HZ := hid hZ
  have HRI := hid hRI
  have HZI := hid hZI
  have R0 : 0 ≤ R := (HL.out.bd R (List.mem_of_getElem? hR)).1
  have R1 : R < 4294967296 := (HL.out.bd R (List.mem_of_getElem? hR)).2
  have Z0 : 0 ≤ Z := (HL.out.bd Z (List.mem_of_getElem? hZ)).1
  have Z1 : Z < 4294967296 := (HL.out.bd Z (List.mem_of_getElem? hZ)).2
  have k0 : (0 : Int) ≤ (k : Int) := by omega
  have k1 : (k : Int) < 16 := by omega
  have j0 : (0 : Int) ≤ (j : Int) := by omega
  have j1 : (j : Int) < 16 := by omega
  have H := hid (h.kept0 HG.out)
  have HB1 : Hid (B ≤ (w.alloc (.cells (spC 6 0 op (k : Int) (j : Int) c im ln) 138)).heap.size) := hid (Nat.le_trans hB HG.out.size)
  have He : Hid (privP n q ⟨xs, ⟨l, pc, ie, eie, epc, tv, cc, cd⟩, dv, now, ov, ws⟩ op (k : Int) (j : Int) ln = ⟨xs, ⟨l, pc, ie, eie, epc, tv, cc, cd⟩, ⟨dv.Q, dv.S, dv.fr, dv.af, dv.sn ++ endS 3 R⟩, now, true, ws⟩) := hid (by unfold privP; rw [if_pos hop]; show Mc.mk _ _ (seeD dv (3, 0, regI l (k : Int))) _ _ _ = _; rw [hRI]; rfl)
  have t32 : (op == 32) = true := by rw [hop]; decide
  clear hop
  clear h hB g hR hZ hRI hZI
  obtain ⟨b0, hb0⟩ : ∃ b0, b0 = w.heap.size := ⟨_, rfl⟩
  have NB : Hid (w.heap.size ≤ b0) := hid (Nat.le_of_eq hb0.symm)
  rw [← hb0] at HR0
  go_enter Tryz.func73, Tryz.ntmps73
  go_upto_region 1 with (fail)
  generalize w.alloc (.cells (spC 6 0 op (k : Int) (j : Int) c im ln) 138) = w1 at HR0 HG H HB1 ⊢
  rw [← hb0]
  clear hb0
  have i2 := HR0.out.cell 2 (v := .int .i64 op) rfl
  go_upto_region 4 with (fail)
  refine region_still 10 (by kernel_rfl) (by kernel_rfl) ?_; intro wd hg
  replace H := hid (H.out.kept0 hg)
  replace HR0 := hid (HR0.out.kept0 hg)
  replace HG := hid (grown_trans HG.out hg)
  replace HB1 : Hid (B ≤ wd.heap.size) := hid (Nat.le_trans HB1.out hg.size)
  clear hg i2
  have i3 := HR0.out.cell 3 (v := .int .i64 (k : Int)) rfl
  have i4 := HR0.out.cell 4 (v := .int .i64 (j : Int)) rfl
  have hr := H.out.g.reg HR.out
  have hz := H.out.g.reg HZ.out
  have hdp := H.out.g.tail 0 (v := .pointer (some ⟨d, 0, none⟩)) rfl
  have hnw := H.out.g.tail 2 (v := .int .i64 now) rfl
  simp only [List.take_succ_cons, List.take_zero, List.drop_succ_cons, List.drop_zero]
  repeat (first | still_step)
  refine wpStill_nil ?_
  go_wp2_with fail
  refine (bend_any H.out HB1.out Hsn.out 3 R).mono ?_; rintro e w2 ⟨rfl, vs', vw', ht⟩
  have HT := hid ht
  clear ht i3 i4 hr hz hdp hnw
  go_wp2
  go_end0
  rw [He.out]
  exact ⟨rfl, _, _, (MTurned.none H0.out HG.out).trans HT.out⟩
set_option maxRecDepth 100000 in
set_option maxHeartbeats 4000000 in
theorem priv34 (h : MachAt w B p m bm d n cap q ⟨xs, ⟨l, pc, ie, eie, epc, tv, cc, cd⟩, dv, now, ov, ws⟩ vs vw) (hB : B ≤ w.heap.size) (g : Good n ⟨xs, ⟨l, pc, ie, eie, epc, tv, cc, cd⟩, dv, now, ov, ws⟩) (hn : now ≤ 1000000) (op c im ln : Int) (k j : Nat) (hk : k < 16) (hj : j < 16) (hop : op = 34) :
    Calls Tryz.prog 73 #[.pointer (some ⟨p, 0, none⟩), .agg (spC 6 0 op (k : Int) (j : Int) c im ln)] w (Ran w B p m bm d n cap q vs vw (privP n q ⟨xs, ⟨l, pc, ie, eie, epc, tv, cc, cd⟩, dv, now, ov, ws⟩ op (k : Int) (j : Int) ln)) := by
  have HR0 := hid (RwAt.new w 138 (spC 6 0 op (k : Int) (j : Int) c im ln))
  have HG := hid (grown_alloc (grown_refl w none) (.cells (spC 6 0 op (k : Int) (j : Int) c im ln) 138))
  have H0 := hid h
  have HB := hid hB
  have HGd := hid g
  have HL : Hid (Regs l) := hid g.cpu.regs
  have Hsn : Hid (dv.sn.length ≤ 1000000) := hid (by have h1 := g.seen; have h1 : (dv.sn.length : Int) ≤ now := h1; omega)
  have n0 : 0 ≤ now := g.now0
  obtain ⟨R, hR⟩ : ∃ R, l[k]? = some R := ⟨_, List.getElem?_eq_getElem (by rw [HL.out.len]; exact hk)⟩
  obtain ⟨Z, hZ⟩ : ∃ Z, l[j]? = some Z := ⟨_, List.getElem?_eq_getElem (by rw [HL.out.len]; exact hj)⟩
  have hRI : regI l (k : Int) = R := by unfold regI; rw [Int.toNat_natCast, List.getD_eq_getElem?_getD, hR]; rfl
  have hZI : regI l (j : Int) = Z := by unfold regI; rw [Int.toNat_natCast, List.getD_eq_getElem?_getD, hZ]; rfl
  have HR := hid hR
  have HZ := hid hZ
  have HRI := hid hRI
  have HZI := hid hZI
  have R0 : 0 ≤ R := (HL.out.bd R (List.mem_of_getElem? hR)).1
  have R1 : R < 4294967296 := (HL.out.bd R (List.mem_of_getElem? hR)).2
  have Z0 : 0 ≤ Z := (HL.out.bd Z (List.mem_of_getElem? hZ)).1
  have Z1 : Z < 4294967296 := (HL.out.bd Z (List.mem_of_getElem? hZ)).2
  have k0 : (0 : Int) ≤ (k : Int) := by omega
  have k1 : (k : Int) < 16 := by omega
  have j0 : (0 : Int) ≤ (j : Int) := by omega
  have j1 : (j : Int) < 16 := by omega
  have H := hid (h.kept0 HG.out)
  have HB1 : Hid (B ≤ (w.alloc (.cells (spC 6 0 op (k : Int) (j : Int) c im ln) 138)).heap.size) := hid (Nat.le_trans hB HG.out.size)
  have He : Hid (privP n q ⟨xs, ⟨l, pc, ie, eie, epc, tv, cc, cd⟩, dv, now, ov, ws⟩ op (k : Int) (j : Int) ln = ⟨xs, retP ⟨l, pc, ie, eie, epc, tv, cc, cd⟩, dv, now, ov, ws⟩) := hid (by unfold privP; rw [if_neg (by rw [hop]; decide), if_pos hop])
  have t32 : (op == 32) = false := by rw [hop]; decide
  have t34 : (op == 34) = true := by rw [hop]; decide
  clear hop
  clear h hB g hR hZ hRI hZI
  obtain ⟨b0, hb0⟩ : ∃ b0, b0 = w.heap.size := ⟨_, rfl⟩
  have NB : Hid (w.heap.size ≤ b0) := hid (Nat.le_of_eq hb0.symm)
  rw [← hb0] at HR0
  go_enter Tryz.func73, Tryz.ntmps73
  go_upto_region 1 with (fail)
  generalize w.alloc (.cells (spC 6 0 op (k : Int) (j : Int) c im ln) 138) = w1 at HR0 HG H HB1 ⊢
  rw [← hb0]
  clear hb0
  have i2 := HR0.out.cell 2 (v := .int .i64 op) rfl
  go_upto_region 6 with (fail)
  go_wp2_with (first
    | (refine wpList_load_gcpu rfl _ rfl rfl H.out.g ?_)
    | fail)
  refine (ret_any HL.out _ _ rfl).mono ?_; rintro e w2 ⟨rfl, hg⟩
  have H2 := hid (H.out.kept0 hg)
  have HG2 := hid (grown_trans HG.out hg)
  clear hg i2
  go_wp2_with (first
    | (refine wpList_store_gcpu (z := retP ⟨l, pc, ie, eie, epc, tv, cc, cd⟩) rfl _ _ rfl rfl rfl H2.out.g HL.out.len ?_; intro w3 hG hL; have HT := hid (H2.out.ownT (now' := now) (ov' := ov) hG hL); clear hG hL)
    | fail)
  go_end0
  rw [He.out]
  exact ⟨rfl, _, _, (MTurned.none H0.out HG2.out).trans HT.out⟩
set_option maxRecDepth 100000 in
set_option maxHeartbeats 4000000 in
theorem priv41 (h : MachAt w B p m bm d n cap q ⟨xs, ⟨l, pc, ie, eie, epc, tv, cc, cd⟩, dv, now, ov, ws⟩ vs vw) (hB : B ≤ w.heap.size) (g : Good n ⟨xs, ⟨l, pc, ie, eie, epc, tv, cc, cd⟩, dv, now, ov, ws⟩) (hn : now ≤ 1000000) (op c im ln : Int) (k j : Nat) (hk : k < 16) (hj : j < 16) (hop : op = 41) :
    Calls Tryz.prog 73 #[.pointer (some ⟨p, 0, none⟩), .agg (spC 6 0 op (k : Int) (j : Int) c im ln)] w (Ran w B p m bm d n cap q vs vw (privP n q ⟨xs, ⟨l, pc, ie, eie, epc, tv, cc, cd⟩, dv, now, ov, ws⟩ op (k : Int) (j : Int) ln)) := by
  have HR0 := hid (RwAt.new w 138 (spC 6 0 op (k : Int) (j : Int) c im ln))
  have HG := hid (grown_alloc (grown_refl w none) (.cells (spC 6 0 op (k : Int) (j : Int) c im ln) 138))
  have H0 := hid h
  have HB := hid hB
  have HGd := hid g
  have HL : Hid (Regs l) := hid g.cpu.regs
  have Hsn : Hid (dv.sn.length ≤ 1000000) := hid (by have h1 := g.seen; have h1 : (dv.sn.length : Int) ≤ now := h1; omega)
  have n0 : 0 ≤ now := g.now0
  obtain ⟨R, hR⟩ : ∃ R, l[k]? = some R := ⟨_, List.getElem?_eq_getElem (by rw [HL.out.len]; exact hk)⟩
  obtain ⟨Z, hZ⟩ : ∃ Z, l[j]? = some Z := ⟨_, List.getElem?_eq_getElem (by rw [HL.out.len]; exact hj)⟩
  have hRI : regI l (k : Int) = R := by unfold regI; rw [Int.toNat_natCast, List.getD_eq_getElem?_getD, hR]; rfl
  have hZI : regI l (j : Int) = Z := by unfold regI; rw [Int.toNat_natCast, List.getD_eq_getElem?_getD, hZ]; rfl
  have HR := hid hR
  have HZ := hid hZ
  have HRI := hid hRI
  have HZI := hid hZI
  have R0 : 0 ≤ R := (HL.out.bd R (List.mem_of_getElem? hR)).1
  have R1 : R < 4294967296 := (HL.out.bd R (List.mem_of_getElem? hR)).2
  have Z0 : 0 ≤ Z := (HL.out.bd Z (List.mem_of_getElem? hZ)).1
  have Z1 : Z < 4294967296 := (HL.out.bd Z (List.mem_of_getElem? hZ)).2
  have k0 : (0 : Int) ≤ (k : Int) := by omega
  have k1 : (k : Int) < 16 := by omega
  have j0 : (0 : Int) ≤ (j : Int) := by omega
  have j1 : (j : Int) < 16 := by omega
  have H := hid (h.kept0 HG.out)
  have HB1 : Hid (B ≤ (w.alloc (.cells (spC 6 0 op (k : Int) (j : Int) c im ln) 138)).heap.size) := hid (Nat.le_trans hB HG.out.size)
  have He : Hid (privP n q ⟨xs, ⟨l, pc, ie, eie, epc, tv, cc, cd⟩, dv, now, ov, ws⟩ op (k : Int) (j : Int) ln = advP (putP n q ⟨xs, ⟨l, pc, ie, eie, epc, tv, cc, cd⟩, dv, now, ov, ws⟩ R Z) ln) := hid (by unfold privP midP; rw [if_neg (by rw [hop]; decide), if_neg (by rw [hop]; decide), if_pos hop]; show advP (putP n q _ (regI l (k : Int)) (regI l (j : Int))) ln = _; rw [hRI, hZI])
  have t32 : (op == 32) = false := by rw [hop]; decide
  have t34 : (op == 34) = false := by rw [hop]; decide
  have t41 : (op == 41) = true := by rw [hop]; decide
  clear hop
  clear h hB g hR hZ hRI hZI
  obtain ⟨b0, hb0⟩ : ∃ b0, b0 = w.heap.size := ⟨_, rfl⟩
  have NB : Hid (w.heap.size ≤ b0) := hid (Nat.le_of_eq hb0.symm)
  rw [← hb0] at HR0
  go_enter Tryz.func73, Tryz.ntmps73
  go_upto_region 1 with (fail)
  generalize w.alloc (.cells (spC 6 0 op (k : Int) (j : Int) c im ln) 138) = w1 at HR0 HG H HB1 ⊢
  rw [← hb0]
  clear hb0
  have i2 := HR0.out.cell 2 (v := .int .i64 op) rfl
  go_upto_region 8 with (fail)
  refine region_still 19 (by kernel_rfl) (by kernel_rfl) ?_; intro wd hg
  replace H := hid (H.out.kept0 hg)
  replace HR0 := hid (HR0.out.kept0 hg)
  replace HG := hid (grown_trans HG.out hg)
  replace HB1 : Hid (B ≤ wd.heap.size) := hid (Nat.le_trans HB1.out hg.size)
  clear hg i2
  have i3 := HR0.out.cell 3 (v := .int .i64 (k : Int)) rfl
  have i4 := HR0.out.cell 4 (v := .int .i64 (j : Int)) rfl
  have hr := H.out.g.reg HR.out
  have hz := H.out.g.reg HZ.out
  have hdp := H.out.g.tail 0 (v := .pointer (some ⟨d, 0, none⟩)) rfl
  have hnw := H.out.g.tail 2 (v := .int .i64 now) rfl
  simp only [List.take_succ_cons, List.take_zero, List.drop_succ_cons, List.drop_zero]
  repeat (first | still_step)
  refine wpStill_nil ?_
  go_wp2_with fail
  refine (bput_any H.out HB1.out HGd.out.u32 HGd.out.wait HGd.out.w16 R Z R0 R1 Z0 Z1).mono ?_; rintro e w9 ⟨rfl, vs', vw', ht⟩
  have HT := hid ht
  clear ht i3 i4 hr hz hdp hnw
  have HR9 := hid (HR0.out.mt H0.out NB.out HT.out)
  go_upto_region 17 with (fail)
  refine region_still 8 (by kernel_rfl) (by kernel_rfl) ?_; intro wf hg
  have HT9 := hid (MTurned.none HT.out.at_ hg)
  replace HR9 := hid (HR9.out.kept0 hg)
  clear hg
  have i7 := HR9.out.cell 7 (v := .int .u32 ln) rfl
  have hpc := HT9.out.at_.g.pc
  have hpf := HT9.out.at_.g.free 17
  simp only [List.take_succ_cons, List.take_zero, List.drop_succ_cons, List.drop_zero]
  repeat still_step
  refine wpStill_nil ?_
  go_wp2
  go_end0
  have HTa := HT9.out.at_.advT ln
  rw [He.out]
  exact ⟨rfl, _, _, (MTurned.none H0.out HG.out).trans (HT.out.trans (HT9.out.trans HTa))⟩
set_option maxRecDepth 100000 in
set_option maxHeartbeats 4000000 in
theorem priv42 (h : MachAt w B p m bm d n cap q ⟨xs, ⟨l, pc, ie, eie, epc, tv, cc, cd⟩, dv, now, ov, ws⟩ vs vw) (hB : B ≤ w.heap.size) (g : Good n ⟨xs, ⟨l, pc, ie, eie, epc, tv, cc, cd⟩, dv, now, ov, ws⟩) (hn : now ≤ 1000000) (op c im ln : Int) (k j : Nat) (hk : k < 16) (hj : j < 16) (hop : op = 42) :
    Calls Tryz.prog 73 #[.pointer (some ⟨p, 0, none⟩), .agg (spC 6 0 op (k : Int) (j : Int) c im ln)] w (Ran w B p m bm d n cap q vs vw (privP n q ⟨xs, ⟨l, pc, ie, eie, epc, tv, cc, cd⟩, dv, now, ov, ws⟩ op (k : Int) (j : Int) ln)) := by
  have HR0 := hid (RwAt.new w 138 (spC 6 0 op (k : Int) (j : Int) c im ln))
  have HG := hid (grown_alloc (grown_refl w none) (.cells (spC 6 0 op (k : Int) (j : Int) c im ln) 138))
  have H0 := hid h
  have HB := hid hB
  have HGd := hid g
  have HL : Hid (Regs l) := hid g.cpu.regs
  have Hsn : Hid (dv.sn.length ≤ 1000000) := hid (by have h1 := g.seen; have h1 : (dv.sn.length : Int) ≤ now := h1; omega)
  have n0 : 0 ≤ now := g.now0
  obtain ⟨R, hR⟩ : ∃ R, l[k]? = some R := ⟨_, List.getElem?_eq_getElem (by rw [HL.out.len]; exact hk)⟩
  obtain ⟨Z, hZ⟩ : ∃ Z, l[j]? = some Z := ⟨_, List.getElem?_eq_getElem (by rw [HL.out.len]; exact hj)⟩
  have hRI : regI l (k : Int) = R := by unfold regI; rw [Int.toNat_natCast, List.getD_eq_getElem?_getD, hR]; rfl
  have hZI : regI l (j : Int) = Z := by unfold regI; rw [Int.toNat_natCast, List.getD_eq_getElem?_getD, hZ]; rfl
  have HR := hid hR
  have HZ := hid hZ
  have HRI := hid hRI
  have HZI := hid hZI
  have R0 : 0 ≤ R := (HL.out.bd R (List.mem_of_getElem? hR)).1
  have R1 : R < 4294967296 := (HL.out.bd R (List.mem_of_getElem? hR)).2
  have Z0 : 0 ≤ Z := (HL.out.bd Z (List.mem_of_getElem? hZ)).1
  have Z1 : Z < 4294967296 := (HL.out.bd Z (List.mem_of_getElem? hZ)).2
  have k0 : (0 : Int) ≤ (k : Int) := by omega
  have k1 : (k : Int) < 16 := by omega
  have j0 : (0 : Int) ≤ (j : Int) := by omega
  have j1 : (j : Int) < 16 := by omega
  have H := hid (h.kept0 HG.out)
  have HB1 : Hid (B ≤ (w.alloc (.cells (spC 6 0 op (k : Int) (j : Int) c im ln) 138)).heap.size) := hid (Nat.le_trans hB HG.out.size)
  have He : Hid (privP n q ⟨xs, ⟨l, pc, ie, eie, epc, tv, cc, cd⟩, dv, now, ov, ws⟩ op (k : Int) (j : Int) ln = advP (syncP n ⟨xs, ⟨l, pc, ie, eie, epc, tv, cc, cd⟩, dv, now, ov, ws⟩) ln) := hid (by unfold privP midP; rw [if_neg (by rw [hop]; decide), if_neg (by rw [hop]; decide), if_neg (by rw [hop]; decide), if_pos hop])
  have t32 : (op == 32) = false := by rw [hop]; decide
  have t34 : (op == 34) = false := by rw [hop]; decide
  have t41 : (op == 41) = false := by rw [hop]; decide
  have t42 : (op == 42) = true := by rw [hop]; decide
  clear hop
  clear h hB g hR hZ hRI hZI
  obtain ⟨b0, hb0⟩ : ∃ b0, b0 = w.heap.size := ⟨_, rfl⟩
  have NB : Hid (w.heap.size ≤ b0) := hid (Nat.le_of_eq hb0.symm)
  rw [← hb0] at HR0
  go_enter Tryz.func73, Tryz.ntmps73
  go_upto_region 1 with (fail)
  generalize w.alloc (.cells (spC 6 0 op (k : Int) (j : Int) c im ln) 138) = w1 at HR0 HG H HB1 ⊢
  rw [← hb0]
  clear hb0
  have i2 := HR0.out.cell 2 (v := .int .i64 op) rfl
  go_wp2_with fail
  refine (flush_any H.out HGd.out.u32 HGd.out.wait HGd.out.w16).mono ?_; rintro e w9 ⟨rfl, vs', vw', ht⟩
  have HT := hid ht
  clear ht i2
  have HR9 := hid (HR0.out.mt H0.out NB.out HT.out)
  go_upto_region 17 with (fail)
  refine region_still 8 (by kernel_rfl) (by kernel_rfl) ?_; intro wf hg
  have HT9 := hid (MTurned.none HT.out.at_ hg)
  replace HR9 := hid (HR9.out.kept0 hg)
  clear hg
  have i7 := HR9.out.cell 7 (v := .int .u32 ln) rfl
  have hpc := HT9.out.at_.g.pc
  have hpf := HT9.out.at_.g.free 17
  simp only [List.take_succ_cons, List.take_zero, List.drop_succ_cons, List.drop_zero]
  repeat still_step
  refine wpStill_nil ?_
  go_wp2
  go_end0
  have HTa := HT9.out.at_.advT ln
  rw [He.out]
  exact ⟨rfl, _, _, (MTurned.none H0.out HG.out).trans (HT.out.trans (HT9.out.trans HTa))⟩
set_option maxRecDepth 100000 in
set_option maxHeartbeats 4000000 in
theorem priv35 (h : MachAt w B p m bm d n cap q ⟨xs, ⟨l, pc, ie, eie, epc, tv, cc, cd⟩, dv, now, ov, ws⟩ vs vw) (hB : B ≤ w.heap.size) (g : Good n ⟨xs, ⟨l, pc, ie, eie, epc, tv, cc, cd⟩, dv, now, ov, ws⟩) (hn : now ≤ 1000000) (op c im ln : Int) (k j : Nat) (hk : k < 16) (hj : j < 16) (hop : op = 35) :
    Calls Tryz.prog 73 #[.pointer (some ⟨p, 0, none⟩), .agg (spC 6 0 op (k : Int) (j : Int) c im ln)] w (Ran w B p m bm d n cap q vs vw (privP n q ⟨xs, ⟨l, pc, ie, eie, epc, tv, cc, cd⟩, dv, now, ov, ws⟩ op (k : Int) (j : Int) ln)) := by
  have HR0 := hid (RwAt.new w 138 (spC 6 0 op (k : Int) (j : Int) c im ln))
  have HG := hid (grown_alloc (grown_refl w none) (.cells (spC 6 0 op (k : Int) (j : Int) c im ln) 138))
  have H0 := hid h
  have HB := hid hB
  have HGd := hid g
  have HL : Hid (Regs l) := hid g.cpu.regs
  have Hsn : Hid (dv.sn.length ≤ 1000000) := hid (by have h1 := g.seen; have h1 : (dv.sn.length : Int) ≤ now := h1; omega)
  have n0 : 0 ≤ now := g.now0
  obtain ⟨R, hR⟩ : ∃ R, l[k]? = some R := ⟨_, List.getElem?_eq_getElem (by rw [HL.out.len]; exact hk)⟩
  obtain ⟨Z, hZ⟩ : ∃ Z, l[j]? = some Z := ⟨_, List.getElem?_eq_getElem (by rw [HL.out.len]; exact hj)⟩
  have hRI : regI l (k : Int) = R := by unfold regI; rw [Int.toNat_natCast, List.getD_eq_getElem?_getD, hR]; rfl
  have hZI : regI l (j : Int) = Z := by unfold regI; rw [Int.toNat_natCast, List.getD_eq_getElem?_getD, hZ]; rfl
  have HR := hid hR
  have HZ := hid hZ
  have HRI := hid hRI
  have HZI := hid hZI
  have R0 : 0 ≤ R := (HL.out.bd R (List.mem_of_getElem? hR)).1
  have R1 : R < 4294967296 := (HL.out.bd R (List.mem_of_getElem? hR)).2
  have Z0 : 0 ≤ Z := (HL.out.bd Z (List.mem_of_getElem? hZ)).1
  have Z1 : Z < 4294967296 := (HL.out.bd Z (List.mem_of_getElem? hZ)).2
  have k0 : (0 : Int) ≤ (k : Int) := by omega
  have k1 : (k : Int) < 16 := by omega
  have j0 : (0 : Int) ≤ (j : Int) := by omega
  have j1 : (j : Int) < 16 := by omega
  have H := hid (h.kept0 HG.out)
  have HB1 : Hid (B ≤ (w.alloc (.cells (spC 6 0 op (k : Int) (j : Int) c im ln) 138)).heap.size) := hid (Nat.le_trans hB HG.out.size)
  obtain ⟨L, hL⟩ : ∃ L, devL now dv l op (k : Int) (j : Int) = L := ⟨_, rfl⟩
  obtain ⟨D, hD⟩ : ∃ D, devD now dv l op (k : Int) (j : Int) = D := ⟨_, rfl⟩
  have HLl : Hid (L.length = 16) := hid (by rw [← hL]; exact devL_len HL.out _ _ _ _)
  have He : Hid (privP n q ⟨xs, ⟨l, pc, ie, eie, epc, tv, cc, cd⟩, dv, now, ov, ws⟩ op (k : Int) (j : Int) ln = advP ⟨xs, ⟨L, pc, ie, eie, epc, tv, cc, cd⟩, D, now, ov, ws⟩ ln) := hid (by unfold privP midP; rw [if_neg (by rw [hop]; decide), if_neg (by rw [hop]; decide), if_neg (by rw [hop]; decide), if_neg (by rw [hop]; decide), if_pos (by rw [hop]; decide), ← hL, ← hD])
  have Hdv : Hid (∀ (w' : World), DevAt w' B d dv vs → B ≤ w'.heap.size → Calls Tryz.prog 111 #[.agg (wA l), .pointer (some ⟨d, 0, none⟩), .int .i64 now, .agg (inC op (k : Int) (j : Int) c im)] w' (DvcAt w' B d vs L D)) := hid (fun w' hd hb => by rw [← hL, ← hD]; exact dvc35 hd hb HL.out g.secs g.keys Hsn.out now op hop k j hk hj c im)
  have t32 : (op == 32) = false := by rw [hop]; decide
  have t34 : (op == 34) = false := by rw [hop]; decide
  have t41 : (op == 41) = false := by rw [hop]; decide
  have t42 : (op == 42) = false := by rw [hop]; decide
  have t35 : (op == 35) = true := by rw [hop]; decide
  clear hop hL hD
  clear h hB g hR hZ hRI hZI
  obtain ⟨b0, hb0⟩ : ∃ b0, b0 = w.heap.size := ⟨_, rfl⟩
  have NB : Hid (w.heap.size ≤ b0) := hid (Nat.le_of_eq hb0.symm)
  rw [← hb0] at HR0
  go_enter Tryz.func73, Tryz.ntmps73
  go_upto_region 1 with (fail)
  generalize w.alloc (.cells (spC 6 0 op (k : Int) (j : Int) c im ln) 138) = w1 at HR0 HG H HB1 ⊢
  rw [← hb0]
  clear hb0
  have i2 := HR0.out.cell 2 (v := .int .i64 op) rfl
  go_upto_region 16 with (fail)
  refine region_move 15 (.pointer (some ⟨p, 0, none⟩)) (by kernel_rfl) (by kernel_rfl) (by kernel_rfl) (fun _ => rfl) (fun _ _ _ h => h) ?_; intro wd hg
  replace H := hid (H.out.kept0 hg)
  replace HR0 := hid (HR0.out.kept0 hg)
  replace HG := hid (grown_trans HG.out hg)
  replace HB1 : Hid (B ≤ wd.heap.size) := hid (Nat.le_trans HB1.out hg.size)
  clear hg i2
  have i3 := HR0.out.cell 3 (v := .int .i64 (k : Int)) rfl
  have i4 := HR0.out.cell 4 (v := .int .i64 (j : Int)) rfl
  have hr := H.out.g.reg HR.out
  have hz := H.out.g.reg HZ.out
  have hdp := H.out.g.tail 0 (v := .pointer (some ⟨d, 0, none⟩)) rfl
  have hnw := H.out.g.tail 2 (v := .int .i64 now) rfl
  simp only [List.take_succ_cons, List.take_zero, List.drop_succ_cons, List.drop_zero]
  repeat (first | still_step | (refine wpStill_load_gregs rfl _ rfl rfl H.out.g ?_) | (refine wpStill_load_rng rfl 112 _ rfl rfl HR0.out.ins rfl Tryz.underlying112 (by kernel_rfl) ?_))
  refine wpStill_nil ?_
  go_wp2_with fail
  refine (Hdv.out _ H.out.dev HB1.out).mono ?_; rintro e w2 ⟨rfl, vs', ht⟩
  have HT := hid (H.out.devT ht)
  clear ht i3 i4 hr hz hdp hnw
  go_upto_region 17 with (first
    | (refine wpList_store_gregs rfl _ _ rfl rfl rfl HT.out.at_.g HLl.out ?_; intro w9 hG hL; have HT2 := hid (HT.out.trans (HT.out.at_.ownT (now' := now) (ov' := ov) hG hL)); clear hG hL)
    | fail)
  have HR9 := hid (HR0.out.mt H0.out NB.out HT2.out)
  go_upto_region 17 with (fail)
  refine region_still 8 (by kernel_rfl) (by kernel_rfl) ?_; intro wf hg
  have HT9 := hid (MTurned.none HT2.out.at_ hg)
  replace HR9 := hid (HR9.out.kept0 hg)
  clear hg
  have i7 := HR9.out.cell 7 (v := .int .u32 ln) rfl
  have hpc := HT9.out.at_.g.pc
  have hpf := HT9.out.at_.g.free 17
  simp only [List.take_succ_cons, List.take_zero, List.drop_succ_cons, List.drop_zero]
  repeat still_step
  refine wpStill_nil ?_
  go_wp2
  go_end0
  have HTa := HT9.out.at_.advT ln
  rw [He.out]
  exact ⟨rfl, _, _, (MTurned.none H0.out HG.out).trans (HT2.out.trans (HT9.out.trans HTa))⟩
set_option maxRecDepth 100000 in
set_option maxHeartbeats 4000000 in
theorem priv36 (h : MachAt w B p m bm d n cap q ⟨xs, ⟨l, pc, ie, eie, epc, tv, cc, cd⟩, dv, now, ov, ws⟩ vs vw) (hB : B ≤ w.heap.size) (g : Good n ⟨xs, ⟨l, pc, ie, eie, epc, tv, cc, cd⟩, dv, now, ov, ws⟩) (hn : now ≤ 1000000) (op c im ln : Int) (k j : Nat) (hk : k < 16) (hj : j < 16) (hop : op = 36) :
    Calls Tryz.prog 73 #[.pointer (some ⟨p, 0, none⟩), .agg (spC 6 0 op (k : Int) (j : Int) c im ln)] w (Ran w B p m bm d n cap q vs vw (privP n q ⟨xs, ⟨l, pc, ie, eie, epc, tv, cc, cd⟩, dv, now, ov, ws⟩ op (k : Int) (j : Int) ln)) := by
  have HR0 := hid (RwAt.new w 138 (spC 6 0 op (k : Int) (j : Int) c im ln))
  have HG := hid (grown_alloc (grown_refl w none) (.cells (spC 6 0 op (k : Int) (j : Int) c im ln) 138))
  have H0 := hid h
  have HB := hid hB
  have HGd := hid g
  have HL : Hid (Regs l) := hid g.cpu.regs
  have Hsn : Hid (dv.sn.length ≤ 1000000) := hid (by have h1 := g.seen; have h1 : (dv.sn.length : Int) ≤ now := h1; omega)
  have n0 : 0 ≤ now := g.now0
  obtain ⟨R, hR⟩ : ∃ R, l[k]? = some R := ⟨_, List.getElem?_eq_getElem (by rw [HL.out.len]; exact hk)⟩
  obtain ⟨Z, hZ⟩ : ∃ Z, l[j]? = some Z := ⟨_, List.getElem?_eq_getElem (by rw [HL.out.len]; exact hj)⟩
  have hRI : regI l (k : Int) = R := by unfold regI; rw [Int.toNat_natCast, List.getD_eq_getElem?_getD, hR]; rfl
  have hZI : regI l (j : Int) = Z := by unfold regI; rw [Int.toNat_natCast, List.getD_eq_getElem?_getD, hZ]; rfl
  have HR := hid hR
  have HZ := hid hZ
  have HRI := hid hRI
  have HZI := hid hZI
  have R0 : 0 ≤ R := (HL.out.bd R (List.mem_of_getElem? hR)).1
  have R1 : R < 4294967296 := (HL.out.bd R (List.mem_of_getElem? hR)).2
  have Z0 : 0 ≤ Z := (HL.out.bd Z (List.mem_of_getElem? hZ)).1
  have Z1 : Z < 4294967296 := (HL.out.bd Z (List.mem_of_getElem? hZ)).2
  have k0 : (0 : Int) ≤ (k : Int) := by omega
  have k1 : (k : Int) < 16 := by omega
  have j0 : (0 : Int) ≤ (j : Int) := by omega
  have j1 : (j : Int) < 16 := by omega
  have H := hid (h.kept0 HG.out)
  have HB1 : Hid (B ≤ (w.alloc (.cells (spC 6 0 op (k : Int) (j : Int) c im ln) 138)).heap.size) := hid (Nat.le_trans hB HG.out.size)
  obtain ⟨L, hL⟩ : ∃ L, devL now dv l op (k : Int) (j : Int) = L := ⟨_, rfl⟩
  obtain ⟨D, hD⟩ : ∃ D, devD now dv l op (k : Int) (j : Int) = D := ⟨_, rfl⟩
  have HLl : Hid (L.length = 16) := hid (by rw [← hL]; exact devL_len HL.out _ _ _ _)
  have He : Hid (privP n q ⟨xs, ⟨l, pc, ie, eie, epc, tv, cc, cd⟩, dv, now, ov, ws⟩ op (k : Int) (j : Int) ln = advP ⟨xs, ⟨L, pc, ie, eie, epc, tv, cc, cd⟩, D, now, ov, ws⟩ ln) := hid (by unfold privP midP; rw [if_neg (by rw [hop]; decide), if_neg (by rw [hop]; decide), if_neg (by rw [hop]; decide), if_neg (by rw [hop]; decide), if_pos (by rw [hop]; decide), ← hL, ← hD])
  have Hdv : Hid (∀ (w' : World), DevAt w' B d dv vs → B ≤ w'.heap.size → Calls Tryz.prog 111 #[.agg (wA l), .pointer (some ⟨d, 0, none⟩), .int .i64 now, .agg (inC op (k : Int) (j : Int) c im)] w' (DvcAt w' B d vs L D)) := hid (fun w' hd hb => by rw [← hL, ← hD]; exact dvc36 hd hb HL.out g.secs g.keys Hsn.out now op hop k j hk hj c im)
  have t32 : (op == 32) = false := by rw [hop]; decide
  have t34 : (op == 34) = false := by rw [hop]; decide
  have t41 : (op == 41) = false := by rw [hop]; decide
  have t42 : (op == 42) = false := by rw [hop]; decide
  have t35 : (op == 35) = false := by rw [hop]; decide
  have t36 : (op == 36) = true := by rw [hop]; decide
  clear hop hL hD
  clear h hB g hR hZ hRI hZI
  obtain ⟨b0, hb0⟩ : ∃ b0, b0 = w.heap.size := ⟨_, rfl⟩
  have NB : Hid (w.heap.size ≤ b0) := hid (Nat.le_of_eq hb0.symm)
  rw [← hb0] at HR0
  go_enter Tryz.func73, Tryz.ntmps73
  go_upto_region 1 with (fail)
  generalize w.alloc (.cells (spC 6 0 op (k : Int) (j : Int) c im ln) 138) = w1 at HR0 HG H HB1 ⊢
  rw [← hb0]
  clear hb0
  have i2 := HR0.out.cell 2 (v := .int .i64 op) rfl
  go_upto_region 16 with (fail)
  refine region_move 15 (.pointer (some ⟨p, 0, none⟩)) (by kernel_rfl) (by kernel_rfl) (by kernel_rfl) (fun _ => rfl) (fun _ _ _ h => h) ?_; intro wd hg
  replace H := hid (H.out.kept0 hg)
  replace HR0 := hid (HR0.out.kept0 hg)
  replace HG := hid (grown_trans HG.out hg)
  replace HB1 : Hid (B ≤ wd.heap.size) := hid (Nat.le_trans HB1.out hg.size)
  clear hg i2
  have i3 := HR0.out.cell 3 (v := .int .i64 (k : Int)) rfl
  have i4 := HR0.out.cell 4 (v := .int .i64 (j : Int)) rfl
  have hr := H.out.g.reg HR.out
  have hz := H.out.g.reg HZ.out
  have hdp := H.out.g.tail 0 (v := .pointer (some ⟨d, 0, none⟩)) rfl
  have hnw := H.out.g.tail 2 (v := .int .i64 now) rfl
  simp only [List.take_succ_cons, List.take_zero, List.drop_succ_cons, List.drop_zero]
  repeat (first | still_step | (refine wpStill_load_gregs rfl _ rfl rfl H.out.g ?_) | (refine wpStill_load_rng rfl 112 _ rfl rfl HR0.out.ins rfl Tryz.underlying112 (by kernel_rfl) ?_))
  refine wpStill_nil ?_
  go_wp2_with fail
  refine (Hdv.out _ H.out.dev HB1.out).mono ?_; rintro e w2 ⟨rfl, vs', ht⟩
  have HT := hid (H.out.devT ht)
  clear ht i3 i4 hr hz hdp hnw
  go_upto_region 17 with (first
    | (refine wpList_store_gregs rfl _ _ rfl rfl rfl HT.out.at_.g HLl.out ?_; intro w9 hG hL; have HT2 := hid (HT.out.trans (HT.out.at_.ownT (now' := now) (ov' := ov) hG hL)); clear hG hL)
    | fail)
  have HR9 := hid (HR0.out.mt H0.out NB.out HT2.out)
  go_upto_region 17 with (fail)
  refine region_still 8 (by kernel_rfl) (by kernel_rfl) ?_; intro wf hg
  have HT9 := hid (MTurned.none HT2.out.at_ hg)
  replace HR9 := hid (HR9.out.kept0 hg)
  clear hg
  have i7 := HR9.out.cell 7 (v := .int .u32 ln) rfl
  have hpc := HT9.out.at_.g.pc
  have hpf := HT9.out.at_.g.free 17
  simp only [List.take_succ_cons, List.take_zero, List.drop_succ_cons, List.drop_zero]
  repeat still_step
  refine wpStill_nil ?_
  go_wp2
  go_end0
  have HTa := HT9.out.at_.advT ln
  rw [He.out]
  exact ⟨rfl, _, _, (MTurned.none H0.out HG.out).trans (HT2.out.trans (HT9.out.trans HTa))⟩
set_option maxRecDepth 100000 in
set_option maxHeartbeats 4000000 in
theorem priv37 (h : MachAt w B p m bm d n cap q ⟨xs, ⟨l, pc, ie, eie, epc, tv, cc, cd⟩, dv, now, ov, ws⟩ vs vw) (hB : B ≤ w.heap.size) (g : Good n ⟨xs, ⟨l, pc, ie, eie, epc, tv, cc, cd⟩, dv, now, ov, ws⟩) (hn : now ≤ 1000000) (op c im ln : Int) (k j : Nat) (hk : k < 16) (hj : j < 16) (hop : op = 37) :
    Calls Tryz.prog 73 #[.pointer (some ⟨p, 0, none⟩), .agg (spC 6 0 op (k : Int) (j : Int) c im ln)] w (Ran w B p m bm d n cap q vs vw (privP n q ⟨xs, ⟨l, pc, ie, eie, epc, tv, cc, cd⟩, dv, now, ov, ws⟩ op (k : Int) (j : Int) ln)) := by
  have HR0 := hid (RwAt.new w 138 (spC 6 0 op (k : Int) (j : Int) c im ln))
  have HG := hid (grown_alloc (grown_refl w none) (.cells (spC 6 0 op (k : Int) (j : Int) c im ln) 138))
  have H0 := hid h
  have HB := hid hB
  have HGd := hid g
  have HL : Hid (Regs l) := hid g.cpu.regs
  have Hsn : Hid (dv.sn.length ≤ 1000000) := hid (by have h1 := g.seen; have h1 : (dv.sn.length : Int) ≤ now := h1; omega)
  have n0 : 0 ≤ now := g.now0
  obtain ⟨R, hR⟩ : ∃ R, l[k]? = some R := ⟨_, List.getElem?_eq_getElem (by rw [HL.out.len]; exact hk)⟩
  obtain ⟨Z, hZ⟩ : ∃ Z, l[j]? = some Z := ⟨_, List.getElem?_eq_getElem (by rw [HL.out.len]; exact hj)⟩
  have hRI : regI l (k : Int) = R := by unfold regI; rw [Int.toNat_natCast, List.getD_eq_getElem?_getD, hR]; rfl
  have hZI : regI l (j : Int) = Z := by unfold regI; rw [Int.toNat_natCast, List.getD_eq_getElem?_getD, hZ]; rfl
  have HR := hid hR
  have HZ := hid hZ
  have HRI := hid hRI
  have HZI := hid hZI
  have R0 : 0 ≤ R := (HL.out.bd R (List.mem_of_getElem? hR)).1
  have R1 : R < 4294967296 := (HL.out.bd R (List.mem_of_getElem? hR)).2
  have Z0 : 0 ≤ Z := (HL.out.bd Z (List.mem_of_getElem? hZ)).1
  have Z1 : Z < 4294967296 := (HL.out.bd Z (List.mem_of_getElem? hZ)).2
  have k0 : (0 : Int) ≤ (k : Int) := by omega
  have k1 : (k : Int) < 16 := by omega
  have j0 : (0 : Int) ≤ (j : Int) := by omega
  have j1 : (j : Int) < 16 := by omega
  have H := hid (h.kept0 HG.out)
  have HB1 : Hid (B ≤ (w.alloc (.cells (spC 6 0 op (k : Int) (j : Int) c im ln) 138)).heap.size) := hid (Nat.le_trans hB HG.out.size)
  obtain ⟨L, hL⟩ : ∃ L, devL now dv l op (k : Int) (j : Int) = L := ⟨_, rfl⟩
  obtain ⟨D, hD⟩ : ∃ D, devD now dv l op (k : Int) (j : Int) = D := ⟨_, rfl⟩
  have HLl : Hid (L.length = 16) := hid (by rw [← hL]; exact devL_len HL.out _ _ _ _)
  have He : Hid (privP n q ⟨xs, ⟨l, pc, ie, eie, epc, tv, cc, cd⟩, dv, now, ov, ws⟩ op (k : Int) (j : Int) ln = advP ⟨xs, ⟨L, pc, ie, eie, epc, tv, cc, cd⟩, D, now, ov, ws⟩ ln) := hid (by unfold privP midP; rw [if_neg (by rw [hop]; decide), if_neg (by rw [hop]; decide), if_neg (by rw [hop]; decide), if_neg (by rw [hop]; decide), if_pos (by rw [hop]; decide), ← hL, ← hD])
  have Hdv : Hid (∀ (w' : World), DevAt w' B d dv vs → B ≤ w'.heap.size → Calls Tryz.prog 111 #[.agg (wA l), .pointer (some ⟨d, 0, none⟩), .int .i64 now, .agg (inC op (k : Int) (j : Int) c im)] w' (DvcAt w' B d vs L D)) := hid (fun w' hd hb => by rw [← hL, ← hD]; exact dvc37 hd hb HL.out g.secs g.keys Hsn.out now op hop k j hk hj c im)
  have t32 : (op == 32) = false := by rw [hop]; decide
  have t34 : (op == 34) = false := by rw [hop]; decide
  have t41 : (op == 41) = false := by rw [hop]; decide
  have t42 : (op == 42) = false := by rw [hop]; decide
  have t35 : (op == 35) = false := by rw [hop]; decide
  have t36 : (op == 36) = false := by rw [hop]; decide
  have t37 : (op == 37) = true := by rw [hop]; decide
  clear hop hL hD
  clear h hB g hR hZ hRI hZI
  obtain ⟨b0, hb0⟩ : ∃ b0, b0 = w.heap.size := ⟨_, rfl⟩
  have NB : Hid (w.heap.size ≤ b0) := hid (Nat.le_of_eq hb0.symm)
  rw [← hb0] at HR0
  go_enter Tryz.func73, Tryz.ntmps73
  go_upto_region 1 with (fail)
  generalize w.alloc (.cells (spC 6 0 op (k : Int) (j : Int) c im ln) 138) = w1 at HR0 HG H HB1 ⊢
  rw [← hb0]
  clear hb0
  have i2 := HR0.out.cell 2 (v := .int .i64 op) rfl
  go_upto_region 16 with (fail)
  refine region_move 15 (.pointer (some ⟨p, 0, none⟩)) (by kernel_rfl) (by kernel_rfl) (by kernel_rfl) (fun _ => rfl) (fun _ _ _ h => h) ?_; intro wd hg
  replace H := hid (H.out.kept0 hg)
  replace HR0 := hid (HR0.out.kept0 hg)
  replace HG := hid (grown_trans HG.out hg)
  replace HB1 : Hid (B ≤ wd.heap.size) := hid (Nat.le_trans HB1.out hg.size)
  clear hg i2
  have i3 := HR0.out.cell 3 (v := .int .i64 (k : Int)) rfl
  have i4 := HR0.out.cell 4 (v := .int .i64 (j : Int)) rfl
  have hr := H.out.g.reg HR.out
  have hz := H.out.g.reg HZ.out
  have hdp := H.out.g.tail 0 (v := .pointer (some ⟨d, 0, none⟩)) rfl
  have hnw := H.out.g.tail 2 (v := .int .i64 now) rfl
  simp only [List.take_succ_cons, List.take_zero, List.drop_succ_cons, List.drop_zero]
  repeat (first | still_step | (refine wpStill_load_gregs rfl _ rfl rfl H.out.g ?_) | (refine wpStill_load_rng rfl 112 _ rfl rfl HR0.out.ins rfl Tryz.underlying112 (by kernel_rfl) ?_))
  refine wpStill_nil ?_
  go_wp2_with fail
  refine (Hdv.out _ H.out.dev HB1.out).mono ?_; rintro e w2 ⟨rfl, vs', ht⟩
  have HT := hid (H.out.devT ht)
  clear ht i3 i4 hr hz hdp hnw
  go_upto_region 17 with (first
    | (refine wpList_store_gregs rfl _ _ rfl rfl rfl HT.out.at_.g HLl.out ?_; intro w9 hG hL; have HT2 := hid (HT.out.trans (HT.out.at_.ownT (now' := now) (ov' := ov) hG hL)); clear hG hL)
    | fail)
  have HR9 := hid (HR0.out.mt H0.out NB.out HT2.out)
  go_upto_region 17 with (fail)
  refine region_still 8 (by kernel_rfl) (by kernel_rfl) ?_; intro wf hg
  have HT9 := hid (MTurned.none HT2.out.at_ hg)
  replace HR9 := hid (HR9.out.kept0 hg)
  clear hg
  have i7 := HR9.out.cell 7 (v := .int .u32 ln) rfl
  have hpc := HT9.out.at_.g.pc
  have hpf := HT9.out.at_.g.free 17
  simp only [List.take_succ_cons, List.take_zero, List.drop_succ_cons, List.drop_zero]
  repeat still_step
  refine wpStill_nil ?_
  go_wp2
  go_end0
  have HTa := HT9.out.at_.advT ln
  rw [He.out]
  exact ⟨rfl, _, _, (MTurned.none H0.out HG.out).trans (HT2.out.trans (HT9.out.trans HTa))⟩
set_option maxRecDepth 100000 in
set_option maxHeartbeats 4000000 in
theorem priv38 (h : MachAt w B p m bm d n cap q ⟨xs, ⟨l, pc, ie, eie, epc, tv, cc, cd⟩, dv, now, ov, ws⟩ vs vw) (hB : B ≤ w.heap.size) (g : Good n ⟨xs, ⟨l, pc, ie, eie, epc, tv, cc, cd⟩, dv, now, ov, ws⟩) (hn : now ≤ 1000000) (op c im ln : Int) (k j : Nat) (hk : k < 16) (hj : j < 16) (hop : op = 38) :
    Calls Tryz.prog 73 #[.pointer (some ⟨p, 0, none⟩), .agg (spC 6 0 op (k : Int) (j : Int) c im ln)] w (Ran w B p m bm d n cap q vs vw (privP n q ⟨xs, ⟨l, pc, ie, eie, epc, tv, cc, cd⟩, dv, now, ov, ws⟩ op (k : Int) (j : Int) ln)) := by
  have HR0 := hid (RwAt.new w 138 (spC 6 0 op (k : Int) (j : Int) c im ln))
  have HG := hid (grown_alloc (grown_refl w none) (.cells (spC 6 0 op (k : Int) (j : Int) c im ln) 138))
  have H0 := hid h
  have HB := hid hB
  have HGd := hid g
  have HL : Hid (Regs l) := hid g.cpu.regs
  have Hsn : Hid (dv.sn.length ≤ 1000000) := hid (by have h1 := g.seen; have h1 : (dv.sn.length : Int) ≤ now := h1; omega)
  have n0 : 0 ≤ now := g.now0
  obtain ⟨R, hR⟩ : ∃ R, l[k]? = some R := ⟨_, List.getElem?_eq_getElem (by rw [HL.out.len]; exact hk)⟩
  obtain ⟨Z, hZ⟩ : ∃ Z, l[j]? = some Z := ⟨_, List.getElem?_eq_getElem (by rw [HL.out.len]; exact hj)⟩
  have hRI : regI l (k : Int) = R := by unfold regI; rw [Int.toNat_natCast, List.getD_eq_getElem?_getD, hR]; rfl
  have hZI : regI l (j : Int) = Z := by unfold regI; rw [Int.toNat_natCast, List.getD_eq_getElem?_getD, hZ]; rfl
  have HR := hid hR
  have HZ := hid hZ
  have HRI := hid hRI
  have HZI := hid hZI
  have R0 : 0 ≤ R := (HL.out.bd R (List.mem_of_getElem? hR)).1
  have R1 : R < 4294967296 := (HL.out.bd R (List.mem_of_getElem? hR)).2
  have Z0 : 0 ≤ Z := (HL.out.bd Z (List.mem_of_getElem? hZ)).1
  have Z1 : Z < 4294967296 := (HL.out.bd Z (List.mem_of_getElem? hZ)).2
  have k0 : (0 : Int) ≤ (k : Int) := by omega
  have k1 : (k : Int) < 16 := by omega
  have j0 : (0 : Int) ≤ (j : Int) := by omega
  have j1 : (j : Int) < 16 := by omega
  have H := hid (h.kept0 HG.out)
  have HB1 : Hid (B ≤ (w.alloc (.cells (spC 6 0 op (k : Int) (j : Int) c im ln) 138)).heap.size) := hid (Nat.le_trans hB HG.out.size)
  obtain ⟨L, hL⟩ : ∃ L, devL now dv l op (k : Int) (j : Int) = L := ⟨_, rfl⟩
  obtain ⟨D, hD⟩ : ∃ D, devD now dv l op (k : Int) (j : Int) = D := ⟨_, rfl⟩
  have HLl : Hid (L.length = 16) := hid (by rw [← hL]; exact devL_len HL.out _ _ _ _)
  have He : Hid (privP n q ⟨xs, ⟨l, pc, ie, eie, epc, tv, cc, cd⟩, dv, now, ov, ws⟩ op (k : Int) (j : Int) ln = advP ⟨xs, ⟨L, pc, ie, eie, epc, tv, cc, cd⟩, D, now, ov, ws⟩ ln) := hid (by unfold privP midP; rw [if_neg (by rw [hop]; decide), if_neg (by rw [hop]; decide), if_neg (by rw [hop]; decide), if_neg (by rw [hop]; decide), if_pos (by rw [hop]; decide), ← hL, ← hD])
  have Hdv : Hid (∀ (w' : World), DevAt w' B d dv vs → B ≤ w'.heap.size → Calls Tryz.prog 111 #[.agg (wA l), .pointer (some ⟨d, 0, none⟩), .int .i64 now, .agg (inC op (k : Int) (j : Int) c im)] w' (DvcAt w' B d vs L D)) := hid (fun w' hd hb => by rw [← hL, ← hD]; exact dvc38 hd hb HL.out g.secs g.keys Hsn.out now op hop k j hk hj c im)
  have t32 : (op == 32) = false := by rw [hop]; decide
  have t34 : (op == 34) = false := by rw [hop]; decide
  have t41 : (op == 41) = false := by rw [hop]; decide
  have t42 : (op == 42) = false := by rw [hop]; decide
  have t35 : (op == 35) = false := by rw [hop]; decide
  have t36 : (op == 36) = false := by rw [hop]; decide
  have t37 : (op == 37) = false := by rw [hop]; decide
  have t38 : (op == 38) = true := by rw [hop]; decide
  clear hop hL hD
  clear h hB g hR hZ hRI hZI
  obtain ⟨b0, hb0⟩ : ∃ b0, b0 = w.heap.size := ⟨_, rfl⟩
  have NB : Hid (w.heap.size ≤ b0) := hid (Nat.le_of_eq hb0.symm)
  rw [← hb0] at HR0
  go_enter Tryz.func73, Tryz.ntmps73
  go_upto_region 1 with (fail)
  generalize w.alloc (.cells (spC 6 0 op (k : Int) (j : Int) c im ln) 138) = w1 at HR0 HG H HB1 ⊢
  rw [← hb0]
  clear hb0
  have i2 := HR0.out.cell 2 (v := .int .i64 op) rfl
  go_upto_region 16 with (fail)
  refine region_move 15 (.pointer (some ⟨p, 0, none⟩)) (by kernel_rfl) (by kernel_rfl) (by kernel_rfl) (fun _ => rfl) (fun _ _ _ h => h) ?_; intro wd hg
  replace H := hid (H.out.kept0 hg)
  replace HR0 := hid (HR0.out.kept0 hg)
  replace HG := hid (grown_trans HG.out hg)
  replace HB1 : Hid (B ≤ wd.heap.size) := hid (Nat.le_trans HB1.out hg.size)
  clear hg i2
  have i3 := HR0.out.cell 3 (v := .int .i64 (k : Int)) rfl
  have i4 := HR0.out.cell 4 (v := .int .i64 (j : Int)) rfl
  have hr := H.out.g.reg HR.out
  have hz := H.out.g.reg HZ.out
  have hdp := H.out.g.tail 0 (v := .pointer (some ⟨d, 0, none⟩)) rfl
  have hnw := H.out.g.tail 2 (v := .int .i64 now) rfl
  simp only [List.take_succ_cons, List.take_zero, List.drop_succ_cons, List.drop_zero]
  repeat (first | still_step | (refine wpStill_load_gregs rfl _ rfl rfl H.out.g ?_) | (refine wpStill_load_rng rfl 112 _ rfl rfl HR0.out.ins rfl Tryz.underlying112 (by kernel_rfl) ?_))
  refine wpStill_nil ?_
  go_wp2_with fail
  refine (Hdv.out _ H.out.dev HB1.out).mono ?_; rintro e w2 ⟨rfl, vs', ht⟩
  have HT := hid (H.out.devT ht)
  clear ht i3 i4 hr hz hdp hnw
  go_upto_region 17 with (first
    | (refine wpList_store_gregs rfl _ _ rfl rfl rfl HT.out.at_.g HLl.out ?_; intro w9 hG hL; have HT2 := hid (HT.out.trans (HT.out.at_.ownT (now' := now) (ov' := ov) hG hL)); clear hG hL)
    | fail)
  have HR9 := hid (HR0.out.mt H0.out NB.out HT2.out)
  go_upto_region 17 with (fail)
  refine region_still 8 (by kernel_rfl) (by kernel_rfl) ?_; intro wf hg
  have HT9 := hid (MTurned.none HT2.out.at_ hg)
  replace HR9 := hid (HR9.out.kept0 hg)
  clear hg
  have i7 := HR9.out.cell 7 (v := .int .u32 ln) rfl
  have hpc := HT9.out.at_.g.pc
  have hpf := HT9.out.at_.g.free 17
  simp only [List.take_succ_cons, List.take_zero, List.drop_succ_cons, List.drop_zero]
  repeat still_step
  refine wpStill_nil ?_
  go_wp2
  go_end0
  have HTa := HT9.out.at_.advT ln
  rw [He.out]
  exact ⟨rfl, _, _, (MTurned.none H0.out HG.out).trans (HT2.out.trans (HT9.out.trans HTa))⟩
set_option maxRecDepth 100000 in
set_option maxHeartbeats 4000000 in
theorem priv39 (h : MachAt w B p m bm d n cap q ⟨xs, ⟨l, pc, ie, eie, epc, tv, cc, cd⟩, dv, now, ov, ws⟩ vs vw) (hB : B ≤ w.heap.size) (g : Good n ⟨xs, ⟨l, pc, ie, eie, epc, tv, cc, cd⟩, dv, now, ov, ws⟩) (hn : now ≤ 1000000) (op c im ln : Int) (k j : Nat) (hk : k < 16) (hj : j < 16) (hop : op = 39) :
    Calls Tryz.prog 73 #[.pointer (some ⟨p, 0, none⟩), .agg (spC 6 0 op (k : Int) (j : Int) c im ln)] w (Ran w B p m bm d n cap q vs vw (privP n q ⟨xs, ⟨l, pc, ie, eie, epc, tv, cc, cd⟩, dv, now, ov, ws⟩ op (k : Int) (j : Int) ln)) := by
  have HR0 := hid (RwAt.new w 138 (spC 6 0 op (k : Int) (j : Int) c im ln))
  have HG := hid (grown_alloc (grown_refl w none) (.cells (spC 6 0 op (k : Int) (j : Int) c im ln) 138))
  have H0 := hid h
  have HB := hid hB
  have HGd := hid g
  have HL : Hid (Regs l) := hid g.cpu.regs
  have Hsn : Hid (dv.sn.length ≤ 1000000) := hid (by have h1 := g.seen; have h1 : (dv.sn.length : Int) ≤ now := h1; omega)
  have n0 : 0 ≤ now := g.now0
  obtain ⟨R, hR⟩ : ∃ R, l[k]? = some R := ⟨_, List.getElem?_eq_getElem (by rw [HL.out.len]; exact hk)⟩
  obtain ⟨Z, hZ⟩ : ∃ Z, l[j]? = some Z := ⟨_, List.getElem?_eq_getElem (by rw [HL.out.len]; exact hj)⟩
  have hRI : regI l (k : Int) = R := by unfold regI; rw [Int.toNat_natCast, List.getD_eq_getElem?_getD, hR]; rfl
  have hZI : regI l (j : Int) = Z := by unfold regI; rw [Int.toNat_natCast, List.getD_eq_getElem?_getD, hZ]; rfl
  have HR := hid hR
  have HZ := hid hZ
  have HRI := hid hRI
  have HZI := hid hZI
  have R0 : 0 ≤ R := (HL.out.bd R (List.mem_of_getElem? hR)).1
  have R1 : R < 4294967296 := (HL.out.bd R (List.mem_of_getElem? hR)).2
  have Z0 : 0 ≤ Z := (HL.out.bd Z (List.mem_of_getElem? hZ)).1
  have Z1 : Z < 4294967296 := (HL.out.bd Z (List.mem_of_getElem? hZ)).2
  have k0 : (0 : Int) ≤ (k : Int) := by omega
  have k1 : (k : Int) < 16 := by omega
  have j0 : (0 : Int) ≤ (j : Int) := by omega
  have j1 : (j : Int) < 16 := by omega
  have H := hid (h.kept0 HG.out)
  have HB1 : Hid (B ≤ (w.alloc (.cells (spC 6 0 op (k : Int) (j : Int) c im ln) 138)).heap.size) := hid (Nat.le_trans hB HG.out.size)
  obtain ⟨L, hL⟩ : ∃ L, devL now dv l op (k : Int) (j : Int) = L := ⟨_, rfl⟩
  obtain ⟨D, hD⟩ : ∃ D, devD now dv l op (k : Int) (j : Int) = D := ⟨_, rfl⟩
  have HLl : Hid (L.length = 16) := hid (by rw [← hL]; exact devL_len HL.out _ _ _ _)
  have He : Hid (privP n q ⟨xs, ⟨l, pc, ie, eie, epc, tv, cc, cd⟩, dv, now, ov, ws⟩ op (k : Int) (j : Int) ln = advP ⟨xs, ⟨L, pc, ie, eie, epc, tv, cc, cd⟩, D, now, ov, ws⟩ ln) := hid (by unfold privP midP; rw [if_neg (by rw [hop]; decide), if_neg (by rw [hop]; decide), if_neg (by rw [hop]; decide), if_neg (by rw [hop]; decide), if_pos (by rw [hop]; decide), ← hL, ← hD])
  have Hdv : Hid (∀ (w' : World), DevAt w' B d dv vs → B ≤ w'.heap.size → Calls Tryz.prog 111 #[.agg (wA l), .pointer (some ⟨d, 0, none⟩), .int .i64 now, .agg (inC op (k : Int) (j : Int) c im)] w' (DvcAt w' B d vs L D)) := hid (fun w' hd hb => by rw [← hL, ← hD]; exact dvc39 hd hb HL.out g.secs g.keys Hsn.out now op hop k j hk hj c im)
  have t32 : (op == 32) = false := by rw [hop]; decide
  have t34 : (op == 34) = false := by rw [hop]; decide
  have t41 : (op == 41) = false := by rw [hop]; decide
  have t42 : (op == 42) = false := by rw [hop]; decide
  have t35 : (op == 35) = false := by rw [hop]; decide
  have t36 : (op == 36) = false := by rw [hop]; decide
  have t37 : (op == 37) = false := by rw [hop]; decide
  have t38 : (op == 38) = false := by rw [hop]; decide
  have t39 : (op == 39) = true := by rw [hop]; decide
  clear hop hL hD
  clear h hB g hR hZ hRI hZI
  obtain ⟨b0, hb0⟩ : ∃ b0, b0 = w.heap.size := ⟨_, rfl⟩
  have NB : Hid (w.heap.size ≤ b0) := hid (Nat.le_of_eq hb0.symm)
  rw [← hb0] at HR0
  go_enter Tryz.func73, Tryz.ntmps73
  go_upto_region 1 with (fail)
  generalize w.alloc (.cells (spC 6 0 op (k : Int) (j : Int) c im ln) 138) = w1 at HR0 HG H HB1 ⊢
  rw [← hb0]
  clear hb0
  have i2 := HR0.out.cell 2 (v := .int .i64 op) rfl
  go_upto_region 16 with (fail)
  refine region_move 15 (.pointer (some ⟨p, 0, none⟩)) (by kernel_rfl) (by kernel_rfl) (by kernel_rfl) (fun _ => rfl) (fun _ _ _ h => h) ?_; intro wd hg
  replace H := hid (H.out.kept0 hg)
  replace HR0 := hid (HR0.out.kept0 hg)
  replace HG := hid (grown_trans HG.out hg)
  replace HB1 : Hid (B ≤ wd.heap.size) := hid (Nat.le_trans HB1.out hg.size)
  clear hg i2
  have i3 := HR0.out.cell 3 (v := .int .i64 (k : Int)) rfl
  have i4 := HR0.out.cell 4 (v := .int .i64 (j : Int)) rfl
  have hr := H.out.g.reg HR.out
  have hz := H.out.g.reg HZ.out
  have hdp := H.out.g.tail 0 (v := .pointer (some ⟨d, 0, none⟩)) rfl
  have hnw := H.out.g.tail 2 (v := .int .i64 now) rfl
  simp only [List.take_succ_cons, List.take_zero, List.drop_succ_cons, List.drop_zero]
  repeat (first | still_step | (refine wpStill_load_gregs rfl _ rfl rfl H.out.g ?_) | (refine wpStill_load_rng rfl 112 _ rfl rfl HR0.out.ins rfl Tryz.underlying112 (by kernel_rfl) ?_))
  refine wpStill_nil ?_
  go_wp2_with fail
  refine (Hdv.out _ H.out.dev HB1.out).mono ?_; rintro e w2 ⟨rfl, vs', ht⟩
  have HT := hid (H.out.devT ht)
  clear ht i3 i4 hr hz hdp hnw
  go_upto_region 17 with (first
    | (refine wpList_store_gregs rfl _ _ rfl rfl rfl HT.out.at_.g HLl.out ?_; intro w9 hG hL; have HT2 := hid (HT.out.trans (HT.out.at_.ownT (now' := now) (ov' := ov) hG hL)); clear hG hL)
    | fail)
  have HR9 := hid (HR0.out.mt H0.out NB.out HT2.out)
  go_upto_region 17 with (fail)
  refine region_still 8 (by kernel_rfl) (by kernel_rfl) ?_; intro wf hg
  have HT9 := hid (MTurned.none HT2.out.at_ hg)
  replace HR9 := hid (HR9.out.kept0 hg)
  clear hg
  have i7 := HR9.out.cell 7 (v := .int .u32 ln) rfl
  have hpc := HT9.out.at_.g.pc
  have hpf := HT9.out.at_.g.free 17
  simp only [List.take_succ_cons, List.take_zero, List.drop_succ_cons, List.drop_zero]
  repeat still_step
  refine wpStill_nil ?_
  go_wp2
  go_end0
  have HTa := HT9.out.at_.advT ln
  rw [He.out]
  exact ⟨rfl, _, _, (MTurned.none H0.out HG.out).trans (HT2.out.trans (HT9.out.trans HTa))⟩
set_option maxRecDepth 100000 in
set_option maxHeartbeats 4000000 in
theorem privP_any (h : MachAt w B p m bm d n cap q ⟨xs, ⟨l, pc, ie, eie, epc, tv, cc, cd⟩, dv, now, ov, ws⟩ vs vw) (hB : B ≤ w.heap.size) (g : Good n ⟨xs, ⟨l, pc, ie, eie, epc, tv, cc, cd⟩, dv, now, ov, ws⟩) (hn : now ≤ 1000000) (op c im ln : Int) (k j : Nat) (hk : k < 16) (hj : j < 16) (hop : op = 33 ∨ op = 40 ∨ op = 43 ∨ op = 44 ∨ op = 64 ∨ op = 65 ∨ op = 66 ∨ op = 67) :
    Calls Tryz.prog 73 #[.pointer (some ⟨p, 0, none⟩), .agg (spC 6 0 op (k : Int) (j : Int) c im ln)] w (Ran w B p m bm d n cap q vs vw (privP n q ⟨xs, ⟨l, pc, ie, eie, epc, tv, cc, cd⟩, dv, now, ov, ws⟩ op (k : Int) (j : Int) ln)) := by
  have HR0 := hid (RwAt.new w 138 (spC 6 0 op (k : Int) (j : Int) c im ln))
  have HG := hid (grown_alloc (grown_refl w none) (.cells (spC 6 0 op (k : Int) (j : Int) c im ln) 138))
  have H0 := hid h
  have HB := hid hB
  have HGd := hid g
  have HL : Hid (Regs l) := hid g.cpu.regs
  have Hsn : Hid (dv.sn.length ≤ 1000000) := hid (by have h1 := g.seen; have h1 : (dv.sn.length : Int) ≤ now := h1; omega)
  have n0 : 0 ≤ now := g.now0
  obtain ⟨R, hR⟩ : ∃ R, l[k]? = some R := ⟨_, List.getElem?_eq_getElem (by rw [HL.out.len]; exact hk)⟩
  obtain ⟨Z, hZ⟩ : ∃ Z, l[j]? = some Z := ⟨_, List.getElem?_eq_getElem (by rw [HL.out.len]; exact hj)⟩
  have hRI : regI l (k : Int) = R := by unfold regI; rw [Int.toNat_natCast, List.getD_eq_getElem?_getD, hR]; rfl
  have hZI : regI l (j : Int) = Z := by unfold regI; rw [Int.toNat_natCast, List.getD_eq_getElem?_getD, hZ]; rfl
  have HR := hid hR
  have HZ := hid hZ
  have HRI := hid hRI
  have HZI := hid hZI
  have R0 : 0 ≤ R := (HL.out.bd R (List.mem_of_getElem? hR)).1
  have R1 : R < 4294967296 := (HL.out.bd R (List.mem_of_getElem? hR)).2
  have Z0 : 0 ≤ Z := (HL.out.bd Z (List.mem_of_getElem? hZ)).1
  have Z1 : Z < 4294967296 := (HL.out.bd Z (List.mem_of_getElem? hZ)).2
  have k0 : (0 : Int) ≤ (k : Int) := by omega
  have k1 : (k : Int) < 16 := by omega
  have j0 : (0 : Int) ≤ (j : Int) := by omega
  have j1 : (j : Int) < 16 := by omega
  have H := hid (h.kept0 HG.out)
  have HB1 : Hid (B ≤ (w.alloc (.cells (spC 6 0 op (k : Int) (j : Int) c im ln) 138)).heap.size) := hid (Nat.le_trans hB HG.out.size)
  obtain ⟨y, hy⟩ : ∃ y, prcP now ⟨l, pc, ie, eie, epc, tv, cc, cd⟩ op (k : Int) = y := ⟨_, rfl⟩
  have Hyl : Hid (y.l.length = 16) := hid (by rw [← hy]; exact prcP_len HL.out _ _ _)
  have He : Hid (privP n q ⟨xs, ⟨l, pc, ie, eie, epc, tv, cc, cd⟩, dv, now, ov, ws⟩ op (k : Int) (j : Int) ln = advP ⟨xs, y, dv, now, ov, ws⟩ ln) := hid (by unfold privP midP; rw [if_neg (by omega), if_neg (by omega), if_neg (by omega), if_neg (by omega), if_neg (by unfold isDev; simp; omega), ← hy])
  have Hpr : Hid (∀ (w' : World), Calls Tryz.prog 112 #[.agg (cpuC ⟨l, pc, ie, eie, epc, tv, cc, cd⟩), .int .i64 now, .agg (inC op (k : Int) (j : Int) c im)] w' fun e w2 => e = .returned (.agg (cpuC y)) ∧ w'.grownBy w2 none) := hid (fun w' => by rw [← hy]; exact prc_all HL.out now op n0 hn hop k hk _ _ _ w')
  have t32 : (op == 32) = false := by simp; omega
  have t34 : (op == 34) = false := by simp; omega
  have t41 : (op == 41) = false := by simp; omega
  have t42 : (op == 42) = false := by simp; omega
  have t35 : (op == 35) = false := by simp; omega
  have t36 : (op == 36) = false := by simp; omega
  have t37 : (op == 37) = false := by simp; omega
  have t38 : (op == 38) = false := by simp; omega
  have t39 : (op == 39) = false := by simp; omega
  clear hop hy
  clear h hB g hR hZ hRI hZI
  obtain ⟨b0, hb0⟩ : ∃ b0, b0 = w.heap.size := ⟨_, rfl⟩
  have NB : Hid (w.heap.size ≤ b0) := hid (Nat.le_of_eq hb0.symm)
  rw [← hb0] at HR0
  go_enter Tryz.func73, Tryz.ntmps73
  go_upto_region 1 with (fail)
  generalize w.alloc (.cells (spC 6 0 op (k : Int) (j : Int) c im ln) 138) = w1 at HR0 HG H HB1 ⊢
  rw [← hb0]
  clear hb0
  have i2 := HR0.out.cell 2 (v := .int .i64 op) rfl
  go_upto_region 2 with (fail)
  refine region_move 10 (.pointer (some ⟨p, 0, none⟩)) (by kernel_rfl) (by kernel_rfl) (by kernel_rfl) (fun _ => rfl) (fun _ _ _ h => h) ?_; intro wd hg
  replace H := hid (H.out.kept0 hg)
  replace HR0 := hid (HR0.out.kept0 hg)
  replace HG := hid (grown_trans HG.out hg)
  replace HB1 : Hid (B ≤ wd.heap.size) := hid (Nat.le_trans HB1.out hg.size)
  clear hg i2
  have i3 := HR0.out.cell 3 (v := .int .i64 (k : Int)) rfl
  have i4 := HR0.out.cell 4 (v := .int .i64 (j : Int)) rfl
  have hr := H.out.g.reg HR.out
  have hz := H.out.g.reg HZ.out
  have hdp := H.out.g.tail 0 (v := .pointer (some ⟨d, 0, none⟩)) rfl
  have hnw := H.out.g.tail 2 (v := .int .i64 now) rfl
  simp only [List.take_succ_cons, List.take_zero, List.drop_succ_cons, List.drop_zero]
  repeat (first | still_step | (refine wpStill_load_gcpu rfl _ rfl rfl H.out.g ?_) | (refine wpStill_load_rng rfl 112 _ rfl rfl HR0.out.ins rfl Tryz.underlying112 (by kernel_rfl) ?_))
  refine wpStill_nil ?_
  go_wp2_with fail
  refine (Hpr.out _).mono ?_; rintro e w2 ⟨rfl, hg⟩
  have HN := hid (MTurned.none H.out hg)
  clear hg i3 i4 hr hz hdp hnw
  go_upto_region 17 with (first
    | (refine wpList_store_gcpu (z := y) rfl _ _ rfl rfl rfl HN.out.at_.g Hyl.out ?_; intro w9 hG hL; have HT2 := hid (HN.out.trans (HN.out.at_.ownT (now' := now) (ov' := ov) hG hL)); clear hG hL)
    | fail)
  have HR9 := hid (HR0.out.mt H0.out NB.out HT2.out)
  go_upto_region 17 with (fail)
  refine region_still 8 (by kernel_rfl) (by kernel_rfl) ?_; intro wf hg
  have HT9 := hid (MTurned.none HT2.out.at_ hg)
  replace HR9 := hid (HR9.out.kept0 hg)
  clear hg
  have i7 := HR9.out.cell 7 (v := .int .u32 ln) rfl
  have hpc := HT9.out.at_.g.pc
  have hpf := HT9.out.at_.g.free 17
  simp only [List.take_succ_cons, List.take_zero, List.drop_succ_cons, List.drop_zero]
  repeat still_step
  refine wpStill_nil ?_
  go_wp2
  go_end0
  have HTa := HT9.out.at_.advT ln
  rw [He.out]
  exact ⟨rfl, _, _, (MTurned.none H0.out HG.out).trans (HT2.out.trans (HT9.out.trans HTa))⟩
end
end Go.Proofs.YtkkbhifplbleiaaGreatDoor

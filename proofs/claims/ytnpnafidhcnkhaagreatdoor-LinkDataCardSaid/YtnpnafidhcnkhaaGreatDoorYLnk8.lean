/- Package link: all objects as one: contract. (Made by golnk8.py.) -/
import Derived.Test.YtnpnafidhcnkhaaGreatDoorYLnk6
import Derived.Test.YtnpnafidhcnkhaaGreatDoorYLnk7
import Derived.Laws.OwnMore
namespace Go.Proofs.YtnpnafidhcnkhaaGreatDoor
open Go.RowKit
theorem info_whole : (Tryz.prog.info? 75).map (·.size) = some 5 := by kernel_rfl
theorem zero_whole (w : World) : (zeroValue 75).run Tryz.prog w = .ok (.agg #[.slice none 0 0, .slice none 0 0, .slice none 0 0, .slice none 0 0, .slice none 0 0]) w := by kernel_rfl
theorem build_whole (p1 p2 p3 : Option Addr) (n1 c1 n2 c2 n3 c3 : Nat) (w : World) : (Instr.build 75 #[(0, .slice p1 n1 c1), (1, .slice p2 n2 c2), (2, .slice p3 n3 c3)]).run Tryz.prog w = .ok (.agg #[.slice p1 n1 c1, .slice p2 n2 c2, .slice p3 n3 c3, .slice none 0 0, .slice none 0 0]) w := by kernel_rfl
/-- the rows of what is joined so far -/
def whRo (v1 v2 v3 v4 v5 : Value) (X : Wh) : List Ro :=
  [⟨v1, 27, 1, X.D.length, X.D.map (Value.int .u32)⟩, ⟨v2, 27, 1, X.C.length, X.C.map (Value.int .u32)⟩, ⟨v3, 5, 1, X.K.length, X.K.map (Value.int .u8)⟩,
   ⟨v4, 106, 5, X.R.length, fxsL X.R⟩, ⟨v5, 106, 5, X.Q.length, fxsL X.Q⟩]
def WhAt (W w : World) (e : Ending) (X : Wh) : Prop := ∃ v1 v2 v3 v4 v5, e = .returned (.agg #[v1, v2, v3, v4, v5]) ∧ (∀ r ∈ whRo v1 v2 v3 v4 v5 X, w.ownsRow W.heap.size r.e r.z r.v r.n r.xs) ∧ (∀ g, v1.ownBlock = some g → v2.ownBlock ≠ some g) ∧ W.grownBy w none
theorem grown_setCellN {w w1 : World} {b : Nat} (h : w.grownBy w1 none) (hb : w.heap.size ≤ b) (k : Nat) (v : Value) : w.grownBy (w1.setCell ⟨b, k, none⟩ v) none :=
  grown_new' (grown_trans (grown_none h) (grown_setCell (grown_refl w1 (some b)) k v)) (fun g e => by have := Option.some.inj e; omega)
theorem info_u8w : ∃ i : TypeInfo, Tryz.prog.info? 5 = some i ∧ i.zero = some (.int .u8 0) ∧ i.size = 1 ∧ i.bytes = 1 := info_parts (P := Tryz.prog) (e := 5) (z := .int .u8 0) (size := 1) (bytes := 1) (by kernel_rfl)
theorem info_u32w : ∃ i : TypeInfo, Tryz.prog.info? 27 = some i ∧ i.zero = some (.int .u32 0) ∧ i.size = 1 ∧ i.bytes = 4 := info_parts (P := Tryz.prog) (e := 27) (z := .int .u32 0) (size := 1) (bytes := 4) (by kernel_rfl)
theorem make0_u32 (N : Nat) (hN : N ≤ 1000000) : ∃ C : Array Value, C.size = N * 1 ∧ ∀ w : World, (Instr.makeSlice 36 (.int .i64 0) (.int .i64 (N : Int))).run Tryz.prog w = .ok (.slice (some ⟨w.heap.size, 0, none⟩) 0 N) (w.alloc (.cells C 27)) := by
  obtain ⟨i, hi, hz0, hz1, hz2⟩ := info_u32w
  refine ⟨madeCells (Value.int .u32 0).cells (N * 1), size_madeCells _ _, fun w => ?_⟩
  · have := run_make (P := Tryz.prog) w 36 27 i _ Tryz.underlying36 hi hz0 .i64 .i64 0 N (by omega) (by omega) (by rw [hz2]; omega) (by omega)
    rw [hz1] at this
    simp only [Int.toNat_natCast, Int.toNat_zero] at this
    exact this
theorem make0_u8 (N : Nat) (hN : N ≤ 1000000) : ∃ C : Array Value, C.size = N * 1 ∧ ∀ w : World, (Instr.makeSlice 37 (.int .i64 0) (.int .i64 (N : Int))).run Tryz.prog w = .ok (.slice (some ⟨w.heap.size, 0, none⟩) 0 N) (w.alloc (.cells C 5)) := by
  obtain ⟨i, hi, hz0, hz1, hz2⟩ := info_u8w
  refine ⟨madeCells (Value.int .u8 0).cells (N * 1), size_madeCells _ _, fun w => ?_⟩
  · have := run_make (P := Tryz.prog) w 37 5 i _ Tryz.underlying37 hi hz0 .i64 .i64 0 N (by omega) (by omega) (by rw [hz2]; omega) (by omega)
    rw [hz1] at this
    simp only [Int.toNat_natCast, Int.toNat_zero] at this
    exact this
theorem heap4 (w : World) (a b c d : Obj) : w.grownBy ((((w.alloc a).alloc b).alloc c).alloc d).drew none ∧ ((((w.alloc a).alloc b).alloc c).alloc d).drew.heap[w.heap.size]? = some a ∧ ((((w.alloc a).alloc b).alloc c).alloc d).drew.heap[w.heap.size + 1]? = some b ∧
    ((((w.alloc a).alloc b).alloc c).alloc d).drew.heap[w.heap.size + 1 + 1]? = some c ∧ ((((w.alloc a).alloc b).alloc c).alloc d).drew.heap[w.heap.size + 1 + 1 + 1]? = some d := by
  refine ⟨grown_drew (grown_alloc (grown_alloc (grown_alloc (grown_alloc (grown_refl w none) a) b) c) d), ?_, ?_, ?_, ?_⟩
  · show ((((w.alloc a).alloc b).alloc c).alloc d).heap[w.heap.size]? = _
    rw [heap_alloc_old _ _ (by simp <;> omega), heap_alloc_old _ _ (by simp <;> omega), heap_alloc_old _ _ (by simp)]
    exact heap_alloc_last w a
  · show ((((w.alloc a).alloc b).alloc c).alloc d).heap[w.heap.size + 1]? = _
    rw [heap_alloc_old _ _ (by simp <;> omega), heap_alloc_old _ _ (by simp)]
    have := heap_alloc_last (w.alloc a) b
    simpa using this
  · show ((((w.alloc a).alloc b).alloc c).alloc d).heap[w.heap.size + 1 + 1]? = _
    rw [heap_alloc_old _ _ (by simp)]
    have := heap_alloc_last ((w.alloc a).alloc b) c
    simpa using this
  · show ((((w.alloc a).alloc b).alloc c).alloc d).heap[w.heap.size + 1 + 1 + 1]? = _
    have := heap_alloc_last (((w.alloc a).alloc b).alloc c) d
    simpa using this
theorem wh_start {w1 w' : World} {base b1 b2 b3 H jd jc : Nat} {C1 C2 C3 : Array Value} (hs : base ≤ w1.heap.size) (hC : C1.size = jd * 1 ∧ C2.size = jc * 1 ∧ C3.size = jc * 1) (hj : jd ≤ 1000000 ∧ jc ≤ 1000000) (g : w1.grownBy w' none)
    (h1 : w'.heap[b1]? = some (.cells C1 27)) (h2 : w'.heap[b2]? = some (.cells C2 27)) (h3 : w'.heap[b3]? = some (.cells C3 5))
    (hH : w'.heap[H]? = some (.cells #[.slice (some ⟨b1, 0, none⟩) 0 jd, .slice (some ⟨b2, 0, none⟩) 0 jc, .slice (some ⟨b3, 0, none⟩) 0 jc, .slice none 0 0, .slice none 0 0] 75))
    (d : w1.heap.size ≤ b1 ∧ w1.heap.size ≤ b2 ∧ w1.heap.size ≤ b3 ∧ w1.heap.size ≤ H ∧ b1 ≠ b2 ∧ b1 ≠ b3 ∧ b2 ≠ b3 ∧ b1 ≠ H ∧ b2 ≠ H ∧ b3 ≠ H) :
    RosAt w' base H 75 (whRo (.slice (some ⟨b1, 0, none⟩) 0 jd) (.slice (some ⟨b2, 0, none⟩) 0 jc) (.slice (some ⟨b3, 0, none⟩) 0 jc) (.slice none 0 0) (.slice none 0 0) wh0) ∧ w1.grownBy w' none := by
  obtain ⟨d1, d2, d3, d4, d5, d6, d7, d8, d9, d10⟩ := d
  obtain ⟨c1, c2, c3⟩ := hC
  refine ⟨⟨⟨hH⟩, ?_, ?_, ?_, by omega⟩, g⟩
  · intro r hr
    simp only [whRo, List.mem_cons, List.not_mem_nil, or_false] at hr
    rcases hr with rfl | rfl | rfl | rfl | rfl
    · exact ⟨by simp [wh0], .inr ⟨b1, jd, C1, rfl, by omega, h1, Nat.zero_le _, by unfold maxLen; omega, c1, by simp [wh0]⟩⟩
    · exact ⟨by simp [wh0], .inr ⟨b2, jc, C2, rfl, by omega, h2, Nat.zero_le _, by unfold maxLen; omega, c2, by simp [wh0]⟩⟩
    · exact ⟨by simp [wh0], .inr ⟨b3, jc, C3, rfl, by omega, h3, Nat.zero_le _, by unfold maxLen; omega, c3, by simp [wh0]⟩⟩
    · exact World.ownsRow_nil _ _ _ _
    · exact World.ownsRow_nil _ _ _ _
  · intro r hr
    simp only [whRo, List.mem_cons, List.not_mem_nil, or_false] at hr
    rcases hr with rfl | rfl | rfl | rfl | rfl <;> intro e <;> simp [Value.ownBlock] at e <;> omega
  · intro i j a b hij ha hb g hg hbg
    have hi := (List.getElem?_eq_some_iff.1 ha).1
    have hj := (List.getElem?_eq_some_iff.1 hb).1
    simp only [whRo, List.length_cons, List.length_nil] at hi hj
    have hi5 : i = 0 ∨ i = 1 ∨ i = 2 ∨ i = 3 ∨ i = 4 := by omega
    have hj5 : j = 0 ∨ j = 1 ∨ j = 2 ∨ j = 3 ∨ j = 4 := by omega
    rcases hi5 with rfl | rfl | rfl | rfl | rfl <;> rcases hj5 with rfl | rfl | rfl | rfl | rfl <;> simp [whRo] at ha hb hij <;> subst ha <;> subst hb <;> simp [Value.ownBlock] at hg hbg <;> omega
theorem ros_step {W w w1 : World} {R H k n' : Nat} {t : TypeId} {Z : Array Value} {L : List Ro} {r : Ro} {v' : Value} {xs' : List Value} (hz : RwAt w R t Z) (hr : RosAt w (R + 1) H t L) (hW : W.grownBy w none) (hRe : W.heap.size = R) (hk : L[k]? = some r)
    (ho : w1.ownsRow (R + 1) r.e r.z v' n' xs') (hg : w.grownBy w1 r.v.ownBlock) (hat : v'.ownBlock = r.v.ownBlock ∨ v'.ownBlock = some w.heap.size) :
    RwAt (w1.setCell ⟨H, k, none⟩ v') R t Z ∧ RosAt (w1.setCell ⟨H, k, none⟩ v') (R + 1) H t (L.set k ⟨v', r.e, r.z, n', xs'⟩) ∧ W.grownBy (w1.setCell ⟨H, k, none⟩ v') none := by
  have hge := hr.ge
  refine ⟨(hz.kept hg ?_).other H k v' (by omega), hr.step hk ho hg hat, hr.grown hW (by omega) hk hg⟩
  intro e
  have := ((hr.at_ hk).lt R e.symm).1
  omega
theorem y_step {w w1 : World} {Y H k B n z : Nat} {t e : TypeId} {Z : Array Value} {v v' : Value} {xs : List Value} (hy : RwAt w Y t Z) (ho : w.ownsRow B e z v n xs) (he : e ≠ t) (hg : w.grownBy w1 v.ownBlock) (hH : Y ≠ H) : RwAt (w1.setCell ⟨H, k, none⟩ v') Y t Z := by
  refine (hy.kept hg ?_).other H k v' hH
  intro e1
  rcases ho.2 with ⟨rfl, _⟩ | ⟨g, cap, cur, rfl, _, hb, _⟩
  · cases e1
  · have : Y = g := Option.some.inj e1
    subst this
    have h2 := hb.symm.trans hy.blk
    simp only [Option.some.injEq, Obj.cells.injEq] at h2
    exact he h2.2.1
theorem y_keep {w w1 : World} {Y B n z : Nat} {t e : TypeId} {Z : Array Value} {v : Value} {xs : List Value} (hy : RwAt w Y t Z) (ho : w.ownsRow B e z v n xs) (he : e ≠ t) (hg : w.grownBy w1 v.ownBlock) : RwAt w1 Y t Z := by
  refine hy.kept hg ?_
  intro e1
  rcases ho.2 with ⟨rfl, _⟩ | ⟨g, cap, cur, rfl, _, hb, _⟩
  · cases e1
  · have : Y = g := Option.some.inj e1
    subst this
    have h2 := hb.symm.trans hy.blk
    simp only [Option.some.injEq, Obj.cells.injEq] at h2
    exact he h2.2.1
theorem fxs_one (l : List Fx) : ∀ v ∈ fxsL l, v.oneCell' = true := csL_oneC (fun a v hv => by
  simp only [fxL, List.mem_cons, List.not_mem_nil, or_false] at hv
  rcases hv with rfl | rfl | rfl | rfl | rfl <;> rfl) l
/-- where the loop over the parts stands -/
structure WhW (W w : World) (b0 G B R H : Nat) (pv : Value) (Q : List Pv) (J : Jn) (v1 v2 v3 v4 v5 : Value) (X : Wh) (k : Nat) : Prop where
  j : JnAt b0 w G B pv Q J
  z : RwAt w R 75 #[.slice none 0 0, .slice none 0 0, .slice none 0 0, .slice none 0 0, .slice none 0 0]
  r : RosAt w (R + 1) H 75 (whRo v1 v2 v3 v4 v5 X)
  g : W.grownBy w none
  e : (J.ps.take k).foldl (whAdd J.M) wh0 = X
  b : X.D.length ≤ k * 1000000 ∧ X.C.length ≤ k * 1000000 ∧ X.K.length ≤ k * 1000000 ∧ X.R.length ≤ k * 1000000 ∧ X.Q.length ≤ k * 1000000
theorem WhW.kept0 {W w w1 : World} {b0 G B R H k : Nat} {pv : Value} {Q : List Pv} {J : Jn} {v1 v2 v3 v4 v5 : Value} {X : Wh} (h : WhW W w b0 G B R H pv Q J v1 v2 v3 v4 v5 X k) (hg : w.grownBy w1 none) : WhW W w1 b0 G B R H pv Q J v1 v2 v3 v4 v5 X k :=
  ⟨h.j.kept0 hg, h.z.kept0 hg, h.r.kept0 hg, grown_trans h.g hg, h.e, h.b⟩
set_option maxRecDepth 100000 in
set_option maxHeartbeats 16000000 in
theorem whole_any (W : World) {b0 G B : Nat} {pv : Value} {Q : List Pv} {J : Jn} (h : JnAt b0 W G B pv Q J) (ho : ∀ q ∈ Q, OAt W q.V q.p.x ∧ PtOk q.p) (hb : J.d ≤ 60000 ∧ J.c ≤ 60000) (hn : Q.length ≤ 20) :
    Calls Tryz.prog 38 #[.pointer (some ⟨G, 0, none⟩)] W fun e w' => WhAt W w' e (whP J) := by
  have HJ := hid h
  have HO := hid ho
  have Hn := hid hn
  obtain ⟨jp, jd, jc, jm⟩ := J
  obtain ⟨hd, hc⟩ := hb
  simp only at hd hc
  have d0 : (0 : Int) ≤ (jd : Int) := by omega
  have d1 : (jd : Int) ≤ 60000 := by omega
  have c0 : (0 : Int) ≤ (jc : Int) := by omega
  have c1 : (jc : Int) ≤ 60000 := by omega
  have Hz := zero_whole
  have hal := World.grownBy_alloc W (.cells #[.slice none 0 0, .slice none 0 0, .slice none 0 0, .slice none 0 0, .slice none 0 0] 75) none
  have HJ1 := hid (h.kept0 hal)
  have HR1 := hid (RwAt.new W 75 #[.slice none 0 0, .slice none 0 0, .slice none 0 0, .slice none 0 0, .slice none 0 0])
  have HG1 := hid hal
  clear h ho hn hd hc hal
  go_enter Tryz.func38, Tryz.ntmps38
  go_upto_region 1 with (fail)
  obtain ⟨R, hR⟩ : ∃ R, W.heap.size = R := ⟨_, rfl⟩
  have HRe := hid hR
  rw [hR] at HR1 ⊢
  generalize W.alloc (.cells #[.slice none 0 0, .slice none 0 0, .slice none 0 0, .slice none 0 0, .slice none 0 0] 75) = w1 at HJ1 HR1 HG1 ⊢
  clear hR Hz
  have HJd := hid (HJ1.out.kept0 (grown_drew (grown_refl w1 none)))
  have k1 := HJd.out.row.cell 1 (v := .int .i64 (jd : Int)) rfl
  have k2 := HJd.out.row.cell 2 (v := .int .i64 (jc : Int)) rfl
  have hbw := build_whole
  obtain ⟨C1, hC1, hm1⟩ := make0_u32 jd (by omega)
  obtain ⟨C2, hC2, hm2⟩ := make0_u32 jc (by omega)
  obtain ⟨C3, hC3, hm3⟩ := make0_u8 jc (by omega)
  have HC := hid (And.intro hC1 (And.intro hC2 hC3))
  have Hk : Hid (∀ W', w1.grownBy W' none → W'.cell? ⟨G, 1, none⟩ = some (.int .i64 (jd : Int)) ∧ W'.cell? ⟨G, 2, none⟩ = some (.int .i64 (jc : Int))) := hid (fun W' hg => ⟨(HJ1.out.kept0 hg).row.cell 1 rfl, (HJ1.out.kept0 hg).row.cell 2 rfl⟩)
  clear hC1 hC2 hC3
  have HS1 : Hid (R + 1 ≤ w1.heap.size) := hid HR1.out.lt
  go_cut [3, 10, 15, 20] from 6 to 21 (fun u v1 v2 v3 wz => ∃ H b1 b2 b3, u = .pointer (some ⟨H, 0, none⟩) ∧ v1 = .slice (some ⟨b1, 0, none⟩) 0 jd ∧ v2 = .slice (some ⟨b2, 0, none⟩) 0 jc ∧ v3 = .slice (some ⟨b3, 0, none⟩) 0 jc ∧
    Hid (RosAt wz (R + 1) H 75 (whRo (.slice (some ⟨b1, 0, none⟩) 0 jd) (.slice (some ⟨b2, 0, none⟩) 0 jc) (.slice (some ⟨b3, 0, none⟩) 0 jc) (.slice none 0 0) (.slice none 0 0) wh0) ∧ w1.grownBy wz none))
  case first =>
    rename_i hJ0 hJ
    go_region_held3 (fun W => W.cell? ⟨G, 1, none⟩ = some (.int .i64 (jd : Int)) ∧ W.cell? ⟨G, 2, none⟩ = some (.int .i64 (jc : Int)))
      (first | (with_reducible exact ⟨k1, k2⟩) | (exact Hk.out _ (by repeat (first | exact grown_refl _ _ | refine grown_drew ?_ | refine grown_alloc ?_ _ | refine grown_setCellN ?_ (by simp) _ _))))
      (fail)
    all_goals
      refine hJ _ _ (Met.intro (hJ0 _ _ ?_))
      repeat apply Exists.intro
      refine ⟨?_, rfl⟩
      refine ⟨_, _, _, _, rfl, rfl, rfl, rfl, hid (wh_start HS1.out HC.out ⟨by omega, by omega⟩ (heap4 w1 _ _ _ _).1 ?_ ?_ ?_ ?_ ?_)⟩
      all_goals first | with_reducible exact (heap4 _ _ _ _ _).2.1 | with_reducible exact (heap4 _ _ _ _ _).2.2.1 | with_reducible exact (heap4 _ _ _ _ _).2.2.2.1 | with_reducible exact (heap4 _ _ _ _ _).2.2.2.2 | exact ⟨by omega, by omega, by omega, by omega, by omega, by omega, by omega, by omega, by omega, by omega⟩
  case rest =>
    obtain ⟨H, b1, b2, b3, rfl, rfl, rfl, rfl, HW⟩ := hcut
    rename World => w2
    have HJ2 := hid (HJ1.out.kept0 HW.out.2)
    have HR2 := hid (HR1.out.kept0 HW.out.2)
    have HG2 := hid (grown_trans HG1.out HW.out.2)
    have Hlt : Hid (G < R ∧ B < R) := hid ⟨by rw [← HRe.out]; exact HJ.out.row.lt, by rw [← HRe.out]; exact HJ.out.mp.lt⟩
    have HW2 := hid HW.out.1
    clear HJ1 HR1 HG1 Hk k1 k2 hm1 hm2 hm3 hbw HC HJd HS1 HW
    obtain ⟨sp, sc, hpv⟩ := own_slice HJ2.out.ps
    obtain ⟨N, hN⟩ : ∃ N, Q.length = N := ⟨_, rfl⟩
    have HN := hid hN
    rw [hN] at hpv
    subst hpv
    have n0 : (0 : Int) ≤ (N : Int) := by omega
    have n1 : (N : Int) ≤ 20 := by have := Hn.out; omega
    have HN20 : Hid (N ≤ 20) := hid (by omega)
    have g0 := HJ2.out.row.cell 0 (v := .slice sp N sc) rfl
    have HI0 : Hid (WhW W w2 b0 G B R H (.slice sp N sc) Q ⟨jp, jd, jc, jm⟩ (.slice (some ⟨b1, 0, none⟩) 0 jd) (.slice (some ⟨b2, 0, none⟩) 0 jc) (.slice (some ⟨b3, 0, none⟩) 0 jc) (.slice none 0 0) (.slice none 0 0) wh0 0) := hid ⟨HJ2.out, HR2.out, HW2.out, HG2.out, rfl, by simp [wh0]⟩
    go_wp2
    clear g0 HJ2 HR2 HW2 HG2 hN
    go_loopw [27] (fun i wr => ∃ (k : Nat) (v1 v2 v3 v4 v5 : Value) (X : Wh), k ≤ N ∧ i = .int .i64 k ∧ Hid (WhW W wr b0 G B R H (.slice sp N sc) Q ⟨jp, jd, jc, jm⟩ v1 v2 v3 v4 v5 X k)) (fun i _ => N - (intOf i).toNat)
    case atStart => exact ⟨0, _, _, _, _, _, wh0, Nat.zero_le _, rfl, HI0⟩
    case round =>
      obtain ⟨k, v1, v2, v3, v4, v5, X, hk, rfl, HR⟩ := hrel
      clear HI0
      have k0 : (0 : Int) ≤ (k : Int) := by omega
      by_cases hlt : k < N
      · have kn : (k : Int) < (N : Int) := by omega
        have Hkl := hid hlt
        obtain ⟨⟨V, ⟨x, pd, pc⟩⟩, hq⟩ : ∃ q, Q[k]? = some q := ⟨_, List.getElem?_eq_getElem (by rw [HN.out]; exact hlt)⟩
        have Hqm := hid (List.mem_of_getElem? hq)
        have Hps2 : Hid (jp[k]? = some ⟨x, pd, pc⟩) := hid (by have h := HR.out.j.eq; simp only at h; rw [← h, List.getElem?_map, hq]; rfl)
        have Hpk := hid (HO.out _ Hqm.out).2
        have hoat := (HO.out _ Hqm.out).1.kept0 HR.out.g
        obtain ⟨p1, m1, e1, p2, m2, e2, p3, m3, e3, p4, m4, e4, p5, m5, e5, p6, m6, e6, hV⟩ := OAt.cells hoat
        simp only at hV hoat
        subst hV
        have Hoat := hid hoat
        have hps := CsAt.own HR.out.j.ps
        obtain ⟨bq, oq, cq, hv, hbq, g0, g1, g2, g3, g4, g5, g6, g7⟩ := pt_item hps hq
        rw [HN.out] at hv
        simp only [Value.slice.injEq, true_and] at hv
        obtain ⟨rfl, rfl⟩ := hv
        simp only at g0 g1 g2 g3 g4 g5 g6 g7
        have hal := World.grownBy_alloc wr (.cells #[.slice p1 m1 e1, .slice p2 m2 e2, .slice p3 m3 e3, .slice p4 m4 e4, .slice p5 m5 e5, .slice p6 m6 e6, .int .i64 (pd : Int), .int .i64 (pc : Int)] 121) none
        have HR3 := hid (HR.out.kept0 hal)
        have HY := hid (RwAt.new wr 121 #[.slice p1 m1 e1, .slice p2 m2 e2, .slice p3 m3 e3, .slice p4 m4 e4, .slice p5 m5 e5, .slice p6 m6 e6, .int .i64 (pd : Int), .int .i64 (pc : Int)])
        have Hoat2 := hid (Hoat.out.kept0 hal)
        have Hzp := zero_part
        have HRh : Hid (H < wr.heap.size) := hid HR.out.r.row.lt
        clear hal hq hoat hps hbq hlt
        go_upto_region 5 with (fail)
        clear g0 g1 g2 g3 g4 g5 g6 g7 HR Hzp
        obtain ⟨Y, hY⟩ : ∃ Y, wr.heap.size = Y := ⟨_, rfl⟩
        have HHY : Hid (Y ≠ H) := hid (by have := HRh.out; omega)
        rw [hY] at HY ⊢
        clear hY HRh
        generalize wr.alloc (.cells #[.slice p1 m1 e1, .slice p2 m2 e2, .slice p3 m3 e3, .slice p4 m4 e4, .slice p5 m5 e5, .slice p6 m6 e6, .int .i64 (pd : Int), .int .i64 (pc : Int)] 121) = w3 at HR3 HY Hoat2 ⊢
        have HA0 : Hid (RwAt w3 R 75 #[.slice none 0 0, .slice none 0 0, .slice none 0 0, .slice none 0 0, .slice none 0 0] ∧ RosAt w3 (R + 1) H 75 (whRo v1 v2 v3 v4 v5 ⟨X.D, X.C, X.K, X.R, X.Q⟩) ∧ W.grownBy w3 none ∧ RwAt w3 Y 121 #[.slice p1 m1 e1, .slice p2 m2 e2, .slice p3 m3 e3, .slice p4 m4 e4, .slice p5 m5 e5, .slice p6 m6 e6, .int .i64 (pd : Int), .int .i64 (pc : Int)]) := hid ⟨HR3.out.z, HR3.out.r, HR3.out.g, HY.out⟩
        have HB := hid HR3.out.b
        have HE := hid HR3.out.e
        clear HR3 HY Hoat2 Hoat
        have hoat := (HO.out _ Hqm.out).1.kept0 HA0.out.2.2.1
        simp only at hoat
        have Hoat0 := hid hoat
        obtain ⟨i0, hi, hz0, hz1, hz2⟩ := info_u32w
        have Hi0 := hid hi
        have Hz00 := hid hz0
        have Hz10 := hid hz1
        have Hz20 := hid hz2
        have Hown0 := hid (HA0.out.2.1.at_ (k := 0) rfl)
        have Hsrc0 := hid (SlAt.src Hoat0.out.d)
        have Hlen0 : Hid (x.D.length = m1 ∧ X.D.length ≤ 20000000 ∧ x.D.length ≤ 1000000) := hid (by
          obtain ⟨q1, q2, hq⟩ := Hoat0.out.d.len'
          simp only [Value.slice.injEq] at hq
          have h1 := HB.out.1
          have h2 := Hkl.out
          have h3 := HN20.out
          have h4 : x.D.length ≤ 1000000 := Hpk.out.b.len.1
          exact ⟨hq.2.1.symm, by omega, h4⟩)
        have hx0 : (.slice p1 m1 e1 : Value) = .slice p1 x.D.length e1 := by rw [Hlen0.out.1]
        have fd0 := HA0.out.2.1.row.cell 0 (v := v1) rfl
        have fy0 := HA0.out.2.2.2.cell 0 (v := .slice p1 m1 e1) rfl
        clear hi hz0 hz1 hz2 hx0 hoat
        go_upto_region 6 with (first
          | (refine wpList_append_any rfl (.tmp 32) (.tmp 35) 36 rfl (R + 1) 27 i0 _ 1 4 Tryz.underlying36 Hi0.out Hz00.out Hz10.out Hz20.out rfl (by decide) v1 X.D.length (X.D.map (Value.int .u32)) rfl Hown0.out (.slice p1 m1 e1) x.D.length (x.D.map (Value.int .u32)) rfl Hsrc0.out (by have h1 := Hlen0.out; unfold maxLen; omega) (by have h1 := Hlen0.out; omega) HA0.out.2.1.size ?_
             intro nv w3a hown hgr hat
             obtain ⟨sp0, sc0, rfl⟩ := own_slice hown
             have HS0 := hid (And.intro hown (And.intro hgr hat))
             have hrw := HA0.out.2.1.row.kept hgr (Ne.symm (HA0.out.2.1.neH _ (List.mem_of_getElem? (i := 0) rfl)))
             have fc0 := hrw.cell 0 (v := v1) rfl
             have fz0 := hrw.free 0
             clear hown hgr hat hrw)
          | fail)
        clear fd0 fy0 fc0 fz0
        have HA1 : Hid (RwAt (w3a.setCell ⟨H, 0, none⟩ (.slice sp0 (X.D.length + x.D.length) sc0)) R 75 #[.slice none 0 0, .slice none 0 0, .slice none 0 0, .slice none 0 0, .slice none 0 0] ∧ RosAt (w3a.setCell ⟨H, 0, none⟩ (.slice sp0 (X.D.length + x.D.length) sc0)) (R + 1) H 75 (whRo (.slice sp0 (X.D.length + x.D.length) sc0) v2 v3 v4 v5 ⟨X.D ++ x.D, X.C, X.K, X.R, X.Q⟩) ∧ W.grownBy (w3a.setCell ⟨H, 0, none⟩ (.slice sp0 (X.D.length + x.D.length) sc0)) none ∧ RwAt (w3a.setCell ⟨H, 0, none⟩ (.slice sp0 (X.D.length + x.D.length) sc0)) Y 121 #[.slice p1 m1 e1, .slice p2 m2 e2, .slice p3 m3 e3, .slice p4 m4 e4, .slice p5 m5 e5, .slice p6 m6 e6, .int .i64 (pd : Int), .int .i64 (pc : Int)]) := hid (by
          obtain ⟨h1, h2, h3⟩ := ros_step HA0.out.1 HA0.out.2.1 HA0.out.2.2.1 HRe.out (k := 0) rfl HS0.out.1 HS0.out.2.1 HS0.out.2.2
          refine ⟨h1, ?_, h3, y_step HA0.out.2.2.2 Hown0.out (show (27 : TypeId) ≠ 121 from by decide) HS0.out.2.1 HHY.out⟩
          have e : whRo (.slice sp0 (X.D.length + x.D.length) sc0) v2 v3 v4 v5 ⟨X.D ++ x.D, X.C, X.K, X.R, X.Q⟩ = (whRo v1 v2 v3 v4 v5 ⟨X.D, X.C, X.K, X.R, X.Q⟩).set 0 ⟨(.slice sp0 (X.D.length + x.D.length) sc0), 27, 1, X.D.length + x.D.length, X.D.map (Value.int .u32) ++ x.D.map (Value.int .u32)⟩ := by
            simp [whRo]
          rw [e]
          exact h2)
        clear HA0 HS0 Hown0 Hsrc0 Hi0 Hz00 Hz10 Hz20 Hoat0
        generalize w3a.setCell ⟨H, 0, none⟩ (.slice sp0 (X.D.length + x.D.length) sc0) = w4 at HA1 ⊢
        have hoat := (HO.out _ Hqm.out).1.kept0 HA1.out.2.2.1
        simp only at hoat
        have Hoat1 := hid hoat
        obtain ⟨i1, hi, hz0, hz1, hz2⟩ := info_u32w
        have Hi1 := hid hi
        have Hz01 := hid hz0
        have Hz11 := hid hz1
        have Hz21 := hid hz2
        have Hown1 := hid (HA1.out.2.1.at_ (k := 1) rfl)
        have Hsrc1 := hid (SlAt.src Hoat1.out.c)
        have Hlen1 : Hid (x.C.length = m2 ∧ X.C.length ≤ 20000000 ∧ x.C.length ≤ 1000000) := hid (by
          obtain ⟨q1, q2, hq⟩ := Hoat1.out.c.len'
          simp only [Value.slice.injEq] at hq
          have h1 := HB.out.2.1
          have h2 := Hkl.out
          have h3 := HN20.out
          have h4 : x.C.length ≤ 1000000 := Hpk.out.b.len.2.1
          exact ⟨hq.2.1.symm, by omega, h4⟩)
        have hx1 : (.slice p2 m2 e2 : Value) = .slice p2 x.C.length e2 := by rw [Hlen1.out.1]
        have fd1 := HA1.out.2.1.row.cell 1 (v := v2) rfl
        have fy1 := HA1.out.2.2.2.cell 1 (v := .slice p2 m2 e2) rfl
        clear hi hz0 hz1 hz2 hx1 hoat
        go_upto_region 7 with (first
          | (refine wpList_append_any rfl (.tmp 39) (.tmp 42) 36 rfl (R + 1) 27 i1 _ 1 4 Tryz.underlying36 Hi1.out Hz01.out Hz11.out Hz21.out rfl (by decide) v2 X.C.length (X.C.map (Value.int .u32)) rfl Hown1.out (.slice p2 m2 e2) x.C.length (x.C.map (Value.int .u32)) rfl Hsrc1.out (by have h1 := Hlen1.out; unfold maxLen; omega) (by have h1 := Hlen1.out; omega) HA1.out.2.1.size ?_
             intro nv w4a hown hgr hat
             obtain ⟨sp1, sc1, rfl⟩ := own_slice hown
             have HS1 := hid (And.intro hown (And.intro hgr hat))
             have hrw := HA1.out.2.1.row.kept hgr (Ne.symm (HA1.out.2.1.neH _ (List.mem_of_getElem? (i := 1) rfl)))
             have fc1 := hrw.cell 1 (v := v2) rfl
             have fz1 := hrw.free 1
             clear hown hgr hat hrw)
          | fail)
        clear fd1 fy1 fc1 fz1
        have HA2 : Hid (RwAt (w4a.setCell ⟨H, 1, none⟩ (.slice sp1 (X.C.length + x.C.length) sc1)) R 75 #[.slice none 0 0, .slice none 0 0, .slice none 0 0, .slice none 0 0, .slice none 0 0] ∧ RosAt (w4a.setCell ⟨H, 1, none⟩ (.slice sp1 (X.C.length + x.C.length) sc1)) (R + 1) H 75 (whRo (.slice sp0 (X.D.length + x.D.length) sc0) (.slice sp1 (X.C.length + x.C.length) sc1) v3 v4 v5 ⟨X.D ++ x.D, X.C ++ x.C, X.K, X.R, X.Q⟩) ∧ W.grownBy (w4a.setCell ⟨H, 1, none⟩ (.slice sp1 (X.C.length + x.C.length) sc1)) none ∧ RwAt (w4a.setCell ⟨H, 1, none⟩ (.slice sp1 (X.C.length + x.C.length) sc1)) Y 121 #[.slice p1 m1 e1, .slice p2 m2 e2, .slice p3 m3 e3, .slice p4 m4 e4, .slice p5 m5 e5, .slice p6 m6 e6, .int .i64 (pd : Int), .int .i64 (pc : Int)]) := hid (by
          obtain ⟨h1, h2, h3⟩ := ros_step HA1.out.1 HA1.out.2.1 HA1.out.2.2.1 HRe.out (k := 1) rfl HS1.out.1 HS1.out.2.1 HS1.out.2.2
          refine ⟨h1, ?_, h3, y_step HA1.out.2.2.2 Hown1.out (show (27 : TypeId) ≠ 121 from by decide) HS1.out.2.1 HHY.out⟩
          have e : whRo (.slice sp0 (X.D.length + x.D.length) sc0) (.slice sp1 (X.C.length + x.C.length) sc1) v3 v4 v5 ⟨X.D ++ x.D, X.C ++ x.C, X.K, X.R, X.Q⟩ = (whRo (.slice sp0 (X.D.length + x.D.length) sc0) v2 v3 v4 v5 ⟨X.D ++ x.D, X.C, X.K, X.R, X.Q⟩).set 1 ⟨(.slice sp1 (X.C.length + x.C.length) sc1), 27, 1, X.C.length + x.C.length, X.C.map (Value.int .u32) ++ x.C.map (Value.int .u32)⟩ := by
            simp [whRo]
          rw [e]
          exact h2)
        clear HA1 HS1 Hown1 Hsrc1 Hi1 Hz01 Hz11 Hz21 Hoat1
        generalize w4a.setCell ⟨H, 1, none⟩ (.slice sp1 (X.C.length + x.C.length) sc1) = w5 at HA2 ⊢
        have hoat := (HO.out _ Hqm.out).1.kept0 HA2.out.2.2.1
        simp only at hoat
        have Hoat2 := hid hoat
        obtain ⟨i2, hi, hz0, hz1, hz2⟩ := info_u8w
        have Hi2 := hid hi
        have Hz02 := hid hz0
        have Hz12 := hid hz1
        have Hz22 := hid hz2
        have Hown2 := hid (HA2.out.2.1.at_ (k := 2) rfl)
        have Hsrc2 := hid (SlAt.src Hoat2.out.m)
        have Hlen2 : Hid (x.M.length = m3 ∧ X.K.length ≤ 20000000 ∧ x.M.length ≤ 1000000) := hid (by
          obtain ⟨q1, q2, hq⟩ := Hoat2.out.m.len'
          simp only [Value.slice.injEq] at hq
          have h1 := HB.out.2.2.1
          have h2 := Hkl.out
          have h3 := HN20.out
          have h4 : x.M.length ≤ 1000000 := Hpk.out.b.len.2.2.1
          exact ⟨hq.2.1.symm, by omega, h4⟩)
        have hx2 : (.slice p3 m3 e3 : Value) = .slice p3 x.M.length e3 := by rw [Hlen2.out.1]
        have fd2 := HA2.out.2.1.row.cell 2 (v := v3) rfl
        have fy2 := HA2.out.2.2.2.cell 2 (v := .slice p3 m3 e3) rfl
        clear hi hz0 hz1 hz2 hx2 hoat
        go_upto_region 8 with (first
          | (refine wpList_append_any rfl (.tmp 46) (.tmp 49) 37 rfl (R + 1) 5 i2 _ 1 1 Tryz.underlying37 Hi2.out Hz02.out Hz12.out Hz22.out rfl (by decide) v3 X.K.length (X.K.map (Value.int .u8)) rfl Hown2.out (.slice p3 m3 e3) x.M.length (x.M.map (Value.int .u8)) rfl Hsrc2.out (by have h1 := Hlen2.out; unfold maxLen; omega) (by have h1 := Hlen2.out; omega) HA2.out.2.1.size ?_
             intro nv w5a hown hgr hat
             obtain ⟨sp2, sc2, rfl⟩ := own_slice hown
             have HS2 := hid (And.intro hown (And.intro hgr hat))
             have hrw := HA2.out.2.1.row.kept hgr (Ne.symm (HA2.out.2.1.neH _ (List.mem_of_getElem? (i := 2) rfl)))
             have fc2 := hrw.cell 2 (v := v3) rfl
             have fz2 := hrw.free 2
             clear hown hgr hat hrw)
          | fail)
        clear fd2 fy2 fc2 fz2
        have HA3 : Hid (RwAt (w5a.setCell ⟨H, 2, none⟩ (.slice sp2 (X.K.length + x.M.length) sc2)) R 75 #[.slice none 0 0, .slice none 0 0, .slice none 0 0, .slice none 0 0, .slice none 0 0] ∧ RosAt (w5a.setCell ⟨H, 2, none⟩ (.slice sp2 (X.K.length + x.M.length) sc2)) (R + 1) H 75 (whRo (.slice sp0 (X.D.length + x.D.length) sc0) (.slice sp1 (X.C.length + x.C.length) sc1) (.slice sp2 (X.K.length + x.M.length) sc2) v4 v5 ⟨X.D ++ x.D, X.C ++ x.C, X.K ++ x.M, X.R, X.Q⟩) ∧ W.grownBy (w5a.setCell ⟨H, 2, none⟩ (.slice sp2 (X.K.length + x.M.length) sc2)) none ∧ RwAt (w5a.setCell ⟨H, 2, none⟩ (.slice sp2 (X.K.length + x.M.length) sc2)) Y 121 #[.slice p1 m1 e1, .slice p2 m2 e2, .slice p3 m3 e3, .slice p4 m4 e4, .slice p5 m5 e5, .slice p6 m6 e6, .int .i64 (pd : Int), .int .i64 (pc : Int)]) := hid (by
          obtain ⟨h1, h2, h3⟩ := ros_step HA2.out.1 HA2.out.2.1 HA2.out.2.2.1 HRe.out (k := 2) rfl HS2.out.1 HS2.out.2.1 HS2.out.2.2
          refine ⟨h1, ?_, h3, y_step HA2.out.2.2.2 Hown2.out (show (5 : TypeId) ≠ 121 from by decide) HS2.out.2.1 HHY.out⟩
          have e : whRo (.slice sp0 (X.D.length + x.D.length) sc0) (.slice sp1 (X.C.length + x.C.length) sc1) (.slice sp2 (X.K.length + x.M.length) sc2) v4 v5 ⟨X.D ++ x.D, X.C ++ x.C, X.K ++ x.M, X.R, X.Q⟩ = (whRo (.slice sp0 (X.D.length + x.D.length) sc0) (.slice sp1 (X.C.length + x.C.length) sc1) v3 v4 v5 ⟨X.D ++ x.D, X.C ++ x.C, X.K, X.R, X.Q⟩).set 2 ⟨(.slice sp2 (X.K.length + x.M.length) sc2), 5, 1, X.K.length + x.M.length, X.K.map (Value.int .u8) ++ x.M.map (Value.int .u8)⟩ := by
            simp [whRo]
          rw [e]
          exact h2)
        clear HA2 HS2 Hown2 Hsrc2 Hi2 Hz02 Hz12 Hz22 Hoat2
        generalize w5a.setCell ⟨H, 2, none⟩ (.slice sp2 (X.K.length + x.M.length) sc2) = w6 at HA3 ⊢
        go_upto_region 8 with (fail)
        obtain ⟨i3, hi, hz0, hz1, hz2⟩ := info_repair
        have Hi3 := hid hi
        have Hz03 := hid hz0
        have Hz13 := hid hz1
        have Hz23 := hid hz2
        clear hi hz0 hz1 hz2
        have Hlen3 : Hid (X.R.length ≤ 20000000 ∧ x.R.length ≤ 1000000) := hid (by
          have h1 := HB.out.2.2.2.1
          have h2 := Hkl.out
          have h3 := HN20.out
          have h4 : x.R.length ≤ 1000000 := Hpk.out.b.len.2.2.2.1
          exact ⟨by omega, h4⟩)
        have hg0 : w6.grownBy w6.drew none := grown_drew (grown_refl _ none)
        have HD3 := hid (And.intro (HA3.out.1.kept0 hg0) (And.intro (HA3.out.2.1.kept0 hg0) (And.intro (grown_trans HA3.out.2.2.1 hg0) (And.intro ((HO.out _ Hqm.out).1.kept0 (grown_trans HA3.out.2.2.1 hg0)) (HJ.out.kept0 (grown_trans HA3.out.2.2.1 hg0)).mr))))
        have hY0 := HA3.out.2.2.2.kept0 hg0
        have hpi := info_part
        clear hg0
        go_cut [] from 52 to 63 (fun wz => ∃ sp3 sc3, Hid (RwAt wz R 75 #[.slice none 0 0, .slice none 0 0, .slice none 0 0, .slice none 0 0, .slice none 0 0] ∧ RosAt wz (R + 1) H 75 (whRo (.slice sp0 (X.D.length + x.D.length) sc0) (.slice sp1 (X.C.length + x.C.length) sc1) (.slice sp2 (X.K.length + x.M.length) sc2) (.slice sp3 (X.R.length + x.R.length) sc3) v5 ⟨X.D ++ x.D, X.C ++ x.C, X.K ++ x.M, X.R ++ (x.R.map (fxOf jm ⟨x, pd, pc⟩ pd)), X.Q⟩) ∧ W.grownBy wz none ∧ RwAt wz Y 121 #[.slice p1 m1 e1, .slice p2 m2 e2, .slice p3 m3 e3, .slice p4 m4 e4, .slice p5 m5 e5, .slice p6 m6 e6, .int .i64 (pd : Int), .int .i64 (pc : Int)]))
        case first =>
          rename_i hJ0 hJ
          refine wp_region_held_drew (S := fun W => RwAt W Y 121 #[.slice p1 m1 e1, .slice p2 m2 e2, .slice p3 m3 e3, .slice p4 m4 e4, .slice p5 m5 e5, .slice p6 m6 e6, .int .i64 (pd : Int), .int .i64 (pc : Int)]) (by kernel_rfl) hY0 (fun hS0 => ?_)
          clear hY0 HA3
          generalize w6.drew = wq at HD3 hS0 ⊢
          refine wpAnyH_take (i := 0) (v := ?_) rfl (by kernel_rfl) (by kernel_rfl) (by kernel_rfl) (fun _ _ _ h => h) (Or.inl ⟨by kernel_rfl, ?_⟩) hS0 ?_
          rotate_left
          · (intro W hSw; clear hSw; go_simp; try with_reducible rfl)
          try simp only [Act.put, List.setIfInBounds_toArray, List.set_cons_zero, List.set_cons_succ, List.getElem_toArray, List.getElem_cons_zero]
          refine wpAnyH_take (i := 2) (v := ?_) rfl (by kernel_rfl) (by kernel_rfl) (by kernel_rfl) (fun _ _ _ h => h) (Or.inl ⟨by kernel_rfl, ?_⟩) hS0 ?_
          rotate_left
          · (intro W hSw; clear hSw; go_simp; try with_reducible rfl)
          try simp only [Act.put, List.setIfInBounds_toArray, List.set_cons_zero, List.set_cons_succ, List.getElem_toArray, List.getElem_cons_succ, List.getElem_cons_zero]
          refine wpAnyH_take (i := 3) (v := .agg #[.slice p1 m1 e1, .slice p2 m2 e2, .slice p3 m3 e3, .slice p4 m4 e4, .slice p5 m5 e5, .slice p6 m6 e6, .int .i64 (pd : Int), .int .i64 (pc : Int)]) rfl (by kernel_rfl) (by kernel_rfl) (by kernel_rfl) (fun _ _ _ h => h) (Or.inl ⟨by kernel_rfl, fun W hW => run_load_row _ _ rfl rfl hW.blk rfl Tryz.underlying121 hpi⟩) hS0 ?_
          try simp only [Act.put, List.setIfInBounds_toArray, List.set_cons_zero, List.set_cons_succ, List.getElem_toArray, List.getElem_cons_succ, List.getElem_cons_zero]
          refine wpAnyH_take (i := 4) (v := ?_) rfl (by kernel_rfl) (by kernel_rfl) (by kernel_rfl) (fun _ _ _ h => h) (Or.inl ⟨by kernel_rfl, ?_⟩) hS0 ?_
          rotate_left
          · (intro W hSw; clear hSw; go_simp; try with_reducible rfl)
          try simp only [Act.put, List.setIfInBounds_toArray, List.set_cons_zero, List.set_cons_succ, List.getElem_toArray, List.getElem_cons_succ, List.getElem_cons_zero]
          refine wpAnyH_take (i := 5) (v := ?_) rfl (by kernel_rfl) (by kernel_rfl) (by kernel_rfl) (fun _ _ _ h => h) (Or.inl ⟨by kernel_rfl, ?_⟩) hS0 ?_
          rotate_left
          · (intro W hSw; clear hSw; go_simp; try with_reducible rfl)
          try simp only [Act.put, List.setIfInBounds_toArray, List.set_cons_zero, List.set_cons_succ, List.getElem_toArray, List.getElem_cons_succ, List.getElem_cons_zero]
          refine wpAnyH_take (i := 6) (v := ?_) rfl (by kernel_rfl) (by kernel_rfl) (by kernel_rfl) (fun _ _ _ h => h) (Or.inl ⟨by kernel_rfl, ?_⟩) hS0 ?_
          rotate_left
          · (intro W hSw; have hcd := hSw.cell 3 (v := .slice p4 m4 e4) rfl; clear hSw; go_simp; try with_reducible rfl)
          try simp only [Act.put, List.setIfInBounds_toArray, List.set_cons_zero, List.set_cons_succ, List.getElem_toArray, List.getElem_cons_succ, List.getElem_cons_zero]
          refine wpAnyH_take (i := 7) (v := ?_) rfl (by kernel_rfl) (by kernel_rfl) (by kernel_rfl) (fun _ _ _ h => h) (Or.inl ⟨by kernel_rfl, ?_⟩) hS0 ?_
          rotate_left
          · (intro W hSw; clear hSw; go_simp; try with_reducible rfl)
          try simp only [Act.put, List.setIfInBounds_toArray, List.set_cons_zero, List.set_cons_succ, List.getElem_toArray, List.getElem_cons_succ, List.getElem_cons_zero]
          refine wpAnyH_take (i := 8) (v := ?_) rfl (by kernel_rfl) (by kernel_rfl) (by kernel_rfl) (fun _ _ _ h => h) (Or.inl ⟨by kernel_rfl, ?_⟩) hS0 ?_
          rotate_left
          · (intro W hSw; have hcd := hSw.cell 6 (v := .int .i64 (pd : Int)) rfl; clear hSw; go_simp; try with_reducible rfl)
          try simp only [Act.put, List.setIfInBounds_toArray, List.set_cons_zero, List.set_cons_succ, List.getElem_toArray, List.getElem_cons_succ, List.getElem_cons_zero]
          refine wpAnyH_ready (rs := [1, 9]) (by kernel_rfl) (by simp) ?_
          refine AllReadyH.cons rfl (fun KK hKK => ?_) ?_
          · have hf3 := HD3.out.2.1.row.cell 3 (v := v4) rfl
            go_simp
            refine hKK.out _ _ hS0 (fun _ => ?_)
            clear hKK KK hf3
            try simp only [Act.put, List.setIfInBounds_toArray, List.set_cons_zero, List.set_cons_succ, List.getElem_toArray, List.getElem_cons_succ, List.getElem_cons_zero]
            refine wpAnyH_ready (rs := [9]) (by kernel_rfl) (by simp) ?_
            refine AllReadyH.cons rfl (fun KK hKK => ?_) AllReadyH.nil
            go_simp
            refine (lrepairs_any _ ⟨.slice p1 m1 e1, .slice p2 m2 e2, .slice p3 m3 e3, .slice p4 m4 e4, .slice p5 m5 e5, .slice p6 m6 e6⟩ ⟨x, pd, pc⟩ (M := jm) pd HD3.out.2.2.2.1 HD3.out.2.2.2.2 HD3.out.2.2.2.1.r Hpk.out (by have := Hpk.out.dc; simp only at this; omega) Hpk.out.b.len.2.2.2.1 (fun r hr => by have h := Hpk.out.r r hr; have h2 := Hpk.out.len2; simp only at h h2; exact ⟨⟨h.1.1, by omega⟩, h.2.1⟩)).mono ?_
            rintro e' wp8 ⟨u, rfl, ho, hg⟩
            have hS1 := hS0.kept0 hg
            have HE8 := hid (And.intro (HD3.out.1.kept0 hg) (And.intro (HD3.out.2.1.kept0 hg) (And.intro (grown_trans HD3.out.2.2.1 hg) ho)))
            clear ho hg hS0
            have hS0 := hS1
            clear hS1
            refine hKK.out _ _ hS0 (fun _ => ?_)
            clear hKK KK HD3
            try simp only [Act.put, List.setIfInBounds_toArray, List.set_cons_zero, List.set_cons_succ, List.getElem_toArray, List.getElem_cons_succ, List.getElem_cons_zero]
            refine wpAnyH_ready (rs := [10]) (by kernel_rfl) (by simp) ?_
            refine AllReadyH.cons rfl (fun KK hKK => ?_) AllReadyH.nil
            have hown := HE8.out.2.1.at_ (k := 3) rfl
            refine wp_append_any (.tmp 53) (.tmp 61) 73 rfl (R + 1) 106 i3 _ 5 40 Tryz.underlying73 Hi3.out Hz03.out Hz13.out Hz23.out rfl (by decide) v4 X.R.length (fxsL X.R) rfl hown u x.R.length (fxsL (x.R.map (fxOf jm ⟨x, pd, pc⟩ pd))) rfl (own_src HE8.out.2.2.2 (fxs_one _)) (by have := Hlen3.out; unfold maxLen; omega) (by have := Hlen3.out; omega) HE8.out.2.1.size ?_
            intro nv ws9 hown2 hgr hat
            obtain ⟨sp3, sc3, rfl⟩ := own_slice hown2
            have hS1 := y_keep hS0 hown (show (106 : TypeId) ≠ 121 from by decide) hgr
            have HF9 := hid (And.intro hown (And.intro hown2 (And.intro hgr hat)))
            have hrw := HE8.out.2.1.row.kept hgr (Ne.symm (HE8.out.2.1.neH _ (List.mem_of_getElem? (i := 3) rfl)))
            clear hown hown2 hgr hat hS0
            have hS0 := hS1
            clear hS1
            refine hKK.out _ _ hS0 (fun _ => ?_)
            clear hKK KK
            try simp only [Act.put, List.setIfInBounds_toArray, List.set_cons_zero, List.set_cons_succ, List.getElem_toArray, List.getElem_cons_succ, List.getElem_cons_zero]
            refine wpAnyH_take (i := 11) (v := ?_) rfl (by kernel_rfl) (by kernel_rfl) (by kernel_rfl) (fun _ _ _ h => h) (Or.inl ⟨by kernel_rfl, ?_⟩) hS0 ?_
            rotate_left
            · (intro W hSw; clear hSw; go_simp; try with_reducible rfl)
            try simp only [Act.put, List.setIfInBounds_toArray, List.set_cons_zero, List.set_cons_succ, List.getElem_toArray, List.getElem_cons_succ, List.getElem_cons_zero]
            refine wpAnyH_ready (rs := [12]) (by kernel_rfl) (by simp) ?_
            refine AllReadyH.cons rfl (fun KK hKK => ?_) AllReadyH.nil
            have fc := hrw.cell 3 (v := v4) rfl
            have fz := hrw.free 3
            go_simp
            refine hKK.out _ _ (hS0.other H 3 _ HHY.out) (fun _ => ?_)
            clear hKK KK fc fz hrw
            try simp only [Act.put, List.setIfInBounds_toArray, List.set_cons_zero, List.set_cons_succ, List.getElem_toArray, List.getElem_cons_succ, List.getElem_cons_zero]
            refine wpAnyH_done (by kernel_rfl) ?_ _
            refine hJ _ _ (Met.intro (hJ0 _ _ ?_))
            repeat apply Exists.intro
            refine ⟨?_, rfl⟩
            refine ⟨sp3, sc3, hid ?_⟩
            obtain ⟨h1, h2, h3⟩ := ros_step HE8.out.1 HE8.out.2.1 HE8.out.2.2.1 HRe.out (k := 3) rfl HF9.out.2.1 HF9.out.2.2.1 HF9.out.2.2.2
            refine ⟨h1, ?_, h3, hS0.other H 3 _ HHY.out⟩
            have e : whRo (.slice sp0 (X.D.length + x.D.length) sc0) (.slice sp1 (X.C.length + x.C.length) sc1) (.slice sp2 (X.K.length + x.M.length) sc2) (.slice sp3 (X.R.length + x.R.length) sc3) v5 ⟨X.D ++ x.D, X.C ++ x.C, X.K ++ x.M, X.R ++ (x.R.map (fxOf jm ⟨x, pd, pc⟩ pd)), X.Q⟩ = (whRo (.slice sp0 (X.D.length + x.D.length) sc0) (.slice sp1 (X.C.length + x.C.length) sc1) (.slice sp2 (X.K.length + x.M.length) sc2) v4 v5 ⟨X.D ++ x.D, X.C ++ x.C, X.K ++ x.M, X.R, X.Q⟩).set 3 ⟨(.slice sp3 (X.R.length + x.R.length) sc3), 106, 5, X.R.length + x.R.length, fxsL X.R ++ fxsL (x.R.map (fxOf jm ⟨x, pd, pc⟩ pd))⟩ := by
              simp [whRo, csL_append]
            rw [e]
            exact h2
          · refine AllReadyH.cons rfl (fun KK hKK => ?_) AllReadyH.nil
            go_simp
            refine (lrepairs_any _ ⟨.slice p1 m1 e1, .slice p2 m2 e2, .slice p3 m3 e3, .slice p4 m4 e4, .slice p5 m5 e5, .slice p6 m6 e6⟩ ⟨x, pd, pc⟩ (M := jm) pd HD3.out.2.2.2.1 HD3.out.2.2.2.2 HD3.out.2.2.2.1.r Hpk.out (by have := Hpk.out.dc; simp only at this; omega) Hpk.out.b.len.2.2.2.1 (fun r hr => by have h := Hpk.out.r r hr; have h2 := Hpk.out.len2; simp only at h h2; exact ⟨⟨h.1.1, by omega⟩, h.2.1⟩)).mono ?_
            rintro e' wp8 ⟨u, rfl, ho, hg⟩
            have hS1 := hS0.kept0 hg
            have HE8 := hid (And.intro (HD3.out.1.kept0 hg) (And.intro (HD3.out.2.1.kept0 hg) (And.intro (grown_trans HD3.out.2.2.1 hg) ho)))
            clear ho hg hS0
            have hS0 := hS1
            clear hS1
            refine hKK.out _ _ hS0 (fun _ => ?_)
            clear hKK KK HD3
            try simp only [Act.put, List.setIfInBounds_toArray, List.set_cons_zero, List.set_cons_succ, List.getElem_toArray, List.getElem_cons_succ, List.getElem_cons_zero]
            refine wpAnyH_ready (rs := [1]) (by kernel_rfl) (by simp) ?_
            refine AllReadyH.cons rfl (fun KK hKK => ?_) AllReadyH.nil
            have hf3 := HE8.out.2.1.row.cell 3 (v := v4) rfl
            go_simp
            refine hKK.out _ _ hS0 (fun _ => ?_)
            clear hKK KK hf3
            try simp only [Act.put, List.setIfInBounds_toArray, List.set_cons_zero, List.set_cons_succ, List.getElem_toArray, List.getElem_cons_succ, List.getElem_cons_zero]
            refine wpAnyH_ready (rs := [10]) (by kernel_rfl) (by simp) ?_
            refine AllReadyH.cons rfl (fun KK hKK => ?_) AllReadyH.nil
            have hown := HE8.out.2.1.at_ (k := 3) rfl
            refine wp_append_any (.tmp 53) (.tmp 61) 73 rfl (R + 1) 106 i3 _ 5 40 Tryz.underlying73 Hi3.out Hz03.out Hz13.out Hz23.out rfl (by decide) v4 X.R.length (fxsL X.R) rfl hown u x.R.length (fxsL (x.R.map (fxOf jm ⟨x, pd, pc⟩ pd))) rfl (own_src HE8.out.2.2.2 (fxs_one _)) (by have := Hlen3.out; unfold maxLen; omega) (by have := Hlen3.out; omega) HE8.out.2.1.size ?_
            intro nv ws9 hown2 hgr hat
            obtain ⟨sp3, sc3, rfl⟩ := own_slice hown2
            have hS1 := y_keep hS0 hown (show (106 : TypeId) ≠ 121 from by decide) hgr
            have HF9 := hid (And.intro hown (And.intro hown2 (And.intro hgr hat)))
            have hrw := HE8.out.2.1.row.kept hgr (Ne.symm (HE8.out.2.1.neH _ (List.mem_of_getElem? (i := 3) rfl)))
            clear hown hown2 hgr hat hS0
            have hS0 := hS1
            clear hS1
            refine hKK.out _ _ hS0 (fun _ => ?_)
            clear hKK KK
            try simp only [Act.put, List.setIfInBounds_toArray, List.set_cons_zero, List.set_cons_succ, List.getElem_toArray, List.getElem_cons_succ, List.getElem_cons_zero]
            refine wpAnyH_take (i := 11) (v := ?_) rfl (by kernel_rfl) (by kernel_rfl) (by kernel_rfl) (fun _ _ _ h => h) (Or.inl ⟨by kernel_rfl, ?_⟩) hS0 ?_
            rotate_left
            · (intro W hSw; clear hSw; go_simp; try with_reducible rfl)
            try simp only [Act.put, List.setIfInBounds_toArray, List.set_cons_zero, List.set_cons_succ, List.getElem_toArray, List.getElem_cons_succ, List.getElem_cons_zero]
            refine wpAnyH_ready (rs := [12]) (by kernel_rfl) (by simp) ?_
            refine AllReadyH.cons rfl (fun KK hKK => ?_) AllReadyH.nil
            have fc := hrw.cell 3 (v := v4) rfl
            have fz := hrw.free 3
            go_simp
            refine hKK.out _ _ (hS0.other H 3 _ HHY.out) (fun _ => ?_)
            clear hKK KK fc fz hrw
            try simp only [Act.put, List.setIfInBounds_toArray, List.set_cons_zero, List.set_cons_succ, List.getElem_toArray, List.getElem_cons_succ, List.getElem_cons_zero]
            refine wpAnyH_done (by kernel_rfl) ?_ _
            refine hJ _ _ (Met.intro (hJ0 _ _ ?_))
            repeat apply Exists.intro
            refine ⟨?_, rfl⟩
            refine ⟨sp3, sc3, hid ?_⟩
            obtain ⟨h1, h2, h3⟩ := ros_step HE8.out.1 HE8.out.2.1 HE8.out.2.2.1 HRe.out (k := 3) rfl HF9.out.2.1 HF9.out.2.2.1 HF9.out.2.2.2
            refine ⟨h1, ?_, h3, hS0.other H 3 _ HHY.out⟩
            have e : whRo (.slice sp0 (X.D.length + x.D.length) sc0) (.slice sp1 (X.C.length + x.C.length) sc1) (.slice sp2 (X.K.length + x.M.length) sc2) (.slice sp3 (X.R.length + x.R.length) sc3) v5 ⟨X.D ++ x.D, X.C ++ x.C, X.K ++ x.M, X.R ++ (x.R.map (fxOf jm ⟨x, pd, pc⟩ pd)), X.Q⟩ = (whRo (.slice sp0 (X.D.length + x.D.length) sc0) (.slice sp1 (X.C.length + x.C.length) sc1) (.slice sp2 (X.K.length + x.M.length) sc2) v4 v5 ⟨X.D ++ x.D, X.C ++ x.C, X.K ++ x.M, X.R, X.Q⟩).set 3 ⟨(.slice sp3 (X.R.length + x.R.length) sc3), 106, 5, X.R.length + x.R.length, fxsL X.R ++ fxsL (x.R.map (fxOf jm ⟨x, pd, pc⟩ pd))⟩ := by
              simp [whRo, csL_append]
            rw [e]
            exact h2
        case rest =>
          obtain ⟨sp3, sc3, HA4⟩ := hcut
          rename World => w7
          clear HD3 HA3 Hi3 Hz03 Hz13 Hz23 Hlen3 hY0 hpi
          go_upto_region 9 with (fail)
          obtain ⟨i4, hi, hz0, hz1, hz2⟩ := info_repair
          have Hi4 := hid hi
          have Hz04 := hid hz0
          have Hz14 := hid hz1
          have Hz24 := hid hz2
          clear hi hz0 hz1 hz2
          have Hlen4 : Hid (X.Q.length ≤ 20000000 ∧ x.Q.length ≤ 1000000) := hid (by
            have h1 := HB.out.2.2.2.2
            have h2 := Hkl.out
            have h3 := HN20.out
            have h4 : x.Q.length ≤ 1000000 := Hpk.out.b.len.2.2.2.2.1
            exact ⟨by omega, h4⟩)
          have hg0 : w7.grownBy w7.drew none := grown_drew (grown_refl _ none)
          have HD4 := hid (And.intro (HA4.out.1.kept0 hg0) (And.intro (HA4.out.2.1.kept0 hg0) (And.intro (grown_trans HA4.out.2.2.1 hg0) (And.intro ((HO.out _ Hqm.out).1.kept0 (grown_trans HA4.out.2.2.1 hg0)) (HJ.out.kept0 (grown_trans HA4.out.2.2.1 hg0)).mr))))
          have hY0 := HA4.out.2.2.2.kept0 hg0
          have hpi := info_part
          clear hg0
          refine wp_region_held_drew (S := fun W => RwAt W Y 121 #[.slice p1 m1 e1, .slice p2 m2 e2, .slice p3 m3 e3, .slice p4 m4 e4, .slice p5 m5 e5, .slice p6 m6 e6, .int .i64 (pd : Int), .int .i64 (pc : Int)]) (by kernel_rfl) hY0 (fun hS0 => ?_)
          clear hY0 HA4
          generalize w7.drew = wq at HD4 hS0 ⊢
          refine wpAnyH_take (i := 0) (v := ?_) rfl (by kernel_rfl) (by kernel_rfl) (by kernel_rfl) (fun _ _ _ h => h) (Or.inl ⟨by kernel_rfl, ?_⟩) hS0 ?_
          rotate_left
          · (intro W hSw; clear hSw; go_simp; try with_reducible rfl)
          try simp only [Act.put, List.setIfInBounds_toArray, List.set_cons_zero, List.set_cons_succ, List.getElem_toArray, List.getElem_cons_zero]
          refine wpAnyH_take (i := 2) (v := ?_) rfl (by kernel_rfl) (by kernel_rfl) (by kernel_rfl) (fun _ _ _ h => h) (Or.inl ⟨by kernel_rfl, ?_⟩) hS0 ?_
          rotate_left
          · (intro W hSw; clear hSw; go_simp; try with_reducible rfl)
          try simp only [Act.put, List.setIfInBounds_toArray, List.set_cons_zero, List.set_cons_succ, List.getElem_toArray, List.getElem_cons_succ, List.getElem_cons_zero]
          refine wpAnyH_take (i := 3) (v := .agg #[.slice p1 m1 e1, .slice p2 m2 e2, .slice p3 m3 e3, .slice p4 m4 e4, .slice p5 m5 e5, .slice p6 m6 e6, .int .i64 (pd : Int), .int .i64 (pc : Int)]) rfl (by kernel_rfl) (by kernel_rfl) (by kernel_rfl) (fun _ _ _ h => h) (Or.inl ⟨by kernel_rfl, fun W hW => run_load_row _ _ rfl rfl hW.blk rfl Tryz.underlying121 hpi⟩) hS0 ?_
          try simp only [Act.put, List.setIfInBounds_toArray, List.set_cons_zero, List.set_cons_succ, List.getElem_toArray, List.getElem_cons_succ, List.getElem_cons_zero]
          refine wpAnyH_take (i := 4) (v := ?_) rfl (by kernel_rfl) (by kernel_rfl) (by kernel_rfl) (fun _ _ _ h => h) (Or.inl ⟨by kernel_rfl, ?_⟩) hS0 ?_
          rotate_left
          · (intro W hSw; clear hSw; go_simp; try with_reducible rfl)
          try simp only [Act.put, List.setIfInBounds_toArray, List.set_cons_zero, List.set_cons_succ, List.getElem_toArray, List.getElem_cons_succ, List.getElem_cons_zero]
          refine wpAnyH_take (i := 5) (v := ?_) rfl (by kernel_rfl) (by kernel_rfl) (by kernel_rfl) (fun _ _ _ h => h) (Or.inl ⟨by kernel_rfl, ?_⟩) hS0 ?_
          rotate_left
          · (intro W hSw; clear hSw; go_simp; try with_reducible rfl)
          try simp only [Act.put, List.setIfInBounds_toArray, List.set_cons_zero, List.set_cons_succ, List.getElem_toArray, List.getElem_cons_succ, List.getElem_cons_zero]
          refine wpAnyH_take (i := 6) (v := ?_) rfl (by kernel_rfl) (by kernel_rfl) (by kernel_rfl) (fun _ _ _ h => h) (Or.inl ⟨by kernel_rfl, ?_⟩) hS0 ?_
          rotate_left
          · (intro W hSw; have hcd := hSw.cell 4 (v := .slice p5 m5 e5) rfl; clear hSw; go_simp; try with_reducible rfl)
          try simp only [Act.put, List.setIfInBounds_toArray, List.set_cons_zero, List.set_cons_succ, List.getElem_toArray, List.getElem_cons_succ, List.getElem_cons_zero]
          refine wpAnyH_take (i := 7) (v := ?_) rfl (by kernel_rfl) (by kernel_rfl) (by kernel_rfl) (fun _ _ _ h => h) (Or.inl ⟨by kernel_rfl, ?_⟩) hS0 ?_
          rotate_left
          · (intro W hSw; clear hSw; go_simp; try with_reducible rfl)
          try simp only [Act.put, List.setIfInBounds_toArray, List.set_cons_zero, List.set_cons_succ, List.getElem_toArray, List.getElem_cons_succ, List.getElem_cons_zero]
          refine wpAnyH_take (i := 8) (v := ?_) rfl (by kernel_rfl) (by kernel_rfl) (by kernel_rfl) (fun _ _ _ h => h) (Or.inl ⟨by kernel_rfl, ?_⟩) hS0 ?_
          rotate_left
          · (intro W hSw; have hcd := hSw.cell 7 (v := .int .i64 (pc : Int)) rfl; clear hSw; go_simp; try with_reducible rfl)
          try simp only [Act.put, List.setIfInBounds_toArray, List.set_cons_zero, List.set_cons_succ, List.getElem_toArray, List.getElem_cons_succ, List.getElem_cons_zero]
          refine wpAnyH_ready (rs := [1, 9]) (by kernel_rfl) (by simp) ?_
          refine AllReadyH.cons rfl (fun KK hKK => ?_) ?_
          · have hf4 := HD4.out.2.1.row.cell 4 (v := v5) rfl
            go_simp
            refine hKK.out _ _ hS0 (fun _ => ?_)
            clear hKK KK hf4
            try simp only [Act.put, List.setIfInBounds_toArray, List.set_cons_zero, List.set_cons_succ, List.getElem_toArray, List.getElem_cons_succ, List.getElem_cons_zero]
            refine wpAnyH_ready (rs := [9]) (by kernel_rfl) (by simp) ?_
            refine AllReadyH.cons rfl (fun KK hKK => ?_) AllReadyH.nil
            go_simp
            refine (lrepairs_any _ ⟨.slice p1 m1 e1, .slice p2 m2 e2, .slice p3 m3 e3, .slice p4 m4 e4, .slice p5 m5 e5, .slice p6 m6 e6⟩ ⟨x, pd, pc⟩ (M := jm) pc HD4.out.2.2.2.1 HD4.out.2.2.2.2 HD4.out.2.2.2.1.q Hpk.out (by have := Hpk.out.dc; simp only at this; omega) Hpk.out.b.len.2.2.2.2.1 (fun r hr => by have h := Hpk.out.q r hr; have h2 := Hpk.out.len2; simp only at h h2; exact ⟨⟨h.1.1, by omega⟩, h.2.1⟩)).mono ?_
            rintro e' wp8 ⟨u, rfl, ho, hg⟩
            have hS1 := hS0.kept0 hg
            have HE8 := hid (And.intro (HD4.out.1.kept0 hg) (And.intro (HD4.out.2.1.kept0 hg) (And.intro (grown_trans HD4.out.2.2.1 hg) ho)))
            clear ho hg hS0
            have hS0 := hS1
            clear hS1
            refine hKK.out _ _ hS0 (fun _ => ?_)
            clear hKK KK HD4
            try simp only [Act.put, List.setIfInBounds_toArray, List.set_cons_zero, List.set_cons_succ, List.getElem_toArray, List.getElem_cons_succ, List.getElem_cons_zero]
            refine wpAnyH_ready (rs := [10]) (by kernel_rfl) (by simp) ?_
            refine AllReadyH.cons rfl (fun KK hKK => ?_) AllReadyH.nil
            have hown := HE8.out.2.1.at_ (k := 4) rfl
            refine wp_append_any (.tmp 65) (.tmp 73) 73 rfl (R + 1) 106 i4 _ 5 40 Tryz.underlying73 Hi4.out Hz04.out Hz14.out Hz24.out rfl (by decide) v5 X.Q.length (fxsL X.Q) rfl hown u x.Q.length (fxsL (x.Q.map (fxOf jm ⟨x, pd, pc⟩ pc))) rfl (own_src HE8.out.2.2.2 (fxs_one _)) (by have := Hlen4.out; unfold maxLen; omega) (by have := Hlen4.out; omega) HE8.out.2.1.size ?_
            intro nv ws9 hown2 hgr hat
            obtain ⟨sp4, sc4, rfl⟩ := own_slice hown2
            have hS1 := y_keep hS0 hown (show (106 : TypeId) ≠ 121 from by decide) hgr
            have HF9 := hid (And.intro hown (And.intro hown2 (And.intro hgr hat)))
            have hrw := HE8.out.2.1.row.kept hgr (Ne.symm (HE8.out.2.1.neH _ (List.mem_of_getElem? (i := 4) rfl)))
            clear hown hown2 hgr hat hS0
            have hS0 := hS1
            clear hS1
            refine hKK.out _ _ hS0 (fun _ => ?_)
            clear hKK KK
            try simp only [Act.put, List.setIfInBounds_toArray, List.set_cons_zero, List.set_cons_succ, List.getElem_toArray, List.getElem_cons_succ, List.getElem_cons_zero]
            refine wpAnyH_take (i := 11) (v := ?_) rfl (by kernel_rfl) (by kernel_rfl) (by kernel_rfl) (fun _ _ _ h => h) (Or.inl ⟨by kernel_rfl, ?_⟩) hS0 ?_
            rotate_left
            · (intro W hSw; clear hSw; go_simp; try with_reducible rfl)
            try simp only [Act.put, List.setIfInBounds_toArray, List.set_cons_zero, List.set_cons_succ, List.getElem_toArray, List.getElem_cons_succ, List.getElem_cons_zero]
            refine wpAnyH_ready (rs := [12]) (by kernel_rfl) (by simp) ?_
            refine AllReadyH.cons rfl (fun KK hKK => ?_) AllReadyH.nil
            have fc := hrw.cell 4 (v := v5) rfl
            have fz := hrw.free 4
            go_simp
            refine hKK.out _ _ (hS0.other H 4 _ HHY.out) (fun _ => ?_)
            clear hKK KK fc fz hrw
            try simp only [Act.put, List.setIfInBounds_toArray, List.set_cons_zero, List.set_cons_succ, List.getElem_toArray, List.getElem_cons_succ, List.getElem_cons_zero]
            refine wpAnyH_done (by kernel_rfl) ?_ _
            have HA5 : Hid (RwAt (ws9.setCell ⟨H, 4, none⟩ (.slice sp4 (X.Q.length + x.Q.length) sc4)) R 75 #[.slice none 0 0, .slice none 0 0, .slice none 0 0, .slice none 0 0, .slice none 0 0] ∧ RosAt (ws9.setCell ⟨H, 4, none⟩ (.slice sp4 (X.Q.length + x.Q.length) sc4)) (R + 1) H 75 (whRo (.slice sp0 (X.D.length + x.D.length) sc0) (.slice sp1 (X.C.length + x.C.length) sc1) (.slice sp2 (X.K.length + x.M.length) sc2) (.slice sp3 (X.R.length + x.R.length) sc3) (.slice sp4 (X.Q.length + x.Q.length) sc4) ⟨X.D ++ x.D, X.C ++ x.C, X.K ++ x.M, X.R ++ (x.R.map (fxOf jm ⟨x, pd, pc⟩ pd)), X.Q ++ (x.Q.map (fxOf jm ⟨x, pd, pc⟩ pc))⟩) ∧ W.grownBy (ws9.setCell ⟨H, 4, none⟩ (.slice sp4 (X.Q.length + x.Q.length) sc4)) none ∧ RwAt (ws9.setCell ⟨H, 4, none⟩ (.slice sp4 (X.Q.length + x.Q.length) sc4)) Y 121 #[.slice p1 m1 e1, .slice p2 m2 e2, .slice p3 m3 e3, .slice p4 m4 e4, .slice p5 m5 e5, .slice p6 m6 e6, .int .i64 (pd : Int), .int .i64 (pc : Int)]) := hid (by
              obtain ⟨h1, h2, h3⟩ := ros_step HE8.out.1 HE8.out.2.1 HE8.out.2.2.1 HRe.out (k := 4) rfl HF9.out.2.1 HF9.out.2.2.1 HF9.out.2.2.2
              refine ⟨h1, ?_, h3, hS0.other H 4 _ HHY.out⟩
              have e : whRo (.slice sp0 (X.D.length + x.D.length) sc0) (.slice sp1 (X.C.length + x.C.length) sc1) (.slice sp2 (X.K.length + x.M.length) sc2) (.slice sp3 (X.R.length + x.R.length) sc3) (.slice sp4 (X.Q.length + x.Q.length) sc4) ⟨X.D ++ x.D, X.C ++ x.C, X.K ++ x.M, X.R ++ (x.R.map (fxOf jm ⟨x, pd, pc⟩ pd)), X.Q ++ (x.Q.map (fxOf jm ⟨x, pd, pc⟩ pc))⟩ = (whRo (.slice sp0 (X.D.length + x.D.length) sc0) (.slice sp1 (X.C.length + x.C.length) sc1) (.slice sp2 (X.K.length + x.M.length) sc2) (.slice sp3 (X.R.length + x.R.length) sc3) v5 ⟨X.D ++ x.D, X.C ++ x.C, X.K ++ x.M, X.R ++ (x.R.map (fxOf jm ⟨x, pd, pc⟩ pd)), X.Q⟩).set 4 ⟨(.slice sp4 (X.Q.length + x.Q.length) sc4), 106, 5, X.Q.length + x.Q.length, fxsL X.Q ++ fxsL (x.Q.map (fxOf jm ⟨x, pd, pc⟩ pc))⟩ := by
                simp [whRo, csL_append]
              rw [e]
              exact h2)
            clear HE8 HF9 hS0
            generalize ws9.setCell ⟨H, 4, none⟩ (.slice sp4 (X.Q.length + x.Q.length) sc4) = w8 at HA5 ⊢
            have HWn : Hid (WhW W w8 b0 G B R H _ Q ⟨jp, jd, jc, jm⟩ (.slice sp0 (X.D.length + x.D.length) sc0) (.slice sp1 (X.C.length + x.C.length) sc1) (.slice sp2 (X.K.length + x.M.length) sc2) (.slice sp3 (X.R.length + x.R.length) sc3) (.slice sp4 (X.Q.length + x.Q.length) sc4) ⟨X.D ++ x.D, X.C ++ x.C, X.K ++ x.M, X.R ++ (x.R.map (fxOf jm ⟨x, pd, pc⟩ pd)), X.Q ++ (x.Q.map (fxOf jm ⟨x, pd, pc⟩ pc))⟩ (k + 1)) := hid ⟨HJ.out.kept0 HA5.out.2.2.1, HA5.out.1, HA5.out.2.1, HA5.out.2.2.1, by
                show (jp.take (k + 1)).foldl (whAdd jm) wh0 = _
                have h1 := HE.out
                simp only at h1
                rw [List.take_add_one, Hps2.out, List.foldl_append, h1]
                rfl, by
                have h := HB.out
                have h2 := Hpk.out.b.len
                simp only at h h2
                simp only [List.length_append, List.length_map]
                omega⟩
            clear HA5 HB HE HHY
            go_wp2
            go_roundw
            case rel => exact ⟨k + 1, _, _, _, _, _, _, by have := Hkl.out; omega, by go_num, HWn⟩
            case measure => have := Hkl.out; simp [intOf]; omega
          · refine AllReadyH.cons rfl (fun KK hKK => ?_) AllReadyH.nil
            go_simp
            refine (lrepairs_any _ ⟨.slice p1 m1 e1, .slice p2 m2 e2, .slice p3 m3 e3, .slice p4 m4 e4, .slice p5 m5 e5, .slice p6 m6 e6⟩ ⟨x, pd, pc⟩ (M := jm) pc HD4.out.2.2.2.1 HD4.out.2.2.2.2 HD4.out.2.2.2.1.q Hpk.out (by have := Hpk.out.dc; simp only at this; omega) Hpk.out.b.len.2.2.2.2.1 (fun r hr => by have h := Hpk.out.q r hr; have h2 := Hpk.out.len2; simp only at h h2; exact ⟨⟨h.1.1, by omega⟩, h.2.1⟩)).mono ?_
            rintro e' wp8 ⟨u, rfl, ho, hg⟩
            have hS1 := hS0.kept0 hg
            have HE8 := hid (And.intro (HD4.out.1.kept0 hg) (And.intro (HD4.out.2.1.kept0 hg) (And.intro (grown_trans HD4.out.2.2.1 hg) ho)))
            clear ho hg hS0
            have hS0 := hS1
            clear hS1
            refine hKK.out _ _ hS0 (fun _ => ?_)
            clear hKK KK HD4
            try simp only [Act.put, List.setIfInBounds_toArray, List.set_cons_zero, List.set_cons_succ, List.getElem_toArray, List.getElem_cons_succ, List.getElem_cons_zero]
            refine wpAnyH_ready (rs := [1]) (by kernel_rfl) (by simp) ?_
            refine AllReadyH.cons rfl (fun KK hKK => ?_) AllReadyH.nil
            have hf4 := HE8.out.2.1.row.cell 4 (v := v5) rfl
            go_simp
            refine hKK.out _ _ hS0 (fun _ => ?_)
            clear hKK KK hf4
            try simp only [Act.put, List.setIfInBounds_toArray, List.set_cons_zero, List.set_cons_succ, List.getElem_toArray, List.getElem_cons_succ, List.getElem_cons_zero]
            refine wpAnyH_ready (rs := [10]) (by kernel_rfl) (by simp) ?_
            refine AllReadyH.cons rfl (fun KK hKK => ?_) AllReadyH.nil
            have hown := HE8.out.2.1.at_ (k := 4) rfl
            refine wp_append_any (.tmp 65) (.tmp 73) 73 rfl (R + 1) 106 i4 _ 5 40 Tryz.underlying73 Hi4.out Hz04.out Hz14.out Hz24.out rfl (by decide) v5 X.Q.length (fxsL X.Q) rfl hown u x.Q.length (fxsL (x.Q.map (fxOf jm ⟨x, pd, pc⟩ pc))) rfl (own_src HE8.out.2.2.2 (fxs_one _)) (by have := Hlen4.out; unfold maxLen; omega) (by have := Hlen4.out; omega) HE8.out.2.1.size ?_
            intro nv ws9 hown2 hgr hat
            obtain ⟨sp4, sc4, rfl⟩ := own_slice hown2
            have hS1 := y_keep hS0 hown (show (106 : TypeId) ≠ 121 from by decide) hgr
            have HF9 := hid (And.intro hown (And.intro hown2 (And.intro hgr hat)))
            have hrw := HE8.out.2.1.row.kept hgr (Ne.symm (HE8.out.2.1.neH _ (List.mem_of_getElem? (i := 4) rfl)))
            clear hown hown2 hgr hat hS0
            have hS0 := hS1
            clear hS1
            refine hKK.out _ _ hS0 (fun _ => ?_)
            clear hKK KK
            try simp only [Act.put, List.setIfInBounds_toArray, List.set_cons_zero, List.set_cons_succ, List.getElem_toArray, List.getElem_cons_succ, List.getElem_cons_zero]
            refine wpAnyH_take (i := 11) (v := ?_) rfl (by kernel_rfl) (by kernel_rfl) (by kernel_rfl) (fun _ _ _ h => h) (Or.inl ⟨by kernel_rfl, ?_⟩) hS0 ?_
            rotate_left
            · (intro W hSw; clear hSw; go_simp; try with_reducible rfl)
            try simp only [Act.put, List.setIfInBounds_toArray, List.set_cons_zero, List.set_cons_succ, List.getElem_toArray, List.getElem_cons_succ, List.getElem_cons_zero]
            refine wpAnyH_ready (rs := [12]) (by kernel_rfl) (by simp) ?_
            refine AllReadyH.cons rfl (fun KK hKK => ?_) AllReadyH.nil
            have fc := hrw.cell 4 (v := v5) rfl
            have fz := hrw.free 4
            go_simp
            refine hKK.out _ _ (hS0.other H 4 _ HHY.out) (fun _ => ?_)
            clear hKK KK fc fz hrw
            try simp only [Act.put, List.setIfInBounds_toArray, List.set_cons_zero, List.set_cons_succ, List.getElem_toArray, List.getElem_cons_succ, List.getElem_cons_zero]
            refine wpAnyH_done (by kernel_rfl) ?_ _
            have HA5 : Hid (RwAt (ws9.setCell ⟨H, 4, none⟩ (.slice sp4 (X.Q.length + x.Q.length) sc4)) R 75 #[.slice none 0 0, .slice none 0 0, .slice none 0 0, .slice none 0 0, .slice none 0 0] ∧ RosAt (ws9.setCell ⟨H, 4, none⟩ (.slice sp4 (X.Q.length + x.Q.length) sc4)) (R + 1) H 75 (whRo (.slice sp0 (X.D.length + x.D.length) sc0) (.slice sp1 (X.C.length + x.C.length) sc1) (.slice sp2 (X.K.length + x.M.length) sc2) (.slice sp3 (X.R.length + x.R.length) sc3) (.slice sp4 (X.Q.length + x.Q.length) sc4) ⟨X.D ++ x.D, X.C ++ x.C, X.K ++ x.M, X.R ++ (x.R.map (fxOf jm ⟨x, pd, pc⟩ pd)), X.Q ++ (x.Q.map (fxOf jm ⟨x, pd, pc⟩ pc))⟩) ∧ W.grownBy (ws9.setCell ⟨H, 4, none⟩ (.slice sp4 (X.Q.length + x.Q.length) sc4)) none ∧ RwAt (ws9.setCell ⟨H, 4, none⟩ (.slice sp4 (X.Q.length + x.Q.length) sc4)) Y 121 #[.slice p1 m1 e1, .slice p2 m2 e2, .slice p3 m3 e3, .slice p4 m4 e4, .slice p5 m5 e5, .slice p6 m6 e6, .int .i64 (pd : Int), .int .i64 (pc : Int)]) := hid (by
              obtain ⟨h1, h2, h3⟩ := ros_step HE8.out.1 HE8.out.2.1 HE8.out.2.2.1 HRe.out (k := 4) rfl HF9.out.2.1 HF9.out.2.2.1 HF9.out.2.2.2
              refine ⟨h1, ?_, h3, hS0.other H 4 _ HHY.out⟩
              have e : whRo (.slice sp0 (X.D.length + x.D.length) sc0) (.slice sp1 (X.C.length + x.C.length) sc1) (.slice sp2 (X.K.length + x.M.length) sc2) (.slice sp3 (X.R.length + x.R.length) sc3) (.slice sp4 (X.Q.length + x.Q.length) sc4) ⟨X.D ++ x.D, X.C ++ x.C, X.K ++ x.M, X.R ++ (x.R.map (fxOf jm ⟨x, pd, pc⟩ pd)), X.Q ++ (x.Q.map (fxOf jm ⟨x, pd, pc⟩ pc))⟩ = (whRo (.slice sp0 (X.D.length + x.D.length) sc0) (.slice sp1 (X.C.length + x.C.length) sc1) (.slice sp2 (X.K.length + x.M.length) sc2) (.slice sp3 (X.R.length + x.R.length) sc3) v5 ⟨X.D ++ x.D, X.C ++ x.C, X.K ++ x.M, X.R ++ (x.R.map (fxOf jm ⟨x, pd, pc⟩ pd)), X.Q⟩).set 4 ⟨(.slice sp4 (X.Q.length + x.Q.length) sc4), 106, 5, X.Q.length + x.Q.length, fxsL X.Q ++ fxsL (x.Q.map (fxOf jm ⟨x, pd, pc⟩ pc))⟩ := by
                simp [whRo, csL_append]
              rw [e]
              exact h2)
            clear HE8 HF9 hS0
            generalize ws9.setCell ⟨H, 4, none⟩ (.slice sp4 (X.Q.length + x.Q.length) sc4) = w8 at HA5 ⊢
            have HWn : Hid (WhW W w8 b0 G B R H _ Q ⟨jp, jd, jc, jm⟩ (.slice sp0 (X.D.length + x.D.length) sc0) (.slice sp1 (X.C.length + x.C.length) sc1) (.slice sp2 (X.K.length + x.M.length) sc2) (.slice sp3 (X.R.length + x.R.length) sc3) (.slice sp4 (X.Q.length + x.Q.length) sc4) ⟨X.D ++ x.D, X.C ++ x.C, X.K ++ x.M, X.R ++ (x.R.map (fxOf jm ⟨x, pd, pc⟩ pd)), X.Q ++ (x.Q.map (fxOf jm ⟨x, pd, pc⟩ pc))⟩ (k + 1)) := hid ⟨HJ.out.kept0 HA5.out.2.2.1, HA5.out.1, HA5.out.2.1, HA5.out.2.2.1, by
                show (jp.take (k + 1)).foldl (whAdd jm) wh0 = _
                have h1 := HE.out
                simp only at h1
                rw [List.take_add_one, Hps2.out, List.foldl_append, h1]
                rfl, by
                have h := HB.out
                have h2 := Hpk.out.b.len
                simp only at h h2
                simp only [List.length_append, List.length_map]
                omega⟩
            clear HA5 HB HE HHY
            go_wp2
            go_roundw
            case rel => exact ⟨k + 1, _, _, _, _, _, _, by have := Hkl.out; omega, by go_num, HWn⟩
            case measure => have := Hkl.out; simp [intOf]; omega
      · obtain rfl : k = N := by omega
        clear hlt
        have HRw := hid HR.out.r.row
        have HRz := hid HR.out.z
        have hall : (#[v1, v2, v3, v4, v5] : Array Value).all (·.oneCell') = true := by
          have o1 : ∃ p c, v1 = .slice p X.D.length c := own_slice (HR.out.r.at_ (k := 0) rfl)
          obtain ⟨q1, c1, rfl⟩ := o1
          have o2 : ∃ p c, v2 = .slice p X.C.length c := own_slice (HR.out.r.at_ (k := 1) rfl)
          obtain ⟨q2, c2, rfl⟩ := o2
          have o3 : ∃ p c, v3 = .slice p X.K.length c := own_slice (HR.out.r.at_ (k := 2) rfl)
          obtain ⟨q3, c3, rfl⟩ := o3
          have o4 : ∃ p c, v4 = .slice p X.R.length c := own_slice (HR.out.r.at_ (k := 3) rfl)
          obtain ⟨q4, c4, rfl⟩ := o4
          have o5 : ∃ p c, v5 = .slice p X.Q.length c := own_slice (HR.out.r.at_ (k := 4) rfl)
          obtain ⟨q5, c5, rfl⟩ := o5
          simp [Value.oneCell']
        have E := hid (HR.out.z.row #[v1, v2, v3, v4, v5])
        have hgr : wr.grownBy (wr.setRow R #[v1, v2, v3, v4, v5]) (some R) := ⟨rfl, rfl, rfl, by simp [World.setRow], fun i _ hi => setRow_other wr R i _ (fun e => hi (by rw [e]))⟩
        have EO : Hid (∀ r ∈ whRo v1 v2 v3 v4 v5 X, (wr.setRow R #[v1, v2, v3, v4, v5]).ownsRow W.heap.size r.e r.z r.v r.n r.xs) := hid (fun r hr => by
          have h := HR.out.r.own r hr
          have hne : r.v.ownBlock ≠ some R := fun e => by have := (h.lt R e).1; omega
          have h2 := h.kept hgr (.inr hne)
          refine ⟨h2.1, ?_⟩
          rcases h2.2 with h3 | ⟨g', cap', cur, a, b, rest⟩
          · exact .inl h3
          · exact .inr ⟨g', cap', cur, a, by have := HRe.out; omega, rest⟩)
        have EG := hid (grown_new' (grown_trans (grown_none HR.out.g) hgr) (fun j hj => by obtain rfl := Option.some.inj hj; exact Nat.le_of_eq HRe.out))
        have EX : Hid (whP ⟨jp, jd, jc, jm⟩ = X) := hid (by
          have h1 := HR.out.e
          have h2 := HR.out.j.eq
          simp only at h1 h2
          rw [List.take_of_length_le (by rw [← h2, List.length_map, HN.out]; exact Nat.le_refl _)] at h1
          exact h1)
        have EAp : Hid (∀ g, v1.ownBlock = some g → v2.ownBlock ≠ some g) := hid (HR.out.r.ap 0 1 _ _ (by decide) rfl rfl)
        clear hgr HR
        go_wp2_with (first
          | (refine wpList_load_rw rfl 75 _ rfl rfl HRw.out rfl Tryz.underlying75 info_whole ?_)
          | (refine wpList_store_rw rfl 75 _ _ rfl rfl rfl HRz.out info_whole rfl hall ?_)
          | fail)
        refine bodyPost_ret (results_cell_row Tryz.results38 _ _ R _ _ _ _ rfl E.out.blk Tryz.underlying75 rfl info_whole) rfl ?_
        refine ⟨v1, v2, v3, v4, v5, rfl, ?_, EAp.out, EG.out⟩
        rw [EX.out]
        exact EO.out
end Go.Proofs.YtnpnafidhcnkhaaGreatDoor

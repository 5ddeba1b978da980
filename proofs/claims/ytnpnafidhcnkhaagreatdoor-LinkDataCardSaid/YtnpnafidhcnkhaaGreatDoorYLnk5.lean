/- Package link: an object put behind the others: contract. (Made by golnk5.py.) -/
import Derived.Test.YtnpnafidhcnkhaaGreatDoorYLnk4
import Derived.Test.YtnpnafidhcnkhaaGreatDoorYLnkP
namespace Go.Proofs.YtnpnafidhcnkhaaGreatDoor
open Go.RowKit
theorem oat_below {W w : World} {V : OV} {x : PO} {b : Nat} (h : OAt W V x) (hb : Below b W w) (hl : W.heap.size ≤ b) : OAt w V x := h.kept0 (below_is_grown (hb.mono hl))
theorem errc_below {W w : World} {A : Nat → Addr} {b : Nat} (h : ErrC W A) (hb : Below b W w) (hl : W.heap.size ≤ b) : ErrC w A := h.kept0 (below_is_grown (hb.mono hl))
theorem below_0 {b : Nat} {W w w1 : World} (h : Below b W w) (hg : w.grownBy w1 none) (hb : b ≤ w.heap.size) : Below b W w1 := h.grown hg hb (fun _ e => by cases e)
theorem JnAt.size {b0 : Nat} {w : World} {G B : Nat} {pv : Value} {Q : List Pv} {J : Jn} (h : JnAt b0 w G B pv Q J) : b0 ≤ w.heap.size := Nat.le_of_lt (Nat.lt_of_le_of_lt h.geG h.row.lt)
theorem zero_part (w : World) : (zeroValue 121).run Tryz.prog w = .ok (.agg #[.slice none 0 0, .slice none 0 0, .slice none 0 0, .slice none 0 0, .slice none 0 0, .slice none 0 0, .int .i64 0, .int .i64 0]) w := by kernel_rfl
theorem build_part (a b c d e f : Value) (i j : Int) (w : World) : (Instr.build 121 #[(0, .agg #[a, b, c, d, e, f]), (1, .int .i64 i), (2, .int .i64 j)]).run Tryz.prog w = .ok (.agg #[a, b, c, d, e, f, .int .i64 i, .int .i64 j]) w := by kernel_rfl
theorem addS_skip {p : Pt} {s : Sy} {r : List Sy} {M : Mp} (h : globB s = false) : addS p (s :: r) M = addS p r M := by rw [addS, if_pos h]
theorem addS_twice {p : Pt} {s : Sy} {r : List Sy} {M : Mp} (h : globB s = true) (ht : (lkp M s.n).isSome = true) : addS p (s :: r) M = none := by rw [addS, if_neg (by simp [h]), if_pos ht]
theorem addS_put {p : Pt} {s : Sy} {r : List Sy} {M : Mp} (h : globB s = true) (ht : (lkp M s.n).isSome = false) : addS p (s :: r) M = addS p r (M ++ [(s.n, ptSp p s)]) := by rw [addS, if_neg (by simp [h]), if_neg (by simp [ht])]
theorem drop_at {α : Type} {l : List α} {k : Nat} {a : α} (h : l[k]? = some a) : l.drop k = a :: l.drop (k + 1) := by
  obtain ⟨hk, rfl⟩ := List.getElem?_eq_some_iff.1 h
  exact List.drop_eq_getElem_cons hk
/-- where the loop over the symbols stands -/
structure AdW (b0 : Nat) (W0 w : World) (G B b1 b6 : Nat) (pv : Value) (Q : List Pv) (J : Jn) (V : OV) (p : Pt) (M : Mp) (A : Nat → Addr) : Prop where
  j : JnAt b0 w G B pv Q ⟨J.ps, J.d, J.c, M⟩
  bw : Below b0 W0 w
  ob : RwAt w b1 41 #[V.d, V.c, V.m, V.r, V.q, V.s]
  pt : RwAt w b6 121 #[V.d, V.c, V.m, V.r, V.q, V.s, .int .i64 (p.d : Int), .int .i64 (p.c : Int)]
  ge : b0 ≤ b1 ∧ b0 ≤ b6
  ne : G ≠ b1 ∧ G ≠ b6 ∧ B ≠ b1 ∧ B ≠ b6 ∧ b1 ≠ b6 ∧ pv.ownBlock ≠ some b1 ∧ pv.ownBlock ≠ some b6
theorem AdW.kept0 {b0 : Nat} {W0 w w1 : World} {G B b1 b6 : Nat} {pv : Value} {Q : List Pv} {J : Jn} {V : OV} {p : Pt} {M : Mp} {A : Nat → Addr} (h : AdW b0 W0 w G B b1 b6 pv Q J V p M A) (hg : w.grownBy w1 none) : AdW b0 W0 w1 G B b1 b6 pv Q J V p M A :=
  ⟨h.j.kept0 hg, below_0 h.bw hg h.j.size, h.ob.kept0 hg, h.pt.kept0 hg, h.ge, h.ne⟩
theorem JnAt.setD {b0 : Nat} {w : World} {G B : Nat} {pv : Value} {Q : List Pv} {J : Jn} (h : JnAt b0 w G B pv Q J) (d : Nat) : JnAt b0 (w.setCell ⟨G, 1, none⟩ (.int .i64 (d : Int))) G B pv Q ⟨J.ps, d, J.c, J.M⟩ :=
  ⟨by have := h.row.set 1 (.int .i64 (d : Int)); simpa using this, h.ps.kept (grown_setCell (grown_refl w _) _ _) (.inr h.nvG), h.mp.setCell (Ne.symm h.neB), h.eq, h.neB, h.nvG, h.nvB, h.geG, h.geB⟩
theorem JnAt.setC {b0 : Nat} {w : World} {G B : Nat} {pv : Value} {Q : List Pv} {J : Jn} (h : JnAt b0 w G B pv Q J) (d : Nat) : JnAt b0 (w.setCell ⟨G, 2, none⟩ (.int .i64 (d : Int))) G B pv Q ⟨J.ps, J.d, d, J.M⟩ :=
  ⟨by have := h.row.set 2 (.int .i64 (d : Int)); simpa using this, h.ps.kept (grown_setCell (grown_refl w _) _ _) (.inr h.nvG), h.mp.setCell (Ne.symm h.neB), h.eq, h.neB, h.nvG, h.nvB, h.geG, h.geB⟩
theorem JnAt.push {b0 : Nat} {w w5 : World} {G B N g cap : Nat} {pv : Value} {Q : List Pv} {J : Jn} {q : Pv} (h : JnAt b0 w G B pv Q J) (hg : w.grownBy w5 pv.ownBlock) (hN : Q.length = N) (ho : w5.ownsRow b0 121 8 (.slice (some ⟨g, 0, none⟩) (N + 1) cap) (N + 1) (ptsC Q ++ ptC q)) (hat : pv.ownBlock = some g ∨ g = w.heap.size) :
    JnAt b0 (w5.setCell ⟨G, 0, none⟩ (.slice (some ⟨g, 0, none⟩) (N + 1) cap)) G B (.slice (some ⟨g, 0, none⟩) (N + 1) cap) (Q ++ [q]) ⟨J.ps ++ [q.p], J.d, J.c, J.M⟩ := by
  have hG : g ≠ G := by
    rcases hat with e | e
    · intro e2; exact h.nvG (by rw [e, e2])
    · have := h.row.lt; omega
  have hB : g ≠ B := by
    rcases hat with e | e
    · intro e2; exact h.nvB (by rw [e, e2])
    · have := h.mp.lt; omega
  have hs : w5.grownBy (w5.setCell ⟨G, 0, none⟩ (.slice (some ⟨g, 0, none⟩) (N + 1) cap)) (some G) := grown_setCell (grown_refl w5 _) _ _
  have hr := (h.row.kept hg (fun e => h.nvG e.symm)).set 0 (.slice (some ⟨g, 0, none⟩) (N + 1) cap)
  refine ⟨by simpa using hr, ?_, (h.mp.kept hg (fun e => h.nvB e.symm)).setCell (Ne.symm h.neB), ?_, h.neB, by simpa [Value.ownBlock] using hG, by simpa [Value.ownBlock] using hB, h.geG, h.geB⟩
  · have := ho.kept hs (.inr (by simpa [Value.ownBlock] using hG))
    rw [List.length_append, hN, List.length_singleton, ptsC, csL_append, csL_one]
    exact this
  · rw [List.map_append, h.eq]; rfl
theorem info_part9 : ∃ i : TypeInfo, Tryz.prog.info? 121 = some i ∧ i.zero = some (.agg #[.slice none 0 0, .slice none 0 0, .slice none 0 0, .slice none 0 0, .slice none 0 0, .slice none 0 0, .int .i64 0, .int .i64 0]) ∧ i.size = 8 ∧ i.bytes = 160 := info_parts (P := Tryz.prog) (e := 121) (z := .agg #[.slice none 0 0, .slice none 0 0, .slice none 0 0, .slice none 0 0, .slice none 0 0, .slice none 0 0, .int .i64 0, .int .i64 0]) (size := 8) (bytes := 160) (by kernel_rfl)
/-- behind add -/
def AddAt (b0 : Nat) (W0 : World) (G B : Nat) (Q : List Pv) (J : Jn) (V : OV) (x : PO) (A : Nat → Addr) (e : Ending) (w' : World) : Prop :=
  ∃ v, e = .returned v ∧ Below b0 W0 w' ∧ (match jnAdd J x with
    | .inl f => f ≠ none ∧ FltAt A w' v f
    | .inr J' => v = .nilIface ∧ ∃ pv', JnAt b0 w' G B pv' (Q ++ [⟨V, ⟨x, J.d, J.c⟩⟩]) J')
set_option maxRecDepth 100000 in
set_option maxHeartbeats 16000000 in
theorem add_any {b0 : Nat} {W0 W : World} {G B : Nat} {pv : Value} {Q : List Pv} {J : Jn} {V : OV} {x : PO} {A : Nat → Addr} (h : OAt W0 V x) (he : ErrC W0 A) (hb0 : W0.heap.size ≤ b0) (hW : Below b0 W0 W) (hb : ObB x) (hJ : JnAt b0 W G B pv Q J) (hd : J.d ≤ 60000 ∧ J.c ≤ 60000 ∧ J.ps.length ≤ 20)
    (hs : validP (woC x) = none → (∀ s ∈ x.S, 0 ≤ s.v ∧ s.v ≤ 2048) ∧ x.D.length ≤ 2048 ∧ x.C.length ≤ 2048) :
    Calls Tryz.prog 47 #[.pointer (some ⟨G, 0, none⟩), V.agg] W (AddAt b0 W0 G B Q J V x A) := by
  have HO := hid h
  have HE := hid he
  have HB := hid hb
  have Hd := hid hd
  have Hsy := hid hs
  have Hb0 := hid hb0
  obtain ⟨p1, n1, c1, p2, n2, c2, p3, n3, c3, p4, n4, c4, p5, n5, c5, p6, n6, c6, rfl⟩ := OAt.cells h
  obtain ⟨jd, hjd⟩ : ∃ d, J.d = d := ⟨_, rfl⟩
  obtain ⟨jc, hjc⟩ : ∃ d, J.c = d := ⟨_, rfl⟩
  have Hjd := hid hjd
  have Hjc := hid hjc
  have j0 : (0 : Int) ≤ (jd : Int) := by omega
  have j1 : (jd : Int) ≤ 60000 := by omega
  have j2 : (0 : Int) ≤ (jc : Int) := by omega
  have j3 : (jc : Int) ≤ 60000 := by omega
  have hal := World.grownBy_alloc W (.cells #[.slice p1 n1 c1, .slice p2 n2 c2, .slice p3 n3 c3, .slice p4 n4 c4, .slice p5 n5 c5, .slice p6 n6 c6] 41) none
  have HJ1 := hid (hJ.kept0 hal)
  have HW1 := hid (below_0 hW hal hJ.size)
  have HX1 := hid (RwAt.new W 41 #[.slice p1 n1 c1, .slice p2 n2 c2, .slice p3 n3 c3, .slice p4 n4 c4, .slice p5 n5 c5, .slice p6 n6 c6])
  have HGB : Hid (G < W.heap.size ∧ B < W.heap.size ∧ (∀ g, pv.ownBlock = some g → g < W.heap.size) ∧ b0 ≤ W.heap.size) := hid ⟨hJ.row.lt, hJ.mp.lt, fun g hg => (hJ.ps.lt g hg).2, hJ.size⟩
  clear h he hb0 hW hb hJ hd hs hal hjd hjc
  go_enter Tryz.func47, Tryz.ntmps47
  go_upto_region 1 with (fail)
  obtain ⟨b1, hb1⟩ : ∃ b, W.heap.size = b := ⟨_, rfl⟩
  rw [hb1] at HX1 HGB ⊢
  clear hb1
  generalize W.alloc (.cells #[.slice p1 n1 c1, .slice p2 n2 c2, .slice p3 n3 c3, .slice p4 n4 c4, .slice p5 n5 c5, .slice p6 n6 c6] 41) = w1 at HJ1 HW1 HX1 ⊢
  go_wp2_with (first
    | (refine wpList_load_rw rfl 41 _ rfl rfl HX1.out rfl Tryz.underlying41 info_object ?_)
    | fail)
  refine (lvalid_any (V := ⟨.slice p1 n1 c1, .slice p2 n2 c2, .slice p3 n3 c3, .slice p4 n4 c4, .slice p5 n5 c5, .slice p6 n6 c6⟩) (oat_below HO.out HW1.out Hb0.out) (errc_below HE.out HW1.out Hb0.out) HB.out).mono ?_
  rintro e w2 ⟨v, rfl, hv, hg⟩
  have HJ2 := hid (HJ1.out.kept0 hg)
  have HW2 := hid (below_0 HW1.out hg HJ1.out.size)
  have HX2 := hid (HX1.out.kept0 hg)
  clear hg HJ1 HW1 HX1
  cases hvp : validP (woC x) with
  | some f =>
    rw [hvp] at hv
    have HF := hid hv
    obtain ⟨ft, fp, rfl, hne0, hne1⟩ := flt_is_e hv (by simp)
    have Hja : Hid (jnAdd J x = .inl (some f)) := hid (by unfold jnAdd; rw [hvp])
    clear hv hvp hne0
    go_wp2
    go_ret
    exact ⟨_, rfl, HW2.out, by rw [Hja.out]; exact ⟨by simp, HF.out⟩⟩
  | none =>
    rw [hvp] at hv
    obtain rfl : v = .nilIface := hv
    have Hvp := hid hvp
    have Hsz := hid (Hsy.out hvp)
    clear hvp
    have Hzp := zero_part
    have hbp := build_part (.slice p1 n1 c1) (.slice p2 n2 c2) (.slice p3 n3 c3) (.slice p4 n4 c4) (.slice p5 n5 c5) (.slice p6 n6 c6) jd jc
    have hal := World.grownBy_alloc w2 (.cells #[.slice none 0 0, .slice none 0 0, .slice none 0 0, .slice none 0 0, .slice none 0 0, .slice none 0 0, .int .i64 0, .int .i64 0] 121) none
    have HXa := hid (HX2.out.kept0 hal)
    have HJa := hid (HJ2.out.kept0 hal)
    have x0 := HX2.out.cell 0 (v := .slice p1 n1 c1) rfl
    have x1 := HX2.out.cell 1 (v := .slice p2 n2 c2) rfl
    have x2 := HX2.out.cell 2 (v := .slice p3 n3 c3) rfl
    have x3 := HX2.out.cell 3 (v := .slice p4 n4 c4) rfl
    have x4 := HX2.out.cell 4 (v := .slice p5 n5 c5) rfl
    have x5 := HX2.out.cell 5 (v := .slice p6 n6 c6) rfl
    have y0 := HXa.out.cell 0 (v := .slice p1 n1 c1) rfl
    have y1 := HXa.out.cell 1 (v := .slice p2 n2 c2) rfl
    have y2 := HXa.out.cell 2 (v := .slice p3 n3 c3) rfl
    have y3 := HXa.out.cell 3 (v := .slice p4 n4 c4) rfl
    have y4 := HXa.out.cell 4 (v := .slice p5 n5 c5) rfl
    have y5 := HXa.out.cell 5 (v := .slice p6 n6 c6) rfl
    have g1 := HJ2.out.row.cell 1 (v := .int .i64 (jd : Int)) (by rw [← Hjd.out]; rfl)
    have g2 := HJ2.out.row.cell 2 (v := .int .i64 (jc : Int)) (by rw [← Hjc.out]; rfl)
    have h1 := HJa.out.row.cell 1 (v := .int .i64 (jd : Int)) (by rw [← Hjd.out]; rfl)
    have h2 := HJa.out.row.cell 2 (v := .int .i64 (jc : Int)) (by rw [← Hjc.out]; rfl)
    go_upto_region 4 with (fail)
    go_cut [6] from 16 to 25 (fun u wz => u = .pointer (some ⟨w2.heap.size, 0, none⟩) ∧ Hid (RwAt wz w2.heap.size 121 #[.slice p1 n1 c1, .slice p2 n2 c2, .slice p3 n3 c3, .slice p4 n4 c4, .slice p5 n5 c5, .slice p6 n6 c6, .int .i64 (jd : Int), .int .i64 (jc : Int)] ∧ w2.grownBy wz none))
    case first =>
      rename_i hJ0 hJ
      go_region
      all_goals
        refine hJ _ _ (Met.intro (hJ0 _ _ ?_))
        repeat apply Exists.intro
        refine ⟨?_, rfl⟩
        exact ⟨rfl, hid ⟨⟨heap_alloc_last w2 _⟩, grown_drew (World.grownBy_alloc w2 _ none)⟩⟩
    case rest =>
      obtain ⟨rfl, HXX⟩ := hcut
      rename World => wz
      obtain ⟨b6, hb6⟩ : ∃ b, w2.heap.size = b := ⟨_, rfl⟩
      have HAd : Hid (AdW b0 W0 wz G B b1 w2.heap.size pv Q J ⟨.slice p1 n1 c1, .slice p2 n2 c2, .slice p3 n3 c3, .slice p4 n4 c4, .slice p5 n5 c5, .slice p6 n6 c6⟩ ⟨x, jd, jc⟩ J.M A) := hid (by
        obtain ⟨h1, h2, h3, h4⟩ := HGB.out
        have s2 := HJ2.out.row.lt
        have s3 := HX2.out.lt
        refine ⟨HJ2.out.kept0 HXX.out.2, below_0 HW2.out HXX.out.2 HJ2.out.size, HX2.out.kept0 HXX.out.2, HXX.out.1, ⟨h4, HJ2.out.size⟩, by omega, by omega, by omega, ?_, by omega, fun e => ?_, fun e => ?_⟩
        · have := HJ2.out.mp.lt; omega
        · have := h3 b1 e; omega
        · have := (HJ2.out.ps.lt _ e).2; omega)
      rw [hb6] at HAd ⊢
      clear hb6 HXX HJ2 HX2 HW2 HGB x0 x1 x2 x3 x4 x5 y0 y1 y2 y3 y4 y5 g1 g2 h1 h2 HXa HJa Hzp hbp hal
      have Hn6 : Hid (x.S.length = n6) := hid (by
        obtain ⟨q1, q2, hq⟩ := HO.out.s.len
        simp only [Value.slice.injEq] at hq
        exact hq.2.1.symm)
      have n60 : (0 : Int) ≤ (n6 : Int) := by omega
      have n61 : (n6 : Int) ≤ 1000000 := by have := HB.out.len.2.2.2.2.2; have := Hn6.out; omega
      have e5 := HAd.out.ob.cell 5 (v := .slice p6 n6 c6) rfl
      go_wp2
      clear e5
      go_loopw [29] (fun i wr => ∃ k : Nat, ∃ M : Mp, k ≤ n6 ∧ i = .int .i64 k ∧ Hid (AdW b0 W0 wr G B b1 b6 pv Q J ⟨.slice p1 n1 c1, .slice p2 n2 c2, .slice p3 n3 c3, .slice p4 n4 c4, .slice p5 n5 c5, .slice p6 n6 c6⟩ ⟨x, jd, jc⟩ M A) ∧ Hid (addS ⟨x, jd, jc⟩ (x.S.drop k) M = addS ⟨x, jd, jc⟩ x.S J.M)) (fun i _ => n6 - (intOf i).toNat)
      case atStart => exact ⟨0, J.M, Nat.zero_le _, rfl, HAd, hid rfl⟩
      case round =>
        obtain ⟨k, M, hk, rfl, HR, Hrest⟩ := hrel
        clear HAd
        have k0 : (0 : Int) ≤ (k : Int) := by omega
        by_cases hlt : k < n6
        · have kn : (k : Int) < (n6 : Int) := by omega
          have Hlt := hid hlt
          obtain ⟨⟨sn, si, sv, sg⟩, hs⟩ : ∃ s, x.S[k]? = some s := ⟨_, List.getElem?_eq_getElem (by rw [Hn6.out]; exact hlt)⟩
          have Hdr := hid (drop_at hs)
          have Hsv := hid (Hsz.out.1 _ (List.mem_of_getElem? hs))
          obtain ⟨bs, os, cs, hv, hbs, g0, g1, g2, g3⟩ := sy_item (oat_below HO.out HR.out.bw Hb0.out).s hs
          rw [Hn6.out] at hv
          simp only [Value.slice.injEq, true_and] at hv
          obtain ⟨rfl, rfl⟩ := hv
          have hal := World.grownBy_alloc wr (.cells #[.string sn, .int .i64 si, .int .i64 sv, .bool sg] 63) none
          have HR6 := hid (HR.out.kept0 hal)
          have HX := hid (RwAt.new wr 63 #[.string sn, .int .i64 si, .int .i64 sv, .bool sg])
          clear hal hs hbs hlt
          go_upto_region 8 with (fail)
          clear g0 g1 g2 g3 HR
          obtain ⟨X, hX⟩ : ∃ X, wr.heap.size = X := ⟨_, rfl⟩
          rw [hX] at HX ⊢
          clear hX
          generalize wr.alloc (.cells #[.string sn, .int .i64 si, .int .i64 sv, .bool sg] 63) = w6 at HR6 HX ⊢
          have s1 := HX.out.cell 1 (v := .int .i64 si) rfl
          have s3 := HX.out.cell 3 (v := .bool sg) rfl
          cases sg with
          | false =>
            have Hnx : Hid (addS ⟨x, jd, jc⟩ (x.S.drop (k + 1)) M = addS ⟨x, jd, jc⟩ x.S J.M) := hid (by rw [← Hrest.out, Hdr.out, addS_skip (by unfold globB; rfl)])
            go_wp2
            go_roundw
            case rel => exact ⟨k + 1, M, Hlt.out, by go_num, HR6, Hnx⟩
            case measure => simp [intOf]; have := Hlt.out; omega
          | true =>
            by_cases h3 : si = 3
            · subst h3
              have Hnx : Hid (addS ⟨x, jd, jc⟩ (x.S.drop (k + 1)) M = addS ⟨x, jd, jc⟩ x.S J.M) := hid (by rw [← Hrest.out, Hdr.out, addS_skip (by unfold globB; rfl)])
              go_wp2
              go_roundw
              case rel => exact ⟨k + 1, M, Hlt.out, by go_num, HR6, Hnx⟩
              case measure => simp [intOf]; have := Hlt.out; omega
            · have h3b : (si == 3) = false := by simpa using h3
              have Hgl : Hid (globB ⟨sn, si, sv, true⟩ = true) := hid (by unfold globB; simpa using h3)
              clear h3
              obtain ⟨⟨qi, qa⟩, hq⟩ : ∃ q, lkD M sn = q := ⟨_, rfl⟩
              obtain ⟨tt, htt⟩ : ∃ tt, (lkp M sn).isSome = tt := ⟨_, rfl⟩
              have Htt := hid htt
              have Hzs := zero_spot
              have hl0 := HR6.out.j.mp.look_ok sn hq htt
              have hl1 := HR6.out.j.mp.drew.look_ok sn hq htt
              have hl2 := (HR6.out.j.mp.alloc (.cells #[.int .i64 0, .int .i64 0] 83)).look_ok sn hq htt
              have hl3 := (HR6.out.j.mp.alloc (.cells #[.int .i64 0, .int .i64 0] 83)).drew.look_ok sn hq htt
              have hal := World.grownBy_alloc w6 (.cells #[.int .i64 0, .int .i64 0] 83) none
              have m3 := HR6.out.j.row.cell 3 (v := .map (some B)) rfl
              have s0 := HX.out.cell 0 (v := .string sn) rfl
              have m3z := (HR6.out.kept0 hal).j.row.cell 3 (v := .map (some B)) rfl
              have s0z := (HX.out.kept0 hal).cell 0 (v := .string sn) rfl
              clear hq htt
              go_upto_region 9 with (fail)
              go_cut [9, 10] from 41 to 50 (fun u v wz => ∃ Y, u = .pointer (some ⟨Y, 0, none⟩) ∧ v = .bool tt ∧ Hid (w6.grownBy wz none))
              case first =>
                rename_i hJ0 hJ
                go_region
                all_goals
                  refine hJ _ _ (Met.intro (hJ0 _ _ ?_))
                  repeat apply Exists.intro
                  refine ⟨?_, rfl⟩
                  exact ⟨_, rfl, rfl, hid (grown_drew (World.grownBy_alloc w6 _ none))⟩
              case rest =>
                obtain ⟨Y, rfl, rfl, HYY⟩ := hcut
                rename World => w8
                have HR8 := hid (HR6.out.kept0 HYY.out)
                have HX8 := hid (HX.out.kept0 HYY.out)
                clear hl0 hl1 hl2 hl3 m3 s0 m3z s0z hal HYY HR6 HX s1 s3 Hzs
                cases tt with
                | true =>
                  have Hno : Hid (addS ⟨x, jd, jc⟩ x.S J.M = none) := hid (by rw [← Hrest.out, Hdr.out, addS_twice Hgl.out Htt.out])
                  have Hja : Hid (jnAdd J x = .inl (some (5, none))) := hid (by
                    unfold jnAdd
                    rw [Hvp.out, Hjd.out, Hjc.out, Hno.out])
                  have e5 := (errc_below HE.out HR8.out.bw Hb0.out).c5
                  unfold errV at e5
                  go_wp2
                  go_ret
                  exact ⟨_, rfl, HR8.out.bw, by rw [Hja.out]; exact ⟨by simp, rfl⟩⟩
                | false =>
                  have Hnone : Hid (lkp M sn = none) := hid (by have := Htt.out; cases h : lkp M sn with | none => rfl | some _ => rw [h] at this; cases this)
                  obtain ⟨⟨ti, ta⟩, ht⟩ : ∃ q, ptSp ⟨x, jd, jc⟩ ⟨sn, si, sv, true⟩ = q := ⟨_, rfl⟩
                  have Hnx : Hid (addS ⟨x, jd, jc⟩ (x.S.drop (k + 1)) (M ++ [(sn, ⟨ti, ta⟩)]) = addS ⟨x, jd, jc⟩ x.S J.M) := hid (by rw [← Hrest.out, Hdr.out, addS_put Hgl.out Htt.out, ht])
                  have Hspot : Hid (∀ W', Calls Tryz.prog 66 #[.agg #[.slice p1 n1 c1, .slice p2 n2 c2, .slice p3 n3 c3, .slice p4 n4 c4, .slice p5 n5 c5, .slice (some ⟨bs, os, none⟩) n6 c6, .int .i64 (jd : Int), .int .i64 (jc : Int)], .agg #[.string sn, .int .i64 si, .int .i64 sv, .bool true]] W' fun e w' => e = .returned (.agg #[.int .i64 ti, .int .i64 ta]) ∧ W'.grownBy w' none) := hid (fun W' => by
                    have h := spot_any W' ⟨.slice p1 n1 c1, .slice p2 n2 c2, .slice p3 n3 c3, .slice p4 n4 c4, .slice p5 n5 c5, .slice (some ⟨bs, os, none⟩) n6 c6⟩ ⟨x, jd, jc⟩ ⟨sn, si, sv, true⟩ (show jd ≤ 1000000 by have := Hd.out.1; have := Hjd.out; omega) (show jc ≤ 1000000 by have := Hd.out.2.1; have := Hjc.out; omega) ⟨Hsv.out.1, Int.le_trans Hsv.out.2 (by decide)⟩
                    rw [ht] at h
                    exact h)
                  have HRd := hid (HR8.out.kept0 (grown_drew (grown_refl w8 none)))
                  have HXd := hid (HX8.out.kept0 (grown_drew (grown_refl w8 none)))
                  have m3 := HRd.out.j.row.cell 3 (v := .map (some B)) rfl
                  have s0 := HXd.out.cell 0 (v := .string sn) rfl
                  have s1 := HXd.out.cell 1 (v := .int .i64 si) rfl
                  have s2 := HXd.out.cell 2 (v := .int .i64 sv) rfl
                  have s3 := HXd.out.cell 3 (v := .bool true) rfl
                  have y0 := HRd.out.pt.cell 0 (v := .slice p1 n1 c1) rfl
                  have y1 := HRd.out.pt.cell 1 (v := .slice p2 n2 c2) rfl
                  have y2 := HRd.out.pt.cell 2 (v := .slice p3 n3 c3) rfl
                  have y3 := HRd.out.pt.cell 3 (v := .slice p4 n4 c4) rfl
                  have y4 := HRd.out.pt.cell 4 (v := .slice p5 n5 c5) rfl
                  have y5 := HRd.out.pt.cell 5 (v := .slice (some ⟨bs, os, none⟩) n6 c6) rfl
                  have y6 := HRd.out.pt.cell 6 (v := .int .i64 (jd : Int)) rfl
                  have y7 := HRd.out.pt.cell 7 (v := .int .i64 (jc : Int)) rfl
                  clear ht
                  go_upto_region 12 with (fail)
                  go_region_law (first
                    | (go_simp
                       go_at_call 66
                       refine (Hspot.out _).mono ?_
                       rintro e w9 ⟨rfl, hg⟩
                       have hg2 : w8.grownBy w9 none := grown_trans (grown_drew (grown_refl w8 none)) hg
                       have HR9 := hid (HR8.out.kept0 hg2)
                       have m39 := HR9.out.j.row.cell 3 (v := .map (some B)) rfl
                       have s09 := (HX8.out.kept0 hg2).cell 0 (v := .string sn) rfl
                       obtain ⟨w10, hput, hmp, hgp⟩ := HR9.out.j.mp.put Hnone.out ⟨ti, ta⟩
                       have HM := hid (And.intro hmp hgp)
                       clear hg hg2 hmp hgp)
                    | fail)
                  all_goals
                    clear m3 s0 s1 s2 s3 y0 y1 y2 y3 y4 y5 y6 y7 m39 s09 hput
                    go_wp2
                    go_roundw
                    case rel =>
                      refine ⟨k + 1, M ++ [(sn, ⟨ti, ta⟩)], Hlt.out, by go_num, hid ?_, Hnx⟩
                      have hj := HR9.out.j
                      have hgp := HM.out.2
                      have hn := HR9.out.ne
                      refine ⟨⟨hj.row.kept hgp (fun e => hj.neB (Option.some.inj e)), hj.ps.kept hgp (.inr hj.nvB), HM.out.1, hj.eq, hj.neB, hj.nvG, hj.nvB, hj.geG, hj.geB⟩, HR9.out.bw.grown hgp hj.size (fun j e => by obtain rfl := Option.some.inj e; exact hj.geB), HR9.out.ob.kept hgp (fun e => hn.2.2.1 (Option.some.inj e).symm), HR9.out.pt.kept hgp (fun e => hn.2.2.2.1 (Option.some.inj e).symm), HR9.out.ge, hn⟩
                    case measure => simp [intOf]; have := Hlt.out; omega
        · obtain rfl : k = n6 := by omega
          have kn : ¬ ((k : Int) < (k : Int)) := by omega
          have Hadd : Hid (addS ⟨x, jd, jc⟩ x.S J.M = some M) := hid (by rw [← Hrest.out, ← Hn6.out, List.drop_length]; rfl)
          clear hlt Hrest
          obtain ⟨i, hi, hz0, hz1, hz2⟩ := info_part9
          have Hi := hid hi
          have Hz0 := hid hz0
          have Hz1 := hid hz1
          have Hz2 := hid hz2
          have Hn12 : Hid (n1 = x.D.length ∧ n2 = x.C.length) := hid (by
            obtain ⟨q1, q2, hq⟩ := HO.out.d.len'
            obtain ⟨q3, q4, hq2⟩ := HO.out.c.len'
            simp only [Value.slice.injEq] at hq hq2
            exact ⟨hq.2.1, hq2.2.1⟩)
          obtain ⟨N, hN⟩ : ∃ N, Q.length = N := ⟨_, rfl⟩
          have HN := hid hN
          have HNl : Hid (N ≤ 20) := hid (by rw [← hN]; have h1 := congrArg List.length HR.out.j.eq; rw [List.length_map] at h1; rw [h1]; exact Hd.out.2.2)
          obtain ⟨vp, vc, hpv⟩ := own_slice HR.out.j.ps
          rw [hN] at hpv
          subst hpv
          have HRd := hid (HR.out.kept0 (grown_drew (grown_refl wr none)))
          have HRa := hid (HR.out.kept0 (grown_drew (World.grownBy_alloc wr (.cells #[.slice p1 n1 c1, .slice p2 n2 c2, .slice p3 n3 c3, .slice p4 n4 c4, .slice p5 n5 c5, .slice p6 k c6, .int .i64 (jd : Int), .int .i64 (jc : Int)] 121) none)))
          have HRb := hid (HR.out.kept0 (World.grownBy_alloc wr (.cells #[.slice p1 n1 c1, .slice p2 n2 c2, .slice p3 n3 c3, .slice p4 n4 c4, .slice p5 n5 c5, .slice p6 k c6, .int .i64 (jd : Int), .int .i64 (jc : Int)] 121) none))
          have HNw : Hid (∀ j u, [.slice p1 n1 c1, .slice p2 n2 c2, .slice p3 n3 c3, .slice p4 n4 c4, .slice p5 n5 c5, .slice p6 k c6, .int .i64 (jd : Int), .int .i64 (jc : Int)][j]? = some u → (wr.alloc (.cells #[.slice p1 n1 c1, .slice p2 n2 c2, .slice p3 n3 c3, .slice p4 n4 c4, .slice p5 n5 c5, .slice p6 k c6, .int .i64 (jd : Int), .int .i64 (jc : Int)] 121)).drew.cell? ((⟨wr.heap.size, 0, none⟩ : Addr).add j) = some u) := hid (World.news_of_block (heap_alloc_new wr _))
          have HOw := HRa.out.j.ps
          rw [hN] at HOw
          have HOw := hid HOw
          have g0 := HRd.out.j.row.cell 0 (v := .slice vp N vc) rfl
          have g0a := HRa.out.j.row.cell 0 (v := .slice vp N vc) rfl
          have g0b := HRb.out.j.row.cell 0 (v := .slice vp N vc) rfl
          have y0 := HRd.out.pt.cell 0 (v := .slice p1 n1 c1) rfl
          have y1 := HRd.out.pt.cell 1 (v := .slice p2 n2 c2) rfl
          have y2 := HRd.out.pt.cell 2 (v := .slice p3 n3 c3) rfl
          have y3 := HRd.out.pt.cell 3 (v := .slice p4 n4 c4) rfl
          have y4 := HRd.out.pt.cell 4 (v := .slice p5 n5 c5) rfl
          have y5 := HRd.out.pt.cell 5 (v := .slice p6 k c6) rfl
          have y6 := HRd.out.pt.cell 6 (v := .int .i64 (jd : Int)) rfl
          have y7 := HRd.out.pt.cell 7 (v := .int .i64 (jc : Int)) rfl
          clear hi hz0 hz1 hz2 hN
          go_wp2_with fail
          go_region_law (first
            | (refine step_append_lies _ rfl (.tmp 67) (.tmp 69) 97 rfl b0 121 i _ 8 160 Tryz.underlying97 Hi.out Hz0.out Hz1.out Hz2.out rfl (by decide) (.slice vp N vc) N (ptsC Q) (by simp [Act.eval]) HOw.out ⟨wr.heap.size, 0, none⟩ 1 1 [.slice p1 n1 c1, .slice p2 n2 c2, .slice p3 n3 c3, .slice p4 n4 c4, .slice p5 n5 c5, .slice p6 k c6, .int .i64 (jd : Int), .int .i64 (jc : Int)] (by simp [Act.eval]) rfl HNw.out (by simp [Value.oneCell']) (by decide) (by have := HNl.out; unfold maxLen; omega) (by have := HNl.out; omega) HRa.out.j.size _ rfl ?_
               intro g cap w5 hown hgrow hat hlt2
               have hgrow0 : (wr.alloc (.cells #[.slice p1 n1 c1, .slice p2 n2 c2, .slice p3 n3 c3, .slice p4 n4 c4, .slice p5 n5 c5, .slice p6 k c6, .int .i64 (jd : Int), .int .i64 (jc : Int)] 121)).drew.grownBy w5 (Value.slice vp N vc).ownBlock := hgrow
               have hat0 : (Value.slice vp N vc).ownBlock = some g ∨ g = (wr.alloc (.cells #[.slice p1 n1 c1, .slice p2 n2 c2, .slice p3 n3 c3, .slice p4 n4 c4, .slice p5 n5 c5, .slice p6 k c6, .int .i64 (jd : Int), .int .i64 (jc : Int)] 121)).drew.heap.size := hat
               have HOn := hid hown
               have HG5 := hid hgrow0
               have HAt := hid hat0
               have b5 := HRa.out.j.row.kept hgrow0 (fun e => HRa.out.j.nvG e.symm)
               have c5 := b5.cell 0 (v := .slice vp N vc) rfl
               have z5 := b5.free 0
               clear hown hgrow hat hlt2 hgrow0 hat0 b5)
            | fail)
          all_goals
            clear g0 g0a g0b y0 y1 y2 y3 y4 y5 y6 y7 c5 z5
            have HJ5 : Hid (JnAt b0 (w5.setCell ⟨G, 0, none⟩ (.slice (some ⟨g, 0, none⟩) (N + 1) cap)) G B (.slice (some ⟨g, 0, none⟩) (N + 1) cap) (Q ++ [⟨⟨.slice p1 n1 c1, .slice p2 n2 c2, .slice p3 n3 c3, .slice p4 n4 c4, .slice p5 n5 c5, .slice p6 k c6⟩, ⟨x, jd, jc⟩⟩]) ⟨J.ps ++ [⟨x, jd, jc⟩], J.d, J.c, M⟩) := hid (HRa.out.j.push (q := ⟨⟨.slice p1 n1 c1, .slice p2 n2 c2, .slice p3 n3 c3, .slice p4 n4 c4, .slice p5 n5 c5, .slice p6 k c6⟩, ⟨x, jd, jc⟩⟩) HG5.out HN.out HOn.out HAt.out)
            have HB5 : Hid (Below b0 W0 (w5.setCell ⟨G, 0, none⟩ (.slice (some ⟨g, 0, none⟩) (N + 1) cap)) ∧ RwAt (w5.setCell ⟨G, 0, none⟩ (.slice (some ⟨g, 0, none⟩) (N + 1) cap)) b1 41 #[.slice p1 n1 c1, .slice p2 n2 c2, .slice p3 n3 c3, .slice p4 n4 c4, .slice p5 n5 c5, .slice p6 k c6]) := hid ⟨(HRa.out.bw.grown HG5.out HRa.out.j.size (fun j e => (HOw.out.lt j e).1)).setCell HR.out.j.geG _, (HRa.out.ob.kept HG5.out (fun e => HRa.out.ne.2.2.2.2.2.1 e.symm)).other G 0 _ (Ne.symm HR.out.ne.1)⟩
            go_wp2_with fail
            generalize w5.setCell ⟨G, 0, none⟩ (.slice (some ⟨g, 0, none⟩) (N + 1) cap) = w6 at HJ5 HB5 ⊢
            obtain ⟨D1, hD1⟩ : ∃ D, jd + n1 = D := ⟨_, rfl⟩
            obtain ⟨C1, hC1⟩ : ∃ C, jc + n2 = C := ⟨_, rfl⟩
            have hn1 := Hn12.out.1
            have hn2 := Hn12.out.2
            have kD : (jd : Int) + (n1 : Int) = (D1 : Int) := by omega
            have kC : (jc : Int) + (n2 : Int) = (C1 : Int) := by omega
            have D10 : (0 : Int) ≤ (D1 : Int) := by omega
            have D11 : (D1 : Int) ≤ 100000 := by have := Hsz.out.2; omega
            have C10 : (0 : Int) ≤ (C1 : Int) := by omega
            have C11 : (C1 : Int) ≤ 100000 := by have := Hsz.out.2; omega
            have HDC := hid (And.intro hD1 hC1)
            clear hn1 hn2 hD1 hC1
            have dr := grown_drew (grown_refl w6 none)
            have q0 := HB5.out.2.cell 0 (v := .slice p1 n1 c1) rfl
            have q0d := (HB5.out.2.kept0 dr).cell 0 (v := .slice p1 n1 c1) rfl
            have g1 := HJ5.out.row.cell 1 (v := .int .i64 (jd : Int)) (by rw [← Hjd.out]; rfl)
            have g1d := (HJ5.out.kept0 dr).row.cell 1 (v := .int .i64 (jd : Int)) (by rw [← Hjd.out]; rfl)
            have z1 := HJ5.out.row.free 1
            have z1d := (HJ5.out.kept0 dr).row.free 1
            go_region
            all_goals
              clear q0 q0d g1 g1d z1 z1d dr
              go_wp2_with fail
              have HJ6 : Hid (JnAt b0 (w6.setCell ⟨G, 1, none⟩ (.int .i64 (D1 : Int))).drew G B (.slice (some ⟨g, 0, none⟩) (N + 1) cap) (Q ++ [⟨⟨.slice p1 n1 c1, .slice p2 n2 c2, .slice p3 n3 c3, .slice p4 n4 c4, .slice p5 n5 c5, .slice p6 k c6⟩, ⟨x, jd, jc⟩⟩]) ⟨J.ps ++ [⟨x, jd, jc⟩], D1, J.c, M⟩) := hid ((HJ5.out.setD D1).kept0 (grown_drew (grown_refl _ none)))
              have HB6 : Hid (Below b0 W0 (w6.setCell ⟨G, 1, none⟩ (.int .i64 (D1 : Int))).drew ∧ RwAt (w6.setCell ⟨G, 1, none⟩ (.int .i64 (D1 : Int))).drew b1 41 #[.slice p1 n1 c1, .slice p2 n2 c2, .slice p3 n3 c3, .slice p4 n4 c4, .slice p5 n5 c5, .slice p6 k c6]) := hid ⟨(HB5.out.1.setCell HR.out.j.geG _).drew, (HB5.out.2.other G 1 _ (Ne.symm HR.out.ne.1)).kept0 (grown_drew (grown_refl _ none))⟩
              generalize (w6.setCell ⟨G, 1, none⟩ (.int .i64 (D1 : Int))).drew = w7 at HJ6 HB6 ⊢
              have dr := grown_drew (grown_refl w7 none)
              have q1 := HB6.out.2.cell 1 (v := .slice p2 n2 c2) rfl
              have q1d := (HB6.out.2.kept0 dr).cell 1 (v := .slice p2 n2 c2) rfl
              have g2 := HJ6.out.row.cell 2 (v := .int .i64 (jc : Int)) (by rw [← Hjc.out]; rfl)
              have g2d := (HJ6.out.kept0 dr).row.cell 2 (v := .int .i64 (jc : Int)) (by rw [← Hjc.out]; rfl)
              have z2 := HJ6.out.row.free 2
              have z2d := (HJ6.out.kept0 dr).row.free 2
              go_region
              all_goals
                clear q1 q1d g2 g2d z2 z2d dr
                go_wp2
                go_ret
                have hJ7 := (HJ6.out.setC C1).kept0 (grown_drew (grown_refl (w7.setCell ⟨G, 2, none⟩ (.int .i64 (C1 : Int))) none))
                have hB7 := (HB6.out.1.setCell (p := ⟨G, 2, none⟩) HR.out.j.geG (.int .i64 (C1 : Int))).drew
                have hja : jnAdd J x = .inr ⟨J.ps ++ [⟨x, J.d, J.c⟩], J.d + x.D.length, J.c + x.C.length, M⟩ := by
                  unfold jnAdd
                  rw [Hvp.out, Hjd.out, Hjc.out, Hadd.out]
                refine ⟨_, rfl, hB7, ?_⟩
                rw [hja]
                refine ⟨rfl, .slice (some ⟨g, 0, none⟩) (N + 1) cap, ?_⟩
                rw [Hjd.out, Hjc.out, ← Hn12.out.1, ← Hn12.out.2, HDC.out.1, HDC.out.2]
                exact hJ7
end Go.Proofs.YtnpnafidhcnkhaaGreatDoor

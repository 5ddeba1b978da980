/- An object of lines (facademake.Object), whatever they are, as long as they have no symbols and one label at most: contract. (Made by gomake.py.) -/
import Derived.Test.YtgahbpfmiibpeaaGreatDoorZMakeP
namespace Go.Proofs.YtgahbpfmiibpeaaGreatDoor
open Go.RowKit
/-- where the loop stands -/
structure Lq (W : World) (R G : Nat) (D : List Int) (ls : List Lne) (k : Nat) (w : World) (V : OV) : Prop where
  ob : OBx W w G [R] V (objL D (ls.take k))
  res : RwAt w R 27 #[.slice none 0 0, .slice none 0 0, .slice none 0 0, .slice none 0 0, .slice none 0 0, .slice none 0 0]
  d : R ≠ G
  r : V.r = .slice none 0 0
  q : V.q = .slice none 0 0
  s : (objL D (ls.take k)).S = [] → V.s = .slice none 0 0
theorem Lq.new {W w1 w2 : World} {R : Nat} {D : List Int} {ls : List Lne} {v : Value} (hR : W.heap.size = R) (hg1 : W.grownBy w1 none) (hr : RwAt w1 R 27 #[.slice none 0 0, .slice none 0 0, .slice none 0 0, .slice none 0 0, .slice none 0 0, .slice none 0 0]) (hg : w1.grownBy w2 none) (ho : w2.ownsRow w1.heap.size 46 1 v D.length (D.map (Value.int .u32))) :
    Lq W R w2.heap.size D ls 0 (w2.alloc (.cells #[v, .slice none 0 0, .slice none 0 0, .slice none 0 0, .slice none 0 0, .slice none 0 0] 27)) ⟨v, .slice none 0 0, .slice none 0 0, .slice none 0 0, .slice none 0 0, .slice none 0 0⟩ := by
  have al := World.grownBy_alloc w2 (.cells #[v, .slice none 0 0, .slice none 0 0, .slice none 0 0, .slice none 0 0, .slice none 0 0] 27) none
  have l1 := hr.lt
  have l2 := hg.size
  have hne : ∀ j, v.ownBlock = some j → w1.heap.size ≤ j ∧ j < w2.heap.size := fun j hj => ho.lt j hj
  have hw := hg1.size
  have nil : ∀ (t : TypeId) (size : Nat), (w2.alloc (.cells #[v, .slice none 0 0, .slice none 0 0, .slice none 0 0, .slice none 0 0, .slice none 0 0] 27)).ownsRow W.heap.size t size (.slice none 0 0) 0 [] := fun t size => World.ownsRow_nil _ _ _ _
  have ho2 := own_keep0 (own_base ho hw) al
  have hap : ∀ u : Value, Ap u (.slice none 0 0) := fun u => by
    by_cases h : u.ownBlock = none
    · exact .inl h
    · exact .inr h
  refine ⟨?_, (hr.kept0 hg).kept0 al, by omega, rfl, rfl, fun _ => rfl⟩
  rw [objL_zero]
  refine ⟨grown_below (grown_trans (grown_trans hg1 hg) al), RwAt.new w2 _ _, ⟨ho2, nil _ _, nil _ _, nil _ _, nil _ _, nil _ _, unpairs (hap _) (hap _) (hap _) (hap _) (hap _) (hap _) (hap _) (hap _) (hap _) (hap _) (hap _) (hap _) (hap _) (hap _) (hap _)⟩, by omega, fun u hu => ?_, fun T hT => ?_⟩
  · simp only [List.mem_cons, List.not_mem_nil, or_false] at hu
    rcases hu with rfl | rfl | rfl | rfl | rfl | rfl
    · refine ⟨fun e => ?_, fun T hT e => ?_⟩
      · have := (hne _ e).2; omega
      · obtain rfl := List.mem_singleton.1 hT
        have := (hne _ e).1; omega
    all_goals exact ⟨by simp [Value.ownBlock], fun T _ => by simp [Value.ownBlock]⟩
  · obtain rfl := List.mem_singleton.1 hT
    simp; omega
theorem Lq.done {W w : World} {R G k : Nat} {D : List Int} {ls : List Lne} {V : OV} (h : Lq W R G D ls k w V) (hR : W.heap.size ≤ R) (cs : Array Value) : OwnO W.heap.size (w.setRow R cs) V (objL D (ls.take k)) ∧ W.grownBy (w.setRow R cs) none := by
  have hg : w.grownBy (w.setRow R cs) (some R) := ⟨rfl, rfl, rfl, by simp [World.setRow], fun i _ hi => setRow_other w R i cs (fun e => hi (by rw [e]))⟩
  have n := fun u hu => (h.ob.ne u hu).2 R (by simp)
  exact ⟨⟨h.ob.own.d.kept hg (.inr (n _ (by simp))), h.ob.own.c.kept hg (.inr (n _ (by simp))), h.ob.own.m.kept hg (.inr (n _ (by simp))), h.ob.own.r.kept hg (.inr (n _ (by simp))), h.ob.own.q.kept hg (.inr (n _ (by simp))), h.ob.own.s.kept hg (.inr (n _ (by simp))), h.ob.own.ap⟩, grown_setRow h.ob.base_le hR cs⟩
set_option maxRecDepth 100000 in
set_option maxHeartbeats 16000000 in
theorem mkl_any {W : World} {dv lv : Value} {D : List Int} {ls : List Lne} (hD : D.length ≤ 1000) (hN : ls.length ≤ 2000) (hN0 : 0 < ls.length) (hgood : GoodL ls) (hd : SlAt W .u32 dv D) (hl : CsAt W lv ls.length (lnesC ls)) :
    Calls Tryz.prog 26 #[dv, lv] W fun e w' => ∃ V, e = .returned V.agg ∧ OwnO W.heap.size w' V (objL D ls) ∧ W.grownBy w' none := by
  obtain ⟨b, o, lc, rfl, hn, hb, hc⟩ := hl.at_ hN0
  obtain ⟨N, hNe⟩ : ∃ N, ls.length = N := ⟨_, rfl⟩
  rw [hNe] at hN hN0 hn ⊢
  have HNe := hid hNe
  have HN := hid hN
  have HD := hid hd
  have HDl := hid hD
  have HC := hid hc
  have Hb := hid hb
  have Hgood := hid hgood
  have n0 : (0 : Int) ≤ (N : Int) := by omega
  have n1 : (N : Int) ≤ 2000 := by omega
  clear hd hl hc hb hNe hN hN0 hD hgood hn
  go_enter Tryz.func26, Tryz.ntmps26
  have Hz := zero_obj
  go_upto_region 1 with (fail)
  obtain ⟨R, hR⟩ : ∃ R, W.heap.size = R := ⟨_, rfl⟩
  have HR0 := hid (RwAt.new W 27 #[.slice none 0 0, .slice none 0 0, .slice none 0 0, .slice none 0 0, .slice none 0 0, .slice none 0 0])
  have HD1 := hid (HD.out.kept0 (World.grownBy_alloc W (.cells #[.slice none 0 0, .slice none 0 0, .slice none 0 0, .slice none 0 0, .slice none 0 0, .slice none 0 0] 27) none))
  have HG1 := hid (World.grownBy_alloc W (.cells #[.slice none 0 0, .slice none 0 0, .slice none 0 0, .slice none 0 0, .slice none 0 0, .slice none 0 0] 27) none)
  rw [hR] at HR0 ⊢
  have HRe := hid hR
  clear hR
  generalize W.alloc (.cells #[.slice none 0 0, .slice none 0 0, .slice none 0 0, .slice none 0 0, .slice none 0 0, .slice none 0 0] 27) = w1 at HR0 HD1 HG1 ⊢
  go_wp2_with fail
  refine (rwords_any HD1.out (by have := HDl.out; omega)).mono ?_
  rintro e w2 ⟨v, rfl, how, hg⟩
  obtain ⟨dp, dc, rfl⟩ := own_slice how
  obtain ⟨nD, hnD⟩ : ∃ n, D.length = n := ⟨_, rfl⟩
  have HLP := hid (Lq.new (ls := ls) HRe.out HG1.out HR0.out hg how)
  rw [hnD] at HLP ⊢
  clear how hg hnD
  go_upto_region 2 with (fail)
  clear Hz
  obtain ⟨G, hG⟩ : ∃ G, w2.heap.size = G := ⟨_, rfl⟩
  rw [hG] at HLP ⊢
  clear hG
  generalize w2.alloc (.cells #[.slice dp nD dc, .slice none 0 0, .slice none 0 0, .slice none 0 0, .slice none 0 0, .slice none 0 0] 27) = w3 at HLP ⊢
  go_wp2
  go_loopw [6] (fun i wr => ∃ k : Nat, k ≤ N ∧ i = .int .i64 k ∧ Hid (∃ V, Lq W R G D ls k wr V)) (fun i _ => N - (intOf i).toNat)
  case atStart => exact ⟨0, Nat.zero_le _, rfl, hid ⟨_, HLP.out⟩⟩
  case round =>
    obtain ⟨k, hk, rfl, HP⟩ := hrel
    have k0 : (0 : Int) ≤ (k : Int) := by omega
    by_cases hlt : k < N
    · obtain ⟨l, hl⟩ : ∃ l, ls[k]? = some l := ⟨_, List.getElem?_eq_getElem (by rw [HNe.out]; exact hlt)⟩
      have hcell : ∀ i v, i < 8 → (lneC l).toList[i]? = some v → wr.cell? ⟨b, o + k * 8 + i, none⟩ = some v := by
        intro i v hi hv
        obtain ⟨V, hp⟩ := HP.out
        have h0 := HC.out (k * 8 + i) v (by rw [lnesC_get ls k i l hl hi]; exact hv)
        rw [← Nat.add_assoc] at h0
        exact (hp.ob.below.cell Hb.out).trans h0
      obtain ⟨⟨d, c, m, r, q, s⟩, hp⟩ := HP.out
      have e1 := hp.r
      have e2 := hp.q
      simp only at e1 e2
      subst e1; subst e2
      obtain ⟨cp, cc, hcv⟩ := own_slice hp.ob.own.c
      obtain ⟨mp, mc, hmv⟩ := own_slice hp.ob.own.m
      simp only at hcv hmv
      obtain ⟨nC, hnC⟩ : ∃ n, (objL D (ls.take k)).C.length = n := ⟨_, rfl⟩
      have hnM := objL_M D (ls.take k)
      rw [hnC] at hcv hnM
      rw [hnM] at hmv
      have HnC := hid hnC
      have HnM := hid hnM
      have HLn : Hid (nC ≤ 4000) := hid (by
        have h1 := objL_C D (ls.take k)
        rw [List.length_take] at h1
        have := HN.out
        omega)
      clear hnC hnM
      subst hcv; subst hmv
      have HPk := hid hp
      have Hlt := hid hlt
      have Hl := hid hl
      have kn : (k : Int) < (N : Int) := by omega
      clear hp HP hlt hl
      have hne : ∀ W : World, (Op.stringOp .neq ByteArray.empty ⟨#[]⟩).run Tryz.prog W = .ok (.bool false) W := fun W => by simp [Op.stringOp]
      have Hz := zero_ln
      cases l with
      | lab =>
        as_aux_lemma =>
          have hnm : ∀ W : World, (Op.stringOp .neq nmMain ⟨#[]⟩).run Tryz.prog W = .ok (.bool true) W := fun W => by simp [Op.stringOp, nmMain]
          have hnt : nmMain.toList.isEmpty = false := by first | rfl | decide +kernel | simp [nmMain] | (rw [ByteArray.toList_eq]; rfl)
          have c0 : wr.cell? ⟨b, o + k * 8, none⟩ = some (.int .i64 0) := hcell 0 _ (by decide) rfl
          have c1 : wr.cell? ⟨b, o + k * 8 + 1, none⟩ = some (.int .i64 0) := hcell 1 _ (by decide) rfl
          have c2 : wr.cell? ⟨b, o + k * 8 + 2, none⟩ = some (.int .i64 0) := hcell 2 _ (by decide) rfl
          have c3 : wr.cell? ⟨b, o + k * 8 + 3, none⟩ = some (.int .i64 0) := hcell 3 _ (by decide) rfl
          have c4 : wr.cell? ⟨b, o + k * 8 + 4, none⟩ = some (.int .u32 0) := hcell 4 _ (by decide) rfl
          have c5 : wr.cell? ⟨b, o + k * 8 + 5, none⟩ = some (.string nmMain) := hcell 5 _ (by decide) rfl
          have c6 : wr.cell? ⟨b, o + k * 8 + 6, none⟩ = some (.string ByteArray.empty) := hcell 6 _ (by decide) rfl
          have c7 : wr.cell? ⟨b, o + k * 8 + 7, none⟩ = some (.bool false) := hcell 7 _ (by decide) rfl
          clear hcell
          go_upto_region 19 with (fail)
          clear c0 c1 c2 c3 c4 c5 c6 c7 Hz
          have HO4 := hid (HPk.out.ob.box (.cells #[.int .i64 0, .int .i64 0, .int .i64 0, .int .i64 0, .int .u32 0, .string nmMain, .string ByteArray.empty, .bool false] 60))
          have HX4 := hid (RwAt.new wr 60 #[.int .i64 0, .int .i64 0, .int .i64 0, .int .i64 0, .int .u32 0, .string nmMain, .string ByteArray.empty, .bool false])
          have HR4 := hid (HPk.out.res.kept0 (World.grownBy_alloc wr (.cells #[.int .i64 0, .int .i64 0, .int .i64 0, .int .i64 0, .int .u32 0, .string nmMain, .string ByteArray.empty, .bool false] 60) none))
          obtain ⟨X, hX⟩ : ∃ X, wr.heap.size = X := ⟨_, rfl⟩
          have HXG : Hid (X ≠ G) := hid (by have := HPk.out.ob.g1.lt; omega)
          rw [hX] at HO4 HX4 ⊢
          clear hX
          generalize wr.alloc (.cells #[.int .i64 0, .int .i64 0, .int .i64 0, .int .i64 0, .int .u32 0, .string nmMain, .string ByteArray.empty, .bool false] 60) = w4 at HO4 HX4 HR4 ⊢
          have x5 := HX4.out.cell 5 (v := .string nmMain) rfl
          have x7 := HX4.out.cell 7 (v := .bool false) rfl
          have hS0 : (objL D (ls.take k)).S = [] := by rw [objL_S]; exact Hgood.out.one k Hl.out
          have hs0 := HPk.out.s hS0
          simp only at hs0
          subst hs0
          go_wp2_with fail
          refine (sym_first HO4.out rfl hS0 nmMain).mono ?_
          rintro e w5 ⟨rfl, g, cap, ho, hg⟩
          have HO5 := hid ho
          have HX5 := hid (HX4.out.kept hg (by simpa using HXG.out))
          have HR5 := hid (HR4.out.kept hg (by simpa using HPk.out.d))
          have h5 := CsAt.own ho.own.s
          obtain ⟨b5, o5, c5, hv5, _, _, hc5⟩ := h5.at_ (by show 0 < 1; omega)
          simp only [Value.slice.injEq, Option.some.injEq, Addr.mk.injEq, and_true] at hv5
          obtain ⟨⟨rfl, rfl⟩, -⟩ := hv5
          have hrow := ho.own.s.2
          have s0 : w5.cell? ⟨g, 0, none⟩ = some (.string nmMain) := hc5 0 _ rfl
          have s1 : w5.cell? ⟨g, 1, none⟩ = some (.int .i64 3) := hc5 1 _ rfl
          have s2 : w5.cell? ⟨g, 2, none⟩ = some (.int .i64 0) := hc5 2 _ rfl
          have s3 : w5.cell? ⟨g, 3, none⟩ = some (.bool true) := hc5 3 _ rfl
          have hfz : ∀ j, w5.frozen? ⟨g, j, none⟩ = false := by
            rcases hrow with ⟨hv, _⟩ | ⟨g', cap', cur, hv, _, hblk, _⟩
            · cases hv
            · simp only [Value.slice.injEq, Option.some.injEq, Addr.mk.injEq, and_true] at hv
              obtain ⟨rfl, -⟩ := hv
              exact fun j => frozen_of_row w5 g j _ _ hblk
          have f0 := hfz 0
          have f1 := hfz 1
          have f2 := hfz 2
          have f3 := hfz 3
          have e5 := ho.g1.cell 5 (v := .slice (some ⟨g, 0, none⟩) 1 cap) rfl
          have e1 := ho.g1.cell 1 (v := .slice cp nC cc) rfl
          have x5 := HX5.out.cell 5 (v := .string nmMain) rfl
          have hx := OBx.setS (s0 := ⟨nmMain, 3, 0, true⟩) ho.drop rfl ⟨nmMain, 2, nC, true⟩
          have hgs : w5.grownBy ((((w5.setCell ⟨g, 0, none⟩ (.string nmMain)).setCell ⟨g, 1, none⟩ (.int .i64 2)).setCell ⟨g, 2, none⟩ (.int .i64 nC)).setCell ⟨g, 3, none⟩ (.bool true)) (some g) := grown_setCell (grown_setCell (grown_setCell (grown_setCell (grown_refl _ _) _ _) _ _) _ _) _ _
          have hgR : R ≠ g := fun e => (ho.ne (.slice (some ⟨g, 0, none⟩) 1 cap) (by simp)).2 R (by simp) (by rw [e]; rfl)
          have hLp : Hid (Lq W R G D ls (k + 1) ((((w5.setCell ⟨g, 0, none⟩ (.string nmMain)).setCell ⟨g, 1, none⟩ (.int .i64 2)).setCell ⟨g, 2, none⟩ (.int .i64 nC)).setCell ⟨g, 3, none⟩ (.bool true)) ⟨d, .slice cp nC cc, .slice mp nC mc, .slice none 0 0, .slice none 0 0, .slice (some ⟨g, 0, none⟩) 1 cap⟩) := hid ⟨by
            rw [objL_succ D Hl.out]
            simp only [lneD]
            rw [HnC.out]
            exact hx, HR5.out.kept hgs (by simpa using hgR), HPk.out.d, rfl, rfl, fun h => by rw [objL_succ D Hl.out] at h; simp [lneD] at h⟩
          clear ho hg HO4 HX4 HR4 x7 h5 hc5 hrow hfz hx hgs hgR HO5 HX5 HR5
          go_wp2
          go_roundw
          case rel => exact ⟨k + 1, Hlt.out, by go_num, hid ⟨_, hLp.out⟩⟩
          case measure => simp [intOf]; have := Hlt.out; omega
      | tab im =>
        as_aux_lemma =>
          have c0 : wr.cell? ⟨b, o + k * 8, none⟩ = some (.int .i64 0) := hcell 0 _ (by decide) rfl
          have c1 : wr.cell? ⟨b, o + k * 8 + 1, none⟩ = some (.int .i64 0) := hcell 1 _ (by decide) rfl
          have c2 : wr.cell? ⟨b, o + k * 8 + 2, none⟩ = some (.int .i64 0) := hcell 2 _ (by decide) rfl
          have c3 : wr.cell? ⟨b, o + k * 8 + 3, none⟩ = some (.int .i64 0) := hcell 3 _ (by decide) rfl
          have c4 : wr.cell? ⟨b, o + k * 8 + 4, none⟩ = some (.int .u32 im) := hcell 4 _ (by decide) rfl
          have c5 : wr.cell? ⟨b, o + k * 8 + 5, none⟩ = some (.string ByteArray.empty) := hcell 5 _ (by decide) rfl
          have c6 : wr.cell? ⟨b, o + k * 8 + 6, none⟩ = some (.string ByteArray.empty) := hcell 6 _ (by decide) rfl
          have c7 : wr.cell? ⟨b, o + k * 8 + 7, none⟩ = some (.bool true) := hcell 7 _ (by decide) rfl
          clear hcell
          go_upto_region 19 with (fail)
          clear c0 c1 c2 c3 c4 c5 c6 c7 Hz
          have HO4 := hid (HPk.out.ob.box (.cells #[.int .i64 0, .int .i64 0, .int .i64 0, .int .i64 0, .int .u32 im, .string ByteArray.empty, .string ByteArray.empty, .bool true] 60))
          have HX4 := hid (RwAt.new wr 60 #[.int .i64 0, .int .i64 0, .int .i64 0, .int .i64 0, .int .u32 im, .string ByteArray.empty, .string ByteArray.empty, .bool true])
          have HR4 := hid (HPk.out.res.kept0 (World.grownBy_alloc wr (.cells #[.int .i64 0, .int .i64 0, .int .i64 0, .int .i64 0, .int .u32 im, .string ByteArray.empty, .string ByteArray.empty, .bool true] 60) none))
          obtain ⟨X, hX⟩ : ∃ X, wr.heap.size = X := ⟨_, rfl⟩
          have HXG : Hid (X ≠ G) := hid (by have := HPk.out.ob.g1.lt; omega)
          rw [hX] at HO4 HX4 ⊢
          clear hX
          generalize wr.alloc (.cells #[.int .i64 0, .int .i64 0, .int .i64 0, .int .i64 0, .int .u32 im, .string ByteArray.empty, .string ByteArray.empty, .bool true] 60) = w4 at HO4 HX4 HR4 ⊢
          have x4 := HX4.out.cell 4 (v := .int .u32 im) rfl
          have x5 := HX4.out.cell 5 (v := .string ByteArray.empty) rfl
          have x6 := HX4.out.cell 6 (v := .string ByteArray.empty) rfl
          have x7 := HX4.out.cell 7 (v := .bool true) rfl
          obtain ⟨iC5, hi, hz0, hz1, hz2⟩ := info_u32
          have HiC5 := hid hi
          have Hz0C5 := hid hz0
          have Hz1C5 := hid hz1
          have Hz2C5 := hid hz2
          have eiC5 := HO4.out.g1.cell 1 (v := .slice cp nC cc) rfl
          have HSC5 := hid (HO4.out.kept0 (World.grownBy_alloc w4 (.cells #[.int .u32 im] 46) none))
          have HOwC5 := HSC5.out.own.c
          simp only at HOwC5
          rw [HnC.out] at HOwC5
          have HOwC5 := hid HOwC5
          have HNC5 : Hid (∀ j u, [Value.int .u32 im][j]? = some u → (w4.alloc (.cells #[.int .u32 im] 46)).cell? ((⟨w4.heap.size, 0, none⟩ : Addr).add j) = some u) := hid (World.news_of_block (heap_alloc_new w4 _))
          have HNeC5 := hid (HSC5.out.ne (.slice cp nC cc) (by simp))
          clear hi hz0 hz1 hz2
          go_upto_region 26 with (first
            | (refine wpList_append_lies _ rfl _ _ 22 rfl W.heap.size 46 iC5 _ 1 4 Tryz.underlying22 HiC5.out Hz0C5.out Hz1C5.out Hz2C5.out rfl (by decide) _ (nC) _ rfl HOwC5.out ⟨w4.heap.size, 0, none⟩ 1 1 _ rfl rfl HNC5.out (by simp [Value.oneCell']) (by decide) (by have := HLn.out; unfold maxLen; omega) (by have := HLn.out; omega) HSC5.out.le _ rfl ?_
               intro gC5 capC5 vC5 hown hgrow hat hlt2
               have HQC5 := hid hown
               have hgrow0 : (w4.alloc (.cells #[.int .u32 im] 46)).grownBy vC5 (Value.slice cp nC cc).ownBlock := hgrow
               have hat0 : (Value.slice cp nC cc).ownBlock = some gC5 ∨ gC5 = (w4.alloc (.cells #[.int .u32 im] 46)).heap.size := hat
               have HGC5 := hid hgrow0
               have HTC5 := hid hat0
               have bC5 := HSC5.out.g1.kept hgrow0 (fun e => HNeC5.out.1 e.symm)
               have cC5 := bC5.cell 1 (v := .slice cp nC cc) rfl
               have zC5 := bC5.free 1
               clear hown hgrow hat hlt2 hgrow0 hat0)
            | fail)
          clear cC5 zC5 bC5 eiC5
          have HO5 := hid (OBx.tC HSC5.out [im] HnC.out.symm rfl HGC5.out HTC5.out HQC5.out)
          have HX5 := hid (((HX4.out.kept0 (World.grownBy_alloc w4 (.cells #[.int .u32 im] 46) none)).kept HGC5.out (fun e => HNeC5.out.2 X (by simp) e.symm)).other G 1 (.slice (some ⟨gC5, 0, none⟩) (nC + 1) capC5) HXG.out)
          have HR5 := hid (((HR4.out.kept0 (World.grownBy_alloc w4 (.cells #[.int .u32 im] 46) none)).kept HGC5.out (fun e => HNeC5.out.2 R (by simp) e.symm)).other G 1 (.slice (some ⟨gC5, 0, none⟩) (nC + 1) capC5) HPk.out.d)
          generalize vC5.setCell ⟨G, 1, none⟩ (.slice (some ⟨gC5, 0, none⟩) (nC + 1) capC5) = w5x at HO5 HX5 HR5 ⊢
          clear HSC5 HOwC5 HNC5 HNeC5 HGC5 HTC5 HQC5 HiC5 Hz0C5 Hz1C5 Hz2C5 HO4 HX4 HR4
          have HlC5 : Hid ((_ : List Int).length = nC + 1) := hid (show ((objL D (ls.take k)).C ++ [im]).length = nC + 1 by rw [List.length_append, HnC.out]; rfl)
          clear x4 x5 x6 x7
          obtain ⟨iM6, hi, hz0, hz1, hz2⟩ := info_u8
          have HiM6 := hid hi
          have Hz0M6 := hid hz0
          have Hz1M6 := hid hz1
          have Hz2M6 := hid hz2
          have eiM6 := HO5.out.g1.cell 2 (v := .slice mp nC mc) rfl
          have HSM6 := hid (HO5.out.kept0 (World.grownBy_alloc w5x (.cells #[.int .u8 2] 5) none))
          have HOwM6 := HSM6.out.own.m
          simp only at HOwM6
          rw [HnM.out] at HOwM6
          have HOwM6 := hid HOwM6
          have HNM6 : Hid (∀ j u, [Value.int .u8 2][j]? = some u → (w5x.alloc (.cells #[.int .u8 2] 5)).cell? ((⟨w5x.heap.size, 0, none⟩ : Addr).add j) = some u) := hid (World.news_of_block (heap_alloc_new w5x _))
          have HNeM6 := hid (HSM6.out.ne (.slice mp nC mc) (by simp))
          clear hi hz0 hz1 hz2
          go_wp2_with (first
            | (refine wpList_append_lies _ rfl _ _ 23 rfl W.heap.size 5 iM6 _ 1 1 Tryz.underlying23 HiM6.out Hz0M6.out Hz1M6.out Hz2M6.out rfl (by decide) _ (nC) _ rfl HOwM6.out ⟨w5x.heap.size, 0, none⟩ 1 1 _ rfl rfl HNM6.out (by simp [Value.oneCell']) (by decide) (by have := HLn.out; unfold maxLen; omega) (by have := HLn.out; omega) HSM6.out.le _ rfl ?_
               intro gM6 capM6 vM6 hown hgrow hat hlt2
               have HQM6 := hid hown
               have hgrow0 : (w5x.alloc (.cells #[.int .u8 2] 5)).grownBy vM6 (Value.slice mp nC mc).ownBlock := hgrow
               have hat0 : (Value.slice mp nC mc).ownBlock = some gM6 ∨ gM6 = (w5x.alloc (.cells #[.int .u8 2] 5)).heap.size := hat
               have HGM6 := hid hgrow0
               have HTM6 := hid hat0
               have bM6 := HSM6.out.g1.kept hgrow0 (fun e => HNeM6.out.1 e.symm)
               have cM6 := bM6.cell 2 (v := .slice mp nC mc) rfl
               have zM6 := bM6.free 2
               clear hown hgrow hat hlt2 hgrow0 hat0)
            | fail)
          clear cM6 zM6 bM6 eiM6
          have HO6 := hid (OBx.tM HSM6.out [2] HnM.out.symm rfl HGM6.out HTM6.out HQM6.out)
          have HX6 := hid (((HX5.out.kept0 (World.grownBy_alloc w5x (.cells #[.int .u8 2] 5) none)).kept HGM6.out (fun e => HNeM6.out.2 X (by simp) e.symm)).other G 2 (.slice (some ⟨gM6, 0, none⟩) (nC + 1) capM6) HXG.out)
          have HR6 := hid (((HR5.out.kept0 (World.grownBy_alloc w5x (.cells #[.int .u8 2] 5) none)).kept HGM6.out (fun e => HNeM6.out.2 R (by simp) e.symm)).other G 2 (.slice (some ⟨gM6, 0, none⟩) (nC + 1) capM6) HPk.out.d)
          generalize vM6.setCell ⟨G, 2, none⟩ (.slice (some ⟨gM6, 0, none⟩) (nC + 1) capM6) = w6x at HO6 HX6 HR6 ⊢
          clear HSM6 HOwM6 HNM6 HNeM6 HGM6 HTM6 HQM6 HiM6 Hz0M6 Hz1M6 Hz2M6 HO5 HX5 HR5
          have HlM6 : Hid ((_ : List Int).length = nC + 1) := hid (show ((objL D (ls.take k)).M ++ [2]).length = nC + 1 by rw [List.length_append, HnM.out]; rfl)
          have hLp : Hid (Lq W R G D ls (k + 1) w6x ⟨d, .slice (some ⟨gC5, 0, none⟩) (nC + 1) capC5, .slice (some ⟨gM6, 0, none⟩) (nC + 1) capM6, .slice none 0 0, .slice none 0 0, s⟩) := hid ⟨by
            have h := HO6.out.drop
            rw [objL_succ D Hl.out]
            --tab
            simp only [lneD]
            exact h, HR6.out, HPk.out.d, rfl, rfl, fun h => HPk.out.s (by
              rw [objL_succ D Hl.out] at h
              simp only [lneD] at h
              exact h)⟩
          go_roundw
          case rel => exact ⟨k + 1, Hlt.out, by go_num, hid ⟨_, hLp.out⟩⟩
          case measure => simp [intOf]; have := Hlt.out; omega
      | op xo xa xb xc im =>
        have Hins := hid (Hgood.out.ins k xo xa xb xc im Hl.out)
        obtain ⟨wd, hwd⟩ : ∃ wd, wordV xo xa xb xc im = wd := ⟨_, rfl⟩
        have Hwd := hid hwd
        clear hwd
        by_cases htw : twoB xo = true
        · have Htw := hid htw
          clear htw
          as_aux_lemma =>
            have c0 : wr.cell? ⟨b, o + k * 8, none⟩ = some (.int .i64 xo) := hcell 0 _ (by decide) rfl
            have c1 : wr.cell? ⟨b, o + k * 8 + 1, none⟩ = some (.int .i64 xa) := hcell 1 _ (by decide) rfl
            have c2 : wr.cell? ⟨b, o + k * 8 + 2, none⟩ = some (.int .i64 xb) := hcell 2 _ (by decide) rfl
            have c3 : wr.cell? ⟨b, o + k * 8 + 3, none⟩ = some (.int .i64 xc) := hcell 3 _ (by decide) rfl
            have c4 : wr.cell? ⟨b, o + k * 8 + 4, none⟩ = some (.int .u32 im) := hcell 4 _ (by decide) rfl
            have c5 : wr.cell? ⟨b, o + k * 8 + 5, none⟩ = some (.string ByteArray.empty) := hcell 5 _ (by decide) rfl
            have c6 : wr.cell? ⟨b, o + k * 8 + 6, none⟩ = some (.string ByteArray.empty) := hcell 6 _ (by decide) rfl
            have c7 : wr.cell? ⟨b, o + k * 8 + 7, none⟩ = some (.bool false) := hcell 7 _ (by decide) rfl
            clear hcell
            go_upto_region 19 with (fail)
            clear c0 c1 c2 c3 c4 c5 c6 c7 Hz
            have HO4 := hid (HPk.out.ob.box (.cells #[.int .i64 xo, .int .i64 xa, .int .i64 xb, .int .i64 xc, .int .u32 im, .string ByteArray.empty, .string ByteArray.empty, .bool false] 60))
            have HX4 := hid (RwAt.new wr 60 #[.int .i64 xo, .int .i64 xa, .int .i64 xb, .int .i64 xc, .int .u32 im, .string ByteArray.empty, .string ByteArray.empty, .bool false])
            have HR4 := hid (HPk.out.res.kept0 (World.grownBy_alloc wr (.cells #[.int .i64 xo, .int .i64 xa, .int .i64 xb, .int .i64 xc, .int .u32 im, .string ByteArray.empty, .string ByteArray.empty, .bool false] 60) none))
            obtain ⟨X, hX⟩ : ∃ X, wr.heap.size = X := ⟨_, rfl⟩
            have HXG : Hid (X ≠ G) := hid (by have := HPk.out.ob.g1.lt; omega)
            rw [hX] at HO4 HX4 ⊢
            clear hX
            generalize wr.alloc (.cells #[.int .i64 xo, .int .i64 xa, .int .i64 xb, .int .i64 xc, .int .u32 im, .string ByteArray.empty, .string ByteArray.empty, .bool false] 60) = w4 at HO4 HX4 HR4 ⊢
            have x0 := HX4.out.cell 0 (v := .int .i64 xo) rfl
            have x1 := HX4.out.cell 1 (v := .int .i64 xa) rfl
            have x2 := HX4.out.cell 2 (v := .int .i64 xb) rfl
            have x3 := HX4.out.cell 3 (v := .int .i64 xc) rfl
            have x4 := HX4.out.cell 4 (v := .int .u32 im) rfl
            have x5 := HX4.out.cell 5 (v := .string ByteArray.empty) rfl
            have x6 := HX4.out.cell 6 (v := .string ByteArray.empty) rfl
            have x7 := HX4.out.cell 7 (v := .bool false) rfl
            go_wp2_with fail
            refine (rword_any xo xa xb xc im _).mono ?_
            rintro e w5 ⟨rfl, hbl⟩
            rw [Hwd.out, Hins.out]
            have hg := below_is_grown hbl
            have HO5 := hid (HO4.out.kept0 hg)
            have HX5 := hid (HX4.out.kept0 hg)
            have HR5 := hid (HR4.out.kept0 hg)
            clear hbl hg x0 x1 x2 x3 x4 x5 x6 x7 HO4 HX4 HR4
            have x6 := HX5.out.cell 6 (v := .string ByteArray.empty) rfl
            obtain ⟨iC6, hi, hz0, hz1, hz2⟩ := info_u32
            have HiC6 := hid hi
            have Hz0C6 := hid hz0
            have Hz1C6 := hid hz1
            have Hz2C6 := hid hz2
            have eiC6 := HO5.out.g1.cell 1 (v := .slice cp nC cc) rfl
            have HSC6 := hid (HO5.out.kept0 (World.grownBy_alloc w5 (.cells #[.int .u32 wd] 46) none))
            have HOwC6 := HSC6.out.own.c
            simp only at HOwC6
            rw [HnC.out] at HOwC6
            have HOwC6 := hid HOwC6
            have HNC6 : Hid (∀ j u, [Value.int .u32 wd][j]? = some u → (w5.alloc (.cells #[.int .u32 wd] 46)).cell? ((⟨w5.heap.size, 0, none⟩ : Addr).add j) = some u) := hid (World.news_of_block (heap_alloc_new w5 _))
            have HNeC6 := hid (HSC6.out.ne (.slice cp nC cc) (by simp))
            clear hi hz0 hz1 hz2
            go_upto_region 15 with (first
              | (refine wpList_append_lies _ rfl _ _ 22 rfl W.heap.size 46 iC6 _ 1 4 Tryz.underlying22 HiC6.out Hz0C6.out Hz1C6.out Hz2C6.out rfl (by decide) _ (nC) _ rfl HOwC6.out ⟨w5.heap.size, 0, none⟩ 1 1 _ rfl rfl HNC6.out (by simp [Value.oneCell']) (by decide) (by have := HLn.out; unfold maxLen; omega) (by have := HLn.out; omega) HSC6.out.le _ rfl ?_
                 intro gC6 capC6 vC6 hown hgrow hat hlt2
                 have HQC6 := hid hown
                 have hgrow0 : (w5.alloc (.cells #[.int .u32 wd] 46)).grownBy vC6 (Value.slice cp nC cc).ownBlock := hgrow
                 have hat0 : (Value.slice cp nC cc).ownBlock = some gC6 ∨ gC6 = (w5.alloc (.cells #[.int .u32 wd] 46)).heap.size := hat
                 have HGC6 := hid hgrow0
                 have HTC6 := hid hat0
                 have bC6 := HSC6.out.g1.kept hgrow0 (fun e => HNeC6.out.1 e.symm)
                 have cC6 := bC6.cell 1 (v := .slice cp nC cc) rfl
                 have zC6 := bC6.free 1
                 clear hown hgrow hat hlt2 hgrow0 hat0)
              | fail)
            clear cC6 zC6 bC6 eiC6
            have HO6 := hid (OBx.tC HSC6.out [wd] HnC.out.symm rfl HGC6.out HTC6.out HQC6.out)
            have HX6 := hid (((HX5.out.kept0 (World.grownBy_alloc w5 (.cells #[.int .u32 wd] 46) none)).kept HGC6.out (fun e => HNeC6.out.2 X (by simp) e.symm)).other G 1 (.slice (some ⟨gC6, 0, none⟩) (nC + 1) capC6) HXG.out)
            have HR6 := hid (((HR5.out.kept0 (World.grownBy_alloc w5 (.cells #[.int .u32 wd] 46) none)).kept HGC6.out (fun e => HNeC6.out.2 R (by simp) e.symm)).other G 1 (.slice (some ⟨gC6, 0, none⟩) (nC + 1) capC6) HPk.out.d)
            generalize vC6.setCell ⟨G, 1, none⟩ (.slice (some ⟨gC6, 0, none⟩) (nC + 1) capC6) = w6x at HO6 HX6 HR6 ⊢
            clear HSC6 HOwC6 HNC6 HNeC6 HGC6 HTC6 HQC6 HiC6 Hz0C6 Hz1C6 Hz2C6 HO5 HX5 HR5
            have HlC6 : Hid ((_ : List Int).length = nC + 1) := hid (show ((objL D (ls.take k)).C ++ [wd]).length = nC + 1 by rw [List.length_append, HnC.out]; rfl)
            clear x6
            obtain ⟨iM7, hi, hz0, hz1, hz2⟩ := info_u8
            have HiM7 := hid hi
            have Hz0M7 := hid hz0
            have Hz1M7 := hid hz1
            have Hz2M7 := hid hz2
            have eiM7 := HO6.out.g1.cell 2 (v := .slice mp nC mc) rfl
            have HSM7 := hid (HO6.out.kept0 (World.grownBy_alloc w6x (.cells #[.int .u8 1] 5) none))
            have HOwM7 := HSM7.out.own.m
            simp only at HOwM7
            rw [HnM.out] at HOwM7
            have HOwM7 := hid HOwM7
            have HNM7 : Hid (∀ j u, [Value.int .u8 1][j]? = some u → (w6x.alloc (.cells #[.int .u8 1] 5)).cell? ((⟨w6x.heap.size, 0, none⟩ : Addr).add j) = some u) := hid (World.news_of_block (heap_alloc_new w6x _))
            have HNeM7 := hid (HSM7.out.ne (.slice mp nC mc) (by simp))
            clear hi hz0 hz1 hz2
            go_upto_region 16 with (first
              | (refine wpList_append_lies _ rfl _ _ 23 rfl W.heap.size 5 iM7 _ 1 1 Tryz.underlying23 HiM7.out Hz0M7.out Hz1M7.out Hz2M7.out rfl (by decide) _ (nC) _ rfl HOwM7.out ⟨w6x.heap.size, 0, none⟩ 1 1 _ rfl rfl HNM7.out (by simp [Value.oneCell']) (by decide) (by have := HLn.out; unfold maxLen; omega) (by have := HLn.out; omega) HSM7.out.le _ rfl ?_
                 intro gM7 capM7 vM7 hown hgrow hat hlt2
                 have HQM7 := hid hown
                 have hgrow0 : (w6x.alloc (.cells #[.int .u8 1] 5)).grownBy vM7 (Value.slice mp nC mc).ownBlock := hgrow
                 have hat0 : (Value.slice mp nC mc).ownBlock = some gM7 ∨ gM7 = (w6x.alloc (.cells #[.int .u8 1] 5)).heap.size := hat
                 have HGM7 := hid hgrow0
                 have HTM7 := hid hat0
                 have bM7 := HSM7.out.g1.kept hgrow0 (fun e => HNeM7.out.1 e.symm)
                 have cM7 := bM7.cell 2 (v := .slice mp nC mc) rfl
                 have zM7 := bM7.free 2
                 clear hown hgrow hat hlt2 hgrow0 hat0)
              | fail)
            clear cM7 zM7 bM7 eiM7
            have HO7 := hid (OBx.tM HSM7.out [1] HnM.out.symm rfl HGM7.out HTM7.out HQM7.out)
            have HX7 := hid (((HX6.out.kept0 (World.grownBy_alloc w6x (.cells #[.int .u8 1] 5) none)).kept HGM7.out (fun e => HNeM7.out.2 X (by simp) e.symm)).other G 2 (.slice (some ⟨gM7, 0, none⟩) (nC + 1) capM7) HXG.out)
            have HR7 := hid (((HR6.out.kept0 (World.grownBy_alloc w6x (.cells #[.int .u8 1] 5) none)).kept HGM7.out (fun e => HNeM7.out.2 R (by simp) e.symm)).other G 2 (.slice (some ⟨gM7, 0, none⟩) (nC + 1) capM7) HPk.out.d)
            generalize vM7.setCell ⟨G, 2, none⟩ (.slice (some ⟨gM7, 0, none⟩) (nC + 1) capM7) = w7x at HO7 HX7 HR7 ⊢
            clear HSM7 HOwM7 HNM7 HNeM7 HGM7 HTM7 HQM7 HiM7 Hz0M7 Hz1M7 Hz2M7 HO6 HX6 HR6
            have HlM7 : Hid ((_ : List Int).length = nC + 1) := hid (show ((objL D (ls.take k)).M ++ [1]).length = nC + 1 by rw [List.length_append, HnM.out]; rfl)
            have x0 := HX7.out.cell 0 (v := .int .i64 xo) rfl
            have x4 := HX7.out.cell 4 (v := .int .u32 im) rfl
            go_wp2_with fail
            refine (rtwo_any xo _).mono ?_
            rintro e w9 ⟨rfl, rfl⟩
            rw [Htw.out]
            obtain ⟨iC8, hi, hz0, hz1, hz2⟩ := info_u32
            have HiC8 := hid hi
            have Hz0C8 := hid hz0
            have Hz1C8 := hid hz1
            have Hz2C8 := hid hz2
            have eiC8 := HO7.out.g1.cell 1 (v := .slice (some ⟨gC6, 0, none⟩) (nC + 1) capC6) rfl
            have HSC8 := hid (HO7.out.kept0 (World.grownBy_alloc w7x (.cells #[.int .u32 im] 46) none))
            have HOwC8 := HSC8.out.own.c
            simp only at HOwC8
            rw [HlC6.out] at HOwC8
            have HOwC8 := hid HOwC8
            have HNC8 : Hid (∀ j u, [Value.int .u32 im][j]? = some u → (w7x.alloc (.cells #[.int .u32 im] 46)).cell? ((⟨w7x.heap.size, 0, none⟩ : Addr).add j) = some u) := hid (World.news_of_block (heap_alloc_new w7x _))
            have HNeC8 := hid (HSC8.out.ne (.slice (some ⟨gC6, 0, none⟩) (nC + 1) capC6) (by simp))
            clear hi hz0 hz1 hz2
            go_upto_region 18 with (first
              | (refine wpList_append_lies _ rfl _ _ 22 rfl W.heap.size 46 iC8 _ 1 4 Tryz.underlying22 HiC8.out Hz0C8.out Hz1C8.out Hz2C8.out rfl (by decide) _ (nC + 1) _ rfl HOwC8.out ⟨w7x.heap.size, 0, none⟩ 1 1 _ rfl rfl HNC8.out (by simp [Value.oneCell']) (by decide) (by have := HLn.out; unfold maxLen; omega) (by have := HLn.out; omega) HSC8.out.le _ rfl ?_
                 intro gC8 capC8 vC8 hown hgrow hat hlt2
                 have HQC8 := hid hown
                 have hgrow0 : (w7x.alloc (.cells #[.int .u32 im] 46)).grownBy vC8 (Value.slice (some ⟨gC6, 0, none⟩) (nC + 1) capC6).ownBlock := hgrow
                 have hat0 : (Value.slice (some ⟨gC6, 0, none⟩) (nC + 1) capC6).ownBlock = some gC8 ∨ gC8 = (w7x.alloc (.cells #[.int .u32 im] 46)).heap.size := hat
                 have HGC8 := hid hgrow0
                 have HTC8 := hid hat0
                 have bC8 := HSC8.out.g1.kept hgrow0 (fun e => HNeC8.out.1 e.symm)
                 have cC8 := bC8.cell 1 (v := .slice (some ⟨gC6, 0, none⟩) (nC + 1) capC6) rfl
                 have zC8 := bC8.free 1
                 clear hown hgrow hat hlt2 hgrow0 hat0)
              | fail)
            clear cC8 zC8 bC8 eiC8
            have HO8 := hid (OBx.tC HSC8.out [im] HlC6.out.symm rfl HGC8.out HTC8.out HQC8.out)
            have HX8 := hid (((HX7.out.kept0 (World.grownBy_alloc w7x (.cells #[.int .u32 im] 46) none)).kept HGC8.out (fun e => HNeC8.out.2 X (by simp) e.symm)).other G 1 (.slice (some ⟨gC8, 0, none⟩) (nC + 1 + 1) capC8) HXG.out)
            have HR8 := hid (((HR7.out.kept0 (World.grownBy_alloc w7x (.cells #[.int .u32 im] 46) none)).kept HGC8.out (fun e => HNeC8.out.2 R (by simp) e.symm)).other G 1 (.slice (some ⟨gC8, 0, none⟩) (nC + 1 + 1) capC8) HPk.out.d)
            generalize vC8.setCell ⟨G, 1, none⟩ (.slice (some ⟨gC8, 0, none⟩) (nC + 1 + 1) capC8) = w8x at HO8 HX8 HR8 ⊢
            clear HSC8 HOwC8 HNC8 HNeC8 HGC8 HTC8 HQC8 HiC8 Hz0C8 Hz1C8 Hz2C8 HO7 HX7 HR7
            have HlC8 : Hid ((_ : List Int).length = nC + 1 + 1) := hid (show (((objL D (ls.take k)).C ++ [wd]) ++ [im]).length = nC + 1 + 1 by rw [List.length_append, HlC6.out]; rfl)
            clear x0 x4
            obtain ⟨iM9, hi, hz0, hz1, hz2⟩ := info_u8
            have HiM9 := hid hi
            have Hz0M9 := hid hz0
            have Hz1M9 := hid hz1
            have Hz2M9 := hid hz2
            have eiM9 := HO8.out.g1.cell 2 (v := .slice (some ⟨gM7, 0, none⟩) (nC + 1) capM7) rfl
            have HSM9 := hid (HO8.out.kept0 (World.grownBy_alloc w8x (.cells #[.int .u8 0] 5) none))
            have HOwM9 := HSM9.out.own.m
            simp only at HOwM9
            rw [HlM7.out] at HOwM9
            have HOwM9 := hid HOwM9
            have HNM9 : Hid (∀ j u, [Value.int .u8 0][j]? = some u → (w8x.alloc (.cells #[.int .u8 0] 5)).cell? ((⟨w8x.heap.size, 0, none⟩ : Addr).add j) = some u) := hid (World.news_of_block (heap_alloc_new w8x _))
            have HNeM9 := hid (HSM9.out.ne (.slice (some ⟨gM7, 0, none⟩) (nC + 1) capM7) (by simp))
            clear hi hz0 hz1 hz2
            go_wp2_with (first
              | (refine wpList_append_lies _ rfl _ _ 23 rfl W.heap.size 5 iM9 _ 1 1 Tryz.underlying23 HiM9.out Hz0M9.out Hz1M9.out Hz2M9.out rfl (by decide) _ (nC + 1) _ rfl HOwM9.out ⟨w8x.heap.size, 0, none⟩ 1 1 _ rfl rfl HNM9.out (by simp [Value.oneCell']) (by decide) (by have := HLn.out; unfold maxLen; omega) (by have := HLn.out; omega) HSM9.out.le _ rfl ?_
                 intro gM9 capM9 vM9 hown hgrow hat hlt2
                 have HQM9 := hid hown
                 have hgrow0 : (w8x.alloc (.cells #[.int .u8 0] 5)).grownBy vM9 (Value.slice (some ⟨gM7, 0, none⟩) (nC + 1) capM7).ownBlock := hgrow
                 have hat0 : (Value.slice (some ⟨gM7, 0, none⟩) (nC + 1) capM7).ownBlock = some gM9 ∨ gM9 = (w8x.alloc (.cells #[.int .u8 0] 5)).heap.size := hat
                 have HGM9 := hid hgrow0
                 have HTM9 := hid hat0
                 have bM9 := HSM9.out.g1.kept hgrow0 (fun e => HNeM9.out.1 e.symm)
                 have cM9 := bM9.cell 2 (v := .slice (some ⟨gM7, 0, none⟩) (nC + 1) capM7) rfl
                 have zM9 := bM9.free 2
                 clear hown hgrow hat hlt2 hgrow0 hat0)
              | fail)
            clear cM9 zM9 bM9 eiM9
            have HO9 := hid (OBx.tM HSM9.out [0] HlM7.out.symm rfl HGM9.out HTM9.out HQM9.out)
            have HX9 := hid (((HX8.out.kept0 (World.grownBy_alloc w8x (.cells #[.int .u8 0] 5) none)).kept HGM9.out (fun e => HNeM9.out.2 X (by simp) e.symm)).other G 2 (.slice (some ⟨gM9, 0, none⟩) (nC + 1 + 1) capM9) HXG.out)
            have HR9 := hid (((HR8.out.kept0 (World.grownBy_alloc w8x (.cells #[.int .u8 0] 5) none)).kept HGM9.out (fun e => HNeM9.out.2 R (by simp) e.symm)).other G 2 (.slice (some ⟨gM9, 0, none⟩) (nC + 1 + 1) capM9) HPk.out.d)
            generalize vM9.setCell ⟨G, 2, none⟩ (.slice (some ⟨gM9, 0, none⟩) (nC + 1 + 1) capM9) = w9x at HO9 HX9 HR9 ⊢
            clear HSM9 HOwM9 HNM9 HNeM9 HGM9 HTM9 HQM9 HiM9 Hz0M9 Hz1M9 Hz2M9 HO8 HX8 HR8
            have HlM9 : Hid ((_ : List Int).length = nC + 1 + 1) := hid (show (((objL D (ls.take k)).M ++ [1]) ++ [0]).length = nC + 1 + 1 by rw [List.length_append, HlM7.out]; rfl)
            have hLp : Hid (Lq W R G D ls (k + 1) w9x ⟨d, .slice (some ⟨gC8, 0, none⟩) (nC + 1 + 1) capC8, .slice (some ⟨gM9, 0, none⟩) (nC + 1 + 1) capM9, .slice none 0 0, .slice none 0 0, s⟩) := hid ⟨by
              have h := HO9.out.drop
              rw [objL_succ D Hl.out]
              rw [lneD_two Htw.out, Hwd.out]
              exact h, HR9.out, HPk.out.d, rfl, rfl, fun h => HPk.out.s (by
                rw [objL_succ D Hl.out] at h
                first | rw [lneD_two Htw.out] at h | rw [lneD_one Htw.out] at h
                exact h)⟩
            go_roundw
            case rel => exact ⟨k + 1, Hlt.out, by go_num, hid ⟨_, hLp.out⟩⟩
            case measure => simp [intOf]; have := Hlt.out; omega
        · have Htw := hid (Bool.eq_false_iff.2 htw)
          clear htw
          as_aux_lemma =>
            have c0 : wr.cell? ⟨b, o + k * 8, none⟩ = some (.int .i64 xo) := hcell 0 _ (by decide) rfl
            have c1 : wr.cell? ⟨b, o + k * 8 + 1, none⟩ = some (.int .i64 xa) := hcell 1 _ (by decide) rfl
            have c2 : wr.cell? ⟨b, o + k * 8 + 2, none⟩ = some (.int .i64 xb) := hcell 2 _ (by decide) rfl
            have c3 : wr.cell? ⟨b, o + k * 8 + 3, none⟩ = some (.int .i64 xc) := hcell 3 _ (by decide) rfl
            have c4 : wr.cell? ⟨b, o + k * 8 + 4, none⟩ = some (.int .u32 im) := hcell 4 _ (by decide) rfl
            have c5 : wr.cell? ⟨b, o + k * 8 + 5, none⟩ = some (.string ByteArray.empty) := hcell 5 _ (by decide) rfl
            have c6 : wr.cell? ⟨b, o + k * 8 + 6, none⟩ = some (.string ByteArray.empty) := hcell 6 _ (by decide) rfl
            have c7 : wr.cell? ⟨b, o + k * 8 + 7, none⟩ = some (.bool false) := hcell 7 _ (by decide) rfl
            clear hcell
            go_upto_region 19 with (fail)
            clear c0 c1 c2 c3 c4 c5 c6 c7 Hz
            have HO4 := hid (HPk.out.ob.box (.cells #[.int .i64 xo, .int .i64 xa, .int .i64 xb, .int .i64 xc, .int .u32 im, .string ByteArray.empty, .string ByteArray.empty, .bool false] 60))
            have HX4 := hid (RwAt.new wr 60 #[.int .i64 xo, .int .i64 xa, .int .i64 xb, .int .i64 xc, .int .u32 im, .string ByteArray.empty, .string ByteArray.empty, .bool false])
            have HR4 := hid (HPk.out.res.kept0 (World.grownBy_alloc wr (.cells #[.int .i64 xo, .int .i64 xa, .int .i64 xb, .int .i64 xc, .int .u32 im, .string ByteArray.empty, .string ByteArray.empty, .bool false] 60) none))
            obtain ⟨X, hX⟩ : ∃ X, wr.heap.size = X := ⟨_, rfl⟩
            have HXG : Hid (X ≠ G) := hid (by have := HPk.out.ob.g1.lt; omega)
            rw [hX] at HO4 HX4 ⊢
            clear hX
            generalize wr.alloc (.cells #[.int .i64 xo, .int .i64 xa, .int .i64 xb, .int .i64 xc, .int .u32 im, .string ByteArray.empty, .string ByteArray.empty, .bool false] 60) = w4 at HO4 HX4 HR4 ⊢
            have x0 := HX4.out.cell 0 (v := .int .i64 xo) rfl
            have x1 := HX4.out.cell 1 (v := .int .i64 xa) rfl
            have x2 := HX4.out.cell 2 (v := .int .i64 xb) rfl
            have x3 := HX4.out.cell 3 (v := .int .i64 xc) rfl
            have x4 := HX4.out.cell 4 (v := .int .u32 im) rfl
            have x5 := HX4.out.cell 5 (v := .string ByteArray.empty) rfl
            have x6 := HX4.out.cell 6 (v := .string ByteArray.empty) rfl
            have x7 := HX4.out.cell 7 (v := .bool false) rfl
            go_wp2_with fail
            refine (rword_any xo xa xb xc im _).mono ?_
            rintro e w5 ⟨rfl, hbl⟩
            rw [Hwd.out, Hins.out]
            have hg := below_is_grown hbl
            have HO5 := hid (HO4.out.kept0 hg)
            have HX5 := hid (HX4.out.kept0 hg)
            have HR5 := hid (HR4.out.kept0 hg)
            clear hbl hg x0 x1 x2 x3 x4 x5 x6 x7 HO4 HX4 HR4
            have x6 := HX5.out.cell 6 (v := .string ByteArray.empty) rfl
            obtain ⟨iC6, hi, hz0, hz1, hz2⟩ := info_u32
            have HiC6 := hid hi
            have Hz0C6 := hid hz0
            have Hz1C6 := hid hz1
            have Hz2C6 := hid hz2
            have eiC6 := HO5.out.g1.cell 1 (v := .slice cp nC cc) rfl
            have HSC6 := hid (HO5.out.kept0 (World.grownBy_alloc w5 (.cells #[.int .u32 wd] 46) none))
            have HOwC6 := HSC6.out.own.c
            simp only at HOwC6
            rw [HnC.out] at HOwC6
            have HOwC6 := hid HOwC6
            have HNC6 : Hid (∀ j u, [Value.int .u32 wd][j]? = some u → (w5.alloc (.cells #[.int .u32 wd] 46)).cell? ((⟨w5.heap.size, 0, none⟩ : Addr).add j) = some u) := hid (World.news_of_block (heap_alloc_new w5 _))
            have HNeC6 := hid (HSC6.out.ne (.slice cp nC cc) (by simp))
            clear hi hz0 hz1 hz2
            go_upto_region 15 with (first
              | (refine wpList_append_lies _ rfl _ _ 22 rfl W.heap.size 46 iC6 _ 1 4 Tryz.underlying22 HiC6.out Hz0C6.out Hz1C6.out Hz2C6.out rfl (by decide) _ (nC) _ rfl HOwC6.out ⟨w5.heap.size, 0, none⟩ 1 1 _ rfl rfl HNC6.out (by simp [Value.oneCell']) (by decide) (by have := HLn.out; unfold maxLen; omega) (by have := HLn.out; omega) HSC6.out.le _ rfl ?_
                 intro gC6 capC6 vC6 hown hgrow hat hlt2
                 have HQC6 := hid hown
                 have hgrow0 : (w5.alloc (.cells #[.int .u32 wd] 46)).grownBy vC6 (Value.slice cp nC cc).ownBlock := hgrow
                 have hat0 : (Value.slice cp nC cc).ownBlock = some gC6 ∨ gC6 = (w5.alloc (.cells #[.int .u32 wd] 46)).heap.size := hat
                 have HGC6 := hid hgrow0
                 have HTC6 := hid hat0
                 have bC6 := HSC6.out.g1.kept hgrow0 (fun e => HNeC6.out.1 e.symm)
                 have cC6 := bC6.cell 1 (v := .slice cp nC cc) rfl
                 have zC6 := bC6.free 1
                 clear hown hgrow hat hlt2 hgrow0 hat0)
              | fail)
            clear cC6 zC6 bC6 eiC6
            have HO6 := hid (OBx.tC HSC6.out [wd] HnC.out.symm rfl HGC6.out HTC6.out HQC6.out)
            have HX6 := hid (((HX5.out.kept0 (World.grownBy_alloc w5 (.cells #[.int .u32 wd] 46) none)).kept HGC6.out (fun e => HNeC6.out.2 X (by simp) e.symm)).other G 1 (.slice (some ⟨gC6, 0, none⟩) (nC + 1) capC6) HXG.out)
            have HR6 := hid (((HR5.out.kept0 (World.grownBy_alloc w5 (.cells #[.int .u32 wd] 46) none)).kept HGC6.out (fun e => HNeC6.out.2 R (by simp) e.symm)).other G 1 (.slice (some ⟨gC6, 0, none⟩) (nC + 1) capC6) HPk.out.d)
            generalize vC6.setCell ⟨G, 1, none⟩ (.slice (some ⟨gC6, 0, none⟩) (nC + 1) capC6) = w6x at HO6 HX6 HR6 ⊢
            clear HSC6 HOwC6 HNC6 HNeC6 HGC6 HTC6 HQC6 HiC6 Hz0C6 Hz1C6 Hz2C6 HO5 HX5 HR5
            have HlC6 : Hid ((_ : List Int).length = nC + 1) := hid (show ((objL D (ls.take k)).C ++ [wd]).length = nC + 1 by rw [List.length_append, HnC.out]; rfl)
            clear x6
            obtain ⟨iM7, hi, hz0, hz1, hz2⟩ := info_u8
            have HiM7 := hid hi
            have Hz0M7 := hid hz0
            have Hz1M7 := hid hz1
            have Hz2M7 := hid hz2
            have eiM7 := HO6.out.g1.cell 2 (v := .slice mp nC mc) rfl
            have HSM7 := hid (HO6.out.kept0 (World.grownBy_alloc w6x (.cells #[.int .u8 1] 5) none))
            have HOwM7 := HSM7.out.own.m
            simp only at HOwM7
            rw [HnM.out] at HOwM7
            have HOwM7 := hid HOwM7
            have HNM7 : Hid (∀ j u, [Value.int .u8 1][j]? = some u → (w6x.alloc (.cells #[.int .u8 1] 5)).cell? ((⟨w6x.heap.size, 0, none⟩ : Addr).add j) = some u) := hid (World.news_of_block (heap_alloc_new w6x _))
            have HNeM7 := hid (HSM7.out.ne (.slice mp nC mc) (by simp))
            clear hi hz0 hz1 hz2
            go_upto_region 16 with (first
              | (refine wpList_append_lies _ rfl _ _ 23 rfl W.heap.size 5 iM7 _ 1 1 Tryz.underlying23 HiM7.out Hz0M7.out Hz1M7.out Hz2M7.out rfl (by decide) _ (nC) _ rfl HOwM7.out ⟨w6x.heap.size, 0, none⟩ 1 1 _ rfl rfl HNM7.out (by simp [Value.oneCell']) (by decide) (by have := HLn.out; unfold maxLen; omega) (by have := HLn.out; omega) HSM7.out.le _ rfl ?_
                 intro gM7 capM7 vM7 hown hgrow hat hlt2
                 have HQM7 := hid hown
                 have hgrow0 : (w6x.alloc (.cells #[.int .u8 1] 5)).grownBy vM7 (Value.slice mp nC mc).ownBlock := hgrow
                 have hat0 : (Value.slice mp nC mc).ownBlock = some gM7 ∨ gM7 = (w6x.alloc (.cells #[.int .u8 1] 5)).heap.size := hat
                 have HGM7 := hid hgrow0
                 have HTM7 := hid hat0
                 have bM7 := HSM7.out.g1.kept hgrow0 (fun e => HNeM7.out.1 e.symm)
                 have cM7 := bM7.cell 2 (v := .slice mp nC mc) rfl
                 have zM7 := bM7.free 2
                 clear hown hgrow hat hlt2 hgrow0 hat0)
              | fail)
            clear cM7 zM7 bM7 eiM7
            have HO7 := hid (OBx.tM HSM7.out [1] HnM.out.symm rfl HGM7.out HTM7.out HQM7.out)
            have HX7 := hid (((HX6.out.kept0 (World.grownBy_alloc w6x (.cells #[.int .u8 1] 5) none)).kept HGM7.out (fun e => HNeM7.out.2 X (by simp) e.symm)).other G 2 (.slice (some ⟨gM7, 0, none⟩) (nC + 1) capM7) HXG.out)
            have HR7 := hid (((HR6.out.kept0 (World.grownBy_alloc w6x (.cells #[.int .u8 1] 5) none)).kept HGM7.out (fun e => HNeM7.out.2 R (by simp) e.symm)).other G 2 (.slice (some ⟨gM7, 0, none⟩) (nC + 1) capM7) HPk.out.d)
            generalize vM7.setCell ⟨G, 2, none⟩ (.slice (some ⟨gM7, 0, none⟩) (nC + 1) capM7) = w7x at HO7 HX7 HR7 ⊢
            clear HSM7 HOwM7 HNM7 HNeM7 HGM7 HTM7 HQM7 HiM7 Hz0M7 Hz1M7 Hz2M7 HO6 HX6 HR6
            have HlM7 : Hid ((_ : List Int).length = nC + 1) := hid (show ((objL D (ls.take k)).M ++ [1]).length = nC + 1 by rw [List.length_append, HnM.out]; rfl)
            have x0 := HX7.out.cell 0 (v := .int .i64 xo) rfl
            have hLp : Hid (Lq W R G D ls (k + 1) w7x ⟨d, .slice (some ⟨gC6, 0, none⟩) (nC + 1) capC6, .slice (some ⟨gM7, 0, none⟩) (nC + 1) capM7, .slice none 0 0, .slice none 0 0, s⟩) := hid ⟨by
              have h := HO7.out.drop
              rw [objL_succ D Hl.out]
              rw [lneD_one Htw.out, Hwd.out]
              exact h, HR7.out, HPk.out.d, rfl, rfl, fun h => HPk.out.s (by
                rw [objL_succ D Hl.out] at h
                first | rw [lneD_two Htw.out] at h | rw [lneD_one Htw.out] at h
                exact h)⟩
            go_wp2_with fail
            refine (rtwo_any xo _).mono ?_
            rintro e w9 ⟨rfl, rfl⟩
            rw [Htw.out]
            go_wp2
            go_roundw
            case rel => exact ⟨k + 1, Hlt.out, by go_num, hid ⟨_, hLp.out⟩⟩
            case measure => simp [intOf]; have := Hlt.out; omega
    · obtain rfl : k = N := by omega
      clear hlt
      obtain ⟨⟨d, c, m, r, q, s⟩, hp⟩ := HP.out
      have hR : W.heap.size ≤ R := Nat.le_of_eq HRe.out
      have E := hid (hp.res.row #[d, c, m, r, q, s])
      have ED := hid (hp.done hR #[d, c, m, r, q, s])
      rw [List.take_of_length_le (by rw [HNe.out]; exact Nat.le_refl _)] at ED
      have HPo := hid hp
      have h1 := own_one hp.ob.own.d
      have h2 := own_one hp.ob.own.c
      have h3 := own_one hp.ob.own.m
      have h4 := own_one hp.ob.own.r
      have h5 := own_one hp.ob.own.q
      have h6 := own_one hp.ob.own.s
      have hall : (#[d, c, m, r, q, s] : Array Value).all (·.oneCell') = true := by simp_all
      clear h1 h2 h3 h4 h5 h6 hp hR
      go_wp2_with (first
        | (refine wpList_load_rw rfl 27 _ rfl rfl HPo.out.ob.g1 rfl Tryz.underlying27 info_object ?_)
        | (refine wpList_store_rw rfl 27 _ _ rfl rfl rfl HPo.out.res info_object rfl hall ?_)
        | fail)
      refine bodyPost_ret (results_cell_row Tryz.results26 _ _ R _ _ _ _ rfl E.out.blk Tryz.underlying27 rfl info_object) rfl ?_
      exact ⟨⟨d, c, m, r, q, s⟩, rfl, ED.out.1, ED.out.2⟩
end Go.Proofs.YtgahbpfmiibpeaaGreatDoor

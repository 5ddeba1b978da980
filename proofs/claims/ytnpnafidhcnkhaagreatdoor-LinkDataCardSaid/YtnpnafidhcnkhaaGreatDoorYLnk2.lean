/- Package link: an object without its calls; what is wrong with an object: contracts. (Made by golnk2.py.) -/
import Derived.Test.YtnpnafidhcnkhaaGreatDoorYLnkP
import Derived.Deep.RegionLaw
namespace Go.Proofs.YtnpnafidhcnkhaaGreatDoor
open Go.RowKit
theorem word_li (w : World) : Calls Tryz.prog 60 #[.agg #[.int .i64 14, .int .i64 0, .int .i64 0, .int .i64 0, .int .u32 0]] w fun e w' => e = .returned (.tuple #[.int .u32 234881024, .bool true]) ∧ w.grownBy w' none :=
  (word_any 14 0 0 0 0 w).mono fun _e _w' h => ⟨h.1, below_is_grown h.2⟩
theorem build_li0 (w : World) : (Instr.build 29 #[(0, .int .i64 14)]).run Tryz.prog w = .ok (.agg #[.int .i64 14, .int .i64 0, .int .i64 0, .int .i64 0, .int .u32 0]) w := by kernel_rfl
theorem rlsC_setk : ∀ (l : List Rl) (k : Nat) (r : Rl) (z : Int), l[k]? = some r → (rlsC l).set (k * 4 + 1) (.int .i64 z) = rlsC (l.set k ⟨r.a, z, r.s, r.d⟩)
  | [], _, _, _, h => by simp at h
  | x :: l, 0, r, z, h => by
    obtain rfl : x = r := by simpa using h
    rfl
  | x :: l, k + 1, r, z, h => by
    have := rlsC_setk l k r z (by simpa using h)
    rw [List.set_cons_succ, rlsC, rlsC, ← this, show (k + 1) * 4 + 1 = (rlC x).length + (k * 4 + 1) by simp [rlC]; omega, List.set_append_right _ _ (Nat.le_add_right _ _), Nat.add_sub_cancel_left]
/-- the call's own: its argument's box, the object that it makes, its result's box -/
structure WoW (W w : World) (G R P : Nat) (V : OV) (x : PO) (vc vq : Value) (n m : Nat) : Prop where
  g : W.grownBy w none
  box : RwAt w G 41 #[V.d, V.c, V.m, V.r, V.q, V.s]
  res : RwAt w R 41 #[.slice none 0 0, .slice none 0 0, .slice none 0 0, .slice none 0 0, .slice none 0 0, .slice none 0 0]
  bp : RwAt w P 41 #[V.d, vc, V.m, V.r, vq, V.s]
  oc : w.ownsRow (P + 1) 27 1 vc x.C.length ((woCn x n).map (Value.int .u32))
  oq : w.ownsRow (P + 1) 65 4 vq x.Q.length (rlsC (woQn x m))
  lt : W.heap.size ≤ G ∧ G < R ∧ R < P
  ap : Ap vc vq
theorem WoW.kept0 {W w w1 : World} {G R P : Nat} {V : OV} {x : PO} {vc vq : Value} {n m : Nat} (h : WoW W w G R P V x vc vq n m) (hg : w.grownBy w1 none) : WoW W w1 G R P V x vc vq n m :=
  ⟨grown_trans h.g hg, h.box.kept0 hg, h.res.kept0 hg, h.bp.kept0 hg, own_keep0 h.oc hg, own_keep0 h.oq hg, h.lt, h.ap⟩
theorem WoW.setC {W w : World} {G R P g n c m k : Nat} {V : OV} {x : PO} {vq : Value} (h : WoW W w G R P V x (.slice (some ⟨g, 0, none⟩) n c) vq k m) (hn : n = x.C.length) : WoW W (w.setCell ⟨g, k, none⟩ (.int .u32 (woW x k))) G R P V x (.slice (some ⟨g, 0, none⟩) n c) vq (k + 1) m := by
  subst hn
  obtain ⟨h1, h2⟩ := h.oc.stored k (.int .u32 (woW x k))
  have hge := (h.oc.lt g rfl).1
  have hlt := h.lt
  refine ⟨grown_new' (grown_trans (grown_none h.g) h2) (fun j hj => by obtain rfl := Option.some.inj hj; omega), h.box.kept h2 (by simp; omega), h.res.kept h2 (by simp; omega), h.bp.kept h2 (by simp; omega), ?_, h.oq.kept h2 ?_, h.lt, h.ap⟩
  · rw [← woCn_set, List.map_set]; exact h1
  · rcases h.ap with e | e
    · cases e
    · exact .inr (fun e2 => e e2.symm)
theorem WoW.setQ {W w : World} {G R P g n c m k : Nat} {V : OV} {x : PO} {vc : Value} {r : Rl} (h : WoW W w G R P V x vc (.slice (some ⟨g, 0, none⟩) n c) k m) (hn : n = x.Q.length) (hr : x.Q[m]? = some r) (hw : woQ x r = ⟨r.a, 2, r.s, r.d⟩) : WoW W (w.setCell ⟨g, m * 4 + 1, none⟩ (.int .i64 2)) G R P V x vc (.slice (some ⟨g, 0, none⟩) n c) k (m + 1) := by
  subst hn
  obtain ⟨h1, h2⟩ := h.oq.stored (m * 4 + 1) (.int .i64 2)
  have hge := (h.oq.lt g rfl).1
  have hlt := h.lt
  refine ⟨grown_new' (grown_trans (grown_none h.g) h2) (fun j hj => by obtain rfl := Option.some.inj hj; omega), h.box.kept h2 (by simp; omega), h.res.kept h2 (by simp; omega), h.bp.kept h2 (by simp; omega), h.oc.kept h2 ?_, ?_, h.lt, h.ap⟩
  · rcases h.ap with e | e
    · exact .inl e
    · exact .inr e
  · rw [← woQn_set hr, hw, ← rlsC_setk (woQn x m) m r 2 (by rw [woQn_get hr, if_neg (Nat.lt_irrefl _)])]; exact h1
theorem woQ_yes {x : PO} {r : Rl} (h : r.k = 1) (hc : calI x (r.a - 1) = true) : woQ x r = ⟨r.a, 2, r.s, r.d⟩ := by unfold woQ; rw [if_pos ⟨h, hc⟩]
theorem woQ_no {x : PO} {r : Rl} (h : ¬ (r.k = 1 ∧ calI x (r.a - 1) = true)) : woQ x r = r := by unfold woQ; rw [if_neg h]
theorem calI_wrap {x : PO} {a : Int} (h : -9223372036854775808 ≤ a ∧ a ≤ 9223372036854775807) (hl : x.C.length ≤ 1000000) : calI x (wrap64 (a - 1)) = calI x (a - 1) := by
  by_cases e : a = -9223372036854775808
  · subst e
    rw [show wrap64 (-9223372036854775808 - 1) = ((9223372036854775807 : Nat) : Int) by unfold wrap64; decide, calI_nat, calB_far (by omega), calI_neg (by decide)]
  · rw [IntWalk.wrap64_in _ (by omega)]
/-- behind withoutCalls -/
def WoAt (W : World) (x : PO) (e : Ending) (w' : World) : Prop := ∃ V', e = .returned V'.agg ∧ OAt w' V' (woC x) ∧ W.grownBy w' none
set_option maxRecDepth 100000 in
set_option maxHeartbeats 16000000 in
theorem wo_any {W : World} {V : OV} {x : PO} (h : OAt W V x) (hf : OFit x) (hb : x.C.length ≤ 1000000 ∧ x.Q.length ≤ 1000000) (hq : ∀ r ∈ x.Q, -9223372036854775808 ≤ r.a ∧ r.a ≤ 9223372036854775807) :
    Calls Tryz.prog 85 #[V.agg] W (WoAt W x) := by
  obtain ⟨d, c, m, r, q, s⟩ := V
  have Hz := zero_obj
  have HA := hid ((RwAt.new W 41 #[d, c, m, r, q, s]).alloc (.cells #[.slice none 0 0, .slice none 0 0, .slice none 0 0, .slice none 0 0, .slice none 0 0, .slice none 0 0] 41))
  have HRA := hid (RwAt.new2 W (.cells #[d, c, m, r, q, s] 41) 41 #[.slice none 0 0, .slice none 0 0, .slice none 0 0, .slice none 0 0, .slice none 0 0, .slice none 0 0])
  have HG := hid (grown_trans (World.grownBy_alloc W (.cells #[d, c, m, r, q, s] 41) none) (World.grownBy_alloc _ (.cells #[.slice none 0 0, .slice none 0 0, .slice none 0 0, .slice none 0 0, .slice none 0 0, .slice none 0 0] 41) none))
  have Hs : Hid (((W.alloc (.cells #[d, c, m, r, q, s] 41)).alloc (.cells #[.slice none 0 0, .slice none 0 0, .slice none 0 0, .slice none 0 0, .slice none 0 0, .slice none 0 0] 41)).heap.size = W.heap.size + 2) := hid (by simp)
  have HO := hid h
  have HF := hid hf
  have HBd := hid hb
  have HQa := hid hq
  have Hone : Hid ((#[d, c, m, r, q, s]).all (·.oneCell') = true) := hid (by
    obtain ⟨p1, n1, c1, p2, n2, c2, p3, n3, c3, p4, n4, c4, p5, n5, c5, p6, n6, c6, hV⟩ := OAt.cells h
    simp only [OV.mk.injEq] at hV
    obtain ⟨rfl, rfl, rfl, rfl, rfl, rfl⟩ := hV
    simp [Value.oneCell'])
  clear h hf hb hq
  go_enter Tryz.func85, Tryz.ntmps85
  go_upto_region 1 with (fail)
  obtain ⟨G, hG⟩ : ∃ G, W.heap.size = G := ⟨_, rfl⟩
  rw [hG] at HA HRA Hs ⊢
  generalize (W.alloc (.cells #[d, c, m, r, q, s] 41)).alloc (.cells #[.slice none 0 0, .slice none 0 0, .slice none 0 0, .slice none 0 0, .slice none 0 0, .slice none 0 0] 41) = w1 at HA HRA HG Hs ⊢
  obtain ⟨R, hR⟩ : ∃ R, G + 1 = R := ⟨_, rfl⟩
  rw [hR] at HRA ⊢
  have hal := World.grownBy_alloc w1 (.cells #[d, c, m, r, q, s] 41) none
  have HA2 := hid (HA.out.kept0 hal)
  have HR2 := hid (HRA.out.kept0 hal)
  have HG2 := hid (grown_trans HG.out hal)
  have HP2 := hid (RwAt.new w1 41 #[d, c, m, r, q, s])
  have HPs : Hid ((w1.alloc (.cells #[d, c, m, r, q, s] 41)).heap.size = w1.heap.size + 1) := hid (by simp)
  have HGe := hid hG
  have HRe := hid hR
  clear hG hR hal
  go_upto_region 2 with (first
    | (refine wpList_load_rw rfl 41 _ rfl rfl HA.out rfl Tryz.underlying41 info_object ?_)
    | (refine wpList_store_rw rfl 41 _ _ rfl rfl rfl (RwAt.new w1 _ _) info_object rfl Hone.out ?_; rw [World.setRow_alloc_new])
    | fail)
  obtain ⟨PP, hP⟩ : ∃ PP, w1.heap.size = PP := ⟨_, rfl⟩
  rw [hP] at HP2 HPs Hs ⊢
  have Hlt : Hid (W.heap.size ≤ G ∧ G < R ∧ R < PP) := hid (by have := HGe.out; have := HRe.out; have := Hs.out; omega)
  clear hP HA HRA HG Hs HGe HRe Hz
  generalize w1.alloc (.cells #[d, c, m, r, q, s] 41) = w2 at HA2 HR2 HG2 HP2 HPs ⊢
  have H0 := hid (HA2.out.kept0 (grown_drew (grown_refl w2 none)))
  have HO0 : Hid (OAt w2.drew ⟨d, c, m, r, q, s⟩ x) := hid (HO.out.kept0 (grown_drew HG2.out))
  have Hne : Hid (G ≠ PP) := hid (by have := Hlt.out; omega)
  have k01 := H0.out.cell 1 (v := c) rfl
  have k04 := H0.out.cell 4 (v := q) rfl
  have HPd := hid (HP2.out.kept0 (grown_drew (grown_refl w2 none)))
  go_region_held3 (fun W => W.cell? ⟨G, 1, none⟩ = some c ∧ W.cell? ⟨G, 4, none⟩ = some q)
    (first | (with_reducible exact ⟨k01, k04⟩) | (with_reducible exact ⟨k11, k14⟩) | (with_reducible exact ⟨k21, k24⟩) | (with_reducible exact ⟨k31, k34⟩) | (with_reducible exact ⟨k41, k44⟩))
    (first
      | (go_at_call 56; refine (clone_u32 HO0.out.c HBd.out.1).mono ?_; rintro e w3 ⟨v0, rfl, ho, hg⟩; obtain ⟨p0, c0, rfl⟩ := own_slice ho; have HC0 := hid ho; have HG0 := hid hg; have H1 := hid (H0.out.kept0 hg); have HO1 := hid (HO0.out.kept0 hg); clear ho hg H0 HO0; have k11 := H1.out.cell 1 (v := c) rfl; have k14 := H1.out.cell 4 (v := q) rfl)
      | (go_at_call 58; refine (clone_rl HO1.out.q HBd.out.2).mono ?_; rintro e w4 ⟨v1, rfl, ho, hg⟩; obtain ⟨p1, c1, rfl⟩ := own_slice ho; have HC1 := hid ho; have HG1 := hid hg; have H2 := hid (H1.out.kept0 hg); have HO2 := hid (HO1.out.kept0 hg); clear ho hg H1 HO1; have k21 := H2.out.cell 1 (v := c) rfl; have k24 := H2.out.cell 4 (v := q) rfl; have HP4 := hid (HPd.out.kept0 (grown_trans HG0.out HG1.out)); have p4a := HP4.out.cell 1 (v := c) rfl; have p4b := HP4.out.cell 4 (v := q) rfl; have z4a := HP4.out.free 1; have z4b := HP4.out.free 4; have k31 := (H2.out.other PP 1 (.slice p0 x.C.length c0) Hne.out).cell 1 (v := c) rfl; have k34 := (H2.out.other PP 1 (.slice p0 x.C.length c0) Hne.out).cell 4 (v := q) rfl; have k41 := ((H2.out.other PP 1 (.slice p0 x.C.length c0) Hne.out).other PP 4 (.slice p1 x.Q.length c1) Hne.out).cell 1 (v := c) rfl; have k44 := ((H2.out.other PP 1 (.slice p0 x.C.length c0) Hne.out).other PP 4 (.slice p1 x.Q.length c1) Hne.out).cell 4 (v := q) rfl))
  go_split_ands
  have hgd : w2.grownBy w4 none := grown_trans (grown_drew (grown_refl w2 none)) (grown_trans HG0.out HG1.out)
  have Hap := hid (own_apart HC0.out HC1.out (Nat.le_refl _))
  have HWo : Hid (WoW W ((w4.setCell ⟨PP, 1, none⟩ (.slice p0 x.C.length c0)).setCell ⟨PP, 4, none⟩ (.slice p1 x.Q.length c1)) G R PP ⟨d, c, m, r, q, s⟩ x (.slice p0 x.C.length c0) (.slice p1 x.Q.length c1) 0 0) := hid (by
    have hs : w4.grownBy ((w4.setCell ⟨PP, 1, none⟩ (.slice p0 x.C.length c0)).setCell ⟨PP, 4, none⟩ (.slice p1 x.Q.length c1)) (some PP) := grown_setCell (grown_setCell (grown_refl w4 _) _ _) _ _
    have hl := Hlt.out
    have hsz : w2.drew.heap.size = PP + 1 := HPs.out
    have b0 := HC0.out
    rw [hsz] at b0
    have b1 := own_base HC1.out (show PP + 1 ≤ w3.heap.size by have := HG0.out.size; omega)
    refine ⟨grown_new' (grown_trans (grown_none (grown_trans HG2.out hgd)) hs) (fun j hj => by obtain rfl := Option.some.inj hj; omega), H2.out.kept hs (by simp; omega), (HR2.out.kept0 hgd).kept hs (by simp; omega), ?_, ?_, ?_, hl, Hap.out⟩
    · have := (HP4.out.set 1 (.slice p0 x.C.length c0)).set 4 (.slice p1 x.Q.length c1)
      simpa using this
    · rw [woCn_zero]
      exact (b0.kept (grown_none HG1.out) (Classical.em _)).kept hs (by
        cases hv : (Value.slice p0 x.C.length c0).ownBlock with
        | none => exact .inl rfl
        | some j => have := (b0.lt j hv).1; exact .inr (by simp; omega))
    · rw [woQn_zero]
      exact b1.kept hs (by
        cases hv : (Value.slice p1 x.Q.length c1).ownBlock with
        | none => exact .inl rfl
        | some j => have := (b1.lt j hv).1; exact .inr (by simp; omega)))
  go_upto_region 3 with (fail)
  clear hgd k01 k04 k11 k14 k21 k24 k31 k34 k41 k44 HPd Hne HP4 p4a p4b z4a z4b Hap HC0 HC1 HG0 HG1 H2 HO2 HA2 HR2 HG2 HP2 HPs
  generalize (w4.setCell ⟨PP, 1, none⟩ (.slice p0 x.C.length c0)).setCell ⟨PP, 4, none⟩ (.slice p1 x.Q.length c1) = w5 at HWo ⊢
  obtain ⟨n, hn⟩ : ∃ n, x.C.length = n := ⟨_, rfl⟩
  obtain ⟨nq, hnq⟩ : ∃ n, x.Q.length = n := ⟨_, rfl⟩
  have Hn := hid hn
  have Hnq := hid hnq
  rw [hn, hnq] at HWo ⊢
  have n0 : (0 : Int) ≤ (n : Int) := by omega
  have n1 : (n : Int) ≤ 1000000 := by have := HBd.out.1; omega
  have q0 : (0 : Int) ≤ (nq : Int) := by omega
  have q1 : (nq : Int) ≤ 1000000 := by have := HBd.out.2; omega
  clear hn hnq Hlt
  have e1 := HWo.out.bp.cell 1 (v := .slice p0 n c0) rfl
  go_wp2
  clear e1
  go_loopw [19, 4] (fun i a wr => ∃ k : Nat, k ≤ n ∧ i = .int .i64 k ∧ Hid (WoW W wr G R PP ⟨d, c, m, r, q, s⟩ x (.slice p0 n c0) (.slice p1 nq c1) k 0)) (fun i _ _ => n - (intOf i).toNat)
  case atStart => exact ⟨0, Nat.zero_le _, rfl, HWo⟩
  case round =>
    obtain ⟨k, hk, rfl, HR⟩ := hrel
    clear HWo
    have k0 : (0 : Int) ≤ (k : Int) := by omega
    by_cases hlt : k < n
    · have kn : (k : Int) < (n : Int) := by omega
      have Hlt := hid hlt
      clear hlt
      go_wp2_with (first
        | (refine wpList_load_rw rfl 41 _ rfl rfl HR.out.box rfl Tryz.underlying41 info_object ?_)
        | fail)
      refine (iscall_any (V := ⟨d, c, m, r, q, s⟩) (HO.out.kept0 HR.out.g) HF.out k).mono ?_
      rintro e w6 ⟨rfl, hg⟩
      rw [calI_nat]
      have HR6 := hid (HR.out.kept0 hg)
      clear hg HR
      cases hc : calB x k with
      | false =>
        have Hsm := hid (woCn_same hc)
        clear hc
        go_wp2
        go_roundw
        case rel => exact ⟨k + 1, Hlt.out, by go_num, hid ⟨HR6.out.g, HR6.out.box, HR6.out.res, HR6.out.bp, by rw [Hsm.out]; exact HR6.out.oc, HR6.out.oq, HR6.out.lt, HR6.out.ap⟩⟩
        case measure => simp [intOf]; have := Hlt.out; omega
      | true =>
        have Hwv : Hid (woW x k = 234881024) := hid (by unfold woW; rw [if_pos hc])
        clear hc
        obtain ⟨g, c0', hv, hgb, hgl⟩ := HR6.out.oc.form (by have := Hlt.out; have := Hn.out; omega)
        rw [Hn.out] at hv
        simp only [Value.slice.injEq, true_and] at hv
        obtain ⟨rfl, rfl⟩ := hv
        have HRd := hid (HR6.out.kept0 (grown_drew (grown_refl w6 none)))
        have Hcell : Hid (∀ W', w6.grownBy W' none → W'.cell? ⟨PP, 1, none⟩ = some (.slice (some ⟨g, 0, none⟩) n c0) ∧ (∃ y, W'.cell? ⟨g, k, none⟩ = some (.int .u32 y)) ∧ W'.frozen? ⟨g, k, none⟩ = false) := hid (fun W' hW => by
          have h := HR6.out.kept0 hW
          have hc := h.oc.cells (g := g) rfl k (.int .u32 (x.C.getD k 0)) (by rw [List.getElem?_map, woCn_get (by have := Hlt.out; have := Hn.out; omega), if_neg (Nat.lt_irrefl _)]; rfl)
          rw [Addr.add_mid, Nat.zero_add] at hc
          exact ⟨h.bp.cell 1 (v := .slice (some ⟨g, 0, none⟩) n c0) rfl, ⟨_, hc⟩, by have h2 := h.oc; rw [Hn.out] at h2; exact h2.frozenAt k⟩)
        clear hgb hgl
        have d1 := (Hcell.out _ (grown_drew (grown_refl w6 none))).1
        obtain ⟨y0, hy0⟩ := (Hcell.out _ (grown_drew (grown_refl w6 none))).2.1
        have hbl := build_li0
        go_wp2_with fail
        go_region_law (first
          | (go_simp
             go_at_call 60
             refine (word_li _).mono ?_
             rintro e w7 ⟨rfl, hg⟩
             have hg2 : w6.grownBy w7 none := grown_trans (grown_drew (grown_refl w6 none)) hg
             have HR7 := hid (HR6.out.kept0 hg2)
             have d2 := (Hcell.out _ hg2).1
             obtain ⟨y1, hy1⟩ := (Hcell.out _ hg2).2.1
             have hz1 := (Hcell.out _ hg2).2.2
             clear hg hg2))
        all_goals
          clear d1 hy0 d2 hy1 hz1 hbl
          go_wp2
          go_roundw
          case rel => exact ⟨k + 1, Hlt.out, by go_num, hid (by have h3 := HR7.out.setC (k := k) Hn.out.symm; rw [Hwv.out] at h3; exact h3)⟩
          case measure => simp [intOf]; have := Hlt.out; omega
    · obtain rfl : k = n := by omega
      have kn : ¬ ((k : Int) < (k : Int)) := by omega
      clear hlt
      have HR4 := hid HR.out
      have HC4 := hid (SlAt.own HR.out.oc)
      have e4 := HR.out.box.cell 4 (v := q) rfl
      obtain ⟨qp, qc, hqv⟩ := HO.out.q.len
      simp only at hqv
      rw [Hnq.out] at hqv
      subst hqv
      clear HR
      go_wp2
      clear e4
      go_loopw [38, 5] (fun i a wr => ∃ j : Nat, j ≤ nq ∧ i = .int .i64 j ∧ Hid (WoW W wr G R PP ⟨d, c, m, r, .slice qp nq qc, s⟩ x (.slice p0 k c0) (.slice p1 nq c1) k j)) (fun i _ _ => nq - (intOf i).toNat)
      case atStart => exact ⟨0, Nat.zero_le _, rfl, HR4⟩
      case round =>
        obtain ⟨j, hj, rfl, HQ⟩ := hrel
        clear HR4 HC4
        have j0 : (0 : Int) ≤ (j : Int) := by omega
        by_cases hlt : j < nq
        · have jn : (j : Int) < (nq : Int) := by omega
          have Hlt := hid hlt
          obtain ⟨rr, hr⟩ : ∃ rr, x.Q[j]? = some rr := ⟨_, List.getElem?_eq_getElem (by rw [Hnq.out]; exact hlt)⟩
          obtain ⟨ra, rk, rs, rd⟩ := rr
          have Hr := hid hr
          obtain ⟨bq, oq, qc2, hqv2, _, hbq, hcq⟩ := (HO.out.kept0 HQ.out.g).q.at_ (by rw [Hnq.out]; omega)
          simp only [Value.slice.injEq] at hqv2
          obtain ⟨rfl, -, rfl⟩ := hqv2
          have g0 := hcq (j * 4) (.int .i64 ra) (by rw [show j * 4 = j * 4 + 0 from rfl, rlsC_get x.Q j 0 _ hr (by decide)]; rfl)
          have g1 := hcq (j * 4 + 1) (.int .i64 rk) (by rw [rlsC_get x.Q j 1 _ hr (by decide)]; rfl)
          have g2 := hcq (j * 4 + 2) (.int .i64 rs) (by rw [rlsC_get x.Q j 2 _ hr (by decide)]; rfl)
          have g3 := hcq (j * 4 + 3) (.int .i64 rd) (by rw [rlsC_get x.Q j 3 _ hr (by decide)]; rfl)
          rw [← Nat.add_assoc] at g1 g2 g3
          have Hra := hid (HQa.out _ (List.mem_of_getElem? hr))
          have hal := World.grownBy_alloc wr (.cells #[.int .i64 ra, .int .i64 rk, .int .i64 rs, .int .i64 rd] 65) none
          have HQ2 := hid (HQ.out.kept0 hal)
          have HX := hid (RwAt.new wr 65 #[.int .i64 ra, .int .i64 rk, .int .i64 rs, .int .i64 rd])
          clear hal hbq hcq hlt hr
          go_upto_region 12 with (fail)
          clear g0 g1 g2 g3 HQ
          obtain ⟨X, hX⟩ : ∃ X, wr.heap.size = X := ⟨_, rfl⟩
          rw [hX] at HX ⊢
          clear hX
          generalize wr.alloc (.cells #[.int .i64 ra, .int .i64 rk, .int .i64 rs, .int .i64 rd] 65) = w6 at HQ2 HX ⊢
          have x1 := HX.out.cell 1 (v := .int .i64 rk) rfl
          have x0 := HX.out.cell 0 (v := .int .i64 ra) rfl
          by_cases h1 : rk = 1
          · subst h1
            have Hcw := hid (calI_wrap (x := x) Hra.out HBd.out.1)
            obtain ⟨z, hz⟩ : ∃ z, wrap64 (ra - 1) = z := ⟨_, rfl⟩
            have Hz2 := hid hz
            go_wp2_with (first
              | (refine wpList_load_rw_g (by kernel_rfl) 41 _ rfl rfl HQ2.out.box rfl Tryz.underlying41 info_object ?_)
              | fail)
            refine (iscall_any (V := ⟨d, c, m, r, .slice (some ⟨bq, oq, none⟩) nq qc, s⟩) (HO.out.kept0 HQ2.out.g) HF.out z).mono ?_
            rintro e w7 ⟨rfl, hg⟩
            rw [← Hz2.out, Hcw.out]
            have HQ7 := hid (HQ2.out.kept0 hg)
            clear hg HQ2 x0 x1 HX hz
            cases hc : calI x (ra - 1) with
            | false =>
              have Hsm := hid (woQn_same Hr.out (woQ_no (by rw [hc]; simp)))
              clear hc
              go_wp2
              go_roundw
              case rel => exact ⟨j + 1, Hlt.out, by go_num, hid ⟨HQ7.out.g, HQ7.out.box, HQ7.out.res, HQ7.out.bp, HQ7.out.oc, by rw [Hsm.out]; exact HQ7.out.oq, HQ7.out.lt, HQ7.out.ap⟩⟩
              case measure => simp [intOf]; have := Hlt.out; omega
            | true =>
              have Hyw := hid (woQ_yes (x := x) (r := ⟨ra, 1, rs, rd⟩) rfl hc)
              clear hc
              obtain ⟨g, c0', hv, hgb, hgl⟩ := HQ7.out.oq.form (by have := Hlt.out; have := Hnq.out; omega)
              rw [Hnq.out] at hv
              simp only [Value.slice.injEq, true_and] at hv
              obtain ⟨rfl, rfl⟩ := hv
              have hc := HQ7.out.oq.cells (g := g) rfl (j * 4 + 1) (.int .i64 1) (by rw [rlsC_get (woQn x j) j 1 ⟨ra, 1, rs, rd⟩ (by rw [woQn_get Hr.out, if_neg (Nat.lt_irrefl _)]) (by decide)]; rfl)
              rw [Addr.add_mid, Nat.zero_add] at hc
              have hz := HQ7.out.oq
              rw [Hnq.out] at hz
              have hz := hz.frozenAt (j * 4 + 1)
              have e4 := HQ7.out.bp.cell 4 (v := .slice (some ⟨g, 0, none⟩) nq c1) rfl
              clear hgb hgl
              go_wp2
              go_roundw
              case rel => exact ⟨j + 1, Hlt.out, by go_num, hid (HQ7.out.setQ Hnq.out.symm Hr.out Hyw.out)⟩
              case measure => simp [intOf]; have := Hlt.out; omega
          · have h1b : (rk == 1) = false := by simpa using h1
            have Hsm := hid (woQn_same Hr.out (woQ_no (x := x) (fun h => h1 h.1)))
            clear h1
            go_wp2
            go_roundw
            case rel => exact ⟨j + 1, Hlt.out, by go_num, hid ⟨HQ2.out.g, HQ2.out.box, HQ2.out.res, HQ2.out.bp, HQ2.out.oc, by rw [Hsm.out]; exact HQ2.out.oq, HQ2.out.lt, HQ2.out.ap⟩⟩
            case measure => simp [intOf]; have := Hlt.out; omega
        · obtain rfl : j = nq := by omega
          have jn : ¬ ((j : Int) < (j : Int)) := by omega
          clear hlt
          have Hone2 : Hid ((#[d, .slice p0 k c0, m, r, .slice p1 j c1, s]).all (·.oneCell') = true) := hid (by
            have h := Hone.out
            simp [Value.oneCell'] at h ⊢
            exact ⟨h.1, h.2.2.1, h.2.2.2.1, h.2.2.2.2⟩)
          go_wp2_with (first
            | (refine wpList_load_rw rfl 41 _ rfl rfl HQ.out.bp rfl Tryz.underlying41 info_object ?_)
            | (refine wpList_store_rw rfl 41 _ _ rfl rfl rfl HQ.out.res info_object rfl Hone2.out ?_)
            | fail)
          have hres := HQ.out.res.row #[d, .slice p0 k c0, m, r, .slice p1 j c1, s]
          refine bodyPost_ret (results_cell_row Tryz.results85 _ _ R _ _ _ _ rfl hres.blk Tryz.underlying41 rfl (by kernel_rfl)) rfl ?_
          have hgw := grown_setRow HQ.out.g (show W.heap.size ≤ R by have := HQ.out.lt; omega) #[d, .slice p0 k c0, m, r, .slice p1 j c1, s]
          have hgr : wr.grownBy (wr.setRow R #[d, .slice p0 k c0, m, r, .slice p1 j c1, s]) (some R) := ⟨rfl, rfl, rfl, by simp [World.setRow], fun i _ hi => setRow_other wr R i _ (fun e => hi (by rw [e]))⟩
          have oc := HQ.out.oc.kept hgr (by
            cases hv : (Value.slice p0 k c0).ownBlock with
            | none => exact .inl rfl
            | some i => have h1 := (HQ.out.oc.lt i hv).1; have h2 := HQ.out.lt; exact .inr (by simp; omega))
          have oq := HQ.out.oq.kept hgr (by
            cases hv : (Value.slice p1 j c1).ownBlock with
            | none => exact .inl rfl
            | some i => have h1 := (HQ.out.oq.lt i hv).1; have h2 := HQ.out.lt; exact .inr (by simp; omega))
          refine ⟨⟨d, .slice p0 k c0, m, r, .slice p1 j c1, s⟩, rfl, ⟨HO.out.d.kept0 hgw, ?_, HO.out.m.kept0 hgw, HO.out.r.kept0 hgw, ?_, HO.out.s.kept0 hgw⟩, hgw⟩
          · unfold woC; rw [Hn.out]; exact SlAt.own oc
          · unfold woC; rw [Hnq.out]; have h3 := CsAt.own oq; rw [← woQn_length x j] at h3; exact h3
theorem wo_fit {x : PO} (h : OFit x) : OFit (woC x) := by
  refine ⟨h.d, ?_, h.m, ?_⟩
  · intro n hn
    obtain ⟨k, hk⟩ := List.getElem?_of_mem hn
    have hk : (woCn x x.C.length)[k]? = some n := hk
    have hl := (List.getElem?_eq_some_iff.1 hk).1
    rw [woCn_length] at hl
    rw [woCn_get hl, if_pos hl] at hk
    obtain rfl := Option.some.inj hk
    unfold woW
    split
    · decide
    · rw [List.getD_eq_getElem?_getD, List.getElem?_eq_getElem hl]
      exact h.c _ (List.getElem_mem hl)
  · obtain ⟨a, b, c, d, e, f⟩ := h.l
    exact ⟨a, by rw [show (woC x).C = woCn x x.C.length from rfl, woCn_length]; exact b, c, d, by rw [show (woC x).Q = woQn x x.Q.length from rfl, woQn_length]; exact e, f⟩
/-- of an object: its numbers are numbers, its lists not too long -/
structure ObB (x : PO) : Prop where
  fit : OFit x
  len : x.D.length ≤ 1000000 ∧ x.C.length ≤ 1000000 ∧ x.M.length ≤ 1000000 ∧ x.R.length ≤ 1000000 ∧ x.Q.length ≤ 1000000 ∧ x.S.length ≤ 1000000
  q : ∀ r ∈ x.Q, -9223372036854775808 ≤ r.a ∧ r.a ≤ 9223372036854775807
set_option maxRecDepth 100000 in
theorem lvalid_any {W : World} {A : Nat → Addr} {V : OV} {x : PO} (h : OAt W V x) (he : ErrC W A) (hb : ObB x) :
    Calls Tryz.prog 65 #[V.agg] W (SaysAt W A (validP (woC x))) := by
  obtain ⟨d, c, m, r, q, s⟩ := V
  have HB0 := hid (RwAt.new W 41 #[d, c, m, r, q, s])
  have HG0 := hid (World.grownBy_alloc W (.cells #[d, c, m, r, q, s] 41) none)
  have HO := hid h
  have HE := hid he
  have HB := hid hb
  clear h he hb
  go_enter Tryz.func65, Tryz.ntmps65
  go_upto_region 1 with (fail)
  generalize W.alloc (.cells #[d, c, m, r, q, s] 41) = w1 at HB0 HG0 ⊢
  go_wp2_with (first
    | (refine wpList_load_rw rfl 41 _ rfl rfl HB0.out rfl Tryz.underlying41 info_object ?_)
    | fail)
  refine (wo_any (V := ⟨d, c, m, r, q, s⟩) (HO.out.kept0 HG0.out) HB.out.fit ⟨HB.out.len.2.1, HB.out.len.2.2.2.2.1⟩ HB.out.q).mono ?_
  rintro e w2 ⟨V', rfl, ho, hg⟩
  have HG2 := hid (grown_trans HG0.out hg)
  have HO2 := hid ho
  clear hg ho HB0 HG0
  go_wp2_with fail
  refine (valid_any (V := V') HO2.out (HE.out.kept0 HG2.out) (wo_fit HB.out.fit)).mono ?_
  rintro e w3 ⟨v, rfl, hv, hg⟩
  have HV := hid hv
  have HG3 := hid (grown_trans HG2.out hg)
  clear hv hg
  go_wp2
  go_ret
  exact ⟨_, rfl, HV.out, HG3.out⟩
end Go.Proofs.YtnpnafidhcnkhaaGreatDoor
namespace Go.Proofs.YtnpnafidhcnkhaaGreatDoor
open Go.RowKit
abbrev ptV (V : OV) (p : Pt) : Value := .agg #[V.d, V.c, V.m, V.r, V.q, V.s, .int .i64 (p.d : Int), .int .i64 (p.c : Int)]
abbrev syV (s : Sy) : Value := .agg #[.string s.n, .int .i64 s.i, .int .i64 s.v, .bool s.g]
abbrev rlV (r : Rl) : Value := .agg #[.int .i64 r.a, .int .i64 r.k, .int .i64 r.s, .int .i64 r.d]
/-- three blocks that a call begins with -/
theorem three {W : World} {a b c : Array Value} {t u v : TypeId} : RwAt (((W.alloc (.cells a t)).alloc (.cells b u)).alloc (.cells c v)) W.heap.size t a ∧ RwAt (((W.alloc (.cells a t)).alloc (.cells b u)).alloc (.cells c v)) (W.heap.size + 1) u b ∧ RwAt (((W.alloc (.cells a t)).alloc (.cells b u)).alloc (.cells c v)) (W.heap.size + 1 + 1) v c ∧ W.grownBy (((W.alloc (.cells a t)).alloc (.cells b u)).alloc (.cells c v)) none := by
  refine ⟨((RwAt.new W t a).alloc _).alloc _, (RwAt.new2 W _ u b).alloc _, ?_, grown_trans (grown_trans (World.grownBy_alloc _ _ _) (World.grownBy_alloc _ _ _)) (World.grownBy_alloc _ _ _)⟩
  have := RwAt.new ((W.alloc (.cells a t)).alloc (.cells b u)) v c
  simpa using this
theorem spt_one (s : Sp) : (#[.int .i64 s.i, .int .i64 s.a] : Array Value).all (·.oneCell') = true := by simp [Value.oneCell']
theorem build_spot (i a : Int) (w : World) : (Instr.build 83 #[(0, .int .i64 i), (1, .int .i64 a)]).run Tryz.prog w = .ok (.agg #[.int .i64 i, .int .i64 a]) w := by kernel_rfl
set_option maxRecDepth 100000 in
set_option maxHeartbeats 2000000 in
theorem spot_any (W : World) (V : OV) (p : Pt) (s : Sy) (hd : p.d ≤ 1000000) (hc : p.c ≤ 1000000) (hv : 0 ≤ s.v ∧ s.v ≤ 1000000) :
    Calls Tryz.prog 66 #[ptV V p, syV s] W fun e w' => e = .returned (sptV (ptSp p s)) ∧ W.grownBy w' none := by
  have Hz := zero_spot
  have H3 := hid (three (W := W) (a := #[V.d, V.c, V.m, V.r, V.q, V.s, .int .i64 (p.d : Int), .int .i64 (p.c : Int)]) (b := #[.string s.n, .int .i64 s.i, .int .i64 s.v, .bool s.g]) (c := #[.int .i64 0, .int .i64 0]) (t := 121) (u := 63) (v := 83))
  obtain ⟨pd, hpd⟩ : ∃ pd, p.d = pd := ⟨_, rfl⟩
  obtain ⟨pc, hpc⟩ : ∃ pc, p.c = pc := ⟨_, rfl⟩
  obtain ⟨si, hsi⟩ : ∃ si, s.i = si := ⟨_, rfl⟩
  obtain ⟨sv, hsv⟩ : ∃ sv, s.v = sv := ⟨_, rfl⟩
  obtain ⟨sn, hsn⟩ : ∃ sn, s.n = sn := ⟨_, rfl⟩
  obtain ⟨sg, hsg⟩ : ∃ sg, s.g = sg := ⟨_, rfl⟩
  have Hpt : Hid (ptSp p s = if si = 1 then ⟨si, pd + sv⟩ else ⟨si, pc + sv⟩) := hid (by unfold ptSp; rw [hpd, hpc, hsi, hsv])
  unfold ptV syV at *
  rw [hpd] at hd
  rw [hpc] at hc
  rw [hsv] at hv
  rw [hpd, hpc, hsi, hsv, hsn, hsg] at H3 ⊢
  clear hpd hpc hsi hsv hsn hsg
  obtain ⟨hv0, hv1⟩ := hv
  have d0 : (0 : Int) ≤ (pd : Int) := by omega
  have d1 : (pd : Int) ≤ 1000000 := by omega
  have c0 : (0 : Int) ≤ (pc : Int) := by omega
  have c1 : (pc : Int) ≤ 1000000 := by omega
  obtain ⟨D1, hD1⟩ : ∃ D1 : Int, (pd : Int) + sv = D1 := ⟨_, rfl⟩
  obtain ⟨C1, hC1⟩ : ∃ C1 : Int, (pc : Int) + sv = C1 := ⟨_, rfl⟩
  have e0 : 0 ≤ D1 := by omega
  have e1 : D1 ≤ 2000000 := by omega
  have e2 : 0 ≤ C1 := by omega
  have e3 : C1 ≤ 2000000 := by omega
  rw [hD1, hC1] at Hpt
  go_enter Tryz.func66, Tryz.ntmps66
  go_upto_region 1 with (fail)
  obtain ⟨b1, hb1⟩ : ∃ b, W.heap.size = b := ⟨_, rfl⟩
  obtain ⟨b2, hb2⟩ : ∃ b, b1 + 1 = b := ⟨_, rfl⟩
  obtain ⟨b3, hb3⟩ : ∃ b, b2 + 1 = b := ⟨_, rfl⟩
  have Hb : Hid (W.heap.size ≤ b3) := hid (by omega)
  rw [hb1, hb2, hb3] at H3 ⊢
  clear hb1 hb2 hb3 Hz
  generalize ((W.alloc (.cells #[V.d, V.c, V.m, V.r, V.q, V.s, .int .i64 (pd : Int), .int .i64 (pc : Int)] 121)).alloc (.cells #[.string sn, .int .i64 si, .int .i64 sv, .bool sg] 63)).alloc (.cells #[.int .i64 0, .int .i64 0] 83) = w1 at H3 ⊢
  have p6 := H3.out.1.cell 6 (v := .int .i64 pd) rfl
  have p7 := H3.out.1.cell 7 (v := .int .i64 pc) rfl
  have s1 := H3.out.2.1.cell 1 (v := .int .i64 si) rfl
  have s2 := H3.out.2.1.cell 2 (v := .int .i64 sv) rfl
  have hb1 := build_spot si D1
  have hb2 := build_spot si C1
  by_cases h1 : si = 1
  · have h1b : (si == 1) = true := by simpa using h1
    rw [if_pos h1] at Hpt
    clear h1
    go_wp2_with (first
      | (refine wpList_store_rw rfl 83 _ _ rfl rfl rfl H3.out.2.2.1 info_spot rfl (spt_one ⟨si, D1⟩) ?_)
      | fail)
    refine bodyPost_ret (results_cell_row Tryz.results66 _ _ b3 _ _ _ _ rfl (H3.out.2.2.1.row #[.int .i64 si, .int .i64 D1]).blk Tryz.underlying83 rfl (by kernel_rfl)) rfl ?_
    exact ⟨by rw [Hpt.out], grown_setRow H3.out.2.2.2 Hb.out _⟩
  · have h1b : (si == 1) = false := by simpa using h1
    rw [if_neg h1] at Hpt
    clear h1
    go_wp2_with (first
      | (refine wpList_store_rw rfl 83 _ _ rfl rfl rfl H3.out.2.2.1 info_spot rfl (spt_one ⟨si, C1⟩) ?_)
      | fail)
    refine bodyPost_ret (results_cell_row Tryz.results66 _ _ b3 _ _ _ _ rfl (H3.out.2.2.1.row #[.int .i64 si, .int .i64 C1]).blk Tryz.underlying83 rfl (by kernel_rfl)) rfl ?_
    exact ⟨by rw [Hpt.out], grown_setRow H3.out.2.2.2 Hb.out _⟩
set_option maxRecDepth 100000 in
set_option maxHeartbeats 2000000 in
theorem jspot_any (W : World) (V : OV) (p : Pt) (s : Sy) {G B : Nat} {pv : Value} {dd cc : Int} {M : Mp} (hM : MrAt W G B pv dd cc M) (hd : p.d ≤ 1000000) (hc : p.c ≤ 1000000) (hv : 0 ≤ s.v ∧ s.v ≤ 1000000) (hone : (#[V.d, V.c, V.m, V.r, V.q, V.s] : Array Value).all (·.oneCell') = true) :
    Calls Tryz.prog 67 #[.pointer (some ⟨G, 0, none⟩), ptV V p, syV s] W fun e w' => e = .returned (sptV (spOf M p s)) ∧ W.grownBy w' none := by
  have Hz := zero_spot
  have H3 := hid (three (W := W) (a := #[V.d, V.c, V.m, V.r, V.q, V.s, .int .i64 (p.d : Int), .int .i64 (p.c : Int)]) (b := #[.string s.n, .int .i64 s.i, .int .i64 s.v, .bool s.g]) (c := #[.int .i64 0, .int .i64 0]) (t := 121) (u := 63) (v := 83))
  have HM := hid (hM.kept0 H3.out.2.2.2)
  have HP := hid (And.intro hd (And.intro hc (And.intro hv hone)))
  clear hM hd hc hv hone
  unfold ptV syV at *
  go_enter Tryz.func67, Tryz.ntmps67
  go_upto_region 1 with (fail)
  obtain ⟨b1, hb1⟩ : ∃ b, W.heap.size = b := ⟨_, rfl⟩
  obtain ⟨b2, hb2⟩ : ∃ b, b1 + 1 = b := ⟨_, rfl⟩
  obtain ⟨b3, hb3⟩ : ∃ b, b2 + 1 = b := ⟨_, rfl⟩
  have Hb : Hid (W.heap.size ≤ b3) := hid (by omega)
  rw [hb1, hb2, hb3] at H3 ⊢
  clear hb1 hb2 hb3 Hz
  generalize ((W.alloc (.cells #[V.d, V.c, V.m, V.r, V.q, V.s, .int .i64 (p.d : Int), .int .i64 (p.c : Int)] 121)).alloc (.cells #[.string s.n, .int .i64 s.i, .int .i64 s.v, .bool s.g] 63)).alloc (.cells #[.int .i64 0, .int .i64 0] 83) = w1 at H3 HM ⊢
  have s1 := H3.out.2.1.cell 1 (v := .int .i64 s.i) rfl
  by_cases h1 : s.i = 3
  · have h1b : (s.i == 3) = true := by simpa using h1
    have Hpt : Hid (spOf M p s = lkD M s.n) := hid (by unfold spOf; rw [if_pos h1])
    obtain ⟨⟨qi, qa⟩, hq⟩ : ∃ q, lkD M s.n = q := ⟨_, rfl⟩
    have H3d := hid (H3.out.2.2.1.kept0 (grown_drew (grown_refl w1 none)))
    have s0 := (H3.out.2.1.kept0 (grown_drew (grown_refl w1 none))).cell 0 (v := .string s.n) rfl
    have m3 := (HM.out.row.kept0 (grown_drew (grown_refl w1 none))).cell 3 (v := .map (some B)) rfl
    have hl := (HM.out.mp.drew).look_of s.n hq
    have r0 := H3d.out.cell 0 (v := .int .i64 0) rfl
    have r1 := H3d.out.cell 1 (v := .int .i64 0) rfl
    have z0 := H3d.out.free 0
    have z1 := H3d.out.free 1
    have r0w := H3.out.2.2.1.cell 0 (v := .int .i64 0) rfl
    have r1w := H3.out.2.2.1.cell 1 (v := .int .i64 0) rfl
    have z0w := H3.out.2.2.1.free 0
    have z1w := H3.out.2.2.1.free 1
    rw [hq] at Hpt
    clear h1 hq
    go_wp2_with fail
    go_region
    go_wp2
    refine bodyPost_ret (results_cell_row Tryz.results67 _ _ b3 _ _ _ _ rfl ((H3.out.2.2.1.set 0 (.int .i64 qi)).set 1 (.int .i64 qa)).blk Tryz.underlying83 rfl (by kernel_rfl)) rfl ?_
    exact ⟨congrArg (fun z => Ending.returned (sptV z)) Hpt.out.symm, grown_new' (grown_drew (grown_trans (grown_none H3.out.2.2.2) (grown_setCell (grown_setCell (grown_refl w1 _) _ _) _ _))) (fun k hk => by obtain rfl := Option.some.inj hk; exact Hb.out)⟩
  · have h1b : (s.i == 3) = false := by simpa using h1
    have Hpt : Hid (spOf M p s = ptSp p s) := hid (by unfold spOf; rw [if_neg h1])
    clear h1
    go_wp2_with (first
      | (refine wpList_load_rw rfl 121 _ rfl rfl H3.out.1 rfl Tryz.underlying121 info_part ?_)
      | (refine wpList_load_rw rfl 63 _ rfl rfl H3.out.2.1 rfl Tryz.underlying63 info_sym ?_)
      | fail)
    refine (spot_any w1 V p s HP.out.1 HP.out.2.1 HP.out.2.2.1).mono ?_
    rintro e w2 ⟨rfl, hg⟩
    have H4 := hid (H3.out.2.2.1.kept0 hg)
    have HG := hid (grown_trans H3.out.2.2.2 hg)
    clear hg
    go_wp2_with (first
      | (refine wpList_store_rw rfl 83 _ _ rfl rfl rfl H4.out info_spot rfl (spt_one (ptSp p s)) ?_)
      | fail)
    refine bodyPost_ret (results_cell_row Tryz.results67 _ _ b3 _ _ _ _ rfl (H4.out.row #[.int .i64 (ptSp p s).i, .int .i64 (ptSp p s).a]).blk Tryz.underlying83 rfl (by kernel_rfl)) rfl ?_
    exact ⟨congrArg (fun z => Ending.returned (sptV z)) Hpt.out.symm, grown_setRow HG.out Hb.out _⟩
theorem jump_two {x : PO} {r : Rl} (h : r.k = 2) : jumpB x r = true := by unfold jumpB; rw [if_pos h]
theorem jump_first {x : PO} {r : Rl} (h : r.k ≠ 2) {y : Int} (hy : x.M.getD r.a.toNat 0 = y) (h0 : y ≠ 0) : jumpB x r = false := by unfold jumpB; rw [if_neg h, hy, if_pos h0]
theorem jump_second {x : PO} {r : Rl} (h : r.k ≠ 2) (hy : x.M.getD r.a.toNat 0 = 0) : jumpB x r = jmpB (opW (x.C.getD (r.a.toNat - 1) 0)) := by unfold jumpB; rw [if_neg h, hy]; simp
theorem two_boxes {W : World} {a b : Array Value} {t u : TypeId} : RwAt ((W.alloc (.cells a t)).alloc (.cells b u)) W.heap.size t a ∧ RwAt ((W.alloc (.cells a t)).alloc (.cells b u)) (W.heap.size + 1) u b ∧ W.grownBy ((W.alloc (.cells a t)).alloc (.cells b u)) none :=
  ⟨(RwAt.new W t a).alloc _, RwAt.new2 W _ u b, grown_trans (World.grownBy_alloc _ _ _) (World.grownBy_alloc _ _ _)⟩
set_option maxRecDepth 100000 in
set_option maxHeartbeats 2000000 in
theorem jumps_link (W : World) (V : OV) (p : Pt) (r : Rl) (h : OAt W V p.x) (hf : OFit p.x) (hl : p.x.M.length = p.x.C.length) (ha : 0 ≤ r.a ∧ r.a < p.x.C.length) (h1 : r.k ≠ 2 → p.x.M.getD r.a.toNat 0 = 0 → 1 ≤ r.a) :
    Calls Tryz.prog 68 #[ptV V p, rlV r] W fun e w' => e = .returned (.bool (jumpB p.x r)) ∧ W.grownBy w' none := by
  obtain ⟨d, c, m, rr, q, s⟩ := V
  obtain ⟨ra, rk, rs, rd⟩ := r
  have H2 := hid (two_boxes (W := W) (a := #[d, c, m, rr, q, s, .int .i64 (p.d : Int), .int .i64 (p.c : Int)]) (b := #[.int .i64 ra, .int .i64 rk, .int .i64 rs, .int .i64 rd]) (t := 121) (u := 65))
  have HO := hid (h.kept0 H2.out.2.2)
  have HF := hid hf
  obtain ⟨ha0, ha1⟩ := ha
  obtain ⟨k, rfl⟩ := Int.eq_ofNat_of_zero_le ha0
  have Hk : Hid (k < p.x.C.length) := hid (by simp only at ha1; omega)
  have Hl := hid hl
  have H1 := hid h1
  clear h hf hl ha0 ha1 h1
  unfold ptV rlV
  go_enter Tryz.func68, Tryz.ntmps68
  go_upto_region 1 with (fail)
  obtain ⟨b1, hb1⟩ : ∃ b, W.heap.size = b := ⟨_, rfl⟩
  obtain ⟨b2, hb2⟩ : ∃ b, b1 + 1 = b := ⟨_, rfl⟩
  rw [hb1, hb2] at H2 ⊢
  clear hb1 hb2
  generalize (W.alloc (.cells #[d, c, m, rr, q, s, .int .i64 (p.d : Int), .int .i64 (p.c : Int)] 121)).alloc (.cells #[.int .i64 (k : Int), .int .i64 rk, .int .i64 rs, .int .i64 rd] 65) = w1 at H2 HO ⊢
  have r1 := H2.out.2.1.cell 1 (v := .int .i64 rk) rfl
  have r0 := H2.out.2.1.cell 0 (v := .int .i64 (k : Int)) rfl
  by_cases hk2 : rk = 2
  · have hb : (rk == 2) = true := by simpa using hk2
    have Hr : Hid (jumpB p.x ⟨k, rk, rs, rd⟩ = true) := hid (jump_two hk2)
    clear hk2
    go_wp2
    go_ret
    exact ⟨ret_b Hr.out.symm, H2.out.2.2⟩
  · have hb : (rk == 2) = false := by simpa using hk2
    obtain ⟨y, hy⟩ : ∃ y, p.x.M[k]? = some y := ⟨_, List.getElem?_eq_getElem (by rw [Hl.out]; exact Hk.out)⟩
    have Hy : Hid (p.x.M.getD (k : Int).toNat 0 = y) := hid (by rw [Int.toNat_natCast, List.getD_eq_getElem?_getD, hy]; rfl)
    obtain ⟨bm, om, mc, hmv, hbm, hcm⟩ := HO.out.m.at_ (by rw [Hl.out]; have := Hk.out; omega)
    simp only at hmv
    rw [Hl.out] at hmv
    obtain ⟨n, hn⟩ : ∃ n, p.x.C.length = n := ⟨_, rfl⟩
    have Hn := hid hn
    rw [hn] at hmv
    subst hmv
    have em := hcm k y hy
    have k0 : (0 : Int) ≤ (k : Int) := by omega
    have kn : (k : Int) < (n : Int) := by have := Hk.out; omega
    have m2 := H2.out.1.cell 2 (v := .slice (some ⟨bm, om, none⟩) n mc) rfl
    clear hcm hbm hy hn
    by_cases hy0 : y = 0
    · subst hy0
      have hk1 : (1 : Int) ≤ (k : Int) := H1.out hk2 Hy.out
      obtain ⟨j, hkj⟩ : ∃ j, j + 1 = k := ⟨k - 1, by omega⟩
      obtain ⟨u, hu⟩ : ∃ u, p.x.C[j]? = some u := ⟨_, List.getElem?_eq_getElem (by have := Hk.out; omega)⟩
      have HU := hid (HF.out.c u (List.mem_of_getElem? hu))
      have Hr : Hid (jumpB p.x ⟨(k : Int), rk, rs, rd⟩ = jmpB (opW u)) := hid (by
        rw [jump_second hk2 Hy.out]
        simp only [Int.toNat_natCast, show k - 1 = j by omega, List.getD_eq_getElem?_getD, hu]
        rfl)
      obtain ⟨bc, oc, cc, hcv, hbc, hcc⟩ := HO.out.c.at_ (by have := Hk.out; omega)
      simp only at hcv
      rw [Hn.out] at hcv
      subst hcv
      have eu := hcc j u hu
      have c1 := H2.out.1.cell 1 (v := .slice (some ⟨bc, oc, none⟩) n cc) rfl
      have kj : (k : Int) - 1 = (j : Int) := by omega
      have hle : p.x.C.length ≤ 9223372036854775807 := HF.out.l.2.1
      have j1 : (j : Int) ≤ 9223372036854775807 := by have := Hk.out; omega
      clear hle
      have j0 : (0 : Int) ≤ (j : Int) := by omega
      have jn : (j : Int) < (n : Int) := by omega
      clear hcc hbc hu hk1 hkj hk2 Hy H1
      go_wp2_with fail
      refine (of_op u w1 HU.out).mono ?_
      rintro e w2 ⟨a', b', c', d', t', rfl, hg⟩
      have HG2 := hid (grown_trans H2.out.2.2 hg)
      clear hg em eu m2 c1 r0 r1 H2 HO
      obtain ⟨o, Ho⟩ : ∃ o, Hid (opW u = o) := ⟨_, hid rfl⟩
      rw [Ho.out]
      have Hzi := zero_ins9
      have HI := hid (RwAt.new w2 29 (inC o a' b' c' d'))
      have HG3 := hid (grown_trans HG2.out (World.grownBy_alloc w2 (.cells (inC o a' b' c' d') 29) none))
      unfold inC at HI HG3
      go_upto_region 6 with (fail)
      obtain ⟨X, hX⟩ : ∃ X, w2.heap.size = X := ⟨_, rfl⟩
      rw [hX] at HI ⊢
      clear hX Hzi
      generalize w2.alloc (.cells #[.int .i64 o, .int .i64 a', .int .i64 b', .int .i64 c', .int .u32 d'] 29) = w3 at HI HG3 ⊢
      have HId := hid (HI.out.kept0 (grown_drew (grown_refl w3 none)))
      have k0 := HId.out.cell 0 (v := .int .i64 o) rfl
      go_region_held3 (fun W => W.cell? ⟨X, 0, none⟩ = some (.int .i64 o) ∧ w3.grownBy W none)
        (first | (with_reducible exact ⟨k0, grown_drew (grown_refl _ _)⟩) | (with_reducible exact ⟨k1, hg1⟩) | (with_reducible exact ⟨k2, hg2⟩))
        (first
          | (go_split_ands; go_at_call 77; refine (tables_g _).mono ?_; rintro e w4 ⟨rfl, hg⟩; have hg1 : w3.grownBy w4 none := grown_trans (by assumption) hg; have k1 := (HI.out.kept0 hg1).cell 0 (v := .int .i64 o) rfl)
          | (go_split_ands; go_at_call 86; refine (jumps_any o _).mono ?_; rintro e w5 ⟨rfl, hw⟩; have hg2 : w3.grownBy w5 none := grown_trans hg1 (by rw [hw]; exact World.grownBy_alloc _ _ _); have k2 := (HI.out.kept0 hg2).cell 0 (v := .int .i64 o) rfl; clear hw))
      go_split_ands
      go_wp2
      go_ret
      exact ⟨ret_b (by rw [Hr.out, Ho.out]), grown_trans HG3.out (by assumption)⟩
    · have hyb : (y != 0) = true := by simpa using hy0
      have Hr : Hid (jumpB p.x ⟨k, rk, rs, rd⟩ = false) := hid (jump_first hk2 Hy.out hy0)
      clear hy0 hk2
      go_wp2
      go_ret
      exact ⟨ret_b Hr.out.symm, H2.out.2.2⟩
end Go.Proofs.YtnpnafidhcnkhaaGreatDoor

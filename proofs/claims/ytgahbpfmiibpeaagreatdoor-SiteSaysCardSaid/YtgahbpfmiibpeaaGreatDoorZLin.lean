/- The document's Lines (facaderef9): contract. (Made by golines.py.) -/
import Derived.Test.YtgahbpfmiibpeaaGreatDoorZRws
import Derived.Test.YtgahbpfmiibpeaaGreatDoorZGEach
import Derived.Test.YtgahbpfmiibpeaaGreatDoorZGRefT
namespace Go.Proofs.YtgahbpfmiibpeaaGreatDoor
open Go.RowKit
set_option maxRecDepth 100000 in
set_option maxHeartbeats 32000000 in
theorem rlines_any {W : World} {V : OV} {x : PO} (h : OAt W V x) (hvs : Vars W) (hf : OFit x) (hok : OkP x) :
    Calls Tryz.prog 17 #[V.agg] W fun e w' => ∃ v, e = .returned v ∧ w'.ownsRow W.heap.size 9 1 v (txL x x.C.length).length (strC (txL x x.C.length)) ∧ W.grownBy w' none := by
  obtain ⟨d, c, m, r, q, s⟩ := V
  obtain ⟨cp, cc, hcv⟩ := h.c.len'
  obtain ⟨mp, mc, hmv⟩ := h.m.len'
  simp only at hcv hmv
  rw [hok.len] at hmv
  have hmany := (many_of hok).2.1
  obtain ⟨n, hne⟩ : ∃ n, x.C.length = n := ⟨_, rfl⟩
  have Hne := hid hne
  rw [hne] at hcv hmv hmany ⊢
  subst hcv; subst hmv
  have HB0 := hid (RwAt.new W 27 #[d, .slice cp n cc, .slice mp n mc, r, q, s])
  have HG0 := hid (World.grownBy_alloc W (.cells #[d, .slice cp n cc, .slice mp n mc, r, q, s] 27) none)
  have HO := hid h
  have HV := hid hvs
  have HF := hid hf
  have Hok := hid hok
  have Hn : Hid (n ≤ 1000000) := hid (by omega)
  have Hmany := hid hmany
  have n0 : (0 : Int) ≤ (n : Int) := by omega
  have n1 : (n : Int) ≤ 2048 := by omega
  clear h hvs hf hok hne hmany
  go_enter Tryz.func17, Tryz.ntmps17
  go_upto_region 1 with (fail)
  have HR0 : Hid (STw W (W.alloc (.cells #[d, .slice cp n cc, .slice mp n mc, r, q, s] 27)) W.heap.size ⟨d, .slice cp n cc, .slice mp n mc, r, q, s⟩ x (.slice none 0 0) 0) := hid ⟨HB0.out, HG0.out, World.ownsRow_nil _ _ _ _, by simp [Value.ownBlock]⟩
  obtain ⟨G, hG⟩ : ∃ G, W.heap.size = G := ⟨_, rfl⟩
  have HGl : Hid (∀ w', (W.alloc (.cells #[d, .slice cp n cc, .slice mp n mc, r, q, s] 27)).grownBy w' none → G < w'.heap.size) := hid (fun w' hg => by have := hg.size; simp at this; omega)
  rw [hG] at HR0 ⊢
  clear hG HB0 HG0
  generalize W.alloc (.cells #[d, .slice cp n cc, .slice mp n mc, r, q, s] 27) = w1 at HR0 HGl ⊢
  go_wp2
  go_loopw [3, 4] (fun v i wr => ∃ k : Nat, ∃ v' : Value, v = v' ∧ k ≤ n ∧ i = .int .i64 k ∧ Hid (STw W wr G ⟨d, .slice cp n cc, .slice mp n mc, r, q, s⟩ x v' k)) (fun _ i _ => n - (intOf i).toNat)
  case atStart => exact ⟨0, _, rfl, Nat.zero_le _, rfl, HR0⟩
  case round =>
    obtain ⟨k, v, rfl, hk, rfl, HR⟩ := hrel
    have k0 : (0 : Int) ≤ (k : Int) := by omega
    have e1 := HR.out.box.cell 1 (v := .slice cp n cc) rfl
    obtain ⟨vp, vc, rfl⟩ := own_slice HR.out.own
    obtain ⟨L, hL⟩ : ∃ L, (txL x k).length = L := ⟨_, rfl⟩
    have HL := hid hL
    have HLn : Hid (L ≤ 2048) := hid (by have := txL_length x k; have := Hmany.out; omega)
    rw [hL] at HR ⊢
    clear hL
    by_cases hlt : k < n
    · have kn : (k : Int) < (n : Int) := by omega
      have Hlt := hid hlt
      obtain ⟨mk, hmk⟩ : ∃ mk, x.M[k]? = some mk := ⟨_, List.getElem?_eq_getElem (by rw [Hok.out.len, Hne.out]; exact hlt)⟩
      obtain ⟨y, hy⟩ : ∃ y, x.C[k]? = some y := ⟨_, List.getElem?_eq_getElem (by rw [Hne.out]; exact hlt)⟩
      have Hy := hid hy
      have Hyd : Hid (x.C.getD k 0 = y) := hid (by rw [List.getD_eq_getElem?_getD, hy]; rfl)
      have Hyr := hid (HF.out.c y (List.mem_of_getElem? hy))
      have Hmap : Hid (mapN x k = mk) := hid (by unfold mapN; rw [List.getD_eq_getElem?_getD, hmk]; rfl)
      obtain ⟨bm, om, c', hvm, hbm, hcm⟩ := (HO.out.kept0 HR.out.g).m.at_ (by rw [Hok.out.len, Hne.out]; omega)
      simp only [Value.slice.injEq] at hvm
      obtain ⟨rfl, -, -⟩ := hvm
      have em := hcm k mk hmk
      have emd : wr.drew.cell? ⟨bm, om + k, none⟩ = some (.int .u8 mk) := em
      have e2 := HR.out.box.cell 2 (v := .slice (some ⟨bm, om, none⟩) n mc) rfl
      clear hbm hcm hmk hy hlt
      by_cases h1 : mk = 1
      · subst h1
        have Htx : Hid (txL x (k + 1) = txL x k ++ [linB x k]) := hid (by rw [txL_succ, if_pos Hmap.out])
        have Hins := hid (sifirst_ins (siword_first (Hok.out.word k (by rw [Hne.out]; exact Hlt.out)) Hmap.out) Hmap.out)
        obtain ⟨j, hj⟩ : ∃ j, secN x k = j := ⟨_, rfl⟩
        obtain ⟨bi, hbi⟩ : ∃ bi, wIns x k = bi := ⟨_, rfl⟩
        obtain ⟨q0, q1, q2, q3, q4, hof, hq0⟩ := ofV_word Hyd.out
        rw [hj, hbi] at hof
        rw [hbi] at hq0
        have Hq0 := hid hq0
        have Hbi := hid hbi
        have Hjr : Hid (0 ≤ j ∧ j < 4294967296) := hid (by rw [← hj]; exact sec9_fit HF.out k)
        have dr := grown_drew (grown_refl wr none)
        have HRd := hid (HR.out.kept0 dr)
        have HQ1 : Hid (∀ W' : World, W.grownBy W' none → Calls Tryz.prog 51 #[.agg #[d, .slice cp n cc, .slice (some ⟨bm, om, none⟩) n mc, r, q, s], .int .i64 k] W' fun e w' => e = .returned (.int .u32 j) ∧ W'.grownBy w' none) := hid (fun W' hW => by
          rw [← hj]
          exact second_any (V := ⟨d, .slice cp n cc, .slice (some ⟨bm, om, none⟩) n mc, r, q, s⟩) (HO.out.kept0 hW) (by rw [Hne.out]; exact Hlt.out) (by rw [Hne.out]; exact Hn.out))
        have HQ2 : Hid (∀ W' : World, Calls Tryz.prog 50 #[.int .u32 y, .int .u32 j] W' fun e w' => e = .returned (.tuple #[.agg #[.int .i64 q0, .int .i64 q1, .int .i64 q2, .int .i64 q3, .int .u32 q4], .bool bi]) ∧ W'.grownBy w' none) := hid (fun W' => by
          rw [← hof]
          exact rof_any y j W' Hyr.out.1 Hyr.out.2)
        have Hof := hid hof
        have Hj := hid hj
        clear hj hbi hof hq0 dr
        obtain ⟨bc, oc, c', hvc, hbc, hcc⟩ := (HO.out.kept0 HRd.out.g).c.at_ (by rw [Hne.out]; have := Hlt.out; omega)
        simp only [Value.slice.injEq] at hvc
        obtain ⟨rfl, -, -⟩ := hvc
        have eyd := hcc k y Hy.out
        have HEy := hid (And.intro hbc eyd)
        have g0 := HRd.out.box.cell 0 (v := d) rfl
        have g1 := HRd.out.box.cell 1 (v := .slice (some ⟨bc, oc, none⟩) n cc) rfl
        have g2 := HRd.out.box.cell 2 (v := .slice (some ⟨bm, om, none⟩) n mc) rfl
        have g3 := HRd.out.box.cell 3 (v := r) rfl
        have g4 := HRd.out.box.cell 4 (v := q) rfl
        have g5 := HRd.out.box.cell 5 (v := s) rfl
        clear hbc hcc
        go_upto_region 7 with (fail)
        go_cut [5, 6] from 21 to 32 (fun u8 u9 wz => ∃ X, u8 = .pointer (some ⟨X, 0, none⟩) ∧ u9 = .bool bi ∧ Hid (RwAt wz X 48 #[.int .i64 q0, .int .i64 q1, .int .i64 q2, .int .i64 q3, .int .u32 q4] ∧ wr.drew.grownBy wz none))
        case first =>
          rename_i hJ0 hJ
          have Hz9 := zero_ins9
          have HZr := hid (RwAt.new wr.drew 48 #[.int .i64 0, .int .i64 0, .int .i64 0, .int .i64 0, .int .u32 0])
          have HRz := hid (HR.out.kept0 (World.grownBy_alloc wr (.cells #[.int .i64 0, .int .i64 0, .int .i64 0, .int .i64 0, .int .u32 0] 48) none))
          have ga0 : (wr.alloc (.cells #[.int .i64 0, .int .i64 0, .int .i64 0, .int .i64 0, .int .u32 0] 48)).cell? ⟨G, 0, none⟩ = some (d) := HRz.out.box.cell 0 (v := d) rfl
          have ga1 : (wr.alloc (.cells #[.int .i64 0, .int .i64 0, .int .i64 0, .int .i64 0, .int .u32 0] 48)).cell? ⟨G, 1, none⟩ = some (.slice (some ⟨bc, oc, none⟩) n cc) := HRz.out.box.cell 1 (v := .slice (some ⟨bc, oc, none⟩) n cc) rfl
          have ga2 : (wr.alloc (.cells #[.int .i64 0, .int .i64 0, .int .i64 0, .int .i64 0, .int .u32 0] 48)).cell? ⟨G, 2, none⟩ = some (.slice (some ⟨bm, om, none⟩) n mc) := HRz.out.box.cell 2 (v := .slice (some ⟨bm, om, none⟩) n mc) rfl
          have ga3 : (wr.alloc (.cells #[.int .i64 0, .int .i64 0, .int .i64 0, .int .i64 0, .int .u32 0] 48)).cell? ⟨G, 3, none⟩ = some (r) := HRz.out.box.cell 3 (v := r) rfl
          have ga4 : (wr.alloc (.cells #[.int .i64 0, .int .i64 0, .int .i64 0, .int .i64 0, .int .u32 0] 48)).cell? ⟨G, 4, none⟩ = some (q) := HRz.out.box.cell 4 (v := q) rfl
          have ga5 : (wr.alloc (.cells #[.int .i64 0, .int .i64 0, .int .i64 0, .int .i64 0, .int .u32 0] 48)).cell? ⟨G, 5, none⟩ = some (s) := HRz.out.box.cell 5 (v := s) rfl
          have eyz : (wr.alloc (.cells #[.int .i64 0, .int .i64 0, .int .i64 0, .int .i64 0, .int .u32 0] 48)).cell? ⟨bc, oc + k, none⟩ = some (.int .u32 y) := (grown_cell (World.grownBy_alloc wr (.cells #[.int .i64 0, .int .i64 0, .int .i64 0, .int .i64 0, .int .u32 0] 48) none) HEy.out.1 (by simp)).trans HEy.out.2
          go_region_law (first
            | (go_simp
               go_at_call 51
               refine (HQ1.out _ (by first | exact HRd.out.g | exact grown_trans HRd.out.g (World.grownBy_alloc _ _ none))).mono ?_
               rintro e w5 ⟨rfl, hg⟩
               have hg2 : wr.drew.grownBy w5 none := by first | exact hg | exact grown_trans (World.grownBy_alloc _ _ none) hg
               have HG5 := hid hg2
               have e15 := (HRd.out.kept0 hg2).box.cell 1 (v := .slice (some ⟨bc, oc, none⟩) n cc) rfl
               have ey5 : w5.cell? ⟨bc, oc + k, none⟩ = some (.int .u32 y) := (grown_cell hg2 HEy.out.1 (by simp)).trans HEy.out.2
               try have HX5 : Hid (RwAt w5 wr.heap.size 48 #[.int .i64 0, .int .i64 0, .int .i64 0, .int .i64 0, .int .u32 0]) := hid ((RwAt.new wr.drew 48 #[.int .i64 0, .int .i64 0, .int .i64 0, .int .i64 0, .int .u32 0]).kept0 hg)
               try have HX5 : Hid (RwAt w5 wr.heap.size 48 #[.int .i64 0, .int .i64 0, .int .i64 0, .int .i64 0, .int .u32 0]) := hid (HZr.out.kept0 hg)
               have e15z : (w5.alloc (.cells #[.int .i64 0, .int .i64 0, .int .i64 0, .int .i64 0, .int .u32 0] 48)).cell? ⟨G, 1, none⟩ = some (.slice (some ⟨bc, oc, none⟩) n cc) := (HRd.out.kept0 (grown_trans hg2 (World.grownBy_alloc w5 (.cells #[.int .i64 0, .int .i64 0, .int .i64 0, .int .i64 0, .int .u32 0] 48) none))).box.cell 1 (v := .slice (some ⟨bc, oc, none⟩) n cc) rfl
               have ey5z : (w5.alloc (.cells #[.int .i64 0, .int .i64 0, .int .i64 0, .int .i64 0, .int .u32 0] 48)).cell? ⟨bc, oc + k, none⟩ = some (.int .u32 y) := (grown_cell (grown_trans hg2 (World.grownBy_alloc w5 (.cells #[.int .i64 0, .int .i64 0, .int .i64 0, .int .i64 0, .int .u32 0] 48) none)) HEy.out.1 (by simp)).trans HEy.out.2
               clear hg hg2)
            | (go_simp
               go_at_call 50
               refine (HQ2.out _).mono ?_
               rintro e w6 ⟨rfl, hg⟩
               have hg2 : w5.grownBy w6 none := by first | exact hg | exact grown_trans (World.grownBy_alloc _ _ none) hg
               have HG6 := hid (grown_trans HG5.out hg2)
               try have HX6 := hid ((RwAt.new w5 48 #[.int .i64 0, .int .i64 0, .int .i64 0, .int .i64 0, .int .u32 0]).kept0 hg)
               try have HX6 := hid (HX5.out.kept0 hg2)
               try have x0 := HX6.out.cell 0 (v := .int .i64 0) rfl
               try have z0 := HX6.out.free 0
               try have x1 := HX6.out.cell 1 (v := .int .i64 0) rfl
               try have z1 := HX6.out.free 1
               try have x2 := HX6.out.cell 2 (v := .int .i64 0) rfl
               try have z2 := HX6.out.free 2
               try have x3 := HX6.out.cell 3 (v := .int .i64 0) rfl
               try have z3 := HX6.out.free 3
               try have x4 := HX6.out.cell 4 (v := .int .u32 0) rfl
               try have z4 := HX6.out.free 4
               clear hg hg2)
            | fail)
          all_goals
            go_simp
            refine hJ _ _ (Met.intro (hJ0 _ _ ?_))
            (repeat apply Exists.intro)
            refine ⟨?_, rfl⟩
            first
              | exact cut_set q0 q1 q2 q3 q4 bi HX6.out HG6.out (by first | exact HG5.out.size | exact Nat.le_refl _)
              | exact cut_new q0 q1 q2 q3 q4 bi HG6.out
        case rest =>
          obtain ⟨X, rfl, rfl, HXX⟩ := hcut
          rename World => wz
          have HRx := hid (HRd.out.kept0 HXX.out.2)
          have HX := hid HXX.out.1
          clear HXX HRd HQ1 HQ2 g0 g1 g2 g3 g4 g5 HEy eyd
          have hwi : wIns x k = true := Hins.out
          have hbg := ofV_start Hyd.out hwi (by rw [Hj.out]; exact Hof.out)
          obtain ⟨Y, hY⟩ : ∃ Y : Nat, y = (Y : Int) := ⟨y.toNat, by have := Hyr.out.1; omega⟩
          have hbn := begC_nat (x := x) (k := k) (Y := Y) (Hyd.out.trans hY) (sec_fit HF.out k).1
          have Hbn := hid hbn
          have Hi2 : Hid (insB ((Y / 16777216 : Nat) : Int) ((Y / 65536 % 256 : Nat) : Int) ((Y / 256 % 256 : Nat) : Int) ((Y % 256 : Nat) : Int) (iN x k : Int) = true) := hid (by
            have h := ins_any (i := secN x k) Hins.out
            rw [Hbn.out.2.2]
            rw [Hyd.out] at h ⊢
            have e1 : y / 16777216 = ((Y / 16777216 : Nat) : Int) := by omega
            have e2 : y / 65536 % 256 = ((Y / 65536 % 256 : Nat) : Int) := by omega
            have e3 : y / 256 % 256 = ((Y / 256 % 256 : Nat) : Int) := by omega
            have e4 : y % 256 = ((Y % 256 : Nat) : Int) := by omega
            rw [← e1, ← e2, ← e3, ← e4]
            exact h)
          have hqq := hbg.symm.trans hbn.1
          simp only [List.cons.injEq, Value.int.injEq, and_true, true_and] at hqq
          obtain ⟨rfl, rfl, rfl, rfl, rfl⟩ := hqq
          have HRp := hid HRx.out
          clear hwi hbg hbn hY HRx Hq0 Hof Hbi
          obtain ⟨jj, hjj⟩ : ∃ jj, iN x k = jj := ⟨_, rfl⟩
          have Hjj := hid hjj
          rw [hjj] at Hi2 HX
          clear hjj
          have Htb : Hid (linB x k = textB (Y / 16777216) (Y / 65536 % 256) (Y / 256 % 256) (Y % 256) jj) := hid (by unfold linB; rw [Hbn.out.2.1, Hjj.out])
          have Hjl : Hid (jj < 4294967296) := hid (by rw [← Hjj.out]; exact iN_lt HF.out k)
          obtain ⟨q0, hq0⟩ : ∃ q0, Y / 16777216 = q0 := ⟨_, rfl⟩
          obtain ⟨q1, hq1⟩ : ∃ q1, Y / 65536 % 256 = q1 := ⟨_, rfl⟩
          obtain ⟨q2, hq2⟩ : ∃ q2, Y / 256 % 256 = q2 := ⟨_, rfl⟩
          obtain ⟨q3, hq3⟩ : ∃ q3, Y % 256 = q3 := ⟨_, rfl⟩
          rw [hq0, hq1, hq2, hq3] at Hi2 Htb HX
          clear hq0 hq1 hq2 hq3
          go_wp2_with (first
            | (refine wpList_load_rw rfl 48 _ rfl rfl HX.out rfl Tryz.underlying48 info_ins9 ?_)
            | fail)
          refine (rtext_any q0 q1 q2 q3 jj Hjl.out _ (HV.out.below (grown_below HRp.out.g)) Hi2.out).mono ?_
          rintro e wq ⟨rfl, hbl⟩
          have HRq := hid (HRp.out.kept0 (below_is_grown hbl))
          clear hbl HRp
          rw [← Htb.out]
          clear HX
          obtain ⟨lb, hlb⟩ : ∃ lb, linB x k = lb := ⟨_, rfl⟩
          rw [hlb] at Htx ⊢
          clear hlb
          obtain ⟨i, hi, hz0, hz1, hz2⟩ := info_str
          have Hi := hid hi
          have Hz0 := hid hz0
          have Hz1 := hid hz1
          have Hz2 := hid hz2
          have HRa := hid (HRq.out.kept0 (World.grownBy_alloc wq (.cells #[.string lb] 9) none))
          have HOw := HRa.out.own
          rw [HL.out] at HOw
          have HOw := hid HOw
          have HN : Hid (∀ j u, [Value.string lb][j]? = some u → (wq.alloc (.cells #[.string lb] 9)).cell? ((⟨wq.heap.size, 0, none⟩ : Addr).add j) = some u) := hid (World.news_of_block (heap_alloc_new wq _))
          clear hi hz0 hz1 hz2
          go_wp2_with (first
            | (refine wpList_append_lies _ rfl _ _ 38 rfl W.heap.size 9 i _ 1 16 Tryz.underlying38 Hi.out Hz0.out Hz1.out Hz2.out rfl (by decide) _ L _ rfl HOw.out ⟨wq.heap.size, 0, none⟩ 1 1 _ rfl rfl HN.out (by simp [Value.oneCell']) (by decide) (by have := HLn.out; unfold maxLen; omega) (by have := HLn.out; omega) HRa.out.g.size _ rfl ?_
               intro g cap w5 hown hgrow hat hlt2
               have hgrow0 : (wq.alloc (.cells #[.string lb] 9)).grownBy w5 (Value.slice vp L vc).ownBlock := hgrow
               have hat0 : (Value.slice vp L vc).ownBlock = some g ∨ g = (wq.alloc (.cells #[.string lb] 9)).heap.size := hat
               have HOn := hid hown
               have HG5 := hid hgrow0
               have HAt := hid hat0
               clear hown hgrow hat hlt2 hgrow0 hat0)
            | fail)
          go_roundw
          case rel =>
            refine ⟨k + 1, _, rfl, Hlt.out, by go_num, hid ⟨?_, ?_, ?_, ?_⟩⟩
            · exact HRa.out.box.kept HG5.out (fun e => HRa.out.ne e.symm)
            · exact grown_new' (grown_trans (grown_none HRa.out.g) HG5.out) (fun j hj => (HOw.out.lt j hj).1)
            · rw [Htx.out, List.length_append, HL.out, strC, List.map_append]
              exact HOn.out
            · rcases HAt.out with e | e
              · exact fun h => HRa.out.ne (e.trans h)
              · have h1 := HRa.out.box.lt
                simp only [Value.ownBlock, ne_eq, Option.some.injEq]
                omega
          case measure => simp [intOf]; have := Hlt.out; omega

      · by_cases h2 : mk = 2
        · subst h2
          have h21 : ((2 : Int) == 1) = false := by decide
          have Htx : Hid (txL x (k + 1) = txL x k ++ [tabB x k]) := hid (by rw [txL_succ, if_neg (by rw [Hmap.out]; decide), if_pos Hmap.out])
          obtain ⟨Y, hY⟩ : ∃ Y : Nat, y = (Y : Int) := ⟨y.toNat, by have := Hyr.out.1; omega⟩
          have Hwn : Hid (wN x k = Y) := hid (by unfold wN; rw [Hyd.out, hY]; simp)
          subst hY
          have HYl : Hid (Y < 4294967296) := hid (by have := Hyr.out.2; omega)
          have y0 : (0 : Int) ≤ (Y : Int) := by omega
          have y1 : (Y : Int) < 4294967296 := by have := HYl.out; omega
          obtain ⟨bc, oc, c', hvc, hbc, hcc⟩ := (HO.out.kept0 HR.out.g).c.at_ (by rw [Hne.out]; have := Hlt.out; omega)
          simp only [Value.slice.injEq] at hvc
          obtain ⟨rfl, -, -⟩ := hvc
          have ey := hcc k (Y : Int) Hy.out
          have e1 := HR.out.box.cell 1 (v := .slice (some ⟨bc, oc, none⟩) n cc) rfl
          clear hbc hcc
          go_wp2_with fail
          refine (fuint_any Y HYl.out _ (HV.out.below (grown_below HR.out.g))).mono ?_
          rintro e wq ⟨rfl, hbl⟩
          have HRq := hid (HR.out.kept0 (below_is_grown hbl))
          clear hbl ey e1
          have hst : ∀ w : World, (Op.stringOp .add ⟨#[119, 111, 114, 100, 32, 48, 120]⟩ (hexB Y)).run Tryz.prog w = .ok (.string (tabB x k)) w := fun w => by
            have h := run_string_add_sum (P := Tryz.prog) w ⟨#[119, 111, 114, 100, 32, 48, 120]⟩ (hexB Y) (by have := hexB_size HYl.out; show 7 + (hexB Y).size ≤ _; omega)
            rw [h]
            unfold tabB
            rw [Hwn.out]
          obtain ⟨lb, hlb⟩ : ∃ lb, tabB x k = lb := ⟨_, rfl⟩
          rw [hlb] at Htx hst
          obtain ⟨hb, hhb⟩ : ∃ hb, hexB Y = hb := ⟨_, rfl⟩
          rw [hhb] at hst ⊢
          clear hlb hhb
          obtain ⟨i, hi, hz0, hz1, hz2⟩ := info_str
          have Hi := hid hi
          have Hz0 := hid hz0
          have Hz1 := hid hz1
          have Hz2 := hid hz2
          have HRa := hid (HRq.out.kept0 (World.grownBy_alloc wq (.cells #[.string lb] 9) none))
          have HOw := HRa.out.own
          rw [HL.out] at HOw
          have HOw := hid HOw
          have HN : Hid (∀ j u, [Value.string lb][j]? = some u → (wq.alloc (.cells #[.string lb] 9)).cell? ((⟨wq.heap.size, 0, none⟩ : Addr).add j) = some u) := hid (World.news_of_block (heap_alloc_new wq _))
          clear hi hz0 hz1 hz2
          go_wp2_with (first
            | (refine wpList_append_lies _ rfl _ _ 38 rfl W.heap.size 9 i _ 1 16 Tryz.underlying38 Hi.out Hz0.out Hz1.out Hz2.out rfl (by decide) _ L _ rfl HOw.out ⟨wq.heap.size, 0, none⟩ 1 1 _ rfl rfl HN.out (by simp [Value.oneCell']) (by decide) (by have := HLn.out; unfold maxLen; omega) (by have := HLn.out; omega) HRa.out.g.size _ rfl ?_
               intro g cap w5 hown hgrow hat hlt2
               have hgrow0 : (wq.alloc (.cells #[.string lb] 9)).grownBy w5 (Value.slice vp L vc).ownBlock := hgrow
               have hat0 : (Value.slice vp L vc).ownBlock = some g ∨ g = (wq.alloc (.cells #[.string lb] 9)).heap.size := hat
               have HOn := hid hown
               have HG5 := hid hgrow0
               have HAt := hid hat0
               clear hown hgrow hat hlt2 hgrow0 hat0)
            | fail)
          go_roundw
          case rel =>
            refine ⟨k + 1, _, rfl, Hlt.out, by go_num, hid ⟨?_, ?_, ?_, ?_⟩⟩
            · exact HRa.out.box.kept HG5.out (fun e => HRa.out.ne e.symm)
            · exact grown_new' (grown_trans (grown_none HRa.out.g) HG5.out) (fun j hj => (HOw.out.lt j hj).1)
            · rw [Htx.out, List.length_append, HL.out, strC, List.map_append]
              exact HOn.out
            · rcases HAt.out with e | e
              · exact fun h => HRa.out.ne (e.trans h)
              · have h1 := HRa.out.box.lt
                simp only [Value.ownBlock, ne_eq, Option.some.injEq]
                omega
          case measure => simp [intOf]; have := Hlt.out; omega

        · have h1b : (mk == 1) = false := by simpa using h1
          have h2b : (mk == 2) = false := by simpa using h2
          have Htx : Hid (txL x (k + 1) = txL x k) := hid (by rw [txL_succ, if_neg (by rw [Hmap.out]; exact h1), if_neg (by rw [Hmap.out]; exact h2), List.append_nil])
          clear h1 h2
          go_wp2
          go_roundw
          case rel => exact ⟨k + 1, _, rfl, Hlt.out, by go_num, hid ⟨HR.out.box, HR.out.g, by rw [Htx.out]; exact HR.out.own, HR.out.ne⟩⟩
          case measure => simp [intOf]; have := Hlt.out; omega
    · obtain rfl : k = n := by omega
      clear hlt
      have kn : ¬ ((k : Int) < (k : Int)) := by omega
      go_wp2
      go_ret
      have h1 := HR.out.own
      exact ⟨_, rfl, h1, HR.out.g⟩
end Go.Proofs.YtgahbpfmiibpeaaGreatDoor

/- The document's Sites (facaderef9): contract. (Made by gorws.py.) -/
import Derived.Test.YtgahbpfmiibpeaaGreatDoorZGRvS
import Derived.Test.YtgahbpfmiibpeaaGreatDoorZGRv
import Derived.Test.YtgahbpfmiibpeaaGreatDoorZSite4
namespace Go.Proofs.YtgahbpfmiibpeaaGreatDoor
open Go.RowKit
theorem info_rsite : ∃ i : TypeInfo, Tryz.prog.info? 51 = some i ∧ i.zero = some (.agg #[.int .i64 0, .int .i64 0, .int .i64 0, .int .i64 0, .int .i64 0, .int .i64 0, .int .u32 0]) ∧ i.size = 7 ∧ i.bytes = 56 := info_parts (P := Tryz.prog) (e := 51) (z := .agg #[.int .i64 0, .int .i64 0, .int .i64 0, .int .i64 0, .int .i64 0, .int .i64 0, .int .u32 0]) (size := 7) (bytes := 56) (by kernel_rfl)
theorem build_rsite (k cl a b c d e : Int) (w : World) : (Instr.build 51 #[(0, .int .i64 k), (1, .int .i64 cl), (2, .agg #[.int .i64 a, .int .i64 b, .int .i64 c, .int .i64 d, .int .u32 e])]).run Tryz.prog w = .ok (.agg #[.int .i64 k, .int .i64 cl, .int .i64 a, .int .i64 b, .int .i64 c, .int .i64 d, .int .u32 e]) w := by kernel_rfl
/-- where the loop stands: behind i words -/
structure RSw (W w : World) (G : Nat) (V : OV) (x : PO) (v : Value) (i : Nat) : Prop where
  box : RwAt w G 27 #[V.d, V.c, V.m, V.r, V.q, V.s]
  g : W.grownBy w none
  own : w.ownsRow W.heap.size 51 7 v (siL x (stL x i)).length (sisC x (siL x (stL x i)))
  ne : v.ownBlock ≠ some G
theorem RSw.kept0 {W w w1 : World} {G : Nat} {V : OV} {x : PO} {v : Value} {i : Nat} (h : RSw W w G V x v i) (hg : w.grownBy w1 none) : RSw W w1 G V x v i := ⟨h.box.kept0 hg, grown_trans h.g hg, own_keep0 h.own hg, h.ne⟩
/-- of a start: what Of says are the parts of its word -/
theorem ofV_start {x : PO} {k : Nat} {y : Int} (hy : x.C.getD k 0 = y) (hi : wIns x k = true) {q0 q1 q2 q3 q4 : Int} {b : Bool} (h : ofV y (secN x k) = .tuple #[.agg #[.int .i64 q0, .int .i64 q1, .int .i64 q2, .int .i64 q3, .int .u32 q4], .bool b]) : begC x k = [.int .i64 q0, .int .i64 q1, .int .i64 q2, .int .i64 q3, .int .u32 q4] := by
  unfold ofV at h
  unfold wIns at hi
  rw [hy] at hi
  rw [if_pos (by rw [ins_want]; exact hi)] at h
  simp only [Value.tuple.injEq, Array.mk.injEq, List.cons.injEq, Value.agg.injEq, Value.int.injEq, Value.bool.injEq, and_true, true_and] at h
  obtain ⟨⟨rfl, rfl, rfl, rfl, rfl⟩, -⟩ := h
  unfold begC
  rw [hy]
set_option maxRecDepth 100000 in
set_option maxHeartbeats 16000000 in
theorem rsites_any {W : World} {V : OV} {x : PO} (h : OAt W V x) (hf : OFit x) (hok : OkP x) :
    Calls Tryz.prog 15 #[V.agg] W fun e w' => ∃ v, e = .returned v ∧ w'.ownsRow W.heap.size 51 7 v (siL x (stL x x.C.length)).length (sisC x (siL x (stL x x.C.length))) ∧ W.grownBy w' none := by
  obtain ⟨d, c, m, r, q, s⟩ := V
  obtain ⟨cp, cc, hcv⟩ := h.c.len'
  obtain ⟨mp, mc, hmv⟩ := h.m.len'
  simp only at hcv hmv
  rw [hok.len] at hmv
  have hmany := (many_of hok).2.1
  obtain ⟨n, hne⟩ : ∃ n, x.C.length = n := ⟨_, rfl⟩
  have Hne := hid hne
  rw [hne] at hcv hmv hmany ⊢
  subst hcv; subst hmv
  have HB0 := hid (RwAt.new W 27 #[d, .slice cp n cc, .slice mp n mc, r, q, s])
  have HG0 := hid (World.grownBy_alloc W (.cells #[d, .slice cp n cc, .slice mp n mc, r, q, s] 27) none)
  have HO := hid h
  have HF := hid hf
  have Hok := hid hok
  have Hn : Hid (n ≤ 1000000) := hid (by omega)
  have Hn2 := hid hmany
  have n0 : (0 : Int) ≤ (n : Int) := by omega
  have n1 : (n : Int) ≤ 2048 := by omega
  clear h hf hok hne hmany
  go_enter Tryz.func15, Tryz.ntmps15
  go_upto_region 1 with (fail)
  have HR0 : Hid (RSw W (W.alloc (.cells #[d, .slice cp n cc, .slice mp n mc, r, q, s] 27)) W.heap.size ⟨d, .slice cp n cc, .slice mp n mc, r, q, s⟩ x (.slice none 0 0) 0) := hid ⟨HB0.out, HG0.out, World.ownsRow_nil _ _ _ _, by simp [Value.ownBlock]⟩
  obtain ⟨G, hG⟩ : ∃ G, W.heap.size = G := ⟨_, rfl⟩
  have HGl : Hid (∀ w', (W.alloc (.cells #[d, .slice cp n cc, .slice mp n mc, r, q, s] 27)).grownBy w' none → G < w'.heap.size) := hid (fun w' hg => by have := hg.size; simp at this; omega)
  rw [hG] at HR0 ⊢
  clear hG HB0 HG0
  generalize W.alloc (.cells #[d, .slice cp n cc, .slice mp n mc, r, q, s] 27) = w1 at HR0 HGl ⊢
  go_wp2
  go_loopw [3, 4] (fun v i wr => ∃ k : Nat, ∃ v' : Value, v = v' ∧ k ≤ n ∧ i = .int .i64 k ∧ Hid (RSw W wr G ⟨d, .slice cp n cc, .slice mp n mc, r, q, s⟩ x v' k)) (fun _ i _ => n - (intOf i).toNat)
  case atStart => exact ⟨0, _, rfl, Nat.zero_le _, rfl, HR0⟩
  case round =>
    obtain ⟨k, v, rfl, hk, rfl, HR⟩ := hrel
    have k0 : (0 : Int) ≤ (k : Int) := by omega
    have e1 := HR.out.box.cell 1 (v := .slice cp n cc) rfl
    by_cases hlt : k < n
    · have kn : (k : Int) < (n : Int) := by omega
      have Hlt := hid hlt
      obtain ⟨y, hy⟩ : ∃ y, x.C[k]? = some y := ⟨_, List.getElem?_eq_getElem (by rw [Hne.out]; exact hlt)⟩
      obtain ⟨mk, hm⟩ : ∃ mk, x.M[k]? = some mk := ⟨_, List.getElem?_eq_getElem (by rw [Hok.out.len, Hne.out]; exact hlt)⟩
      have Hy := hid hy
      have Hyd : Hid (x.C.getD k 0 = y) := hid (by rw [List.getD_eq_getElem?_getD, hy]; rfl)
      have Hyr := hid (HF.out.c y (List.mem_of_getElem? hy))
      have Hmap : Hid (mapN x k = mk) := hid (by unfold mapN; rw [List.getD_eq_getElem?_getD, hm]; rfl)
      have Hm := hid hm
      obtain ⟨vp, vc, rfl⟩ := own_slice HR.out.own
      clear hy hm hlt
      obtain ⟨j, hj⟩ : ∃ j, secN x k = j := ⟨_, rfl⟩
      obtain ⟨bi, hbi⟩ : ∃ bi, wIns x k = bi := ⟨_, rfl⟩
      obtain ⟨q0, q1, q2, q3, q4, hof, hq0⟩ := ofV_word Hyd.out
      rw [hj, hbi] at hof
      rw [hbi] at hq0
      have Hq0 := hid hq0
      have Hbi := hid hbi
      have Hjr : Hid (0 ≤ j ∧ j < 4294967296) := hid (by rw [← hj]; exact sec9_fit HF.out k)
      have dr := grown_drew (grown_refl wr none)
      have HRd := hid (HR.out.kept0 dr)
      have HQ1 : Hid (∀ W' : World, W.grownBy W' none → Calls Tryz.prog 51 #[.agg #[d, .slice cp n cc, .slice mp n mc, r, q, s], .int .i64 k] W' fun e w' => e = .returned (.int .u32 j) ∧ W'.grownBy w' none) := hid (fun W' hW => by
        rw [← hj]
        exact second_any (V := ⟨d, .slice cp n cc, .slice mp n mc, r, q, s⟩) (HO.out.kept0 hW) (by rw [Hne.out]; exact Hlt.out) (by rw [Hne.out]; exact Hn.out))
      have HQ2 : Hid (∀ W' : World, Calls Tryz.prog 50 #[.int .u32 y, .int .u32 j] W' fun e w' => e = .returned (.tuple #[.agg #[.int .i64 q0, .int .i64 q1, .int .i64 q2, .int .i64 q3, .int .u32 q4], .bool bi]) ∧ W'.grownBy w' none) := hid (fun W' => by
        rw [← hof]
        exact rof_any y j W' Hyr.out.1 Hyr.out.2)
      have Hof := hid hof
      have Hj := hid hj
      clear hj hbi hof hq0 dr
      obtain ⟨bc, oc, c', hvc, hbc, hcc⟩ := (HO.out.kept0 HRd.out.g).c.at_ (by rw [Hne.out]; have := Hlt.out; omega)
      simp only [Value.slice.injEq] at hvc
      obtain ⟨rfl, -, -⟩ := hvc
      have eyd := hcc k y Hy.out
      have HEy := hid (And.intro hbc eyd)
      have g0 := HRd.out.box.cell 0 (v := d) rfl
      have g1 := HRd.out.box.cell 1 (v := .slice (some ⟨bc, oc, none⟩) n cc) rfl
      have g2 := HRd.out.box.cell 2 (v := .slice mp n mc) rfl
      have g3 := HRd.out.box.cell 3 (v := r) rfl
      have g4 := HRd.out.box.cell 4 (v := q) rfl
      have g5 := HRd.out.box.cell 5 (v := s) rfl
      clear hbc hcc
      go_upto_region 5 with (fail)
      go_cut [5, 6] from 15 to 26 (fun u8 u9 wz => ∃ X, u8 = .pointer (some ⟨X, 0, none⟩) ∧ u9 = .bool bi ∧ Hid (RwAt wz X 48 #[.int .i64 q0, .int .i64 q1, .int .i64 q2, .int .i64 q3, .int .u32 q4] ∧ wr.drew.grownBy wz none))
      case first =>
        rename_i hJ0 hJ
        have Hz9 := zero_ins9
        have HZr := hid (RwAt.new wr.drew 48 #[.int .i64 0, .int .i64 0, .int .i64 0, .int .i64 0, .int .u32 0])
        have HRz := hid (HR.out.kept0 (World.grownBy_alloc wr (.cells #[.int .i64 0, .int .i64 0, .int .i64 0, .int .i64 0, .int .u32 0] 48) none))
        have ga0 : (wr.alloc (.cells #[.int .i64 0, .int .i64 0, .int .i64 0, .int .i64 0, .int .u32 0] 48)).cell? ⟨G, 0, none⟩ = some (d) := HRz.out.box.cell 0 (v := d) rfl
        have ga1 : (wr.alloc (.cells #[.int .i64 0, .int .i64 0, .int .i64 0, .int .i64 0, .int .u32 0] 48)).cell? ⟨G, 1, none⟩ = some (.slice (some ⟨bc, oc, none⟩) n cc) := HRz.out.box.cell 1 (v := .slice (some ⟨bc, oc, none⟩) n cc) rfl
        have ga2 : (wr.alloc (.cells #[.int .i64 0, .int .i64 0, .int .i64 0, .int .i64 0, .int .u32 0] 48)).cell? ⟨G, 2, none⟩ = some (.slice mp n mc) := HRz.out.box.cell 2 (v := .slice mp n mc) rfl
        have ga3 : (wr.alloc (.cells #[.int .i64 0, .int .i64 0, .int .i64 0, .int .i64 0, .int .u32 0] 48)).cell? ⟨G, 3, none⟩ = some (r) := HRz.out.box.cell 3 (v := r) rfl
        have ga4 : (wr.alloc (.cells #[.int .i64 0, .int .i64 0, .int .i64 0, .int .i64 0, .int .u32 0] 48)).cell? ⟨G, 4, none⟩ = some (q) := HRz.out.box.cell 4 (v := q) rfl
        have ga5 : (wr.alloc (.cells #[.int .i64 0, .int .i64 0, .int .i64 0, .int .i64 0, .int .u32 0] 48)).cell? ⟨G, 5, none⟩ = some (s) := HRz.out.box.cell 5 (v := s) rfl
        have eyz : (wr.alloc (.cells #[.int .i64 0, .int .i64 0, .int .i64 0, .int .i64 0, .int .u32 0] 48)).cell? ⟨bc, oc + k, none⟩ = some (.int .u32 y) := (grown_cell (World.grownBy_alloc wr (.cells #[.int .i64 0, .int .i64 0, .int .i64 0, .int .i64 0, .int .u32 0] 48) none) HEy.out.1 (by simp)).trans HEy.out.2
        go_region_law (first
          | (go_simp
             go_at_call 51
             refine (HQ1.out _ (by first | exact HRd.out.g | exact grown_trans HRd.out.g (World.grownBy_alloc _ _ none))).mono ?_
             rintro e w5 ⟨rfl, hg⟩
             have hg2 : wr.drew.grownBy w5 none := by first | exact hg | exact grown_trans (World.grownBy_alloc _ _ none) hg
             have HG5 := hid hg2
             have e15 := (HRd.out.kept0 hg2).box.cell 1 (v := .slice (some ⟨bc, oc, none⟩) n cc) rfl
             have ey5 : w5.cell? ⟨bc, oc + k, none⟩ = some (.int .u32 y) := (grown_cell hg2 HEy.out.1 (by simp)).trans HEy.out.2
             try have HX5 : Hid (RwAt w5 wr.heap.size 48 #[.int .i64 0, .int .i64 0, .int .i64 0, .int .i64 0, .int .u32 0]) := hid ((RwAt.new wr.drew 48 #[.int .i64 0, .int .i64 0, .int .i64 0, .int .i64 0, .int .u32 0]).kept0 hg)
             try have HX5 : Hid (RwAt w5 wr.heap.size 48 #[.int .i64 0, .int .i64 0, .int .i64 0, .int .i64 0, .int .u32 0]) := hid (HZr.out.kept0 hg)
             have e15z : (w5.alloc (.cells #[.int .i64 0, .int .i64 0, .int .i64 0, .int .i64 0, .int .u32 0] 48)).cell? ⟨G, 1, none⟩ = some (.slice (some ⟨bc, oc, none⟩) n cc) := (HRd.out.kept0 (grown_trans hg2 (World.grownBy_alloc w5 (.cells #[.int .i64 0, .int .i64 0, .int .i64 0, .int .i64 0, .int .u32 0] 48) none))).box.cell 1 (v := .slice (some ⟨bc, oc, none⟩) n cc) rfl
             have ey5z : (w5.alloc (.cells #[.int .i64 0, .int .i64 0, .int .i64 0, .int .i64 0, .int .u32 0] 48)).cell? ⟨bc, oc + k, none⟩ = some (.int .u32 y) := (grown_cell (grown_trans hg2 (World.grownBy_alloc w5 (.cells #[.int .i64 0, .int .i64 0, .int .i64 0, .int .i64 0, .int .u32 0] 48) none)) HEy.out.1 (by simp)).trans HEy.out.2
             clear hg hg2)
          | (go_simp
             go_at_call 50
             refine (HQ2.out _).mono ?_
             rintro e w6 ⟨rfl, hg⟩
             have hg2 : w5.grownBy w6 none := by first | exact hg | exact grown_trans (World.grownBy_alloc _ _ none) hg
             have HG6 := hid (grown_trans HG5.out hg2)
             try have HX6 := hid ((RwAt.new w5 48 #[.int .i64 0, .int .i64 0, .int .i64 0, .int .i64 0, .int .u32 0]).kept0 hg)
             try have HX6 := hid (HX5.out.kept0 hg2)
             try have x0 := HX6.out.cell 0 (v := .int .i64 0) rfl
             try have z0 := HX6.out.free 0
             try have x1 := HX6.out.cell 1 (v := .int .i64 0) rfl
             try have z1 := HX6.out.free 1
             try have x2 := HX6.out.cell 2 (v := .int .i64 0) rfl
             try have z2 := HX6.out.free 2
             try have x3 := HX6.out.cell 3 (v := .int .i64 0) rfl
             try have z3 := HX6.out.free 3
             try have x4 := HX6.out.cell 4 (v := .int .u32 0) rfl
             try have z4 := HX6.out.free 4
             clear hg hg2)
          | fail)
        all_goals
          go_simp
          refine hJ _ _ (Met.intro (hJ0 _ _ ?_))
          (repeat apply Exists.intro)
          refine ⟨?_, rfl⟩
          first
            | exact cut_set q0 q1 q2 q3 q4 bi HX6.out HG6.out (by first | exact HG5.out.size | exact Nat.le_refl _)
            | exact cut_new q0 q1 q2 q3 q4 bi HG6.out
      case rest =>
        obtain ⟨X, rfl, rfl, HXX⟩ := hcut
        rename World => wz
        have HRx := hid (HRd.out.kept0 HXX.out.2)
        have HX := hid HXX.out.1
        clear HXX HRd HQ1 HQ2 g0 g1 g2 g3 g4 g5 HEy eyd
        have x0 := HX.out.cell 0 (v := .int .i64 q0) rfl
        go_wp2_with fail
        refine (rclass_any q0 _).mono ?_
        rintro e w5 ⟨rfl, rfl⟩
        obtain ⟨cl, hcl⟩ : ∃ cl, clsI q0 = cl := ⟨_, rfl⟩
        rw [hcl]
        have Hcl := hid hcl
        clear hcl x0
        have e2 := HRx.out.box.cell 2 (v := .slice mp n mc) rfl
        obtain ⟨bm, om, cm, hvm, hbm, hcm⟩ := (HO.out.kept0 HRx.out.g).m.at_ (by rw [Hok.out.len, Hne.out]; have := Hlt.out; omega)
        simp only [Value.slice.injEq] at hvm
        obtain ⟨rfl, -, -⟩ := hvm
        have em := hcm k mk Hm.out
        clear hbm hcm
        by_cases h1 : mk = 1
        · subst h1
          have hin := sifirst_ins (siword_first (Hok.out.word k (by rw [Hne.out]; exact Hlt.out)) Hmap.out) Hmap.out
          have hwi : wIns x k = true := hin
          have hq : q0 = wOp x k := Hq0.out (by rw [← Hbi.out]; exact hwi)
          have Hbeg := hid (ofV_start Hyd.out hwi (by rw [Hj.out]; exact Hof.out))
          have Hcl2 : Hid (clsI (wOp x k) = cl) := hid (by rw [← hq]; exact Hcl.out)
          clear hin hwi hq
          by_cases h23 : cl = 2 ∨ cl = 3
          · have hit : mapN x k = 1 ∧ isT x k = true := ⟨Hmap.out, by unfold isT; rw [Hcl2.out]; simpa using h23⟩
            have Hnx := hid (siL_next (x := x) (i := k) (n := n) Hlt.out hit.1 hit.2).2
            clear hit
            rcases h23 with rfl | rfl
            · obtain ⟨i, hi, hz0, hz1, hz2⟩ := info_rsite
              have Hi := hid hi
              have Hz0 := hid hz0
              have Hz1 := hid hz1
              have Hz2 := hid hz2
              have hbs := build_rsite k 2 q0 q1 q2 q3 q4
              obtain ⟨L, hL⟩ : ∃ L, (siL x (stL x k)).length = L := ⟨_, rfl⟩
              have HL := hid hL
              have HLn : Hid (L ≤ 2048) := hid (by
                have h1 := siL_length x (stL x k)
                have h2 := stL_length x k
                have := Hlt.out
                have := Hn2.out
                omega)
              have HRa := hid (HRx.out.kept0 (World.grownBy_alloc wz (.cells #[.int .i64 k, .int .i64 2, .int .i64 q0, .int .i64 q1, .int .i64 q2, .int .i64 q3, .int .u32 q4] 51) none))
              have HOw := HRa.out.own
              rw [HL.out] at HOw
              have HOw := hid HOw
              have HNw : Hid (∀ j u, [Value.int .i64 (k : Int), .int .i64 2, .int .i64 q0, .int .i64 q1, .int .i64 q2, .int .i64 q3, .int .u32 q4][j]? = some u → (wz.alloc (.cells #[.int .i64 k, .int .i64 2, .int .i64 q0, .int .i64 q1, .int .i64 q2, .int .i64 q3, .int .u32 q4] 51)).cell? ((⟨wz.heap.size, 0, none⟩ : Addr).add j) = some u) := hid (World.news_of_block (heap_alloc_new wz _))
              rw [hL]
              clear hi hz0 hz1 hz2 hL
              go_wp2_with (first
                | (refine wpList_load_rw rfl 48 _ rfl rfl HX.out rfl Tryz.underlying48 info_ins9 ?_)
                | (refine wpList_append_lies _ rfl _ _ 42 rfl W.heap.size 51 i _ 7 56 Tryz.underlying42 Hi.out Hz0.out Hz1.out Hz2.out rfl (by decide) _ L _ rfl HOw.out ⟨wz.heap.size, 0, none⟩ 1 1 _ rfl rfl HNw.out (by simp [Value.oneCell']) (by decide) (by have := HLn.out; unfold maxLen; omega) (by have := HLn.out; omega) HRa.out.g.size _ rfl ?_
                   intro g cap w9 hown hgrow hat hlt2
                   have hgrow0 : (wz.alloc (.cells #[.int .i64 k, .int .i64 2, .int .i64 q0, .int .i64 q1, .int .i64 q2, .int .i64 q3, .int .u32 q4] 51)).grownBy w9 (Value.slice vp L vc).ownBlock := hgrow
                   have hat0 : (Value.slice vp L vc).ownBlock = some g ∨ g = (wz.alloc (.cells #[.int .i64 k, .int .i64 2, .int .i64 q0, .int .i64 q1, .int .i64 q2, .int .i64 q3, .int .u32 q4] 51)).heap.size := hat
                   have HOn := hid hown
                   have HGn := hid hgrow0
                   have HAt := hid hat0
                   clear hown hgrow hat hlt2 hgrow0 hat0)
                | fail)
              clear hbs
              go_roundw
              case rel =>
                have hne2 : (Value.slice vp L vc).ownBlock ≠ some G := by rw [← HL.out]; exact HRa.out.ne
                refine ⟨k + 1, _, rfl, Hlt.out, by go_num, hid ⟨?_, ?_, ?_, ?_⟩⟩
                · exact HRa.out.box.kept HGn.out (fun e => hne2 e.symm)
                · exact grown_new' (grown_trans (grown_none HRa.out.g) HGn.out) (fun j hj => (HOw.out.lt j hj).1)
                · rw [Hnx.out, List.length_append, HL.out, sisC_append]
                  have e : sisC x [k] = [.int .i64 k, .int .i64 2, .int .i64 q0, .int .i64 q1, .int .i64 q2, .int .i64 q3, .int .u32 q4] := by
                    simp only [sisC, siC, List.append_nil]
                    rw [Hcl2.out, Hbeg.out]
                  rw [e]
                  exact HOn.out
                · rcases HAt.out with e | e
                  · exact fun h => hne2 (e.trans h)
                  · have h1 := HRa.out.box.lt
                    simp only [Value.ownBlock, ne_eq, Option.some.injEq]
                    omega
              case measure => simp [intOf]; have := Hlt.out; omega
            · have h32 : ((3 : Int) == 2) = false := by decide
              obtain ⟨i, hi, hz0, hz1, hz2⟩ := info_rsite
              have Hi := hid hi
              have Hz0 := hid hz0
              have Hz1 := hid hz1
              have Hz2 := hid hz2
              have hbs := build_rsite k 3 q0 q1 q2 q3 q4
              obtain ⟨L, hL⟩ : ∃ L, (siL x (stL x k)).length = L := ⟨_, rfl⟩
              have HL := hid hL
              have HLn : Hid (L ≤ 2048) := hid (by
                have h1 := siL_length x (stL x k)
                have h2 := stL_length x k
                have := Hlt.out
                have := Hn2.out
                omega)
              have HRa := hid (HRx.out.kept0 (World.grownBy_alloc wz (.cells #[.int .i64 k, .int .i64 3, .int .i64 q0, .int .i64 q1, .int .i64 q2, .int .i64 q3, .int .u32 q4] 51) none))
              have HOw := HRa.out.own
              rw [HL.out] at HOw
              have HOw := hid HOw
              have HNw : Hid (∀ j u, [Value.int .i64 (k : Int), .int .i64 3, .int .i64 q0, .int .i64 q1, .int .i64 q2, .int .i64 q3, .int .u32 q4][j]? = some u → (wz.alloc (.cells #[.int .i64 k, .int .i64 3, .int .i64 q0, .int .i64 q1, .int .i64 q2, .int .i64 q3, .int .u32 q4] 51)).cell? ((⟨wz.heap.size, 0, none⟩ : Addr).add j) = some u) := hid (World.news_of_block (heap_alloc_new wz _))
              rw [hL]
              clear hi hz0 hz1 hz2 hL
              go_wp2_with (first
                | (refine wpList_load_rw rfl 48 _ rfl rfl HX.out rfl Tryz.underlying48 info_ins9 ?_)
                | (refine wpList_append_lies _ rfl _ _ 42 rfl W.heap.size 51 i _ 7 56 Tryz.underlying42 Hi.out Hz0.out Hz1.out Hz2.out rfl (by decide) _ L _ rfl HOw.out ⟨wz.heap.size, 0, none⟩ 1 1 _ rfl rfl HNw.out (by simp [Value.oneCell']) (by decide) (by have := HLn.out; unfold maxLen; omega) (by have := HLn.out; omega) HRa.out.g.size _ rfl ?_
                   intro g cap w9 hown hgrow hat hlt2
                   have hgrow0 : (wz.alloc (.cells #[.int .i64 k, .int .i64 3, .int .i64 q0, .int .i64 q1, .int .i64 q2, .int .i64 q3, .int .u32 q4] 51)).grownBy w9 (Value.slice vp L vc).ownBlock := hgrow
                   have hat0 : (Value.slice vp L vc).ownBlock = some g ∨ g = (wz.alloc (.cells #[.int .i64 k, .int .i64 3, .int .i64 q0, .int .i64 q1, .int .i64 q2, .int .i64 q3, .int .u32 q4] 51)).heap.size := hat
                   have HOn := hid hown
                   have HGn := hid hgrow0
                   have HAt := hid hat0
                   clear hown hgrow hat hlt2 hgrow0 hat0)
                | fail)
              clear hbs
              go_roundw
              case rel =>
                have hne2 : (Value.slice vp L vc).ownBlock ≠ some G := by rw [← HL.out]; exact HRa.out.ne
                refine ⟨k + 1, _, rfl, Hlt.out, by go_num, hid ⟨?_, ?_, ?_, ?_⟩⟩
                · exact HRa.out.box.kept HGn.out (fun e => hne2 e.symm)
                · exact grown_new' (grown_trans (grown_none HRa.out.g) HGn.out) (fun j hj => (HOw.out.lt j hj).1)
                · rw [Hnx.out, List.length_append, HL.out, sisC_append]
                  have e : sisC x [k] = [.int .i64 k, .int .i64 3, .int .i64 q0, .int .i64 q1, .int .i64 q2, .int .i64 q3, .int .u32 q4] := by
                    simp only [sisC, siC, List.append_nil]
                    rw [Hcl2.out, Hbeg.out]
                  rw [e]
                  exact HOn.out
                · rcases HAt.out with e | e
                  · exact fun h => hne2 (e.trans h)
                  · have h1 := HRa.out.box.lt
                    simp only [Value.ownBlock, ne_eq, Option.some.injEq]
                    omega
              case measure => simp [intOf]; have := Hlt.out; omega
          · have h2 : (cl == 2) = false := by simp only [beq_eq_false_iff_ne]; omega
            have h3 : (cl == 3) = false := by simp only [beq_eq_false_iff_ne]; omega
            have Hno := hid (siL_other (x := x) (i := k) (n := n) Hlt.out (fun h => by
              have := h.2
              unfold isT at this
              rw [Hcl2.out] at this
              simp only [decide_eq_true_eq] at this
              exact h23 this)).2
            clear h23
            go_wp2
            go_roundw
            case rel => exact ⟨k + 1, _, rfl, Hlt.out, by go_num, hid ⟨HRx.out.box, HRx.out.g, by rw [Hno.out]; exact HRx.out.own, HRx.out.ne⟩⟩
            case measure => simp [intOf]; have := Hlt.out; omega
        · have h1b : (mk == 1) = false := by simpa using h1
          have Hno := hid (siL_other (x := x) (i := k) (n := n) Hlt.out (fun h => h1 (Hmap.out.symm.trans h.1))).2
          clear h1
          go_wp2
          go_roundw
          case rel => exact ⟨k + 1, _, rfl, Hlt.out, by go_num, hid ⟨HRx.out.box, HRx.out.g, by rw [Hno.out]; exact HRx.out.own, HRx.out.ne⟩⟩
          case measure => simp [intOf]; have := Hlt.out; omega
    · obtain rfl : k = n := by omega
      have kn : ¬ ((k : Int) < (k : Int)) := by omega
      clear hlt
      go_wp2
      go_ret
      exact ⟨_, rfl, HR.out.own, HR.out.g⟩
end Go.Proofs.YtgahbpfmiibpeaaGreatDoor

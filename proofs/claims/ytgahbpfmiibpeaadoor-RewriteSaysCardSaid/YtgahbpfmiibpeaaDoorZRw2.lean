/- Package rewrite: rewritten: contract. (Made by gorw2.py.) -/
import Derived.Test.YtgahbpfmiibpeaaDoorZGRwA
import Derived.Test.YtgahbpfmiibpeaaDoorZGIsa
import Derived.Test.YtgahbpfmiibpeaaDoorZObjH
import Derived.Laws.MakeOwn
import Derived.Deep.RegionLaw
import Derived.Deep.Cut
import Derived.Deep.CutRange
import Derived.Deep.RegionHeld3
import Derived.StillTailTactics
namespace Go.Proofs.YtgahbpfmiibpeaaDoor
open Go.RowKit
theorem rebase {B B' : Nat} {w : World} {t : TypeId} {size n : Nat} {v : Value} {cs : List Value} (h : w.ownsRow B t size v n cs) (hB : B' ≤ B) : w.ownsRow B' t size v n cs := own_base h hB
/-- two rows of the function's own: numbers, and bytes beside them -/
structure TwoR (W w : World) (vc : Value) (lc : List Int) (vm : Value) (lm : List Int) : Prop where
  c : w.ownsRow W.heap.size 28 1 vc lc.length (lc.map (Value.int .u32))
  m : w.ownsRow W.heap.size 5 1 vm lm.length (lm.map (Value.int .u8))
  g : W.grownBy w none
  ap : Ap vc vm
section
variable {W w w5 : World} {vc vm : Value} {lc lm : List Int}
theorem ap_other {u v : Value} (h : Ap u v) : v.ownBlock = none ∨ v.ownBlock ≠ u.ownBlock := by
  rcases h with h | h
  · rw [h]
    cases v.ownBlock with
    | none => exact .inl rfl
    | some k => exact .inr (by simp)
  · exact .inr (fun e => h e.symm)
theorem TwoR.kept0 (h : TwoR W w vc lc vm lm) (hg : w.grownBy w5 none) : TwoR W w5 vc lc vm lm := ⟨own_keep0 h.c hg, own_keep0 h.m hg, grown_trans h.g hg, h.ap⟩
theorem TwoR.base {W0 : World} (h : TwoR W w vc lc vm lm) (hg : W0.grownBy W none) : TwoR W0 w vc lc vm lm := ⟨own_base h.c hg.size, own_base h.m hg.size, grown_trans hg h.g, h.ap⟩
theorem TwoR.addC (h : TwoR W w vc lc vm lm) {g cap k : Nat} (ys : List Int) (hk : ys.length = k) (hg : w.grownBy w5 vc.ownBlock) (hat : vc.ownBlock = some g ∨ g = w.heap.size)
    (ho : w5.ownsRow W.heap.size 28 1 (.slice (some ⟨g, 0, none⟩) (lc.length + k) cap) (lc.length + k) (lc.map (Value.int .u32) ++ ys.map (Value.int .u32))) :
    TwoR W w5 (.slice (some ⟨g, 0, none⟩) (lc.length + k) cap) (lc ++ ys) vm lm := by
  subst hk
  refine ⟨?_, h.m.kept hg (ap_other h.ap), grown_new' (grown_trans (grown_none h.g) hg) (fun j hj => (h.c.lt j hj).1), ?_⟩
  · rw [List.length_append, List.map_append]; exact ho
  · right
    rcases hat with e | e
    · rcases h.ap with f | f
      · rw [f] at e; cases e
      · exact fun e2 => f (e.trans e2)
    · intro e2
      have := (h.m.lt g e2.symm).2
      omega
theorem TwoR.addM (h : TwoR W w vc lc vm lm) {g cap k : Nat} (ys : List Int) (hk : ys.length = k) (hg : w.grownBy w5 vm.ownBlock) (hat : vm.ownBlock = some g ∨ g = w.heap.size)
    (ho : w5.ownsRow W.heap.size 5 1 (.slice (some ⟨g, 0, none⟩) (lm.length + k) cap) (lm.length + k) (lm.map (Value.int .u8) ++ ys.map (Value.int .u8))) :
    TwoR W w5 vc lc (.slice (some ⟨g, 0, none⟩) (lm.length + k) cap) (lm ++ ys) := by
  subst hk
  have e0 : ∀ j, vc.ownBlock = some j → vc.ownBlock ≠ vm.ownBlock := fun j hj e => by rcases h.ap with f | f; (rw [hj] at f; cases f); exact f e
  refine ⟨h.c.kept hg h.ap, ?_, grown_new' (grown_trans (grown_none h.g) hg) (fun j hj => (h.m.lt j hj).1), ?_⟩
  · rw [List.length_append, List.map_append]; exact ho
  · cases hc : vc.ownBlock with
    | none => exact .inl hc
    | some j =>
      right
      rw [hc]
      rcases hat with e | e
      · intro e2
        exact e0 j hc (by rw [hc, e2, e]; rfl)
      · intro e2
        have := (h.c.lt j hc).2
        have e3 : j = g := Option.some.inj e2
        omega
end
theorem add_block (a : Addr) (j : Nat) : (a.add j).block = a.block := by unfold Addr.add; split <;> rfl
theorem two_made1 {W w : World} {Z1 Z2 : Array Value} {n : Nat} (k1 : ∀ w : World, W.grownBy w none → (w.alloc (.cells Z1 28)).ownsRow W.heap.size 28 1 (.slice (some ⟨w.heap.size, 0, none⟩) 0 n) 0 []) (k2 : ∀ w : World, W.grownBy w none → (w.alloc (.cells Z2 5)).ownsRow W.heap.size 5 1 (.slice (some ⟨w.heap.size, 0, none⟩) 0 n) 0 []) (hg : W.grownBy w none) :
    TwoR W ((w.alloc (.cells Z1 28)).alloc (.cells Z2 5)) (.slice (some ⟨w.heap.size, 0, none⟩) 0 n) [] (.slice (some ⟨w.heap.size + 1, 0, none⟩) 0 n) [] :=
  ⟨own_keep0 (k1 w hg) (World.grownBy_alloc _ _ none), by simpa using k2 _ (grown_trans hg (World.grownBy_alloc _ _ none)), grown_trans hg (grown_trans (World.grownBy_alloc _ _ none) (World.grownBy_alloc _ _ none)), .inr (by simp [Value.ownBlock])⟩
theorem two_made2 {W w : World} {Z1 Z2 : Array Value} {n : Nat} (k1 : ∀ w : World, W.grownBy w none → (w.alloc (.cells Z1 28)).ownsRow W.heap.size 28 1 (.slice (some ⟨w.heap.size, 0, none⟩) 0 n) 0 []) (k2 : ∀ w : World, W.grownBy w none → (w.alloc (.cells Z2 5)).ownsRow W.heap.size 5 1 (.slice (some ⟨w.heap.size, 0, none⟩) 0 n) 0 []) (hg : W.grownBy w none) :
    TwoR W ((w.alloc (.cells Z2 5)).alloc (.cells Z1 28)) (.slice (some ⟨w.heap.size + 1, 0, none⟩) 0 n) [] (.slice (some ⟨w.heap.size, 0, none⟩) 0 n) [] :=
  ⟨by simpa using k1 _ (grown_trans hg (World.grownBy_alloc _ _ none)), own_keep0 (k2 w hg) (World.grownBy_alloc _ _ none), grown_trans hg (grown_trans (World.grownBy_alloc _ _ none) (World.grownBy_alloc _ _ none)), .inr (by simp [Value.ownBlock])⟩
theorem build_hc (w : World) : (Instr.build 43 #[(0, .int .i64 96)]).run Tryd.prog w = .ok (.agg #[.int .i64 96, .int .i64 0, .int .i64 0, .int .i64 0, .int .u32 0]) w := by kernel_rfl
theorem word_hc (w : World) : Calls Tryd.prog 58 #[.agg #[.int .i64 96, .int .i64 0, .int .i64 0, .int .i64 0, .int .u32 0]] w fun e w' => e = .returned (.tuple #[.int .u32 1610612736, .bool true]) ∧ w.grownBy w' none :=
  (word_any 96 0 0 0 0 w).mono fun e w' h => ⟨by rw [h.1]; exact (by decide +kernel : wordV 96 0 0 0 0 = 1610612736 ∧ insB 96 0 0 0 0 = true).elim fun a b => by rw [a, b], below_is_grown h.2⟩
def RwtAt (W : World) (lc lm : List Int) (e : Ending) (w' : World) : Prop := ∃ vc vm, e = .returned (.tuple #[vc, vm]) ∧ TwoR W w' vc lc vm lm
set_option maxRecDepth 100000 in
set_option maxHeartbeats 8000000 in
theorem rewritten_any {W : World} {V : OV} {x : PO} {pv : Value} (h : OAt W V x) (hok : OkP x) (hf : OFit x) (hp : SlAt W .i64 pv (plL x (x.C.length + 1))) :
    Calls Tryd.prog 31 #[V.agg, pv] W (RwtAt W (rwC x x.C.length) (rwM x x.C.length)) := by
  have hmany := (many_of hok).2.1
  obtain ⟨d, c, m, r, q, s⟩ := V
  obtain ⟨cp, cc, hcv⟩ := h.c.len'
  obtain ⟨mp, mc, hmv⟩ := h.m.len'
  obtain ⟨bp, op, pc, hpv, hbp, hcp⟩ := hp.at_ (by rw [plL_length]; omega)
  simp only at hcv hmv
  rw [plL_length] at hpv
  rw [hok.len] at hmv
  obtain ⟨n, hne⟩ : ∃ n, x.C.length = n := ⟨_, rfl⟩
  have Hne := hid hne
  rw [hne] at hcv hmv hpv hmany hcp ⊢
  subst hcv; subst hmv; subst hpv
  have HB0 := hid (RwAt.new W 27 #[d, .slice cp n cc, .slice mp n mc, r, q, s])
  have HG0 := hid (World.grownBy_alloc W (.cells #[d, .slice cp n cc, .slice mp n mc, r, q, s] 27) none)
  have HO := hid h
  have HF := hid hf
  have Hok := hid hok
  have Hbp := hid hbp
  have Hcp : Hid (∀ k, k < n + 1 → W.cell? ⟨bp, op + k, none⟩ = some (.int .i64 (plN x k : Int))) := hid (fun k hk => hcp k _ (plL_get x hk))
  have n0 : (0 : Int) ≤ (n : Int) := by omega
  have n1 : (n : Int) ≤ 2048 := by omega
  have Hn := hid hmany
  have hb := build_hc
  clear h hf hok hne hmany hp hbp hcp
  go_enter Tryd.func31, Tryd.ntmps31
  go_upto_region 1 with (fail)
  obtain ⟨G, hG⟩ : ∃ G, W.heap.size = G := ⟨_, rfl⟩
  rw [hG] at HB0 ⊢
  have HGe := hid hG
  clear hG
  generalize W.alloc (.cells #[d, .slice cp n cc, .slice mp n mc, r, q, s] 27) = w1 at HB0 HG0 ⊢
  go_wp2_with fail
  refine (word_hc _).mono ?_
  rintro e w2 ⟨rfl, hg⟩
  have HB2 := hid (HB0.out.kept0 hg)
  have HG2 := hid (grown_trans HG0.out hg)
  clear hg HB0 HG0 hb
  -- from here on the rows of the function's own are new: all else is kept
  obtain ⟨Pn, hPn⟩ : ∃ Pn, plN x n = Pn := ⟨_, rfl⟩
  have HPn := hid hPn
  have P1 : Pn ≤ 4096 := by have := (pl_le x n).2; have := Hn.out; omega
  have HP1 := hid P1
  have cpn := (grown_cell (p := ⟨bp, op + n, none⟩) HG2.out Hbp.out (by simp)).trans (Hcp.out n (by omega))
  rw [hPn] at cpn
  have e1 := HB2.out.cell 1 (v := .slice cp n cc) rfl
  have q0 : (0 : Int) ≤ (Pn : Int) := by omega
  have q1 : (Pn : Int) ≤ 4096 := by omega
  clear hPn P1
  go_upto_region 3 with (fail)
  obtain ⟨i, hi, hz0, hz1, hz2⟩ := info_u32
  have Hi := hid hi
  have Hz0 := hid hz0
  have Hz1 := hid hz1
  have Hz2 := hid hz2
  obtain ⟨i8, hi, hz0, hz1, hz2⟩ := info_u8
  have Hi8 := hid hi
  have Hy0 := hid hz0
  have Hy1 := hid hz1
  have Hy2 := hid hz2
  clear hi hz0 hz1 hz2
  go_cut [9, 10] from 24 to 28 (fun u9 u10 wz => Hid (TwoR w2 wz u9 [] u10 []))
  case first =>
    rename_i hJ0 hJ
    clear cpn e1
    have hm1 : ∀ w : World, (Instr.makeSlice 22 (.int .i64 0) (.int .i64 (Pn : Int))).run Tryd.prog w = .ok (.slice (some ⟨w.heap.size, 0, none⟩) 0 Pn) (w.alloc (.cells (madeCells (Value.int .u32 0).cells (Pn * i.size)) 28)) := fun w => run_make w 22 28 i _ Tryd.underlying22 Hi.out Hz0.out .i64 .i64 0 (Pn : Int) (Int.le_refl _) q0 (by rw [Hz2.out]; omega) (by omega)
    have hm2 : ∀ w : World, (Instr.makeSlice 23 (.int .i64 0) (.int .i64 (Pn : Int))).run Tryd.prog w = .ok (.slice (some ⟨w.heap.size, 0, none⟩) 0 Pn) (w.alloc (.cells (madeCells (Value.int .u8 0).cells (Pn * i8.size)) 5)) := fun w => run_make w 23 5 i8 _ Tryd.underlying23 Hi8.out Hy0.out .i64 .i64 0 (Pn : Int) (Int.le_refl _) q0 (by rw [Hy2.out]; omega) (by omega)
    have h1 : Hid ((madeCells (Value.int .u32 0).cells (Pn * i.size)).size = Pn * 1) := hid (by rw [Hz1.out]; exact size_madeCells _ _)
    have h2 : Hid ((madeCells (Value.int .u8 0).cells (Pn * i8.size)).size = Pn * 1) := hid (by rw [Hy1.out]; exact size_madeCells _ _)
    generalize madeCells (Value.int .u32 0).cells (Pn * i.size) = Z1 at hm1 h1
    generalize madeCells (Value.int .u8 0).cells (Pn * i8.size) = Z2 at hm2 h2
    have k1 := fun (w : World) (hw : w2.grownBy w none) => World.ownsRow_made (base := w2.heap.size) (e := 28) (size := 1) w Z1 Pn hw.size (by have := HP1.out; unfold maxLen; omega) h1.out
    have k2 := fun (w : World) (hw : w2.grownBy w none) => World.ownsRow_made (base := w2.heap.size) (e := 5) (size := 1) w Z2 Pn hw.size (by have := HP1.out; unfold maxLen; omega) h2.out
    have K1 := hid k1
    have K2 := hid k2
    clear k1 k2 h1 h2
    go_region
    all_goals
      refine hJ _ _ (Met.intro (hJ0 _ _ ?_))
      (repeat apply Exists.intro)
      refine ⟨?_, rfl⟩
      first
        | exact hid ((two_made1 K1.out K2.out (grown_refl w2 none)).kept0 (grown_drew (grown_refl _ _)))
        | exact hid ((two_made2 K1.out K2.out (grown_refl w2 none)).kept0 (grown_drew (grown_refl _ _)))
  case rest =>
    have HT0 := hcut
    clear cpn e1
    have e1 := (HB2.out.kept0 HT0.out.g).cell 1 (v := .slice cp n cc) rfl
    go_wp2
    clear e1
    go_loopw [9, 10, 31] (fun a b i wr => ∃ j : Nat, j ≤ n ∧ i = .int .i64 j ∧ Hid (TwoR w2 wr a (rwC x j) b (rwM x j))) (fun _ _ i _ => n - (intOf i).toNat)
    case atStart => exact ⟨0, Nat.zero_le _, rfl, HT0⟩
    case round =>
      obtain ⟨j, hj, rfl, HR⟩ := hrel
      have j0 : (0 : Int) ≤ (j : Int) := by omega
      by_cases hlt : j < n
      · have jn : (j : Int) < (n : Int) := by omega
        have Hlt := hid hlt
        obtain ⟨y, hy⟩ : ∃ y, x.C[j]? = some y := ⟨_, List.getElem?_eq_getElem (by rw [Hne.out]; exact hlt)⟩
        obtain ⟨mk, hm⟩ : ∃ mk, x.M[j]? = some mk := ⟨_, List.getElem?_eq_getElem (by rw [Hok.out.len, Hne.out]; exact hlt)⟩
        have hyr := HF.out.c y (List.mem_of_getElem? hy)
        have Hyd : Hid (x.C.getD j 0 = y) := hid (by rw [List.getD_eq_getElem?_getD, hy]; rfl)
        have Hmd : Hid (x.M.getD j 0 = mk) := hid (by rw [List.getD_eq_getElem?_getD, hm]; rfl)
        have hgr := grown_trans HG2.out HR.out.g
        obtain ⟨bc, oc, c', hvc, hbc, hcc⟩ := (HO.out.kept0 hgr).c.at_ (by rw [Hne.out]; omega)
        simp only [Value.slice.injEq] at hvc
        obtain ⟨rfl, -, -⟩ := hvc
        have ey := hcc j y hy
        obtain ⟨bm, om, cm, hvm, hbm, hcm⟩ := (HO.out.kept0 HG2.out).m.at_ (by rw [Hok.out.len, Hne.out]; omega)
        simp only [Value.slice.injEq] at hvm
        obtain ⟨rfl, -, -⟩ := hvm
        have Hem := hid (And.intro hbm (hcm j mk hm))
        obtain ⟨A, hA⟩ : ∃ A, plN x (j + 1) = A := ⟨_, rfl⟩
        obtain ⟨B, hB⟩ : ∃ B, plN x j = B := ⟨_, rfl⟩
        have p1 : wr.cell? ⟨bp, op + (j + 1), none⟩ = some (.int .i64 (A : Int)) := by rw [← hA]; exact (grown_cell hgr Hbp.out (by simp)).trans (Hcp.out (j + 1) (by omega))
        have p2 : wr.cell? ⟨bp, op + j + 1, none⟩ = some (.int .i64 (A : Int)) := p1
        have p3 : wr.cell? ⟨bp, op + j, none⟩ = some (.int .i64 (B : Int)) := by rw [← hB]; exact (grown_cell hgr Hbp.out (by simp)).trans (Hcp.out j (by omega))
        have jb : (j : Int) + 1 < (n : Int) + 1 := by omega
        have jb0 : (0 : Int) ≤ (j : Int) + 1 := by omega
        have HA := hid (And.intro hA hB)
        have B1 : (B : Int) ≤ 4096 := by have := (pl_le x j).2; omega
        have B0 : (0 : Int) ≤ (B : Int) := by omega
        have A0 : (0 : Int) ≤ (A : Int) := by omega
        clear hcc hbc hbm hcm hy hm hgr hA hB hlt
        cases hs : siteB x j
        · have hAB : A = B + 1 := by rw [← HA.out.1, ← HA.out.2]; exact pl_no hs
          have hsub : (A : Int) - (B : Int) = 1 := by omega
          have Hs := hid hs
          clear hAB hs
          go_upto_region 7 with (fail)
          go_cut [46] from 36 to 46 (fun u46 wz => u46 = .bool true ∧ Hid (TwoR w2 wz u9 (rwC x j) u10 (rwM x j)))
          case first =>
            go_quiet (fail)
            go_wp2
            go_meet
            exact ⟨rfl, hid (HR.out.kept0 (grown_drewN (grown_refl _ none) _))⟩
          case rest =>
            obtain ⟨rfl, HT⟩ := hcut
            rename World => wz
            go_upto_region 8 with (fail)
            go_cut [9, 10] from 47 to 58 (fun v9 v10 wy => Hid (TwoR w2 wy v9 (rwC x j ++ [y]) v10 (rwM x j ++ [mk])))
            case first =>
              rename_i hJ0 hJ
              obtain ⟨lc, hlc⟩ : ∃ lc, rwC x j = lc := ⟨_, rfl⟩
              obtain ⟨lm, hlm⟩ : ∃ lm, rwM x j = lm := ⟨_, rfl⟩
              have HLc : Hid (lc.length ≤ 4096 ∧ lm.length ≤ 4096) := hid (by
                rw [← hlc, ← hlm, rwC_length, rwM_length]
                have := (pl_le x j).2
                have := Hlt.out
                have := Hn.out
                omega)
              rw [hlc, hlm] at HT hJ0
              have hz := HT.out
              have e2 := (HB2.out.kept0 hz.g).cell 2 (v := .slice (some ⟨bm, om, none⟩) n mc) rfl
              have em : wz.cell? ⟨bm, om + j, none⟩ = some (.int .u8 mk) := (grown_cell (grown_trans HT.out.g (grown_refl _ none)) (Nat.lt_of_lt_of_le Hem.out.1 (Nat.le_refl _)) (by simp)).trans Hem.out.2
              have hg1 := grown_trans hz.g (World.grownBy_alloc wz (.cells #[.int .u32 (y)] 28) none)
              have e2a := (HB2.out.kept0 hg1).cell 2 (v := .slice (some ⟨bm, om, none⟩) n mc) rfl
              have ema : (wz.alloc (.cells #[.int .u32 (y)] 28)).cell? ⟨bm, om + j, none⟩ = some (.int .u8 mk) := (grown_cell hg1 Hem.out.1 (by simp)).trans Hem.out.2
              have A1 : Hid (TwoR w2 (wz.alloc (.cells #[.int .u32 (y)] 28)).drew u9 lc u10 lm) := hid ((hz.kept0 (World.grownBy_alloc _ _ none)).kept0 (grown_drew (grown_refl _ none)))
              have A2 : Hid (TwoR w2 (wz.alloc (.cells #[.int .u8 (mk)] 5)).drew u9 lc u10 lm) := hid ((hz.kept0 (World.grownBy_alloc _ _ none)).kept0 (grown_drew (grown_refl _ none)))
              have A12 : Hid (TwoR w2 ((wz.alloc (.cells #[.int .u32 (y)] 28)).alloc (.cells #[.int .u8 (mk)] 5)).drew u9 lc u10 lm) := hid (((hz.kept0 (World.grownBy_alloc _ _ none)).kept0 (World.grownBy_alloc _ _ none)).kept0 (grown_drew (grown_refl _ none)))
              have A21 : Hid (TwoR w2 ((wz.alloc (.cells #[.int .u8 (mk)] 5)).alloc (.cells #[.int .u32 (y)] 28)).drew u9 lc u10 lm) := hid (((hz.kept0 (World.grownBy_alloc _ _ none)).kept0 (World.grownBy_alloc _ _ none)).kept0 (grown_drew (grown_refl _ none)))
              have C1 : Hid (∀ j u, ([.int .u32 (y)] : List Value)[j]? = some u → (wz.alloc (.cells #[.int .u32 (y)] 28)).drew.cell? ((⟨wz.heap.size, 0, none⟩ : Addr).add j) = some u) := hid (World.news_of_block (heap_alloc_new wz _))
              have C12 : Hid (∀ j u, ([.int .u32 (y)] : List Value)[j]? = some u → ((wz.alloc (.cells #[.int .u32 (y)] 28)).alloc (.cells #[.int .u8 (mk)] 5)).drew.cell? ((⟨wz.heap.size, 0, none⟩ : Addr).add j) = some u) := hid (fun j u hu => (World.cell?_alloc_lt _ _ _ (World.block_lt_of_cell? _ _ (C1.out j u hu))).trans (C1.out j u hu))
              have C21 : Hid (∀ j u, ([.int .u32 (y)] : List Value)[j]? = some u → ((wz.alloc (.cells #[.int .u8 (mk)] 5)).alloc (.cells #[.int .u32 (y)] 28)).drew.cell? ((⟨wz.heap.size + 1, 0, none⟩ : Addr).add j) = some u) := hid (by have := World.news_of_block (heap_alloc_new (wz.alloc (.cells #[.int .u8 (mk)] 5)) (.cells #[.int .u32 (y)] 28)); simpa using this)
              have M2 : Hid (∀ j u, ([.int .u8 (mk)] : List Value)[j]? = some u → (wz.alloc (.cells #[.int .u8 (mk)] 5)).drew.cell? ((⟨wz.heap.size, 0, none⟩ : Addr).add j) = some u) := hid (World.news_of_block (heap_alloc_new wz _))
              have M21 : Hid (∀ j u, ([.int .u8 (mk)] : List Value)[j]? = some u → ((wz.alloc (.cells #[.int .u8 (mk)] 5)).alloc (.cells #[.int .u32 (y)] 28)).drew.cell? ((⟨wz.heap.size, 0, none⟩ : Addr).add j) = some u) := hid (fun j u hu => (World.cell?_alloc_lt _ _ _ (World.block_lt_of_cell? _ _ (M2.out j u hu))).trans (M2.out j u hu))
              have M12 : Hid (∀ j u, ([.int .u8 (mk)] : List Value)[j]? = some u → ((wz.alloc (.cells #[.int .u32 (y)] 28)).alloc (.cells #[.int .u8 (mk)] 5)).drew.cell? ((⟨wz.heap.size + 1, 0, none⟩ : Addr).add j) = some u) := hid (by have := World.news_of_block (heap_alloc_new (wz.alloc (.cells #[.int .u32 (y)] 28)) (.cells #[.int .u8 (mk)] 5)); simpa using this)
              have Hob : Hid (∀ k, (u9.ownBlock = some k ∨ u10.ownBlock = some k) → k < wz.heap.size) := hid (fun k hk => by rcases hk with hk | hk; exact (hz.c.lt k hk).2; exact (hz.m.lt k hk).2)
              clear hz hg1 hlc hlm
              go_region_law (first
                | (refine step_append_lies _ rfl (.tmp 47) (.tmp 49) 22 rfl w2.heap.size 28 i _ 1 4 Tryd.underlying22 Hi.out Hz0.out Hz1.out Hz2.out rfl (by decide) u9 lc.length _ (by simp [Act.eval, Act.put]) A1.out.c ⟨wz.heap.size, 0, none⟩ 1 1 [.int .u32 (y)] (by simp [Act.eval, Act.put]) rfl C1.out (by simp [Value.oneCell']) (by decide) (by have := HLc.out.1; unfold maxLen; omega) (by have := HLc.out.1; omega) A1.out.g.size _ rfl ?_
                   intro g cap w6 hown hgrow hat hlt2
                   have D := hid (A1.out.addC [y] rfl hgrow hat hown)
                   have e26 := (HB2.out.kept0 D.out.g).cell 2 (v := .slice (some ⟨bm, om, none⟩) n mc) rfl
                   have em6 : w6.cell? ⟨bm, om + j, none⟩ = some (.int .u8 mk) := (grown_cell D.out.g Hem.out.1 (by simp)).trans Hem.out.2
                   have D6 := hid (D.out.kept0 (World.grownBy_alloc w6 (.cells #[.int .u8 (mk)] 5) none))
                   clear hown hgrow hat hlt2)
                | (refine step_append_lies _ rfl (.tmp 47) (.tmp 49) 22 rfl w2.heap.size 28 i _ 1 4 Tryd.underlying22 Hi.out Hz0.out Hz1.out Hz2.out rfl (by decide) u9 lc.length _ (by simp [Act.eval]) A12.out.c ⟨wz.heap.size, 0, none⟩ 1 1 [.int .u32 (y)] (by simp [Act.eval]) rfl C12.out (by simp [Value.oneCell']) (by decide) (by have := HLc.out.1; unfold maxLen; omega) (by have := HLc.out.1; omega) A12.out.g.size _ rfl ?_
                   intro g cap w6 hown hgrow hat hlt2
                   have D := hid (A12.out.addC [y] rfl hgrow hat hown)
                   have MK : Hid (∀ j u, ([.int .u8 (mk)] : List Value)[j]? = some u → w6.cell? ((⟨wz.heap.size + 1, 0, none⟩ : Addr).add j) = some u) := hid (fun j u hu => (grown_cell hgrow (World.block_lt_of_cell? _ _ (M12.out j u hu)) (by intro e; rw [add_block] at e; have e2 : wz.heap.size + 1 < wz.heap.size := Hob.out _ (.inl e.symm); omega)).trans (M12.out j u hu))
                   clear hown hgrow hat hlt2)
                | (refine step_append_lies _ rfl (.tmp 47) (.tmp 49) 22 rfl w2.heap.size 28 i _ 1 4 Tryd.underlying22 Hi.out Hz0.out Hz1.out Hz2.out rfl (by decide) u9 lc.length _ (by simp [Act.eval]) A21.out.c ⟨(wz.heap.size + 1), 0, none⟩ 1 1 [.int .u32 (y)] (by simp [Act.eval]) rfl C21.out (by simp [Value.oneCell']) (by decide) (by have := HLc.out.1; unfold maxLen; omega) (by have := HLc.out.1; omega) A21.out.g.size _ rfl ?_
                   intro g cap w6 hown hgrow hat hlt2
                   have D := hid (A21.out.addC [y] rfl hgrow hat hown)
                   have MK : Hid (∀ j u, ([.int .u8 (mk)] : List Value)[j]? = some u → w6.cell? ((⟨wz.heap.size, 0, none⟩ : Addr).add j) = some u) := hid (fun j u hu => (grown_cell hgrow (World.block_lt_of_cell? _ _ (M21.out j u hu)) (by intro e; rw [add_block] at e; have e2 : wz.heap.size < wz.heap.size := Hob.out _ (.inl e.symm); omega)).trans (M21.out j u hu))
                   clear hown hgrow hat hlt2)
                | (refine step_append_lies _ rfl (.tmp 51) (.tmp 57) 23 rfl w2.heap.size 5 i8 _ 1 1 Tryd.underlying23 Hi8.out Hy0.out Hy1.out Hy2.out rfl (by decide) u10 lm.length _ (by simp [Act.eval, Act.put]) A2.out.m ⟨wz.heap.size, 0, none⟩ 1 1 [.int .u8 (mk)] (by simp [Act.eval, Act.put]) rfl M2.out (by simp [Value.oneCell']) (by decide) (by have := HLc.out.2; unfold maxLen; omega) (by have := HLc.out.2; omega) A2.out.g.size _ rfl ?_
                   intro h cap2 w7 hown hgrow hat hlt2
                   have E := hid (A2.out.addM [mk] rfl hgrow hat hown)
                   have E7 := hid (E.out.kept0 (World.grownBy_alloc w7 (.cells #[.int .u32 (y)] 28) none))
                   clear hown hgrow hat hlt2)
                | (refine step_append_lies _ rfl (.tmp 51) (.tmp 57) 23 rfl w2.heap.size 5 i8 _ 1 1 Tryd.underlying23 Hi8.out Hy0.out Hy1.out Hy2.out rfl (by decide) u10 lm.length _ (by simp [Act.eval, Act.put]) A12.out.m ⟨(wz.heap.size + 1), 0, none⟩ 1 1 [.int .u8 (mk)] (by simp [Act.eval, Act.put]) rfl M12.out (by simp [Value.oneCell']) (by decide) (by have := HLc.out.2; unfold maxLen; omega) (by have := HLc.out.2; omega) A12.out.g.size _ rfl ?_
                   intro h cap2 w7 hown hgrow hat hlt2
                   have E := hid (A12.out.addM [mk] rfl hgrow hat hown)
                   have CK : Hid (∀ j u, ([.int .u32 (y)] : List Value)[j]? = some u → w7.cell? ((⟨wz.heap.size, 0, none⟩ : Addr).add j) = some u) := hid (fun j u hu => (grown_cell hgrow (World.block_lt_of_cell? _ _ (C12.out j u hu)) (by intro e; rw [add_block] at e; have e2 : wz.heap.size < wz.heap.size := Hob.out _ (.inr e.symm); omega)).trans (C12.out j u hu))
                   clear hown hgrow hat hlt2)
                | (refine step_append_lies _ rfl (.tmp 51) (.tmp 57) 23 rfl w2.heap.size 5 i8 _ 1 1 Tryd.underlying23 Hi8.out Hy0.out Hy1.out Hy2.out rfl (by decide) u10 lm.length _ (by simp [Act.eval, Act.put]) A21.out.m ⟨wz.heap.size, 0, none⟩ 1 1 [.int .u8 (mk)] (by simp [Act.eval, Act.put]) rfl M21.out (by simp [Value.oneCell']) (by decide) (by have := HLc.out.2; unfold maxLen; omega) (by have := HLc.out.2; omega) A21.out.g.size _ rfl ?_
                   intro h cap2 w7 hown hgrow hat hlt2
                   have E := hid (A21.out.addM [mk] rfl hgrow hat hown)
                   have CK : Hid (∀ j u, ([.int .u32 (y)] : List Value)[j]? = some u → w7.cell? ((⟨wz.heap.size + 1, 0, none⟩ : Addr).add j) = some u) := hid (fun j u hu => (grown_cell hgrow (World.block_lt_of_cell? _ _ (C21.out j u hu)) (by intro e; rw [add_block] at e; have e2 : wz.heap.size + 1 < wz.heap.size := Hob.out _ (.inr e.symm); omega)).trans (C21.out j u hu))
                   clear hown hgrow hat hlt2)
                | (refine step_append_lies _ rfl (.tmp 47) (.tmp 49) 22 rfl w2.heap.size 28 i _ 1 4 Tryd.underlying22 Hi.out Hz0.out Hz1.out Hz2.out rfl (by decide) u9 lc.length _ (by simp [Act.eval, Act.put]) E.out.c ⟨wz.heap.size, 0, none⟩ 1 1 [.int .u32 (y)] (by simp [Act.eval, Act.put]) rfl CK.out (by simp [Value.oneCell']) (by decide) (by have := HLc.out.1; unfold maxLen; omega) (by have := HLc.out.1; omega) E.out.g.size _ rfl ?_
                   intro g cap w6 hown hgrow hat hlt2
                   have D := hid (E.out.addC [y] rfl hgrow hat hown)
                   clear hown hgrow hat hlt2)
                | (refine step_append_lies _ rfl (.tmp 47) (.tmp 49) 22 rfl w2.heap.size 28 i _ 1 4 Tryd.underlying22 Hi.out Hz0.out Hz1.out Hz2.out rfl (by decide) u9 lc.length _ (by simp [Act.eval, Act.put]) E.out.c ⟨(wz.heap.size + 1), 0, none⟩ 1 1 [.int .u32 (y)] (by simp [Act.eval, Act.put]) rfl CK.out (by simp [Value.oneCell']) (by decide) (by have := HLc.out.1; unfold maxLen; omega) (by have := HLc.out.1; omega) E.out.g.size _ rfl ?_
                   intro g cap w6 hown hgrow hat hlt2
                   have D := hid (E.out.addC [y] rfl hgrow hat hown)
                   clear hown hgrow hat hlt2)
                | (refine step_append_lies _ rfl (.tmp 47) (.tmp 49) 22 rfl w2.heap.size 28 i _ 1 4 Tryd.underlying22 Hi.out Hz0.out Hz1.out Hz2.out rfl (by decide) u9 lc.length _ (by simp [Act.eval, Act.put]) E7.out.c ⟨w7.heap.size, 0, none⟩ 1 1 [.int .u32 (y)] (by simp [Act.eval, Act.put]) rfl (World.news_of_block (heap_alloc_new w7 _)) (by simp [Value.oneCell']) (by decide) (by have := HLc.out.1; unfold maxLen; omega) (by have := HLc.out.1; omega) E7.out.g.size _ rfl ?_
                   intro g cap w6 hown hgrow hat hlt2
                   have D := hid (E7.out.addC [y] rfl hgrow hat hown)
                   clear hown hgrow hat hlt2)
                | (refine step_append_lies _ rfl (.tmp 51) (.tmp 57) 23 rfl w2.heap.size 5 i8 _ 1 1 Tryd.underlying23 Hi8.out Hy0.out Hy1.out Hy2.out rfl (by decide) u10 lm.length _ (by simp [Act.eval]) D.out.m ⟨wz.heap.size, 0, none⟩ 1 1 [.int .u8 (mk)] (by simp [Act.eval]) rfl MK.out (by simp [Value.oneCell']) (by decide) (by have := HLc.out.2; unfold maxLen; omega) (by have := HLc.out.2; omega) D.out.g.size _ rfl ?_
                   intro h cap2 w7 hown hgrow hat hlt2
                   have E := hid (D.out.addM [mk] rfl hgrow hat hown)
                   clear hown hgrow hat hlt2)
                | (refine step_append_lies _ rfl (.tmp 51) (.tmp 57) 23 rfl w2.heap.size 5 i8 _ 1 1 Tryd.underlying23 Hi8.out Hy0.out Hy1.out Hy2.out rfl (by decide) u10 lm.length _ (by simp [Act.eval]) D.out.m ⟨(wz.heap.size + 1), 0, none⟩ 1 1 [.int .u8 (mk)] (by simp [Act.eval]) rfl MK.out (by simp [Value.oneCell']) (by decide) (by have := HLc.out.2; unfold maxLen; omega) (by have := HLc.out.2; omega) D.out.g.size _ rfl ?_
                   intro h cap2 w7 hown hgrow hat hlt2
                   have E := hid (D.out.addM [mk] rfl hgrow hat hown)
                   clear hown hgrow hat hlt2)
                | (refine step_append_lies _ rfl (.tmp 51) (.tmp 57) 23 rfl w2.heap.size 5 i8 _ 1 1 Tryd.underlying23 Hi8.out Hy0.out Hy1.out Hy2.out rfl (by decide) u10 lm.length _ (by simp [Act.eval]) D6.out.m ⟨w6.heap.size, 0, none⟩ 1 1 [.int .u8 (mk)] (by simp [Act.eval]) rfl (World.news_of_block (heap_alloc_new w6 _)) (by simp [Value.oneCell']) (by decide) (by have := HLc.out.2; unfold maxLen; omega) (by have := HLc.out.2; omega) D6.out.g.size _ rfl ?_
                   intro h cap2 w7 hown hgrow hat hlt2
                   have E := hid (D6.out.addM [mk] rfl hgrow hat hown)
                   clear hown hgrow hat hlt2)
                | fail)
              all_goals
                go_simp
                refine hJ _ _ (Met.intro (hJ0 _ _ ?_))
                (repeat apply Exists.intro)
                refine ⟨?_, rfl⟩
                first
                  | exact E
                  | exact D
            case rest =>
              have HT9 := hcut
              have hC : rwC x j ++ [y] = rwC x (j + 1) := by rw [rwC_no Hs.out, Hyd.out]
              have hM : rwM x j ++ [mk] = rwM x (j + 1) := by rw [rwM_no Hs.out, Hmd.out]
              rw [hC, hM] at HT9
              clear hC hM
              go_wp2
              go_roundw
              case rel => exact ⟨j + 1, Hlt.out, by go_num, HT9⟩
              case measure => simp [intOf]; have := Hlt.out; omega
        · have hAB : A = B + 2 := by rw [← HA.out.1, ← HA.out.2]; exact pl_yes hs
          have hsub : (A : Int) - (B : Int) = 2 := by omega
          have Hs := hid hs
          have Hyr : Hid (0 ≤ y ∧ y < 2147483648) := hid ⟨hyr.1, by
            have h2 := (siteB_yes hs).2
            unfold isT wOp clsI at h2
            rw [Hyd.out] at h2
            simp only [decide_eq_true_eq] at h2
            repeat' split at h2
            all_goals omega⟩
          clear hAB hs
          go_upto_region 7 with (fail)
          go_cut [46] from 36 to 46 (fun u46 wz => u46 = .bool false ∧ Hid (TwoR w2 wz u9 (rwC x j) u10 (rwM x j)))
          case first =>
            go_quiet (fail)
            go_wp2
            go_meet
            exact ⟨rfl, hid (HR.out.kept0 (grown_drewN (grown_refl _ none) _))⟩
          case rest =>
            obtain ⟨rfl, HT⟩ := hcut
            rename World => wz
            have hor : bits BinOp.or IntKind.u32 2147483648 y = 2147483648 + y := orM Hyr.out.1 Hyr.out.2
            go_upto_region 9 with (fail)
            have hJ0 : True := trivial
            obtain ⟨lc, hlc⟩ : ∃ lc, rwC x j = lc := ⟨_, rfl⟩
            obtain ⟨lm, hlm⟩ : ∃ lm, rwM x j = lm := ⟨_, rfl⟩
            have HLc : Hid (lc.length ≤ 4096 ∧ lm.length ≤ 4096) := hid (by
              rw [← hlc, ← hlm, rwC_length, rwM_length]
              have := (pl_le x j).2
              have := Hlt.out
              have := Hn.out
              omega)
            rw [hlc, hlm] at HT
            have hC : rwC x j ++ [1610612736, 2147483648 + y] = rwC x (j + 1) := by rw [rwC_yes Hs.out, Hyd.out]
            have hM : rwM x j ++ [mk, 0] = rwM x (j + 1) := by rw [rwM_yes Hs.out]; have h1 := (siteB_yes Hs.out).1; unfold mapN at h1; rw [← Hmd.out, h1]
            rw [hlc] at hC
            rw [hlm] at hM
            have HC := hid hC
            have HM := hid hM
            clear hC hM
            have hz := HT.out
            have e2 := (HB2.out.kept0 hz.g).cell 2 (v := .slice (some ⟨bm, om, none⟩) n mc) rfl
            have em : wz.cell? ⟨bm, om + j, none⟩ = some (.int .u8 mk) := (grown_cell (grown_trans HT.out.g (grown_refl _ none)) (Nat.lt_of_lt_of_le Hem.out.1 (Nat.le_refl _)) (by simp)).trans Hem.out.2
            have hg1 := grown_trans hz.g (World.grownBy_alloc wz (.cells #[.int .u32 (1610612736), .int .u32 (2147483648 + y)] 28) none)
            have e2a := (HB2.out.kept0 hg1).cell 2 (v := .slice (some ⟨bm, om, none⟩) n mc) rfl
            have ema : (wz.alloc (.cells #[.int .u32 (1610612736), .int .u32 (2147483648 + y)] 28)).cell? ⟨bm, om + j, none⟩ = some (.int .u8 mk) := (grown_cell hg1 Hem.out.1 (by simp)).trans Hem.out.2
            have A1 : Hid (TwoR w2 (wz.alloc (.cells #[.int .u32 (1610612736), .int .u32 (2147483648 + y)] 28)).drew u9 lc u10 lm) := hid ((hz.kept0 (World.grownBy_alloc _ _ none)).kept0 (grown_drew (grown_refl _ none)))
            have A2 : Hid (TwoR w2 (wz.alloc (.cells #[.int .u8 (mk), .int .u8 (0)] 5)).drew u9 lc u10 lm) := hid ((hz.kept0 (World.grownBy_alloc _ _ none)).kept0 (grown_drew (grown_refl _ none)))
            have A12 : Hid (TwoR w2 ((wz.alloc (.cells #[.int .u32 (1610612736), .int .u32 (2147483648 + y)] 28)).alloc (.cells #[.int .u8 (mk), .int .u8 (0)] 5)).drew u9 lc u10 lm) := hid (((hz.kept0 (World.grownBy_alloc _ _ none)).kept0 (World.grownBy_alloc _ _ none)).kept0 (grown_drew (grown_refl _ none)))
            have A21 : Hid (TwoR w2 ((wz.alloc (.cells #[.int .u8 (mk), .int .u8 (0)] 5)).alloc (.cells #[.int .u32 (1610612736), .int .u32 (2147483648 + y)] 28)).drew u9 lc u10 lm) := hid (((hz.kept0 (World.grownBy_alloc _ _ none)).kept0 (World.grownBy_alloc _ _ none)).kept0 (grown_drew (grown_refl _ none)))
            have C1 : Hid (∀ j u, ([.int .u32 (1610612736), .int .u32 (2147483648 + y)] : List Value)[j]? = some u → (wz.alloc (.cells #[.int .u32 (1610612736), .int .u32 (2147483648 + y)] 28)).drew.cell? ((⟨wz.heap.size, 0, none⟩ : Addr).add j) = some u) := hid (World.news_of_block (heap_alloc_new wz _))
            have C12 : Hid (∀ j u, ([.int .u32 (1610612736), .int .u32 (2147483648 + y)] : List Value)[j]? = some u → ((wz.alloc (.cells #[.int .u32 (1610612736), .int .u32 (2147483648 + y)] 28)).alloc (.cells #[.int .u8 (mk), .int .u8 (0)] 5)).drew.cell? ((⟨wz.heap.size, 0, none⟩ : Addr).add j) = some u) := hid (fun j u hu => (World.cell?_alloc_lt _ _ _ (World.block_lt_of_cell? _ _ (C1.out j u hu))).trans (C1.out j u hu))
            have C21 : Hid (∀ j u, ([.int .u32 (1610612736), .int .u32 (2147483648 + y)] : List Value)[j]? = some u → ((wz.alloc (.cells #[.int .u8 (mk), .int .u8 (0)] 5)).alloc (.cells #[.int .u32 (1610612736), .int .u32 (2147483648 + y)] 28)).drew.cell? ((⟨wz.heap.size + 1, 0, none⟩ : Addr).add j) = some u) := hid (by have := World.news_of_block (heap_alloc_new (wz.alloc (.cells #[.int .u8 (mk), .int .u8 (0)] 5)) (.cells #[.int .u32 (1610612736), .int .u32 (2147483648 + y)] 28)); simpa using this)
            have M2 : Hid (∀ j u, ([.int .u8 (mk), .int .u8 (0)] : List Value)[j]? = some u → (wz.alloc (.cells #[.int .u8 (mk), .int .u8 (0)] 5)).drew.cell? ((⟨wz.heap.size, 0, none⟩ : Addr).add j) = some u) := hid (World.news_of_block (heap_alloc_new wz _))
            have M21 : Hid (∀ j u, ([.int .u8 (mk), .int .u8 (0)] : List Value)[j]? = some u → ((wz.alloc (.cells #[.int .u8 (mk), .int .u8 (0)] 5)).alloc (.cells #[.int .u32 (1610612736), .int .u32 (2147483648 + y)] 28)).drew.cell? ((⟨wz.heap.size, 0, none⟩ : Addr).add j) = some u) := hid (fun j u hu => (World.cell?_alloc_lt _ _ _ (World.block_lt_of_cell? _ _ (M2.out j u hu))).trans (M2.out j u hu))
            have M12 : Hid (∀ j u, ([.int .u8 (mk), .int .u8 (0)] : List Value)[j]? = some u → ((wz.alloc (.cells #[.int .u32 (1610612736), .int .u32 (2147483648 + y)] 28)).alloc (.cells #[.int .u8 (mk), .int .u8 (0)] 5)).drew.cell? ((⟨wz.heap.size + 1, 0, none⟩ : Addr).add j) = some u) := hid (by have := World.news_of_block (heap_alloc_new (wz.alloc (.cells #[.int .u32 (1610612736), .int .u32 (2147483648 + y)] 28)) (.cells #[.int .u8 (mk), .int .u8 (0)] 5)); simpa using this)
            have Hob : Hid (∀ k, (u9.ownBlock = some k ∨ u10.ownBlock = some k) → k < wz.heap.size) := hid (fun k hk => by rcases hk with hk | hk; exact (hz.c.lt k hk).2; exact (hz.m.lt k hk).2)
            clear hz hg1 hlc hlm
            go_region_law (first
              | (refine step_append_lies _ rfl (.tmp 59) (.tmp 63) 22 rfl w2.heap.size 28 i _ 1 4 Tryd.underlying22 Hi.out Hz0.out Hz1.out Hz2.out rfl (by decide) u9 lc.length _ (by simp [Act.eval, Act.put]) A1.out.c ⟨wz.heap.size, 0, none⟩ 2 2 [.int .u32 (1610612736), .int .u32 (2147483648 + y)] (by simp [Act.eval, Act.put]) rfl C1.out (by simp [Value.oneCell']) (by decide) (by have := HLc.out.1; unfold maxLen; omega) (by have := HLc.out.1; omega) A1.out.g.size _ rfl ?_
                 intro g cap w6 hown hgrow hat hlt2
                 have D := hid (A1.out.addC [1610612736, 2147483648 + y] rfl hgrow hat hown)
                 have e26 := (HB2.out.kept0 D.out.g).cell 2 (v := .slice (some ⟨bm, om, none⟩) n mc) rfl
                 have em6 : w6.cell? ⟨bm, om + j, none⟩ = some (.int .u8 mk) := (grown_cell D.out.g Hem.out.1 (by simp)).trans Hem.out.2
                 have D6 := hid (D.out.kept0 (World.grownBy_alloc w6 (.cells #[.int .u8 (mk), .int .u8 (0)] 5) none))
                 clear hown hgrow hat hlt2)
              | (refine step_append_lies _ rfl (.tmp 59) (.tmp 63) 22 rfl w2.heap.size 28 i _ 1 4 Tryd.underlying22 Hi.out Hz0.out Hz1.out Hz2.out rfl (by decide) u9 lc.length _ (by simp [Act.eval]) A12.out.c ⟨wz.heap.size, 0, none⟩ 2 2 [.int .u32 (1610612736), .int .u32 (2147483648 + y)] (by simp [Act.eval]) rfl C12.out (by simp [Value.oneCell']) (by decide) (by have := HLc.out.1; unfold maxLen; omega) (by have := HLc.out.1; omega) A12.out.g.size _ rfl ?_
                 intro g cap w6 hown hgrow hat hlt2
                 have D := hid (A12.out.addC [1610612736, 2147483648 + y] rfl hgrow hat hown)
                 have MK : Hid (∀ j u, ([.int .u8 (mk), .int .u8 (0)] : List Value)[j]? = some u → w6.cell? ((⟨wz.heap.size + 1, 0, none⟩ : Addr).add j) = some u) := hid (fun j u hu => (grown_cell hgrow (World.block_lt_of_cell? _ _ (M12.out j u hu)) (by intro e; rw [add_block] at e; have e2 : wz.heap.size + 1 < wz.heap.size := Hob.out _ (.inl e.symm); omega)).trans (M12.out j u hu))
                 clear hown hgrow hat hlt2)
              | (refine step_append_lies _ rfl (.tmp 59) (.tmp 63) 22 rfl w2.heap.size 28 i _ 1 4 Tryd.underlying22 Hi.out Hz0.out Hz1.out Hz2.out rfl (by decide) u9 lc.length _ (by simp [Act.eval]) A21.out.c ⟨(wz.heap.size + 1), 0, none⟩ 2 2 [.int .u32 (1610612736), .int .u32 (2147483648 + y)] (by simp [Act.eval]) rfl C21.out (by simp [Value.oneCell']) (by decide) (by have := HLc.out.1; unfold maxLen; omega) (by have := HLc.out.1; omega) A21.out.g.size _ rfl ?_
                 intro g cap w6 hown hgrow hat hlt2
                 have D := hid (A21.out.addC [1610612736, 2147483648 + y] rfl hgrow hat hown)
                 have MK : Hid (∀ j u, ([.int .u8 (mk), .int .u8 (0)] : List Value)[j]? = some u → w6.cell? ((⟨wz.heap.size, 0, none⟩ : Addr).add j) = some u) := hid (fun j u hu => (grown_cell hgrow (World.block_lt_of_cell? _ _ (M21.out j u hu)) (by intro e; rw [add_block] at e; have e2 : wz.heap.size < wz.heap.size := Hob.out _ (.inl e.symm); omega)).trans (M21.out j u hu))
                 clear hown hgrow hat hlt2)
              | (refine step_append_lies _ rfl (.tmp 65) (.tmp 71) 23 rfl w2.heap.size 5 i8 _ 1 1 Tryd.underlying23 Hi8.out Hy0.out Hy1.out Hy2.out rfl (by decide) u10 lm.length _ (by simp [Act.eval, Act.put]) A2.out.m ⟨wz.heap.size, 0, none⟩ 2 2 [.int .u8 (mk), .int .u8 (0)] (by simp [Act.eval, Act.put]) rfl M2.out (by simp [Value.oneCell']) (by decide) (by have := HLc.out.2; unfold maxLen; omega) (by have := HLc.out.2; omega) A2.out.g.size _ rfl ?_
                 intro h cap2 w7 hown hgrow hat hlt2
                 have E := hid (A2.out.addM [mk, 0] rfl hgrow hat hown)
                 have E7 := hid (E.out.kept0 (World.grownBy_alloc w7 (.cells #[.int .u32 (1610612736), .int .u32 (2147483648 + y)] 28) none))
                 clear hown hgrow hat hlt2)
              | (refine step_append_lies _ rfl (.tmp 65) (.tmp 71) 23 rfl w2.heap.size 5 i8 _ 1 1 Tryd.underlying23 Hi8.out Hy0.out Hy1.out Hy2.out rfl (by decide) u10 lm.length _ (by simp [Act.eval, Act.put]) A12.out.m ⟨(wz.heap.size + 1), 0, none⟩ 2 2 [.int .u8 (mk), .int .u8 (0)] (by simp [Act.eval, Act.put]) rfl M12.out (by simp [Value.oneCell']) (by decide) (by have := HLc.out.2; unfold maxLen; omega) (by have := HLc.out.2; omega) A12.out.g.size _ rfl ?_
                 intro h cap2 w7 hown hgrow hat hlt2
                 have E := hid (A12.out.addM [mk, 0] rfl hgrow hat hown)
                 have CK : Hid (∀ j u, ([.int .u32 (1610612736), .int .u32 (2147483648 + y)] : List Value)[j]? = some u → w7.cell? ((⟨wz.heap.size, 0, none⟩ : Addr).add j) = some u) := hid (fun j u hu => (grown_cell hgrow (World.block_lt_of_cell? _ _ (C12.out j u hu)) (by intro e; rw [add_block] at e; have e2 : wz.heap.size < wz.heap.size := Hob.out _ (.inr e.symm); omega)).trans (C12.out j u hu))
                 clear hown hgrow hat hlt2)
              | (refine step_append_lies _ rfl (.tmp 65) (.tmp 71) 23 rfl w2.heap.size 5 i8 _ 1 1 Tryd.underlying23 Hi8.out Hy0.out Hy1.out Hy2.out rfl (by decide) u10 lm.length _ (by simp [Act.eval, Act.put]) A21.out.m ⟨wz.heap.size, 0, none⟩ 2 2 [.int .u8 (mk), .int .u8 (0)] (by simp [Act.eval, Act.put]) rfl M21.out (by simp [Value.oneCell']) (by decide) (by have := HLc.out.2; unfold maxLen; omega) (by have := HLc.out.2; omega) A21.out.g.size _ rfl ?_
                 intro h cap2 w7 hown hgrow hat hlt2
                 have E := hid (A21.out.addM [mk, 0] rfl hgrow hat hown)
                 have CK : Hid (∀ j u, ([.int .u32 (1610612736), .int .u32 (2147483648 + y)] : List Value)[j]? = some u → w7.cell? ((⟨wz.heap.size + 1, 0, none⟩ : Addr).add j) = some u) := hid (fun j u hu => (grown_cell hgrow (World.block_lt_of_cell? _ _ (C21.out j u hu)) (by intro e; rw [add_block] at e; have e2 : wz.heap.size + 1 < wz.heap.size := Hob.out _ (.inr e.symm); omega)).trans (C21.out j u hu))
                 clear hown hgrow hat hlt2)
              | (refine step_append_lies _ rfl (.tmp 59) (.tmp 63) 22 rfl w2.heap.size 28 i _ 1 4 Tryd.underlying22 Hi.out Hz0.out Hz1.out Hz2.out rfl (by decide) u9 lc.length _ (by simp [Act.eval, Act.put]) E.out.c ⟨wz.heap.size, 0, none⟩ 2 2 [.int .u32 (1610612736), .int .u32 (2147483648 + y)] (by simp [Act.eval, Act.put]) rfl CK.out (by simp [Value.oneCell']) (by decide) (by have := HLc.out.1; unfold maxLen; omega) (by have := HLc.out.1; omega) E.out.g.size _ rfl ?_
                 intro g cap w6 hown hgrow hat hlt2
                 have D := hid (E.out.addC [1610612736, 2147483648 + y] rfl hgrow hat hown)
                 clear hown hgrow hat hlt2)
              | (refine step_append_lies _ rfl (.tmp 59) (.tmp 63) 22 rfl w2.heap.size 28 i _ 1 4 Tryd.underlying22 Hi.out Hz0.out Hz1.out Hz2.out rfl (by decide) u9 lc.length _ (by simp [Act.eval, Act.put]) E.out.c ⟨(wz.heap.size + 1), 0, none⟩ 2 2 [.int .u32 (1610612736), .int .u32 (2147483648 + y)] (by simp [Act.eval, Act.put]) rfl CK.out (by simp [Value.oneCell']) (by decide) (by have := HLc.out.1; unfold maxLen; omega) (by have := HLc.out.1; omega) E.out.g.size _ rfl ?_
                 intro g cap w6 hown hgrow hat hlt2
                 have D := hid (E.out.addC [1610612736, 2147483648 + y] rfl hgrow hat hown)
                 clear hown hgrow hat hlt2)
              | (refine step_append_lies _ rfl (.tmp 59) (.tmp 63) 22 rfl w2.heap.size 28 i _ 1 4 Tryd.underlying22 Hi.out Hz0.out Hz1.out Hz2.out rfl (by decide) u9 lc.length _ (by simp [Act.eval, Act.put]) E7.out.c ⟨w7.heap.size, 0, none⟩ 2 2 [.int .u32 (1610612736), .int .u32 (2147483648 + y)] (by simp [Act.eval, Act.put]) rfl (World.news_of_block (heap_alloc_new w7 _)) (by simp [Value.oneCell']) (by decide) (by have := HLc.out.1; unfold maxLen; omega) (by have := HLc.out.1; omega) E7.out.g.size _ rfl ?_
                 intro g cap w6 hown hgrow hat hlt2
                 have D := hid (E7.out.addC [1610612736, 2147483648 + y] rfl hgrow hat hown)
                 clear hown hgrow hat hlt2)
              | (refine step_append_lies _ rfl (.tmp 65) (.tmp 71) 23 rfl w2.heap.size 5 i8 _ 1 1 Tryd.underlying23 Hi8.out Hy0.out Hy1.out Hy2.out rfl (by decide) u10 lm.length _ (by simp [Act.eval]) D.out.m ⟨wz.heap.size, 0, none⟩ 2 2 [.int .u8 (mk), .int .u8 (0)] (by simp [Act.eval]) rfl MK.out (by simp [Value.oneCell']) (by decide) (by have := HLc.out.2; unfold maxLen; omega) (by have := HLc.out.2; omega) D.out.g.size _ rfl ?_
                 intro h cap2 w7 hown hgrow hat hlt2
                 have E := hid (D.out.addM [mk, 0] rfl hgrow hat hown)
                 clear hown hgrow hat hlt2)
              | (refine step_append_lies _ rfl (.tmp 65) (.tmp 71) 23 rfl w2.heap.size 5 i8 _ 1 1 Tryd.underlying23 Hi8.out Hy0.out Hy1.out Hy2.out rfl (by decide) u10 lm.length _ (by simp [Act.eval]) D.out.m ⟨(wz.heap.size + 1), 0, none⟩ 2 2 [.int .u8 (mk), .int .u8 (0)] (by simp [Act.eval]) rfl MK.out (by simp [Value.oneCell']) (by decide) (by have := HLc.out.2; unfold maxLen; omega) (by have := HLc.out.2; omega) D.out.g.size _ rfl ?_
                 intro h cap2 w7 hown hgrow hat hlt2
                 have E := hid (D.out.addM [mk, 0] rfl hgrow hat hown)
                 clear hown hgrow hat hlt2)
              | (refine step_append_lies _ rfl (.tmp 65) (.tmp 71) 23 rfl w2.heap.size 5 i8 _ 1 1 Tryd.underlying23 Hi8.out Hy0.out Hy1.out Hy2.out rfl (by decide) u10 lm.length _ (by simp [Act.eval]) D6.out.m ⟨w6.heap.size, 0, none⟩ 2 2 [.int .u8 (mk), .int .u8 (0)] (by simp [Act.eval]) rfl (World.news_of_block (heap_alloc_new w6 _)) (by simp [Value.oneCell']) (by decide) (by have := HLc.out.2; unfold maxLen; omega) (by have := HLc.out.2; omega) D6.out.g.size _ rfl ?_
                 intro h cap2 w7 hown hgrow hat hlt2
                 have E := hid (D6.out.addM [mk, 0] rfl hgrow hat hown)
                 clear hown hgrow hat hlt2)
              | fail)
            all_goals
              go_wp2
              go_roundw
              case rel => exact ⟨j + 1, Hlt.out, by go_num, by
                rw [← HC.out, ← HM.out]
                first
                  | exact E
                  | exact D⟩
              case measure => simp [intOf]; have := Hlt.out; omega
      · obtain rfl : j = n := by omega
        clear hlt
        have jn : ¬ ((j : Int) < (j : Int)) := by omega
        have HRf := hid (HR.out.base HG2.out)
        go_wp2
        refine bodyPost_ret (v := .tuple #[u9, u10]) (by simp [results, Tryd.results31, go_sem]) rfl ?_
        exact ⟨_, _, rfl, HRf.out⟩
end Go.Proofs.YtgahbpfmiibpeaaDoor

/- Package link: relocations as repairs; all objects as one: contracts. (Made by golnk7.py.) -/
import Derived.Test.YtnpnafidhcnkhaaGreatDoorYLnk6a
import Derived.Test.YtnpnafidhcnkhaaGreatDoorYLnkP
import Derived.Deep.RegionHeld3
import Derived.Test.YtnpnafidhcnkhaaGreatDoorYLnkR
import Derived.Test.YtnpnafidhcnkhaaGreatDoorYBase
import Derived.Test.YtnpnafidhcnkhaaGreatDoorYOOwn0
import Derived.Test.YtnpnafidhcnkhaaGreatDoorYIsa2
import Derived.Deep.AppendLies
import Derived.Laws.OwnMore
namespace Go.Proofs.YtnpnafidhcnkhaaGreatDoor
open Go.RowKit
def fxL (r : Fx) : List Value := [.int .i64 r.a, .int .i64 r.k, .int .i64 r.t.i, .int .i64 r.t.a, .int .i64 r.d]
theorem fxL_length (r : Fx) : (fxL r).length = 5 := rfl
abbrev fxsL (l : List Fx) : List Value := csL fxL l
def fx0 : Fx := ⟨0, 0, ⟨0, 0⟩, 0⟩
theorem info_repair : ∃ i : TypeInfo, Tryz.prog.info? 106 = some i ∧ i.zero = some (.agg #[.int .i64 0, .int .i64 0, .int .i64 0, .int .i64 0, .int .i64 0]) ∧ i.size = 5 ∧ i.bytes = 40 := info_parts (P := Tryz.prog) (e := 106) (z := .agg #[.int .i64 0, .int .i64 0, .int .i64 0, .int .i64 0, .int .i64 0]) (size := 5) (bytes := 40) (by kernel_rfl)
theorem build_repair (a k i s d : Int) (w : World) : (Instr.build 106 #[(0, .int .i64 a), (1, .int .i64 k), (2, .agg #[.int .i64 i, .int .i64 s]), (3, .int .i64 d)]).run Tryz.prog w = .ok (.agg #[.int .i64 a, .int .i64 k, .int .i64 i, .int .i64 s, .int .i64 d]) w := by kernel_rfl
/-- the repairs, so far filled in -/
def fxsF (M : Mp) (p : Pt) (b : Nat) (l : List Rl) (k : Nat) : List Fx := (l.take k).map (fxOf M p b) ++ List.replicate (l.length - k) fx0
theorem fxsF_zero (M : Mp) (p : Pt) (b : Nat) (l : List Rl) : fxsF M p b l 0 = List.replicate l.length fx0 := by simp [fxsF]
theorem fxsF_all (M : Mp) (p : Pt) (b : Nat) (l : List Rl) : fxsF M p b l l.length = l.map (fxOf M p b) := by simp [fxsF]
theorem fxsF_length (M : Mp) (p : Pt) (b : Nat) (l : List Rl) {k : Nat} (h : k ≤ l.length) : (fxsF M p b l k).length = l.length := by simp [fxsF]; omega
theorem fxsF_set (M : Mp) (p : Pt) (b : Nat) (l : List Rl) {k : Nat} {r : Rl} (h : l[k]? = some r) : (fxsF M p b l k).set k (fxOf M p b r) = fxsF M p b l (k + 1) := by
  have hk := (List.getElem?_eq_some_iff.1 h).1
  unfold fxsF
  rw [List.set_append_right _ _ (by simp; omega), List.take_add_one, h]
  obtain ⟨m, hm⟩ : ∃ m, l.length - k = m + 1 := ⟨l.length - k - 1, by omega⟩
  rw [hm, show l.length - (k + 1) = m by omega, List.length_map, List.length_take, Nat.min_eq_left (by omega), Nat.sub_self, List.replicate_succ, List.set_cons_zero, List.map_append, List.append_assoc]
  rfl
theorem fxs_zero : ∀ N, fxsL (List.replicate N fx0) = List.replicate (N * 5) (.int .i64 0)
  | 0 => rfl
  | n + 1 => by
    show fxL fx0 ++ fxsL (List.replicate n fx0) = _
    rw [fxs_zero n, show (n + 1) * 5 = 5 + n * 5 by omega, ← List.replicate_append_replicate]; rfl
/-- where the loop over the relocations stands -/
structure RpW (W w : World) (G B b g n : Nat) (V : OV) (p : Pt) (pv : Value) (dd cc : Int) (M : Mp) (F : List Fx) : Prop where
  g0 : W.grownBy w none
  bx : RwAt w b 121 #[V.d, V.c, V.m, V.r, V.q, V.s, .int .i64 (p.d : Int), .int .i64 (p.c : Int)]
  m : MrAt w G B pv dd cc M
  own : w.ownsRow (b + 1) 106 5 (.slice (some ⟨g, 0, none⟩) n n) n (fxsL F)
  lt : W.heap.size ≤ b ∧ G < b ∧ B < b
theorem RpW.kept0 {W w w1 : World} {G B b g n : Nat} {V : OV} {p : Pt} {pv : Value} {dd cc : Int} {M : Mp} {F : List Fx} (h : RpW W w G B b g n V p pv dd cc M F) (hg : w.grownBy w1 none) : RpW W w1 G B b g n V p pv dd cc M F :=
  ⟨grown_trans h.g0 hg, h.bx.kept0 hg, h.m.kept0 hg, h.own.kept hg (.inr (fun e => by cases e)), h.lt⟩
theorem fxsL_len : ∀ F : List Fx, (fxsL F).length = F.length * 5
  | [] => rfl
  | x :: l => by show (fxL x ++ fxsL l).length = _; rw [List.length_append, fxsL_len l, List.length_cons, fxL_length]; omega
theorem cell_five {w : World} {p : Addr} {g : Nat} {u : Value} (h : w.cell? p = some u) (hn : p.block ≠ g) (k : Nat) (a b c d e : Value) :
    (((((w.setCell ⟨g, k, none⟩ a).setCell ⟨g, k + 1, none⟩ b).setCell ⟨g, k + 2, none⟩ c).setCell ⟨g, k + 3, none⟩ d).setCell ⟨g, k + 4, none⟩ e).cell? p = some u := by
  rw [World.cell?_of_block (heap_setCell_other _ _ _ _ hn), World.cell?_of_block (heap_setCell_other _ _ _ _ hn), World.cell?_of_block (heap_setCell_other _ _ _ _ hn), World.cell?_of_block (heap_setCell_other _ _ _ _ hn), World.cell?_of_block (heap_setCell_other _ _ _ _ hn)]
  exact h
/-- five cells of a row of repairs, written -/
theorem fxs_store {w : World} {b g n k : Nat} {F : List Fx} (h : w.ownsRow b 106 5 (.slice (some ⟨g, 0, none⟩) n n) n (fxsL F)) (hk : k < F.length) (r : Fx) :
    (((((w.setCell ⟨g, k * 5, none⟩ (.int .i64 r.a)).setCell ⟨g, k * 5 + 1, none⟩ (.int .i64 r.k)).setCell ⟨g, k * 5 + 2, none⟩ (.int .i64 r.t.i)).setCell ⟨g, k * 5 + 3, none⟩ (.int .i64 r.t.a)).setCell ⟨g, k * 5 + 4, none⟩ (.int .i64 r.d)).ownsRow b 106 5 (.slice (some ⟨g, 0, none⟩) n n) n (fxsL (F.set k r)) := by
  have h1 := (h.stored (k * 5) (.int .i64 r.a)).1
  have h2 := (h1.stored (k * 5 + 1) (.int .i64 r.k)).1
  have h3 := (h2.stored (k * 5 + 2) (.int .i64 r.t.i)).1
  have h4 := (h3.stored (k * 5 + 3) (.int .i64 r.t.a)).1
  have h5 := (h4.stored (k * 5 + 4) (.int .i64 r.d)).1
  have e : (((((fxsL F).set (k * 5) (.int .i64 r.a)).set (k * 5 + 1) (.int .i64 r.k)).set (k * 5 + 2) (.int .i64 r.t.i)).set (k * 5 + 3) (.int .i64 r.t.a)).set (k * 5 + 4) (.int .i64 r.d) = fxsL (F.set k r) := by
    clear h h1 h2 h3 h4 h5
    induction F generalizing k with
    | nil => simp at hk
    | cons x l ih =>
      cases k with
      | zero => rfl
      | succ k =>
        have h := ih (by simpa using hk)
        have hx : fxsL (x :: l) = fxL x ++ fxsL l := rfl
        have hl : (fxL x).length = 5 := rfl
        rw [hx, List.set_cons_succ, show fxsL (x :: l.set k r) = fxL x ++ fxsL (l.set k r) from rfl, ← h]
        simp only [Nat.succ_mul]
        rw [show k * 5 + 5 = (fxL x).length + k * 5 by rw [hl]; omega]
        simp only [Nat.add_assoc, List.set_append_right _ _ (Nat.le_add_right _ _), Nat.add_sub_cancel_left]
  rw [e] at h5
  exact h5
theorem RpW.put {W w : World} {G B b g n k b0 : Nat} {V : OV} {p : Pt} {pv : Value} {dd cc : Int} {M : Mp} {l : List Rl} {r : Rl} {e1 e2 e3 e4 e5 : Int} (h : RpW W w G B b g n V p pv dd cc M (fxsF M p b0 l k)) (hn : l.length = n) (hk : k < n) (hr : l[k]? = some r) (hf : fxOf M p b0 r = ⟨e1, e2, ⟨e3, e4⟩, e5⟩) :
    RpW W (((((w.setCell ⟨g, k * 5, none⟩ (.int .i64 e1)).setCell ⟨g, k * 5 + 1, none⟩ (.int .i64 e2)).setCell ⟨g, k * 5 + 2, none⟩ (.int .i64 e3)).setCell ⟨g, k * 5 + 3, none⟩ (.int .i64 e4)).setCell ⟨g, k * 5 + 4, none⟩ (.int .i64 e5)) G B b g n V p pv dd cc M (fxsF M p b0 l (k + 1)) := by
  have hge := (h.own.lt g rfl).1
  have hlt := h.lt
  have hs : w.grownBy (((((w.setCell ⟨g, k * 5, none⟩ (.int .i64 e1)).setCell ⟨g, k * 5 + 1, none⟩ (.int .i64 e2)).setCell ⟨g, k * 5 + 2, none⟩ (.int .i64 e3)).setCell ⟨g, k * 5 + 3, none⟩ (.int .i64 e4)).setCell ⟨g, k * 5 + 4, none⟩ (.int .i64 e5)) (some g) := by
    have s1 := grown_setCell (grown_refl w (some g)) (k * 5) (.int .i64 e1)
    have s2 := grown_setCell s1 (k * 5 + 1) (.int .i64 e2)
    have s3 := grown_setCell s2 (k * 5 + 2) (.int .i64 e3)
    have s4 := grown_setCell s3 (k * 5 + 3) (.int .i64 e4)
    exact grown_setCell s4 (k * 5 + 4) (.int .i64 e5)
  have ho := fxs_store h.own (k := k) (by rw [fxsF_length M p b0 l (by omega)]; omega) ⟨e1, e2, ⟨e3, e4⟩, e5⟩
  dsimp only at ho
  rw [← hf, fxsF_set M p b0 l hr] at ho
  exact ⟨grown_new' (grown_trans (grown_none h.g0) hs) (fun j hj => by obtain rfl := Option.some.inj hj; omega), h.bx.kept hs (fun e => by have := Option.some.inj e; omega), ⟨h.m.row.kept hs (fun e => by have := Option.some.inj e; omega), h.m.mp.kept hs (fun e => by have := Option.some.inj e; omega)⟩, ho, hlt⟩
set_option maxRecDepth 100000 in
set_option maxHeartbeats 8000000 in
theorem lrepairs_any (W : World) (V : OV) (p : Pt) {G B : Nat} {pv : Value} {dd cc : Int} {M : Mp} {lv : Value} {l : List Rl} (b0 : Nat) (h : OAt W V p.x) (hM : MrAt W G B pv dd cc M) (hl : RlAt W lv l) (hp : PtOk p) (hb : b0 ≤ 100000) (hn : l.length ≤ 1000000)
    (hok : ∀ r ∈ l, (0 ≤ r.a ∧ r.a ≤ 1000000) ∧ 0 ≤ r.s ∧ r.s < p.x.S.length) :
    Calls Tryz.prog 50 #[.pointer (some ⟨G, 0, none⟩), ptV V p, lv, .int .i64 (b0 : Int)] W fun e w' => ∃ u, e = .returned u ∧ w'.ownsRow W.heap.size 106 5 u l.length (fxsL (l.map (fxOf M p b0))) ∧ W.grownBy w' none := by
  obtain ⟨x, pd, pc⟩ := p
  have hone := oat_one h
  obtain ⟨p1, n1, c1, p2, n2, c2, p3, n3, c3, p4, n4, c4, p5, n5, c5, p6, N, c6, rfl⟩ := OAt.cells h
  have HO := hid h
  have HP := hid hp
  have HL := hid hl
  have Hok := hid hok
  have Hone := hid hone
  have Hb := hid hb
  obtain ⟨n, hn2⟩ : ∃ n, l.length = n := ⟨_, rfl⟩
  have Hn := hid hn2
  obtain ⟨lp, lc, hlv⟩ := hl.len
  subst hlv
  have HN : Hid (x.S.length = N) := hid (by
    obtain ⟨q1, q2, hq⟩ := h.s.len
    simp only [Value.slice.injEq] at hq
    exact hq.2.1.symm)
  have HGlt := hid (And.intro hM.row.lt hM.mp.lt)
  rw [hn2] at hn ⊢
  have n0 : (0 : Int) ≤ (n : Int) := by omega
  have n1' : (n : Int) ≤ 1000000 := by omega
  have N0 : (0 : Int) ≤ (N : Int) := by omega
  have N1 : (N : Int) ≤ 1000000 := by have h : x.S.length ≤ 1000000 := hp.b.len.2.2.2.2.2; have := HN.out; omega
  have b0' : (0 : Int) ≤ (b0 : Int) := by omega
  have b1' : (b0 : Int) ≤ 100000 := by omega
  have Hnb : Hid (n ≤ 1000000) := hid hn
  have hal := World.grownBy_alloc W (.cells #[.slice p1 n1 c1, .slice p2 n2 c2, .slice p3 n3 c3, .slice p4 n4 c4, .slice p5 n5 c5, .slice p6 N c6, .int .i64 (pd : Int), .int .i64 (pc : Int)] 121) none
  have HX0 := hid (RwAt.new W 121 #[.slice p1 n1 c1, .slice p2 n2 c2, .slice p3 n3 c3, .slice p4 n4 c4, .slice p5 n5 c5, .slice p6 N c6, .int .i64 (pd : Int), .int .i64 (pc : Int)])
  have HM0 := hid (hM.kept0 hal)
  have HG0 := hid hal
  have HS0 : Hid ((W.alloc (.cells #[.slice p1 n1 c1, .slice p2 n2 c2, .slice p3 n3 c3, .slice p4 n4 c4, .slice p5 n5 c5, .slice p6 N c6, .int .i64 (pd : Int), .int .i64 (pc : Int)] 121)).heap.size = W.heap.size + 1) := hid (by simp)
  obtain ⟨i, hi, hz0, hz1, hz2⟩ := info_repair
  have Hi := hid hi
  have Hz0 := hid hz0
  have Hz1 := hid hz1
  have Hz2 := hid hz2
  clear h hM hl hp hb hn hok hn2 hal hi hz0 hz1 hz2 hone
  unfold ptV
  go_enter Tryz.func50, Tryz.ntmps50
  go_upto_region 1 with (fail)
  obtain ⟨b, hbb⟩ : ∃ b, W.heap.size = b := ⟨_, rfl⟩
  have HBe := hid hbb
  rw [hbb] at HX0 HS0 HGlt ⊢
  clear hbb
  generalize W.alloc (.cells #[.slice p1 n1 c1, .slice p2 n2 c2, .slice p3 n3 c3, .slice p4 n4 c4, .slice p5 n5 c5, .slice p6 N c6, .int .i64 (pd : Int), .int .i64 (pc : Int)] 121) = w1 at HX0 HM0 HG0 HS0 ⊢
  go_wp2_with (first
    | (refine wpList_make_full _ rfl _ _ 73 rfl (b + 1) 106 i _ 5 Tryz.underlying73 Hi.out Hz0.out Hz1.out .i64 .i64 _ _ n rfl rfl (by first | rfl | omega) (by first | rfl | omega) (by rw [Hz2.out]; have := Hnb.out; omega) (by have := Hnb.out; unfold maxLen; omega) (by have := HS0.out; omega) ?_
       intro w3 hmk hgr
       rw [show (Value.agg #[.int .i64 0, .int .i64 0, .int .i64 0, .int .i64 0, .int .i64 0]).cells = Array.replicate 5 (.int .i64 0) from rfl, toList_madeZero _ _ 5 (by omega), Array.toList_replicate] at hmk
       have HR0 : Hid (RpW W w3 G B b w1.heap.size n ⟨.slice p1 n1 c1, .slice p2 n2 c2, .slice p3 n3 c3, .slice p4 n4 c4, .slice p5 n5 c5, .slice p6 N c6⟩ ⟨x, pd, pc⟩ pv dd cc M (fxsF M ⟨x, pd, pc⟩ b0 l 0)) := hid ⟨grown_trans HG0.out hgr, HX0.out.kept0 hgr, HM0.out.kept0 hgr, by rw [fxsF_zero, Hn.out, fxs_zero]; exact hmk, Nat.le_of_eq HBe.out, HGlt.out.1, HGlt.out.2⟩
       clear hmk hgr)
    | fail)
  obtain ⟨g, hg⟩ : ∃ g, w1.heap.size = g := ⟨_, rfl⟩
  rw [hg] at HR0 ⊢
  clear hg HX0 HM0 HG0 HS0 HGlt
  go_loopw [17] (fun i wr => ∃ k : Nat, k ≤ n ∧ i = .int .i64 k ∧ Hid (RpW W wr G B b g n ⟨.slice p1 n1 c1, .slice p2 n2 c2, .slice p3 n3 c3, .slice p4 n4 c4, .slice p5 n5 c5, .slice p6 N c6⟩ ⟨x, pd, pc⟩ pv dd cc M (fxsF M ⟨x, pd, pc⟩ b0 l k))) (fun i _ => n - (intOf i).toNat)
  case atStart => exact ⟨0, Nat.zero_le _, rfl, HR0⟩
  case round =>
    obtain ⟨k, hk, rfl, HR⟩ := hrel
    clear HR0
    have k0 : (0 : Int) ≤ (k : Int) := by omega
    by_cases hlt : k < n
    · have kn : (k : Int) < (n : Int) := by omega
      have Hlt := hid hlt
      obtain ⟨⟨ra, rk, rs, rd⟩, hr⟩ : ∃ r, l[k]? = some r := ⟨_, List.getElem?_eq_getElem (by rw [Hn.out]; exact hlt)⟩
      have Hr := hid hr
      have hokr := Hok.out _ (List.mem_of_getElem? hr)
      obtain ⟨bq, oq, cq, hv, hbq, g0, g1, g2, g3⟩ := rl_item (HL.out.kept0 HR.out.g0) hr
      rw [Hn.out] at hv
      simp only [Value.slice.injEq, true_and] at hv
      obtain ⟨rfl, rfl⟩ := hv
      obtain ⟨⟨a0, a1⟩, s0, s1⟩ := hokr
      simp only at a0 a1 s0 s1
      obtain ⟨j, rfl⟩ := Int.eq_ofNat_of_zero_le s0
      have hal := World.grownBy_alloc wr (.cells #[.int .i64 ra, .int .i64 rk, .int .i64 (j : Int), .int .i64 rd] 65) none
      have HR6 := hid (HR.out.kept0 hal)
      have HX := hid (RwAt.new wr 65 #[.int .i64 ra, .int .i64 rk, .int .i64 (j : Int), .int .i64 rd])
      clear hal hr hbq hlt
      go_upto_region 5 with (fail)
      clear g0 g1 g2 g3
      obtain ⟨X, hX⟩ : ∃ X, wr.heap.size = X := ⟨_, rfl⟩
      have HXg : Hid (g < X) := hid (by have := (HR.out.own.lt g rfl).2; omega)
      rw [hX] at HX ⊢
      clear hX HR
      generalize wr.alloc (.cells #[.int .i64 ra, .int .i64 rk, .int .i64 (j : Int), .int .i64 rd] 65) = w6 at HR6 HX ⊢
      obtain ⟨⟨sn, si, sv, sg⟩, hs⟩ : ∃ s, x.S[j]? = some s := ⟨_, List.getElem?_eq_getElem (by omega)⟩
      have Hs := hid (show symN x (j : Int).toNat = ⟨sn, si, sv, sg⟩ by unfold symN; rw [Int.toNat_natCast, List.getD_eq_getElem?_getD, hs]; rfl)
      have Hsok := hid (HP.out.s _ (List.mem_of_getElem? hs))
      have HRd := hid (HR6.out.kept0 (grown_drew (grown_refl w6 none)))
      have HXd := hid (HX.out.kept0 (grown_drew (grown_refl w6 none)))
      obtain ⟨bs, os, cs, hv, hbs, z0, z1, z2, z3⟩ := sy_item (HO.out.kept0 HRd.out.g0).s hs
      obtain ⟨bs', os', cs', hv', hbs', _⟩ := sy_item HO.out.s hs
      have Hzl : Hid (bs < w6.drew.heap.size) := hid hbs
      rw [HN.out] at hv
      simp only [Value.slice.injEq, true_and] at hv
      obtain ⟨rfl, rfl⟩ := hv
      have Hbs : Hid (bs < W.heap.size) := hid (by
        simp only [Value.slice.injEq, Option.some.injEq, Addr.mk.injEq] at hv'
        rw [hv'.1.1]; exact hbs')
      clear hv' hbs'
      have jN : (j : Int) < (N : Int) := by rw [HN.out] at s1; exact s1
      obtain ⟨⟨qi, qa⟩, hq⟩ : ∃ q, spOf M ⟨x, pd, pc⟩ ⟨sn, si, sv, sg⟩ = q := ⟨_, rfl⟩
      have Hq := hid hq
      have Hcall : Hid (∀ W', w6.grownBy W' none → Calls Tryz.prog 67 #[.pointer (some ⟨G, 0, none⟩), .agg #[.slice p1 n1 c1, .slice p2 n2 c2, .slice p3 n3 c3, .slice p4 n4 c4, .slice p5 n5 c5, .slice (some ⟨bs, os, none⟩) N c6, .int .i64 (pd : Int), .int .i64 (pc : Int)], .agg #[.string sn, .int .i64 si, .int .i64 sv, .bool sg]] W' fun e w' => e = .returned (.agg #[.int .i64 qi, .int .i64 qa]) ∧ W'.grownBy w' none) := hid (by
        intro W' hW
        have hv := Hsok.out.1
        have hd1 := HP.out.dc.1
        have hd2 := HP.out.dc.2
        have h := jspot_any W' ⟨.slice p1 n1 c1, .slice p2 n2 c2, .slice p3 n3 c3, .slice p4 n4 c4, .slice p5 n5 c5, .slice (some ⟨bs, os, none⟩) N c6⟩ ⟨x, pd, pc⟩ ⟨sn, si, sv, sg⟩ (HR6.out.kept0 hW).m (Nat.le_trans hd1 (by decide)) (Nat.le_trans hd2 (by decide)) ⟨hv.1, Int.le_trans hv.2 (by decide)⟩ Hone.out
        rw [hq] at h
        exact h)
      have x0 := HXd.out.cell 0 (v := .int .i64 ra) rfl
      have x1 := HXd.out.cell 1 (v := .int .i64 rk) rfl
      have x2 := HXd.out.cell 2 (v := .int .i64 (j : Int)) rfl
      have x3 := HXd.out.cell 3 (v := .int .i64 rd) rfl
      have y0 := HRd.out.bx.cell 0 (v := .slice p1 n1 c1) rfl
      have y1 := HRd.out.bx.cell 1 (v := .slice p2 n2 c2) rfl
      have y2 := HRd.out.bx.cell 2 (v := .slice p3 n3 c3) rfl
      have y3 := HRd.out.bx.cell 3 (v := .slice p4 n4 c4) rfl
      have y4 := HRd.out.bx.cell 4 (v := .slice p5 n5 c5) rfl
      have y5 := HRd.out.bx.cell 5 (v := .slice (some ⟨bs, os, none⟩) N c6) rfl
      have y6 := HRd.out.bx.cell 6 (v := .int .i64 (pd : Int)) rfl
      have y7 := HRd.out.bx.cell 7 (v := .int .i64 (pc : Int)) rfl
      have hbld := fun a k i s d w => build_repair a k i s d w
      have Hcel : Hid (∀ W', w6.grownBy W' none → (∃ u, W'.cell? ⟨g, k * 5, none⟩ = some u) ∧ (∃ u, W'.cell? ⟨g, k * 5 + 1, none⟩ = some u) ∧ (∃ u, W'.cell? ⟨g, k * 5 + 2, none⟩ = some u) ∧ (∃ u, W'.cell? ⟨g, k * 5 + 3, none⟩ = some u) ∧ (∃ u, W'.cell? ⟨g, k * 5 + 4, none⟩ = some u) ∧ (∀ j, W'.frozen? ⟨g, j, none⟩ = false)) := hid (by
        intro W' hW
        have h := (HR6.out.kept0 hW).own
        have hle := Hlt.out
        have hnn := Hn.out
        have hl := fxsF_length M ⟨x, pd, pc⟩ b0 l (k := k) (by omega)
        have hl2 : ∀ F : List Fx, (fxsL F).length = F.length * 5 := fxsL_len
        have hc : ∀ j, j < n * 5 → ∃ u, W'.cell? ⟨g, j, none⟩ = some u := fun j hj => ⟨_, (h.cellAt j hj).trans (List.getElem?_eq_getElem (by rw [hl2, hl, hnn]; exact hj))⟩
        exact ⟨hc _ (by omega), hc _ (by omega), hc _ (by omega), hc _ (by omega), hc _ (by omega), fun j => h.frozenAt j⟩)
      simp only at z0 z1 z2 z3
      clear hq hs hbs
      have Hne : Hid (X ≠ g ∧ b ≠ g ∧ bs ≠ g) := hid (by
        have h1 := HR6.out.own.lt g rfl
        have h2 := HR6.out.lt
        have h3 := HXg.out
        exact ⟨fun e => by omega, fun e => by omega, fun e => by have := Hbs.out; omega⟩)
      go_region_held3 (fun W => W.cell? ⟨X, 0, none⟩ = some (.int .i64 ra) ∧ W.cell? ⟨X, 1, none⟩ = some (.int .i64 rk) ∧ W.cell? ⟨X, 2, none⟩ = some (.int .i64 (j : Int)) ∧ W.cell? ⟨X, 3, none⟩ = some (.int .i64 rd) ∧ W.cell? ⟨b, 0, none⟩ = some (.slice p1 n1 c1) ∧ W.cell? ⟨b, 1, none⟩ = some (.slice p2 n2 c2) ∧ W.cell? ⟨b, 2, none⟩ = some (.slice p3 n3 c3) ∧ W.cell? ⟨b, 3, none⟩ = some (.slice p4 n4 c4) ∧ W.cell? ⟨b, 4, none⟩ = some (.slice p5 n5 c5) ∧ W.cell? ⟨b, 5, none⟩ = some (.slice (some ⟨bs, os, none⟩) N c6) ∧ W.cell? ⟨b, 6, none⟩ = some (.int .i64 (pd : Int)) ∧ W.cell? ⟨b, 7, none⟩ = some (.int .i64 (pc : Int)) ∧ W.cell? ⟨bs, os + j * 4, none⟩ = some (.string sn) ∧ W.cell? ⟨bs, os + j * 4 + 1, none⟩ = some (.int .i64 si) ∧ W.cell? ⟨bs, os + j * 4 + 2, none⟩ = some (.int .i64 sv) ∧ W.cell? ⟨bs, os + j * 4 + 3, none⟩ = some (.bool sg))
        (first | (with_reducible exact ⟨x0, x1, x2, x3, y0, y1, y2, y3, y4, y5, y6, y7, z0, z1, z2, z3⟩) | (with_reducible exact ⟨x09, x19, x29, x39, y09, y19, y29, y39, y49, y59, y69, y79, z09, z19, z29, z39⟩) | (with_reducible exact ⟨x08, x18, x28, x38, y08, y18, y28, y38, y48, y58, y68, y78, z08, z18, z28, z38⟩))
        (first
          | (go_at_call 67
             refine (Hcall.out _ (grown_drew (grown_refl w6 none))).mono ?_
             rintro e w9 ⟨rfl, hg⟩
             have hg2 : w6.grownBy w9 none := grown_trans (grown_drew (grown_refl w6 none)) hg
             have HR9 := hid (HR6.out.kept0 hg2)
             have x09 := (HX.out.kept0 hg2).cell 0 (v := .int .i64 ra) rfl
             have x19 := (HX.out.kept0 hg2).cell 1 (v := .int .i64 rk) rfl
             have x29 := (HX.out.kept0 hg2).cell 2 (v := .int .i64 (j : Int)) rfl
             have x39 := (HX.out.kept0 hg2).cell 3 (v := .int .i64 rd) rfl
             have y09 := HR9.out.bx.cell 0 (v := .slice p1 n1 c1) rfl
             have y19 := HR9.out.bx.cell 1 (v := .slice p2 n2 c2) rfl
             have y29 := HR9.out.bx.cell 2 (v := .slice p3 n3 c3) rfl
             have y39 := HR9.out.bx.cell 3 (v := .slice p4 n4 c4) rfl
             have y49 := HR9.out.bx.cell 4 (v := .slice p5 n5 c5) rfl
             have y59 := HR9.out.bx.cell 5 (v := .slice (some ⟨bs, os, none⟩) N c6) rfl
             have y69 := HR9.out.bx.cell 6 (v := .int .i64 (pd : Int)) rfl
             have y79 := HR9.out.bx.cell 7 (v := .int .i64 (pc : Int)) rfl
             have z09 := (grown_cell hg (p := ⟨bs, os + j * 4, none⟩) Hzl.out (by simp)).trans z0
             have z19 := (grown_cell hg (p := ⟨bs, os + j * 4 + 1, none⟩) Hzl.out (by simp)).trans z1
             have z29 := (grown_cell hg (p := ⟨bs, os + j * 4 + 2, none⟩) Hzl.out (by simp)).trans z2
             have z39 := (grown_cell hg (p := ⟨bs, os + j * 4 + 3, none⟩) Hzl.out (by simp)).trans z3
             have x08 := cell_five x09 (g := g) Hne.out.1 (k * 5) (.int .i64 (IntKind.i64.wrap ((b0 : Int) + ra))) (.int .i64 rk) (.int .i64 qi) (.int .i64 qa) (.int .i64 rd)
             have x18 := cell_five x19 (g := g) Hne.out.1 (k * 5) (.int .i64 (IntKind.i64.wrap ((b0 : Int) + ra))) (.int .i64 rk) (.int .i64 qi) (.int .i64 qa) (.int .i64 rd)
             have x28 := cell_five x29 (g := g) Hne.out.1 (k * 5) (.int .i64 (IntKind.i64.wrap ((b0 : Int) + ra))) (.int .i64 rk) (.int .i64 qi) (.int .i64 qa) (.int .i64 rd)
             have x38 := cell_five x39 (g := g) Hne.out.1 (k * 5) (.int .i64 (IntKind.i64.wrap ((b0 : Int) + ra))) (.int .i64 rk) (.int .i64 qi) (.int .i64 qa) (.int .i64 rd)
             have y08 := cell_five y09 (g := g) Hne.out.2.1 (k * 5) (.int .i64 (IntKind.i64.wrap ((b0 : Int) + ra))) (.int .i64 rk) (.int .i64 qi) (.int .i64 qa) (.int .i64 rd)
             have y18 := cell_five y19 (g := g) Hne.out.2.1 (k * 5) (.int .i64 (IntKind.i64.wrap ((b0 : Int) + ra))) (.int .i64 rk) (.int .i64 qi) (.int .i64 qa) (.int .i64 rd)
             have y28 := cell_five y29 (g := g) Hne.out.2.1 (k * 5) (.int .i64 (IntKind.i64.wrap ((b0 : Int) + ra))) (.int .i64 rk) (.int .i64 qi) (.int .i64 qa) (.int .i64 rd)
             have y38 := cell_five y39 (g := g) Hne.out.2.1 (k * 5) (.int .i64 (IntKind.i64.wrap ((b0 : Int) + ra))) (.int .i64 rk) (.int .i64 qi) (.int .i64 qa) (.int .i64 rd)
             have y48 := cell_five y49 (g := g) Hne.out.2.1 (k * 5) (.int .i64 (IntKind.i64.wrap ((b0 : Int) + ra))) (.int .i64 rk) (.int .i64 qi) (.int .i64 qa) (.int .i64 rd)
             have y58 := cell_five y59 (g := g) Hne.out.2.1 (k * 5) (.int .i64 (IntKind.i64.wrap ((b0 : Int) + ra))) (.int .i64 rk) (.int .i64 qi) (.int .i64 qa) (.int .i64 rd)
             have y68 := cell_five y69 (g := g) Hne.out.2.1 (k * 5) (.int .i64 (IntKind.i64.wrap ((b0 : Int) + ra))) (.int .i64 rk) (.int .i64 qi) (.int .i64 qa) (.int .i64 rd)
             have y78 := cell_five y79 (g := g) Hne.out.2.1 (k * 5) (.int .i64 (IntKind.i64.wrap ((b0 : Int) + ra))) (.int .i64 rk) (.int .i64 qi) (.int .i64 qa) (.int .i64 rd)
             have z08 := cell_five z09 (g := g) Hne.out.2.2 (k * 5) (.int .i64 (IntKind.i64.wrap ((b0 : Int) + ra))) (.int .i64 rk) (.int .i64 qi) (.int .i64 qa) (.int .i64 rd)
             have z18 := cell_five z19 (g := g) Hne.out.2.2 (k * 5) (.int .i64 (IntKind.i64.wrap ((b0 : Int) + ra))) (.int .i64 rk) (.int .i64 qi) (.int .i64 qa) (.int .i64 rd)
             have z28 := cell_five z29 (g := g) Hne.out.2.2 (k * 5) (.int .i64 (IntKind.i64.wrap ((b0 : Int) + ra))) (.int .i64 rk) (.int .i64 qi) (.int .i64 qa) (.int .i64 rd)
             have z38 := cell_five z39 (g := g) Hne.out.2.2 (k * 5) (.int .i64 (IntKind.i64.wrap ((b0 : Int) + ra))) (.int .i64 rk) (.int .i64 qi) (.int .i64 qa) (.int .i64 rd)
             obtain ⟨⟨u0, c09⟩, ⟨u1, c19⟩, ⟨u2, c29⟩, ⟨u3, c39⟩, ⟨u4, c49⟩, cf9⟩ := Hcel.out _ hg2
             clear hg hg2))
      go_split_ands
      have HN8 : Hid (RpW W (((((w9.setCell ⟨g, k * 5, none⟩ (.int .i64 ((b0 : Int) + ra))).setCell ⟨g, k * 5 + 1, none⟩ (.int .i64 rk)).setCell ⟨g, k * 5 + 2, none⟩ (.int .i64 qi)).setCell ⟨g, k * 5 + 3, none⟩ (.int .i64 qa)).setCell ⟨g, k * 5 + 4, none⟩ (.int .i64 rd)) G B b g n ⟨.slice p1 n1 c1, .slice p2 n2 c2, .slice p3 n3 c3, .slice p4 n4 c4, .slice p5 n5 c5, .slice (some ⟨bs, os, none⟩) N c6⟩ ⟨x, pd, pc⟩ pv dd cc M (fxsF M ⟨x, pd, pc⟩ b0 l (k + 1))) := hid (by
        refine HR9.out.put Hn.out Hlt.out Hr.out ?_
        show (⟨(b0 : Int) + ra, rk, spOf M ⟨x, pd, pc⟩ (symN x (j : Int).toNat), rd⟩ : Fx) = _
        rw [Hs.out, Hq.out])
      clear x08 x18 x28 x38 y08 y18 y28 y38 y48 y58 y68 y78 z08 z18 z28 z38 x09 x19 x29 x39 y09 y19 y29 y39 y49 y59 y69 y79 z09 z19 z29 z39 x0 x1 x2 x3 y0 y1 y2 y3 y4 y5 y6 y7 z0 z1 z2 z3 c09 c19 c29 c39 c49 cf9 hbld
      go_wp2
      go_roundw
      case rel => exact ⟨k + 1, Hlt.out, by go_num, HN8⟩
      case measure => simp [intOf]; have := Hlt.out; omega
    · obtain rfl : k = n := by omega
      have kn : ¬ ((k : Int) < (k : Int)) := by omega
      clear hlt
      go_wp2
      go_ret
      exact ⟨_, rfl, by rw [HBe.out, ← fxsF_all M ⟨x, pd, pc⟩ b0 l, Hn.out]; exact own_base HR.out.own (by omega), HR.out.g0⟩
end Go.Proofs.YtnpnafidhcnkhaaGreatDoor
namespace Go.Proofs.YtnpnafidhcnkhaaGreatDoor
open Go.RowKit
theorem info_program : (Tryz.prog.info? 78).map (·.size) = some 7 := by kernel_rfl
theorem wd_wrap (l : Nat → Int) (r : Fx) : IntKind.u32.wrap (adP l r.t + IntKind.u32.wrap r.d) = wdP l r := by
  rw [u32_wrap, u32_wrap]; unfold wdP; omega
theorem rep_spot {w : World} {B : Nat} {t : TypeId} {a k i s d : Value} (h : RwAt w B t #[a, k, i, s, d]) : w.rangeAt B 2 [i, s] := by
  intro j v hv
  refine h.cell (2 + j) ?_
  match j, hv with
  | 0, hv => exact hv
  | 1, hv => exact hv
set_option maxRecDepth 100000 in
set_option maxHeartbeats 4000000 in
theorem word_lnk (W : World) (v1 v2 v3 v4 v5 ld mv : Value) (l : Nat → Int) (n : Nat) (h : SlAt W .i64 ld ((List.range n).map l)) (r : Fx) (h1 : r.t.i = 1 → 0 ≤ r.t.a ∧ r.t.a ≤ 1000000) (h2 : r.t.i ≠ 1 → ∃ k : Nat, r.t.a = k ∧ k < n ∧ 0 ≤ l k ∧ l k ≤ 1000000) :
    Calls Tryz.prog 40 #[.agg (pgV v1 v2 v3 v4 v5 ld mv), .agg (fxL r).toArray] W fun e w' => e = .returned (.int .u32 (wdP l r)) ∧ W.grownBy w' none := by
  have Hr := hid (wd_wrap l r)
  have HA := hid (fun W h => adr_any W v1 v2 v3 v4 v5 ld mv l n h r.t h1 h2)
  obtain ⟨a, k, ⟨i, s⟩, d⟩ := r
  simp only at HA Hr
  have H2 := hid (two_boxes (W := W) (a := #[v1, v2, v3, v4, v5, ld, mv]) (b := #[.int .i64 a, .int .i64 k, .int .i64 i, .int .i64 s, .int .i64 d]) (t := 78) (u := 106))
  have HL := hid (h.kept0 H2.out.2.2)
  clear h h1 h2
  unfold fxL
  go_enter Tryz.func40, Tryz.ntmps40
  go_upto_region 1 with (fail)
  generalize (W.alloc (.cells #[v1, v2, v3, v4, v5, ld, mv] 78)).alloc (.cells #[.int .i64 a, .int .i64 k, .int .i64 i, .int .i64 s, .int .i64 d] 106) = w1 at H2 HL ⊢
  obtain ⟨b1, hb1⟩ : ∃ b, W.heap.size = b := ⟨_, rfl⟩
  obtain ⟨b2, hb2⟩ : ∃ b, b1 + 1 = b := ⟨_, rfl⟩
  rw [hb1, hb2] at H2 ⊢
  clear hb1 hb2
  have hg0 : w1.grownBy w1.drew none := grown_drew (grown_refl _ none)
  refine wp_region_held_drew (S := fun W => RwAt W b1 78 #[v1, v2, v3, v4, v5, ld, mv] ∧ RwAt W b2 106 #[.int .i64 a, .int .i64 k, .int .i64 i, .int .i64 s, .int .i64 d]) (by kernel_rfl) ⟨H2.out.1.kept0 hg0, H2.out.2.1.kept0 hg0⟩ (fun hS0 => ?_)
  replace HL := hid (HL.out.kept0 hg0)
  have HG := hid (grown_trans H2.out.2.2 hg0)
  clear hg0 H2
  generalize w1.drew = w2 at HL HG hS0 ⊢
  refine wpAnyH_take (i := 0) (v := .agg #[v1, v2, v3, v4, v5, ld, mv]) rfl (by kernel_rfl) (by kernel_rfl) (by kernel_rfl) (fun _ _ _ h => h) (Or.inl ⟨by kernel_rfl, fun W hW => run_load_row _ _ rfl rfl hW.1.blk rfl Tryz.underlying78 info_program⟩) hS0 ?_
  try simp only [Act.put, List.setIfInBounds_toArray, List.set_cons_zero, List.set_cons_succ, List.getElem_toArray, List.getElem_cons_zero]
  refine wpAnyH_take (i := 1) (v := ?_) rfl (by kernel_rfl) (by kernel_rfl) (by kernel_rfl) (fun _ _ _ h => h) (Or.inl ⟨by kernel_rfl, ?_⟩) hS0 ?_
  rotate_left
  · (intro W hSw; clear hSw; go_simp; try with_reducible rfl)
  try simp only [Act.put, List.setIfInBounds_toArray, List.set_cons_zero, List.set_cons_succ, List.getElem_toArray, List.getElem_cons_succ, List.getElem_cons_zero]
  refine wpAnyH_take (i := 2) (v := .agg #[.int .i64 i, .int .i64 s]) rfl (by kernel_rfl) (by kernel_rfl) (by kernel_rfl) (fun _ _ _ h => h) (yieldsIf_load_mid (by kernel_rfl) 83 _ rfl b2 2 rfl _ _ (fun W hW => rep_spot hW.2) Tryz.underlying83 rfl info_spot) hS0 ?_
  try simp only [Act.put, List.setIfInBounds_toArray, List.set_cons_zero, List.set_cons_succ, List.getElem_toArray, List.getElem_cons_succ, List.getElem_cons_zero]
  refine wpAnyH_take (i := 4) (v := ?_) rfl (by kernel_rfl) (by kernel_rfl) (by kernel_rfl) (fun _ _ _ h => h) (Or.inl ⟨by kernel_rfl, ?_⟩) hS0 ?_
  rotate_left
  · (intro W hSw; clear hSw; go_simp; try with_reducible rfl)
  try simp only [Act.put, List.setIfInBounds_toArray, List.set_cons_zero, List.set_cons_succ, List.getElem_toArray, List.getElem_cons_succ, List.getElem_cons_zero]
  refine wpAnyH_take (i := 5) (v := ?_) rfl (by kernel_rfl) (by kernel_rfl) (by kernel_rfl) (fun _ _ _ h => h) (Or.inl ⟨by kernel_rfl, ?_⟩) hS0 ?_
  rotate_left
  · (intro W hSw; have hc := hSw.2.cell 4 (v := .int .i64 d) rfl; clear hSw; go_simp; try with_reducible rfl)
  try simp only [Act.put, List.setIfInBounds_toArray, List.set_cons_zero, List.set_cons_succ, List.getElem_toArray, List.getElem_cons_succ, List.getElem_cons_zero]
  refine wpAnyH_take (i := 6) (v := ?_) rfl (by kernel_rfl) (by kernel_rfl) (by kernel_rfl) (fun _ _ _ h => h) (Or.inl ⟨by kernel_rfl, ?_⟩) hS0 ?_
  rotate_left
  · (intro W hSw; clear hSw; go_simp; try with_reducible rfl)
  try simp only [Act.put, List.setIfInBounds_toArray, List.set_cons_zero, List.set_cons_succ, List.getElem_toArray, List.getElem_cons_succ, List.getElem_cons_zero]
  refine wpAnyH_ready (rs := [3]) (by kernel_rfl) (by simp) ?_
  refine AllReadyH.cons rfl (fun KK hKK => ?_) AllReadyH.nil
  go_simp
  refine (HA.out _ HL.out).mono ?_; rintro e' w3 ⟨rfl, hg⟩
  have hS1 : RwAt w3 b1 78 #[v1, v2, v3, v4, v5, ld, mv] ∧ RwAt w3 b2 106 #[.int .i64 a, .int .i64 k, .int .i64 i, .int .i64 s, .int .i64 d] := ⟨hS0.1.kept0 hg, hS0.2.kept0 hg⟩
  replace HG := hid (grown_trans HG.out hg)
  clear hg hS0
  have hS0 := hS1
  refine hKK.out _ _ hS1 (fun _ => ?_)
  clear hKK KK hS1
  try simp only [Act.put, List.setIfInBounds_toArray, List.set_cons_zero, List.set_cons_succ, List.getElem_toArray, List.getElem_cons_succ, List.getElem_cons_zero]
  refine wpAnyH_take (i := 7) (v := ?_) rfl (by kernel_rfl) (by kernel_rfl) (by kernel_rfl) (fun _ _ _ h => h) (Or.inl ⟨by kernel_rfl, ?_⟩) hS0 ?_
  rotate_left
  · (intro W hSw; clear hSw; go_simp; try with_reducible rfl)
  try simp only [Act.put, List.setIfInBounds_toArray, List.set_cons_zero, List.set_cons_succ, List.getElem_toArray, List.getElem_cons_succ, List.getElem_cons_zero]
  refine wpAnyH_take (i := 8) (v := ?_) rfl (by kernel_rfl) (by kernel_rfl) (by kernel_rfl) (fun _ _ _ h => h) (Or.inl ⟨by kernel_rfl, ?_⟩) hS0 ?_
  rotate_left
  · (intro W hSw; clear hSw; go_simp; try with_reducible rfl)
  try simp only [Act.put, List.setIfInBounds_toArray, List.set_cons_zero, List.set_cons_succ, List.getElem_toArray, List.getElem_cons_succ, List.getElem_cons_zero]
  refine wpAnyH_done (by kernel_rfl) ?_ _
  go_wp2
  go_ret
  exact ⟨ret_i Hr.out, HG.out⟩
end Go.Proofs.YtnpnafidhcnkhaaGreatDoor
namespace Go.Proofs.YtnpnafidhcnkhaaGreatDoor
open Go.RowKit
theorem info_insL : (Tryz.prog.info? 29).map (·.size) = some 5 := by kernel_rfl
/-- an instruction of a word: its parts -/
def OfF (W : World) (x : Int) (e : Ending) (w' : World) : Prop :=
  ∃ t : Bool, e = .returned (.tuple #[.agg #[.int .i64 (opW x), .int .i64 (if opW x = 0 then 0 else x / 65536 % 256), .int .i64 (if opW x = 0 then 0 else x / 256 % 256), .int .i64 (if opW x = 0 then 0 else x % 256), .int .u32 0], .bool t]) ∧ W.grownBy w' none
theorem of_full (x : Int) (W : World) (h : 0 ≤ x ∧ x < 4294967296) : Calls Tryz.prog 73 #[.int .u32 x, .int .u32 0] W (OfF W x) := by
  unfold OfF opW
  by_cases hi : insB (x / 16777216) (x / 65536 % 256) (x / 256 % 256) (x % 256) 0 = true
  · have h0 : x / 16777216 ≠ 0 := by
      intro h0
      rw [h0] at hi
      revert hi
      unfold insB
      simp [clsI]
    rw [if_pos hi, if_neg h0, if_neg h0, if_neg h0]
    refine (of_yes x 0 W h.1 h.2 (by rw [wantImm_zero]; exact hi)).mono ?_
    rintro e w' ⟨rfl, hb⟩
    exact ⟨_, by rw [wantImm_zero], below_is_grown hb⟩
  · rw [if_neg hi]
    refine (of_no x 0 W h.1 h.2 (by rw [wantImm_zero]; simpa using hi)).mono ?_
    rintro e w' ⟨rfl, hb⟩
    exact ⟨_, rfl, below_is_grown hb⟩
set_option maxRecDepth 100000 in
set_option maxHeartbeats 4000000 in
theorem long_any (W : World) (x : Int) (h : 0 ≤ x ∧ x < 4294967296) :
    Calls Tryz.prog 54 #[.int .u32 x] W fun e w' => e = .returned (.int .u32 (lgW x)) ∧ W.grownBy w' none := by
  have HO := hid (of_full x W h)
  obtain ⟨A, hA⟩ : ∃ A : Int, (if opW x = 0 then 0 else x / 65536 % 256) = A := ⟨_, rfl⟩
  obtain ⟨B, hB⟩ : ∃ A : Int, (if opW x = 0 then 0 else x / 256 % 256) = A := ⟨_, rfl⟩
  obtain ⟨C, hC⟩ : ∃ A : Int, (if opW x = 0 then 0 else x % 256) = A := ⟨_, rfl⟩
  obtain ⟨o, ho⟩ : ∃ o, opW x = o := ⟨_, rfl⟩
  have Hr : Hid (lgW x = wordV (if o = 16 then 19 else if o = 17 then 20 else if o = 18 then 21 else o) A B 0 0) := hid (by rw [← hA, ← hB, ← ho]; rfl)
  unfold OfF at HO
  rw [hA, hB, hC, ho] at HO
  clear hA hB hC ho h
  go_enter Tryz.func54, Tryz.ntmps54
  go_upto_region 1 with (fail)
  go_wp2_with fail
  refine HO.out.mono ?_
  rintro e w2 ⟨t, rfl, hg⟩
  have Hzi := zero_ins9
  have HI := hid (RwAt.new w2 29 #[.int .i64 o, .int .i64 A, .int .i64 B, .int .i64 C, .int .u32 0])
  have HX := hid hg.size
  have HG := hid (grown_trans hg (World.grownBy_alloc w2 (.cells #[.int .i64 o, .int .i64 A, .int .i64 B, .int .i64 C, .int .u32 0] 29) none))
  clear hg HO
  go_upto_region 2 with (fail)
  obtain ⟨X, hX⟩ : ∃ X, w2.heap.size = X := ⟨_, rfl⟩
  rw [hX] at HI HX ⊢
  clear hX Hzi
  generalize w2.alloc (.cells #[.int .i64 o, .int .i64 A, .int .i64 B, .int .i64 C, .int .u32 0] 29) = w3 at HI HG ⊢
  have k0 := HI.out.cell 0 (v := .int .i64 o) rfl
  have k3 := HI.out.cell 3 (v := .int .i64 C) rfl
  have z0 := HI.out.free 0
  have z3 := HI.out.free 3
  by_cases h16 : o = 16
  · have Hr2 : Hid (lgW x = wordV 19 A B 0 0) := hid (by rw [Hr.out, if_pos h16])
    subst h16
    clear Hr
    have HW := hid (fun W => word_any 19 A B 0 0 W)
    have E := hid ((HI.out.set 0 (.int .i64 19)).set 3 (.int .i64 0))
    have EG : Hid (W.grownBy ((w3.setCell ⟨X, 0, none⟩ (.int .i64 19)).setCell ⟨X, 3, none⟩ (.int .i64 0)) none) := hid (grown_new' (grown_trans (grown_none HG.out) (grown_setCell (grown_setCell (grown_refl w3 _) _ _) _ _)) (fun k hk => by obtain rfl := Option.some.inj hk; exact HX.out))
    clear HI HG HX
    go_wp2_with (first
      | (refine wpList_load_rw rfl 29 _ rfl rfl E.out rfl Tryz.underlying29 info_insL ?_)
      | fail)
    refine (HW.out _).mono ?_
    rintro e w4 ⟨rfl, hb⟩
    have HG4 := hid (grown_trans EG.out (below_is_grown hb))
    clear hb EG E
    go_wp2
    go_ret
    exact ⟨ret_i Hr2.out.symm, HG4.out⟩
  · have hb16 : (o == 16) = false := by simpa using h16
    by_cases h17 : o = 17
    · have Hr2 : Hid (lgW x = wordV 20 A B 0 0) := hid (by rw [Hr.out, if_neg h16, if_pos h17])
      subst h17
      clear Hr
      have HW := hid (fun W => word_any 20 A B 0 0 W)
      have E := hid ((HI.out.set 0 (.int .i64 20)).set 3 (.int .i64 0))
      have EG : Hid (W.grownBy ((w3.setCell ⟨X, 0, none⟩ (.int .i64 20)).setCell ⟨X, 3, none⟩ (.int .i64 0)) none) := hid (grown_new' (grown_trans (grown_none HG.out) (grown_setCell (grown_setCell (grown_refl w3 _) _ _) _ _)) (fun k hk => by obtain rfl := Option.some.inj hk; exact HX.out))
      clear HI HG HX
      go_wp2_with (first
        | (refine wpList_load_rw rfl 29 _ rfl rfl E.out rfl Tryz.underlying29 info_insL ?_)
        | fail)
      refine (HW.out _).mono ?_
      rintro e w4 ⟨rfl, hb⟩
      have HG4 := hid (grown_trans EG.out (below_is_grown hb))
      clear hb EG E
      go_wp2
      go_ret
      exact ⟨ret_i Hr2.out.symm, HG4.out⟩
    · have hb17 : (o == 17) = false := by simpa using h17
      by_cases h18 : o = 18
      · have Hr2 : Hid (lgW x = wordV 21 A B 0 0) := hid (by rw [Hr.out, if_neg h16, if_neg h17, if_pos h18])
        subst h18
        clear Hr
        have HW := hid (fun W => word_any 21 A B 0 0 W)
        have E := hid ((HI.out.set 0 (.int .i64 21)).set 3 (.int .i64 0))
        have EG : Hid (W.grownBy ((w3.setCell ⟨X, 0, none⟩ (.int .i64 21)).setCell ⟨X, 3, none⟩ (.int .i64 0)) none) := hid (grown_new' (grown_trans (grown_none HG.out) (grown_setCell (grown_setCell (grown_refl w3 _) _ _) _ _)) (fun k hk => by obtain rfl := Option.some.inj hk; exact HX.out))
        clear HI HG HX
        go_wp2_with (first
          | (refine wpList_load_rw rfl 29 _ rfl rfl E.out rfl Tryz.underlying29 info_insL ?_)
          | fail)
        refine (HW.out _).mono ?_
        rintro e w4 ⟨rfl, hb⟩
        have HG4 := hid (grown_trans EG.out (below_is_grown hb))
        clear hb EG E
        go_wp2
        go_ret
        exact ⟨ret_i Hr2.out.symm, HG4.out⟩
      · have hb18 : (o == 18) = false := by simpa using h18
        have Hr2 : Hid (lgW x = wordV o A B 0 0) := hid (by rw [Hr.out, if_neg h16, if_neg h17, if_neg h18])
        clear h16 h17 h18 Hr
        have HW := hid (fun W => word_any o A B 0 0 W)
        have E := hid (HI.out.set 3 (.int .i64 0))
        have EG : Hid (W.grownBy (w3.setCell ⟨X, 3, none⟩ (.int .i64 0)) none) := hid (grown_new' (grown_trans (grown_none HG.out) (grown_setCell (grown_refl w3 _) _ _)) (fun k hk => by obtain rfl := Option.some.inj hk; exact HX.out))
        clear HI HG HX
        go_wp2_with (first
          | (refine wpList_load_rw rfl 29 _ rfl rfl E.out rfl Tryz.underlying29 info_insL ?_)
          | fail)
        refine (HW.out _).mono ?_
        rintro e w4 ⟨rfl, hb⟩
        have HG4 := hid (grown_trans EG.out (below_is_grown hb))
        clear hb EG E
        go_wp2
        go_ret
        exact ⟨ret_i Hr2.out.symm, HG4.out⟩
end Go.Proofs.YtnpnafidhcnkhaaGreatDoor
namespace Go.Proofs.YtnpnafidhcnkhaaGreatDoor
open Go.RowKit
/-- m elements of so many cells, in a slice that may be nil -/
def SrcOf (w : World) (x : Value) (m size : Nat) (news : List Value) : Prop :=
  news.length = m * size ∧ (∀ u ∈ news, u.oneCell' = true) ∧
  ((∃ a c, x = .slice (some a) m c ∧ ∀ j u, news[j]? = some u → w.cell? (a.add j) = some u) ∨ (∃ c, x = .slice none 0 c ∧ m = 0))
theorem run_append_nil {w : World} (base : Nat) (t ty e : TypeId) (i : TypeInfo) (size : Nat) (ht : Tryz.prog.underlying t = some (.slice e)) (hi : Tryz.prog.info? e = some i)
    (v : Value) (n : Nat) (xs : List Value) (c : Nat) (hown : w.ownsRow base e size v n xs) :
    (Builtin.append_ #[t, t] ty #[v, .slice none 0 c]).run Tryz.prog w = .ok v w := by
  rcases hown.2 with ⟨rfl, rfl⟩ | ⟨g, cap, cur, rfl, _, _, hnc, _⟩
  · simp [Builtin.append_, run_underlying ht, sizeOf, typeInfo, hi, Builtin.lenOf, Builtin.firstCells]
  · simp [Builtin.append_, run_underlying ht, sizeOf, typeInfo, hi, Builtin.lenOf, Builtin.firstCells, hnc, storeCells]
theorem run_append_any {w : World} (t ty : TypeId) (base : Nat) (e : TypeId) (i : TypeInfo) (z : Value) (size bytes : Nat) (ht : Tryz.prog.underlying t = some (.slice e)) (hi : Tryz.prog.info? e = some i) (hz : i.zero = some z)
    (hsize : i.size = size) (hby : i.bytes = bytes) (hzs : z.cells.size = size) (hsz : 0 < size)
    (v : Value) (n : Nat) (xs : List Value) (hown : w.ownsRow base e size v n xs) (x : Value) (m : Nat) (news : List Value) (hs : SrcOf w x m size news)
    (h63 : n + m ≤ maxLen) (hbytes : (n + m) * bytes ≤ 140737488355328) (hbase : base ≤ w.heap.size) :
    ∃ v' w', (Builtin.append_ #[t, t] ty #[v, x]).run Tryz.prog w = .ok v' w' ∧ w'.ownsRow base e size v' (n + m) (xs ++ news) ∧ w.grownBy w' v.ownBlock ∧ (v'.ownBlock = v.ownBlock ∨ v'.ownBlock = some w.heap.size) := by
  obtain ⟨hl, h1, ⟨a, c, rfl, hc⟩ | ⟨c, rfl, rfl⟩⟩ := hs
  · obtain ⟨v', w', hr, h2, h3, _, h5⟩ := run_append_own_at (P := Tryz.prog) (w := w) base t ty e i z size bytes ht hi hz hsize hby hzs hsz v n xs hown a m c news hl hc h1 h63 hbytes hbase
    exact ⟨v', w', hr, h2, h3, h5⟩
  · have hn : news = [] := List.length_eq_zero_iff.1 (by rw [hl, Nat.zero_mul])
    subst hn
    refine ⟨v, w, run_append_nil base t ty e i size ht hi v n xs c hown, ?_, ⟨rfl, rfl, rfl, Nat.le_refl _, fun _ _ _ => rfl⟩, .inl rfl⟩
    rw [List.append_nil, Nat.add_zero]
    exact hown
theorem wp_append_any {w : World} {o : Oper} {a : Act} {K : Act → World → Prop} {Q : Exit → Act → World → Prop} (s x : Operand) (t : TypeId)
    (ho : o.op = .call { callee := .builtin .append, args := #[s, x], argTypes := #[t, t] })
    (base : Nat) (e : TypeId) (i : TypeInfo) (z : Value) (size bytes : Nat) (ht : Tryz.prog.underlying t = some (.slice e)) (hi : Tryz.prog.info? e = some i) (hz : i.zero = some z)
    (hsize : i.size = size) (hby : i.bytes = bytes) (hzs : z.cells.size = size) (hsz : 0 < size)
    (v : Value) (n : Nat) (xs : List Value) (hs : a.eval s = v) (hown : w.ownsRow base e size v n xs)
    (y : Value) (m : Nat) (news : List Value) (hx : a.eval x = y) (hsrc : SrcOf w y m size news)
    (h63 : n + m ≤ maxLen) (hbytes : (n + m) * bytes ≤ 140737488355328) (hbase : base ≤ w.heap.size)
    (h : ∀ v' w', w'.ownsRow base e size v' (n + m) (xs ++ news) → w.grownBy w' v.ownBlock → (v'.ownBlock = v.ownBlock ∨ v'.ownBlock = some w.heap.size) → K (a.put o.dst v') w') : o.wp Tryz.prog a w K Q := by
  obtain ⟨v', w', hr, h2, h3, h4⟩ := run_append_any (w := w) t o.type base e i z size bytes ht hi hz hsize hby hzs hsz v n xs hown y m news hsrc h63 hbytes hbase
  unfold Oper.wp execOp
  simp only [ho, resolve, invoke, builtin, Sem.run_bind, Sem.run_pure, Result.andThen_ok, List.map_toArray, List.map_cons, List.map_nil, hs, hx, hr]
  exact h v' w' h2 h3 h4
theorem wpList_append_any {w : World} {ops : Array Oper} {rest : List Oper} {o : Oper} {a : Act} {Q : Exit → Act → World → Prop} (hgd : o.guard = none) (s x : Operand) (t : TypeId)
    (ho : o.op = .call { callee := .builtin .append, args := #[s, x], argTypes := #[t, t] })
    (base : Nat) (e : TypeId) (i : TypeInfo) (z : Value) (size bytes : Nat) (ht : Tryz.prog.underlying t = some (.slice e)) (hi : Tryz.prog.info? e = some i) (hz : i.zero = some z)
    (hsize : i.size = size) (hby : i.bytes = bytes) (hzs : z.cells.size = size) (hsz : 0 < size)
    (v : Value) (n : Nat) (xs : List Value) (hs : a.eval s = v) (hown : w.ownsRow base e size v n xs)
    (y : Value) (m : Nat) (news : List Value) (hx : a.eval x = y) (hsrc : SrcOf w y m size news)
    (h63 : n + m ≤ maxLen) (hbytes : (n + m) * bytes ≤ 140737488355328) (hbase : base ≤ w.heap.size)
    (h : ∀ v' w', w'.ownsRow base e size v' (n + m) (xs ++ news) → w.grownBy w' v.ownBlock → (v'.ownBlock = v.ownBlock ∨ v'.ownBlock = some w.heap.size) → wpList Tryz.prog ops Q rest (a.put o.dst v') w') : wpList Tryz.prog ops Q (o :: rest) a w :=
  wpList_plain hgd fun _ hK => wp_append_any s x t ho base e i z size bytes ht hi hz hsize hby hzs hsz v n xs hs hown y m news hx hsrc h63 hbytes hbase fun v' w' h2 h3 h4 => hK _ _ (h v' w' h2 h3 h4)
theorem SlAt.src {w : World} {k : IntKind} {v : Value} {xs : List Int} (h : SlAt w k v xs) : SrcOf w v xs.length 1 (xs.map (Value.int k)) := by
  refine ⟨by simp, fun u hu => ?_, ?_⟩
  · obtain ⟨_, _, rfl⟩ := List.mem_map.1 hu; rfl
  · rcases h with ⟨⟨p, c, rfl⟩, rfl⟩ | ⟨b, o, c, rfl, _, hc⟩
    · cases p with
      | none => exact .inr ⟨c, rfl, rfl⟩
      | some a => exact .inl ⟨a, c, rfl, fun j u hj => by simp at hj⟩
    · refine .inl ⟨_, c, rfl, fun j u hj => ?_⟩
      rw [List.getElem?_map] at hj
      cases hx : xs[j]? with
      | none => rw [hx] at hj; cases hj
      | some y => rw [hx] at hj; cases hj; rw [Addr.add_mid]; exact hc j y hx
theorem own_src {w : World} {base : Nat} {e : TypeId} {size : Nat} {v : Value} {n : Nat} {xs : List Value} (h : w.ownsRow base e size v n xs) (h1 : ∀ u ∈ xs, u.oneCell' = true) : SrcOf w v n size xs := by
  refine ⟨h.1, h1, ?_⟩
  rcases h.2 with ⟨rfl, rfl⟩ | ⟨g, cap, cur, rfl, _⟩
  · exact .inr ⟨0, rfl, rfl⟩
  · exact .inl ⟨⟨g, 0, none⟩, cap, rfl, h.cells rfl⟩
theorem SrcOf.kept0 {w w1 : World} {x : Value} {m size : Nat} {news : List Value} (h : SrcOf w x m size news) (hg : w.grownBy w1 none) (hb : ∀ b, x.ownBlock = some b → b < w.heap.size) : SrcOf w1 x m size news := by
  obtain ⟨hl, h1, ⟨a, c, rfl, hc⟩ | h2⟩ := h
  · exact ⟨hl, h1, .inl ⟨a, c, rfl, fun j u hj => (grown_cell hg (by have := hb a.block rfl; unfold Addr.add; split <;> exact this) (by simp)).trans (hc j u hj)⟩⟩
  · exact ⟨hl, h1, .inr h2⟩
end Go.Proofs.YtnpnafidhcnkhaaGreatDoor
namespace Go.Proofs.YtnpnafidhcnkhaaGreatDoor
open Go.RowKit
/-- a row: the slice, its elements' type and cells, how many, and what they are -/
structure Ro where
  v : Value
  e : TypeId
  z : Nat
  n : Nat
  xs : List Value
structure RosAt (w : World) (base H : Nat) (t : TypeId) (L : List Ro) : Prop where
  row : RwAt w H t (L.map (·.v)).toArray
  own : ∀ r ∈ L, w.ownsRow base r.e r.z r.v r.n r.xs
  neH : ∀ r ∈ L, r.v.ownBlock ≠ some H
  ap : ∀ (i j : Nat) (a b : Ro), i ≠ j → L[i]? = some a → L[j]? = some b → ∀ g, a.v.ownBlock = some g → b.v.ownBlock ≠ some g
  ge : base ≤ H
theorem RosAt.at_ {w : World} {base H k : Nat} {t : TypeId} {L : List Ro} {r : Ro} (h : RosAt w base H t L) (hk : L[k]? = some r) : w.ownsRow base r.e r.z r.v r.n r.xs := h.own r (List.mem_of_getElem? hk)
theorem RosAt.kept0 {w w1 : World} {base H : Nat} {t : TypeId} {L : List Ro} (h : RosAt w base H t L) (hg : w.grownBy w1 none) : RosAt w1 base H t L :=
  ⟨h.row.kept0 hg, fun r hr => (h.own r hr).kept hg (by cases r.v.ownBlock <;> simp), h.neH, h.ap, h.ge⟩
theorem RosAt.size {w : World} {base H : Nat} {t : TypeId} {L : List Ro} (h : RosAt w base H t L) : base ≤ w.heap.size := Nat.le_trans h.ge (Nat.le_of_lt h.row.lt)
/-- a row has grown, and its field is written -/
theorem RosAt.step {w w1 : World} {base H k n' : Nat} {t : TypeId} {L : List Ro} {r : Ro} {v' : Value} {xs' : List Value} (h : RosAt w base H t L) (hk : L[k]? = some r) (ho : w1.ownsRow base r.e r.z v' n' xs') (hg : w.grownBy w1 r.v.ownBlock) (hat : v'.ownBlock = r.v.ownBlock ∨ v'.ownBlock = some w.heap.size) :
    RosAt (w1.setCell ⟨H, k, none⟩ v') base H t (L.set k ⟨v', r.e, r.z, n', xs'⟩) := by
  have hkl := (List.getElem?_eq_some_iff.1 hk).1
  have hH := h.row.lt
  have hv' : v'.ownBlock ≠ some H := by
    rcases hat with e | e
    · rw [e]; exact h.neH r (List.mem_of_getElem? hk)
    · rw [e]; intro e2; have := Option.some.inj e2; omega
  have hlt : ∀ (i : Nat) (a : Ro) (g : Nat), L[i]? = some a → a.v.ownBlock = some g → g < w.heap.size := fun i a g hi hg => ((h.at_ hi).lt g hg).2
  have hrow : RwAt w1 H t (L.map (·.v)).toArray := h.row.kept hg (Ne.symm (h.neH r (List.mem_of_getElem? hk)))
  refine ⟨?_, ?_, ?_, ?_, h.ge⟩
  · have := hrow.set k v'
    have e : (L.set k ⟨v', r.e, r.z, n', xs'⟩).map (·.v) = (L.map (·.v)).set k v' := by rw [List.map_set]
    rw [e]
    simpa using this
  · intro a ha
    obtain ⟨i, hi⟩ := List.getElem?_of_mem ha
    by_cases hik : k = i
    · subst hik
      rw [List.getElem?_set_self hkl] at hi
      cases hi
      exact (ho.kept (grown_setCell (grown_refl w1 (some H)) k v') (.inr hv'))
    · rw [List.getElem?_set_ne hik] at hi
      have h1 := h.at_ hi
      have h2 : w1.ownsRow base a.e a.z a.v a.n a.xs := h1.kept hg (by
        cases ha : a.v.ownBlock with
        | none => exact .inl rfl
        | some g => exact .inr (fun e => h.ap i k a r (Ne.symm hik) hi hk g ha e.symm))
      exact h2.kept (grown_setCell (grown_refl w1 (some H)) k v') (.inr (h.neH a (List.mem_of_getElem? hi)))
  · intro a ha
    rcases List.mem_or_eq_of_mem_set ha with h1 | rfl
    · exact h.neH a h1
    · exact hv'
  · intro i j a b hij ha hb g hga
    by_cases hik : k = i
    · subst hik
      rw [List.getElem?_set_self hkl] at ha
      cases ha
      rw [List.getElem?_set_ne hij] at hb
      rcases hat with e | e
      · exact h.ap k j r b hij hk hb g (e ▸ hga)
      · intro hbg
        have h1 := hlt j b g hb hbg
        have : v'.ownBlock = some g := hga
        rw [e] at this
        have := Option.some.inj this
        omega
    · rw [List.getElem?_set_ne hik] at ha
      by_cases hjk : k = j
      · subst hjk
        rw [List.getElem?_set_self hkl] at hb
        cases hb
        rcases hat with e | e
        · show v'.ownBlock ≠ some g
          rw [e]; exact h.ap i k a r hij ha hk g hga
        · show v'.ownBlock ≠ some g
          have h1 := hlt i a g ha hga
          rw [e]; intro e2
          have := Option.some.inj e2
          omega
      · rw [List.getElem?_set_ne hjk] at hb
        exact h.ap i j a b hij ha hb g hga
theorem RosAt.grown {w w1 : World} {base H k : Nat} {t : TypeId} {L : List Ro} {r : Ro} {v' : Value} {W : World} (h : RosAt w base H t L) (hW : W.grownBy w none) (hb : W.heap.size ≤ base) (hk : L[k]? = some r) (hg : w.grownBy w1 r.v.ownBlock) : W.grownBy (w1.setCell ⟨H, k, none⟩ v') none := by
  have h1 : W.grownBy w1 none := grown_new' (grown_trans (grown_none hW) hg) (fun g e => by have := ((h.at_ hk).lt g e).1; omega)
  exact grown_new' (grown_trans (grown_none h1) (grown_setCell (grown_refl w1 (some H)) k v')) (fun g e => by have := Option.some.inj e; have := h.ge; omega)
end Go.Proofs.YtnpnafidhcnkhaaGreatDoor
namespace Go.Proofs.YtnpnafidhcnkhaaGreatDoor
open Go.RowKit
theorem own_some {w : World} {base z n : Nat} {e : TypeId} {v : Value} {xs : List Value} (h : w.ownsRow base e z v n xs) (hn : 0 < n) : ∃ g c, v = .slice (some ⟨g, 0, none⟩) n c := by
  rcases h.2 with ⟨rfl, rfl⟩ | ⟨g, cap, cur, rfl, _⟩
  · exact absurd hn (by omega)
  · exact ⟨g, cap, rfl⟩
/-- the struct lies in block H: plain fields, then the rows L; the rows R beside it are only read; all is newer than the world w0 -/
structure RosB (w0 w : World) (base H : Nat) (t : TypeId) (pre : List Value) (L R : List Ro) : Prop where
  g : w0.grownBy w none
  lt : w0.heap.size ≤ base
  ge : base ≤ H
  row : RwAt w H t (pre ++ L.map (·.v)).toArray
  own : ∀ r ∈ L, w.ownsRow base r.e r.z r.v r.n r.xs
  neH : ∀ r ∈ L, r.v.ownBlock ≠ some H
  ap : ∀ (i j : Nat) (a b : Ro), i ≠ j → L[i]? = some a → L[j]? = some b → ∀ g, a.v.ownBlock = some g → b.v.ownBlock ≠ some g
  rd : ∀ r ∈ R, w.ownsRow base r.e r.z r.v r.n r.xs
  rH : ∀ r ∈ R, r.v.ownBlock ≠ some H
  ra : ∀ r ∈ R, ∀ a ∈ L, ∀ g, a.v.ownBlock = some g → r.v.ownBlock ≠ some g
section
variable {w0 w w1 : World} {base H k n' : Nat} {t : TypeId} {pre : List Value} {L R : List Ro} {r : Ro} {v' : Value} {xs' : List Value}
theorem RosB.at_ (h : RosB w0 w base H t pre L R) (hk : L[k]? = some r) : w.ownsRow base r.e r.z r.v r.n r.xs := h.own r (List.mem_of_getElem? hk)
theorem RosB.kept0 (h : RosB w0 w base H t pre L R) (hg : w.grownBy w1 none) : RosB w0 w1 base H t pre L R :=
  ⟨grown_trans h.g hg, h.lt, h.ge, h.row.kept0 hg, fun r hr => (h.own r hr).kept hg (by cases r.v.ownBlock <;> simp), h.neH, h.ap, fun r hr => (h.rd r hr).kept hg (by cases r.v.ownBlock <;> simp), h.rH, h.ra⟩
theorem RosB.size (h : RosB w0 w base H t pre L R) : base ≤ w.heap.size := Nat.le_trans h.ge (Nat.le_of_lt h.row.lt)
/-- a row is another one now, of the same block or of a new one -/
theorem RosB.put (h : RosB w0 w base H t pre L R) (hk : L[k]? = some r) (ho : w1.ownsRow base r.e r.z v' n' xs') (hg : w.grownBy w1 r.v.ownBlock) (hat : v'.ownBlock = r.v.ownBlock ∨ v'.ownBlock = some w.heap.size) :
    w0.grownBy w1 none ∧ RwAt w1 H t (pre ++ L.map (·.v)).toArray ∧ (∀ a ∈ L.set k ⟨v', r.e, r.z, n', xs'⟩, w1.ownsRow base a.e a.z a.v a.n a.xs) ∧ (∀ a ∈ L.set k ⟨v', r.e, r.z, n', xs'⟩, a.v.ownBlock ≠ some H) ∧
    (∀ (i j : Nat) (a b : Ro), i ≠ j → (L.set k ⟨v', r.e, r.z, n', xs'⟩)[i]? = some a → (L.set k ⟨v', r.e, r.z, n', xs'⟩)[j]? = some b → ∀ g, a.v.ownBlock = some g → b.v.ownBlock ≠ some g) ∧
    (∀ a ∈ R, w1.ownsRow base a.e a.z a.v a.n a.xs) ∧ (∀ r' ∈ R, ∀ a ∈ L.set k ⟨v', r.e, r.z, n', xs'⟩, ∀ g, a.v.ownBlock = some g → r'.v.ownBlock ≠ some g) := by
  have hkl := (List.getElem?_eq_some_iff.1 hk).1
  have hkm := List.mem_of_getElem? hk
  have hH := h.row.lt
  have hv' : v'.ownBlock ≠ some H := by
    rcases hat with e | e
    · rw [e]; exact h.neH r hkm
    · rw [e]; intro e2; have := Option.some.inj e2; omega
  have hlt : ∀ (i : Nat) (a : Ro) (g : Nat), L[i]? = some a → a.v.ownBlock = some g → g < w.heap.size := fun i a g hi hg => ((h.at_ hi).lt g hg).2
  refine ⟨?_, h.row.kept hg (Ne.symm (h.neH r hkm)), ?_, ?_, ?_, ?_, ?_⟩
  · exact grown_new' (grown_trans (grown_none h.g) hg) (fun g e => by have := ((h.at_ hk).lt g e).1; have := h.lt; omega)
  · intro a ha
    obtain ⟨i, hi⟩ := List.getElem?_of_mem ha
    by_cases hik : k = i
    · subst hik
      rw [List.getElem?_set_self hkl] at hi
      cases hi
      exact ho
    · rw [List.getElem?_set_ne hik] at hi
      refine (h.at_ hi).kept hg ?_
      cases ha : a.v.ownBlock with
      | none => exact .inl rfl
      | some g => exact .inr (fun e => h.ap i k a r (Ne.symm hik) hi hk g ha e.symm)
  · intro a ha
    rcases List.mem_or_eq_of_mem_set ha with h1 | rfl
    · exact h.neH a h1
    · exact hv'
  · intro i j a b hij ha hb g hga
    by_cases hik : k = i
    · subst hik
      rw [List.getElem?_set_self hkl] at ha
      cases ha
      rw [List.getElem?_set_ne hij] at hb
      rcases hat with e | e
      · exact h.ap k j r b hij hk hb g (e ▸ hga)
      · intro hbg
        have h1 := hlt j b g hb hbg
        have : v'.ownBlock = some g := hga
        rw [e] at this
        have := Option.some.inj this
        omega
    · rw [List.getElem?_set_ne hik] at ha
      by_cases hjk : k = j
      · subst hjk
        rw [List.getElem?_set_self hkl] at hb
        cases hb
        rcases hat with e | e
        · show v'.ownBlock ≠ some g
          rw [e]; exact h.ap i k a r hij ha hk g hga
        · show v'.ownBlock ≠ some g
          have h1 := hlt i a g ha hga
          rw [e]; intro e2
          have := Option.some.inj e2
          omega
      · rw [List.getElem?_set_ne hjk] at hb
        exact h.ap i j a b hij ha hb g hga
  · intro a ha
    refine (h.rd a ha).kept hg ?_
    cases hr : r.v.ownBlock with
    | none => cases a.v.ownBlock <;> simp
    | some g => exact .inr (fun e => h.ra a ha r hkm g hr e)
  · intro r' hr' a ha g hga
    rcases List.mem_or_eq_of_mem_set ha with h1 | rfl
    · exact h.ra r' hr' a h1 g hga
    · rcases hat with e | e
      · exact h.ra r' hr' r hkm g (e ▸ hga)
      · have hga' : v'.ownBlock = some g := hga
        rw [e] at hga'
        obtain rfl := Option.some.inj hga'
        intro e2
        have := ((h.rd r' hr').lt _ e2).2
        omega
/-- a row has grown, and its field is written -/
theorem RosB.step (h : RosB w0 w base H t pre L R) (hk : L[k]? = some r) (ho : w1.ownsRow base r.e r.z v' n' xs') (hg : w.grownBy w1 r.v.ownBlock) (hat : v'.ownBlock = r.v.ownBlock ∨ v'.ownBlock = some w.heap.size) :
    RosB w0 (w1.setCell ⟨H, pre.length + k, none⟩ v') base H t pre (L.set k ⟨v', r.e, r.z, n', xs'⟩) R := by
  obtain ⟨a1, a2, a3, a4, a5, a6, a7⟩ := h.put hk ho hg hat
  have hs : w1.grownBy (w1.setCell ⟨H, pre.length + k, none⟩ v') (some H) := grown_setCell (grown_refl w1 (some H)) _ v'
  refine ⟨grown_new' (grown_trans (grown_none a1) hs) (fun g e => by have := Option.some.inj e; have := h.ge; have := h.lt; omega), h.lt, h.ge, ?_, ?_, a4, a5, ?_, h.rH, a7⟩
  · have := a2.set (pre.length + k) v'
    have e : pre ++ (L.set k ⟨v', r.e, r.z, n', xs'⟩).map (·.v) = (pre ++ L.map (·.v)).set (pre.length + k) v' := by
      rw [List.map_set, List.set_append_right _ _ (by omega), Nat.add_sub_cancel_left]
    rw [e]
    simpa using this
  · exact fun a ha => (a3 a ha).kept hs (.inr (a4 a ha))
  · exact fun a ha => (a6 a ha).kept hs (.inr (h.rH a ha))
/-- a cell of a row is written -/
theorem RosB.store {g cap n : Nat} {e : TypeId} {z : Nat} {xs : List Value} (h : RosB w0 w base H t pre L R) (hk : L[k]? = some ⟨.slice (some ⟨g, 0, none⟩) n cap, e, z, n, xs⟩) (j : Nat) (u : Value) :
    RosB w0 (w.setCell ⟨g, j, none⟩ u) base H t pre (L.set k ⟨.slice (some ⟨g, 0, none⟩) n cap, e, z, n, xs.set j u⟩) R := by
  have hs := (h.at_ hk).stored j u
  obtain ⟨a1, a2, a3, a4, a5, a6, a7⟩ := h.put (v' := .slice (some ⟨g, 0, none⟩) n cap) hk hs.1 hs.2 (.inl rfl)
  refine ⟨a1, h.lt, h.ge, ?_, a3, a4, a5, a6, h.rH, a7⟩
  have e1 : (L.set k (⟨.slice (some ⟨g, 0, none⟩) n cap, e, z, n, xs.set j u⟩ : Ro)).map (·.v) = L.map (·.v) := by
    apply List.ext_getElem?
    intro i
    rw [List.map_set, List.getElem?_set]
    by_cases hi : k = i
    · subst hi
      rw [if_pos rfl, List.getElem?_map, hk, List.length_map, if_pos (List.getElem?_eq_some_iff.1 hk).1]; rfl
    · rw [if_neg hi]
  rw [e1]; exact a2
theorem RosB.drop (h : RosB w0 w base H t pre L R) {R' : List Ro} (hs : ∀ r ∈ R', r ∈ R) : RosB w0 w base H t pre L R' :=
  { h with rd := fun r hr => h.rd r (hs r hr), rH := fun r hr => h.rH r (hs r hr), ra := fun r hr => h.ra r (hs r hr) }
/-- a box more beside it -/
theorem RosB.box (h : RosB w0 w base H t pre L R) (cs : Array Value) (T : TypeId) (n sz : Nat) (hn : n ≤ maxLen) (hz : cs.size = n * sz) :
    RosB w0 (w.alloc (.cells cs T)) base H t pre L (⟨.slice (some ⟨w.heap.size, 0, none⟩) n n, T, sz, n, cs.toList⟩ :: R) := by
  have al := World.grownBy_alloc w (.cells cs T) none
  have h1 := h.kept0 al
  refine { h1 with rd := fun r hr => ?_, rH := fun r hr => ?_, ra := fun r hr a ha g hg => ?_ }
  · rcases List.mem_cons.1 hr with rfl | hr
    · exact World.ownsRow_lit w cs n h.size hn hz
    · exact h1.rd r hr
  · rcases List.mem_cons.1 hr with rfl | hr
    · intro e; have e1 : w.heap.size = H := Option.some.inj e; have := h.row.lt; omega
    · exact h1.rH r hr
  · rcases List.mem_cons.1 hr with rfl | hr
    · intro e; have e1 : w.heap.size = g := Option.some.inj e; have := ((h.own a ha).lt g hg).2; omega
    · exact h1.ra r hr a ha g hg
theorem RosB.rdc {g cap n : Nat} {e : TypeId} {z : Nat} {xs : List Value} (h : RosB w0 w base H t pre L R) (hr : (⟨.slice (some ⟨g, 0, none⟩) n cap, e, z, n, xs⟩ : Ro) ∈ R) (j : Nat) {v : Value} (hj : xs[j]? = some v) : w.cell? ⟨g, j, none⟩ = some v := by
  have ho : w.ownsRow base e z (.slice (some ⟨g, 0, none⟩) n cap) n xs := h.rd _ hr
  have hl : xs.length = n * z := ho.1
  have hjl := (List.getElem?_eq_some_iff.1 hj).1
  rw [← hj]
  exact ho.cellAt j (by omega)
end
end Go.Proofs.YtnpnafidhcnkhaaGreatDoor

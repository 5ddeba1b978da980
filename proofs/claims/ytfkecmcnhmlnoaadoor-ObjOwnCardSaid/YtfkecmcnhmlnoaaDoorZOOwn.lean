/- The law ObjOwn: walked. (Made by goown.py.) -/
import Derived.Test.YtfkecmcnhmlnoaaDoorZOOwn0
namespace Go.Proofs.YtfkecmcnhmlnoaaDoor
open Go.RowKit
theorem zero_rl (w : World) : (zeroValue 62).run Tryd.prog w = .ok (.agg #[.int .i64 0, .int .i64 0, .int .i64 0, .int .i64 0]) w := by kernel_rfl
theorem zero_sy (w : World) : (zeroValue 32).run Tryd.prog w = .ok (.agg #[.string ⟨#[]⟩, .int .i64 0, .int .i64 0, .bool false]) w := by kernel_rfl
theorem obj_yields {o : Oper} {a : Act} {w : World} (p : Operand) (ho : o.op = .load 29 p) {g : Nat} {cs : Array Value} (hx : a.eval p = .pointer (some ⟨g, 0, none⟩)) (hr : RwAt w g 29 cs) (hs : cs.size = 6) :
    (execOp a.eval o).run Tryd.prog w = .ok (.value (.agg cs)) w :=
  run_load_row _ p ho hx hr.blk rfl Tryd.underlying29 (by rw [hs]; exact info_object)
/-- a third one, in the box G2 -/
structure OS2 (W w : World) (G0 G1 G2 : Nat) (V V1 V2 : OV) (x x1 x2 : PO) : Prop where
  below : Below W.heap.size W w
  g0 : RwAt w G0 29 #[V.d, V.c, V.m, V.r, V.q, V.s]
  g1 : RwAt w G1 29 #[V1.d, V1.c, V1.m, V1.r, V1.q, V1.s]
  g2 : RwAt w G2 29 #[V2.d, V2.c, V2.m, V2.r, V2.q, V2.s]
  o0 : OAt W V x
  p : OAt w V1 x1
  q : OAt w V2 x2
section
variable {W w w1 : World} {G0 G1 G2 : Nat} {V V1 V2 : OV} {x x1 x2 : PO}
theorem OS2.o (h : OS2 W w G0 G1 G2 V V1 V2 x x1 x2) : OAt w V x := h.o0.kept0 (below_is_grown h.below)
theorem OS2.kept0 (h : OS2 W w G0 G1 G2 V V1 V2 x x1 x2) (hg : w.grownBy w1 none) : OS2 W w1 G0 G1 G2 V V1 V2 x x1 x2 :=
  ⟨h.below.grown hg h.below.size (by simp), h.g0.kept0 hg, h.g1.kept0 hg, h.g2.kept0 hg, h.o0, h.p.kept0 hg, h.q.kept0 hg⟩
theorem OS.two (h : OS W w G0 G1 V V1 x x1) (hq : OwnO w.heap.size w1 V2 x) (hg : w.grownBy w1 none) : OS2 W (w1.alloc (.cells #[V2.d, V2.c, V2.m, V2.r, V2.q, V2.s] 29)) G0 G1 w1.heap.size V V1 V2 x x1 x := by
  have h2 := (h.kept0 hg).kept0 (World.grownBy_alloc w1 (.cells #[V2.d, V2.c, V2.m, V2.r, V2.q, V2.s] 29) none)
  exact ⟨h2.below, h2.g0, h2.g1, RwAt.new w1 _ _, h.o0, h2.own.at_, hq.at_.kept0 (World.grownBy_alloc _ _ _)⟩
theorem sl_set {B n : Nat} {t : TypeId} {v : Value} {k : IntKind} {xs : List Int} (h : w.ownsRow B t 1 v n (xs.map (Value.int k))) (hx : 0 < xs.length) : ∃ g cap, v = .slice (some ⟨g, 0, none⟩) n cap ∧ B ≤ g ∧ g < w.heap.size ∧ w.cell? ⟨g, 0, none⟩ = some (.int k (xs.getD 0 0)) ∧ w.frozen? ⟨g, 0, none⟩ = false ∧
    ∀ y, SlAt (w.setCell ⟨g, 0, none⟩ (.int k y)) k v (xs.set 0 y) := by
  have hs := SlAt.own h
  have hlen : xs.length = n := by simpa using h.1
  rcases h.2 with ⟨_, h0⟩ | ⟨g, cap, cur, rfl, hB, hblk, _, _, _, _⟩
  · omega
  · obtain ⟨b, o, c, hv, hb, hc⟩ := hs.at_ hx
    simp only [Value.slice.injEq, Option.some.injEq, Addr.mk.injEq, and_true] at hv
    obtain ⟨⟨rfl, rfl⟩, _, rfl⟩ := hv
    have hc0 := hc 0 _ (List.getElem?_eq_getElem hx)
    refine ⟨g, cap, rfl, hB, hb, ?_, frozen_of_row w g 0 _ _ hblk, fun y => .inr ⟨g, 0, cap, by simp [hlen], by simpa using hb, fun j z hz => ?_⟩⟩
    · rw [List.getD_eq_getElem?_getD, List.getElem?_eq_getElem hx]; exact hc0
    · rw [List.getElem?_set] at hz
      rw [cell_of_row _ g _ _ _ _ (heap_setCell_same w g 0 _ _ _ hblk), Array.getElem?_setIfInBounds]
      have hj := hc j
      rw [cell_of_row w g _ _ _ _ hblk] at hj
      rw [cell_of_row w g _ _ _ _ hblk] at hc0
      have hsz : 0 < cur.size := (Array.getElem?_eq_some_iff.1 hc0).1
      by_cases e : 0 = j
      · subst e
        rw [if_pos rfl, if_pos hx] at hz
        rw [if_pos (by simp), if_pos (by simpa using hsz), ← Option.some.inj hz]
      · rw [if_neg e] at hz
        rw [if_neg (by omega)]
        exact hj z hz
theorem CsAt.kept {v : Value} {n : Nat} {cs : List Value} {r : Option Nat} (h : CsAt w v n cs) (hg : w.grownBy w1 r) (hr : v.ownBlock = none ∨ v.ownBlock ≠ r) : CsAt w1 v n cs := by
  rcases h with h | ⟨b, o, c, rfl, hn, hb, hc⟩
  · exact .inl h
  · refine .inr ⟨b, o, c, rfl, hn, Nat.lt_of_lt_of_le hb hg.size, fun j x hx => ?_⟩
    rw [grown_cell hg hb (by simpa [Value.ownBlock] using hr)]
    exact hc j x hx
theorem OS.three (h : OS W w G0 G1 V V1 x x1) (hq : OwnO w.heap.size w1 V2 x) (hg : w.grownBy w1 none) (hx : 0 < x.C.length) : ∃ g cap, V2.c = .slice (some ⟨g, 0, none⟩) x.C.length cap ∧
    (w1.alloc (.cells #[V2.d, V2.c, V2.m, V2.r, V2.q, V2.s] 29)).cell? ⟨g, 0, none⟩ = some (.int .u32 (x.C.getD 0 0)) ∧ (w1.alloc (.cells #[V2.d, V2.c, V2.m, V2.r, V2.q, V2.s] 29)).frozen? ⟨g, 0, none⟩ = false ∧
    ∀ y, OS2 W ((w1.alloc (.cells #[V2.d, V2.c, V2.m, V2.r, V2.q, V2.s] 29)).setCell ⟨g, 0, none⟩ (.int .u32 y)) G0 G1 w1.heap.size V V1 V2 x x1 { x with C := x.C.set 0 y } := by
  have hal := World.grownBy_alloc w1 (.cells #[V2.d, V2.c, V2.m, V2.r, V2.q, V2.s] 29) none
  have h2 := h.two hq hg
  have hq2 := hq.kept0 hal
  obtain ⟨g, cap, hv, hB, hlt, hc, hfz, hset⟩ := sl_set hq2.c hx
  have hlt1 : g < w1.heap.size := by
    have := (hq.c.lt g (by rw [hv]; rfl)).2
    exact this
  have l0 := h.g0.lt
  have l1 := h.g1.lt
  have hs := h.below.size
  obtain ⟨a01, a02, a03, a04, a05, a12, a13, a14, a15, a23, a24, a25, a34, a35, a45⟩ := pairs hq.ap
  refine ⟨g, cap, hv, hc, hfz, fun y => ?_⟩
  have hgs : (w1.alloc (.cells #[V2.d, V2.c, V2.m, V2.r, V2.q, V2.s] 29)).grownBy ((w1.alloc (.cells #[V2.d, V2.c, V2.m, V2.r, V2.q, V2.s] 29)).setCell ⟨g, 0, none⟩ (.int .u32 y)) (some g) := grown_setCell (grown_refl _ _) _ _
  have key : ∀ {size k : Nat} {t : TypeId} {v : Value} {cs : List Value}, w.ownsRow W.heap.size t size v k cs → v.ownBlock = none ∨ v.ownBlock ≠ some g := by
    intro size k t v cs hh
    right; intro e
    have := (hh.lt _ e).2
    omega
  have hvo : V2.c.ownBlock = some g := by rw [hv]; rfl
  rw [Ap, hvo] at a01
  have b : ∀ {u : Value}, Ap V2.c u → u.ownBlock = none ∨ u.ownBlock ≠ some g := by
    intro u hu
    have := ap_sym hu
    rw [Ap, hvo] at this
    exact this
  exact ⟨h2.below.setCell (by show W.heap.size ≤ g; omega) _, h2.g0.other _ _ _ (by omega), h2.g1.other _ _ _ (by omega), h2.g2.other _ _ _ (by omega), h2.o0,
    ⟨h2.p.d.kept hgs (key h.own.d), h2.p.c.kept hgs (key h.own.c), h2.p.m.kept hgs (key h.own.m), h2.p.r.kept hgs (key h.own.r), h2.p.q.kept hgs (key h.own.q), h2.p.s.kept hgs (key h.own.s)⟩,
    ⟨h2.q.d.kept hgs a01, hset y, h2.q.m.kept hgs (b a12), h2.q.r.kept hgs (b a13), h2.q.q.kept hgs (b a14), h2.q.s.kept hgs (b a15)⟩⟩
end
theorem light_ll {x : PO} (h : LightP x 100) : Ll x := ⟨by have := h.d; omega, by have := h.c; omega, by have := h.m; omega, by have := h.r; omega, by have := h.q; omega, by have := h.s; omega⟩
set_option maxRecDepth 100000 in
set_option maxHeartbeats 8000000 in
theorem own_walk (V : OV) (x : PO) (a : Int) (W : World) (A : Nat → Addr) (hS : ErrC W A) (h : OAt W V x) (hf : OFit x) (ha0 : -9223372036854775808 ≤ a) (ha1 : a ≤ 9223372036854775807) :
    Calls Tryd.prog 7 #[V.agg, .int .i64 a] W fun e W' => e = .returned (.bool true) ∧ Below W.heap.size W W' := by
  obtain ⟨d, c, m, r, q, s⟩ := V
  obtain ⟨pc0, cc0, hc0⟩ := h.c.len'
  obtain rfl : c = _ := hc0
  have HB := hid (Bo.new h)
  have HS := hid (hS.kept0 (World.grownBy_alloc W (.cells #[d, .slice pc0 x.C.length cc0, m, r, q, s] 29) none))
  have HF := hid hf
  have H0 := hid h
  obtain ⟨K, hK⟩ : ∃ K, numB a 6 = K := ⟨_, rfl⟩
  have hK6 : K < 6 := by rw [← hK]; exact numB_lt a (by omega)
  have HKn := hid hK
  have HK6 := hid hK6
  have Ha := hid (And.intro ha0 ha1)
  clear h hf hS hK ha0 ha1 hK6
  go_enter Tryd.func7, Tryd.ntmps7
  go_upto_region 1 with (fail)
  obtain ⟨G0, hG⟩ : ∃ G, W.heap.size = G := ⟨_, rfl⟩
  rw [hG] at HB ⊢
  have HGW := hid hG
  clear hG
  generalize W.alloc (.cells #[d, .slice pc0 x.C.length cc0, m, r, q, s] 29) = w1 at HB HS ⊢
  go_wp2_with fail
  refine (first9_any HS.out).mono ?_
  rintro e w2 ⟨rfl, hg⟩
  have HB2 := hid (HB.out.kept0 hg)
  clear hg HB HS
  go_wp2_with (first
    | (refine wpList_load_rw rfl 29 _ rfl rfl HB2.out.box rfl Tryd.underlying29 info_object ?_)
    | fail)
  refine (light_any HB2.out.o HF.out 100 (by omega) (by omega)).mono ?_
  rintro e w3 ⟨⟨b, rfl, hb⟩, hg⟩
  have HB3 := hid (HB2.out.kept0 hg)
  clear hg HB2
  cases b
  · go_wp2
    go_ret
    exact ⟨rfl, grown_below HB3.out.g⟩
  have HLt := hid (hb rfl)
  have HL := hid (light_ll (hb rfl))
  clear hb
  go_wp2_with (first
    | (refine wpList_load_rw rfl 29 _ rfl rfl HB3.out.box rfl Tryd.underlying29 info_object ?_)
    | fail)
  refine (oclone_any HB3.out.o HL.out).mono ?_
  rintro e w4 ⟨V1, rfl, hown, hg⟩
  have HO4 := hid hown
  have HG4 := hid hg
  have HB4 := hid (HB3.out.kept0 hg)
  clear hown hg
  obtain ⟨d1, c1, m1, r1, q1, s1⟩ := V1
  obtain ⟨pd, cd, hd⟩ := own_slice HO4.out.d
  obtain ⟨pc, cc, hc⟩ := own_slice HO4.out.c
  obtain ⟨pm, cm, hm⟩ := own_slice HO4.out.m
  obtain ⟨pr, cr, hr⟩ := own_slice HO4.out.r
  obtain ⟨pq, cq, hq⟩ := own_slice HO4.out.q
  obtain ⟨ps, cs, hs⟩ := own_slice HO4.out.s
  simp only at hd hc hm hr hq hs
  subst hd; subst hc; subst hm; subst hr; subst hq; subst hs
  have Hz := zero_obj
  have HS5 : Hid (OS W (w4.alloc (.cells #[.slice pd x.D.length cd, .slice pc x.C.length cc, .slice pm x.M.length cm, .slice pr x.R.length cr, .slice pq x.Q.length cq, .slice ps x.S.length cs] 29)) G0 w4.heap.size ⟨d, .slice pc0 x.C.length cc0, m, r, q, s⟩ ⟨.slice pd x.D.length cd, .slice pc x.C.length cc, .slice pm x.M.length cm, .slice pr x.R.length cr, .slice pq x.Q.length cq, .slice ps x.S.length cs⟩ x x) := hid (by
    have hg4 : W.grownBy w4 none := HB4.out.g
    have hw3 := HB3.out.g.size
    have s4 := HG4.out.size
    have l0 := HB3.out.box.lt
    have hgw := HGW.out
    have hal := World.grownBy_alloc w4 (.cells #[.slice pd x.D.length cd, .slice pc x.C.length cc, .slice pm x.M.length cm, .slice pr x.R.length cr, .slice pq x.Q.length cq, .slice ps x.S.length cs] 29) none
    have ho : OwnO W.heap.size w4 ⟨.slice pd x.D.length cd, .slice pc x.C.length cc, .slice pm x.M.length cm, .slice pr x.R.length cr, .slice pq x.Q.length cq, .slice ps x.S.length cs⟩ x := ⟨own_base HO4.out.d hw3, own_base HO4.out.c hw3, own_base HO4.out.m hw3, own_base HO4.out.r hw3, own_base HO4.out.q hw3, own_base HO4.out.s hw3, HO4.out.ap⟩
    refine ⟨grown_below (grown_trans hg4 hal), HB4.out.box.kept0 hal, RwAt.new w4 _ _, H0.out, ho.kept0 hal, by omega, hg4.size, ?_, by omega⟩
    intro u hu
    simp only [List.mem_cons, List.not_mem_nil, or_false] at hu
    have key : ∀ {B size k : Nat} {t : TypeId} {v : Value} {cs : List Value}, w4.ownsRow w3.heap.size t size v k cs → v.ownBlock ≠ some G0 ∧ v.ownBlock ≠ some w4.heap.size := by
      intro B size k t v cs hh
      refine ⟨fun e => ?_, fun e => ?_⟩
      · have := (hh.lt _ e).1; omega
      · have := (hh.lt _ e).2; omega
    rcases hu with rfl | rfl | rfl | rfl | rfl | rfl
    · exact key (B := 0) HO4.out.d
    · exact key (B := 0) HO4.out.c
    · exact key (B := 0) HO4.out.m
    · exact key (B := 0) HO4.out.r
    · exact key (B := 0) HO4.out.q
    · exact key (B := 0) HO4.out.s)
  clear HB3 HB4 HO4 HG4
  go_upto_region 7 with (fail)
  clear Hz
  obtain ⟨G1, hG1⟩ : ∃ G, w4.heap.size = G := ⟨_, rfl⟩
  rw [hG1] at HS5 ⊢
  clear hG1
  generalize w4.alloc (.cells #[.slice pd x.D.length cd, .slice pc x.C.length cc, .slice pm x.M.length cm, .slice pr x.R.length cr, .slice pq x.Q.length cq, .slice ps x.S.length cs] 29) = w5 at HS5 ⊢
  go_wp2_with (first
    | (refine wpList_load_rw rfl 29 _ rfl rfl HS5.out.g1 rfl Tryd.underlying29 info_object ?_)
    | (refine wpList_load_rw rfl 29 _ rfl rfl HS5.out.g0 rfl Tryd.underlying29 info_object ?_)
    | fail)
  refine (osame_any (V := ⟨.slice pd x.D.length cd, .slice pc x.C.length cc, .slice pm x.M.length cm, .slice pr x.R.length cr, .slice pq x.Q.length cq, .slice ps x.S.length cs⟩) (V' := ⟨d, .slice pc0 x.C.length cc0, m, r, q, s⟩) HS5.out.own.at_ HS5.out.o HL.out true (by simp)).mono ?_
  rintro e w6 ⟨rfl, hg⟩
  have HS6 := hid (HS5.out.kept0 hg)
  clear hg HS5
  go_wp2_with fail
  refine (number_of a 6 6 K rfl HKn.out (by omega) (by omega) Ha.out.1 Ha.out.2).mono ?_
  rintro e w7 ⟨rfl, rfl⟩
  go_upto_block 0 with fail
  go_cut [] from 22 to 65 (fun wz => Hid (∃ V1 x1, OS W wz G0 G1 ⟨d, .slice pc0 x.C.length cc0, m, r, q, s⟩ V1 x x1 ∧ x1 ≠ x ∧ Ll x1))
  case first =>
    have hk := HK6.out
    clear HKn HK6
    by_cases hk0 : K = 0
    · obtain rfl := hk0
      clear hk
      obtain ⟨ii, hi, hz0, hz1, hz2⟩ := info_u32
      have Hi := hid hi
      have Hz0 := hid hz0
      have Hz1 := hid hz1
      have Hz2 := hid hz2
      clear hi hz0 hz1 hz2
      have ei := HS6.out.g1.cell 0 rfl
      have HS7 := hid (HS6.out.kept0 (World.grownBy_alloc w6 (.cells #[.int .u32 1] 52) none))
      have HO7 := hid HS7.out.own.d
      have HN7 : Hid (∀ j u, [Value.int .u32 1][j]? = some u → (w6.alloc (.cells #[.int .u32 1] 52)).cell? ((⟨w6.heap.size, 0, none⟩ : Addr).add j) = some u) := hid (World.news_of_block (heap_alloc_new w6 _))
      have HNi := hid (HS7.out.ne (.slice pd x.D.length cd) (by simp)).2
      have H63 : Hid (x.D.length + 1 ≤ maxLen ∧ (x.D.length + 1) * 4 ≤ 140737488355328) := hid (by have := HL.out; unfold Ll at this; unfold maxLen; omega)
      go_wp2_with (first
        | (refine wpList_append_lies _ rfl _ _ 24 rfl W.heap.size 52 ii _ 1 4 Tryd.underlying24 Hi.out Hz0.out Hz1.out Hz2.out rfl (by decide) _ x.D.length _ rfl HO7.out ⟨w6.heap.size, 0, none⟩ 1 1 _ rfl rfl HN7.out (by simp [Value.oneCell']) (by decide) H63.out.1 H63.out.2 HS7.out.le _ rfl ?_; intro g cap w8 hown hgrow hat hlt2; have HO := hid hown; have HG := hid hgrow; have HT := hid hat; have hk8 := HS7.out.g1.kept hgrow (fun e => HNi.out e.symm); clear hown hgrow hat hlt2 ei; have ei := hk8.cell 0 rfl; have zi := hk8.free 0; clear hk8)
        | fail)
      go_meet
      refine hid ⟨_, _, OS.tD HS7.out rfl HG.out HT.out HO.out, ?_, ?_⟩
      · intro e
        have := congrArg (fun z : PO => z.D.length) e
        simp at this
      · have h0 := HLt.out.d
        have h1 := HLt.out.c
        have h2 := HLt.out.m
        have h3 := HLt.out.r
        have h4 := HLt.out.q
        have h5 := HLt.out.s
        unfold Ll
        simp only [List.length_append, List.length_cons, List.length_nil]
        omega
    by_cases hk1 : K = 1
    · obtain rfl := hk1
      clear hk
      obtain ⟨ii, hi, hz0, hz1, hz2⟩ := info_u32
      have Hi := hid hi
      have Hz0 := hid hz0
      have Hz1 := hid hz1
      have Hz2 := hid hz2
      clear hi hz0 hz1 hz2
      have ei := HS6.out.g1.cell 1 rfl
      have HS7 := hid (HS6.out.kept0 (World.grownBy_alloc w6 (.cells #[.int .u32 1] 52) none))
      have HO7 := hid HS7.out.own.c
      have HN7 : Hid (∀ j u, [Value.int .u32 1][j]? = some u → (w6.alloc (.cells #[.int .u32 1] 52)).cell? ((⟨w6.heap.size, 0, none⟩ : Addr).add j) = some u) := hid (World.news_of_block (heap_alloc_new w6 _))
      have HNi := hid (HS7.out.ne (.slice pc x.C.length cc) (by simp)).2
      have H63 : Hid (x.C.length + 1 ≤ maxLen ∧ (x.C.length + 1) * 4 ≤ 140737488355328) := hid (by have := HL.out; unfold Ll at this; unfold maxLen; omega)
      go_wp2_with (first
        | (refine wpList_append_lies _ rfl _ _ 24 rfl W.heap.size 52 ii _ 1 4 Tryd.underlying24 Hi.out Hz0.out Hz1.out Hz2.out rfl (by decide) _ x.C.length _ rfl HO7.out ⟨w6.heap.size, 0, none⟩ 1 1 _ rfl rfl HN7.out (by simp [Value.oneCell']) (by decide) H63.out.1 H63.out.2 HS7.out.le _ rfl ?_; intro g cap w8 hown hgrow hat hlt2; have HO := hid hown; have HG := hid hgrow; have HT := hid hat; have hk8 := HS7.out.g1.kept hgrow (fun e => HNi.out e.symm); clear hown hgrow hat hlt2 ei; have ei := hk8.cell 1 rfl; have zi := hk8.free 1; clear hk8)
        | fail)
      go_meet
      refine hid ⟨_, _, OS.tC HS7.out rfl HG.out HT.out HO.out, ?_, ?_⟩
      · intro e
        have := congrArg (fun z : PO => z.C.length) e
        simp at this
      · have h0 := HLt.out.d
        have h1 := HLt.out.c
        have h2 := HLt.out.m
        have h3 := HLt.out.r
        have h4 := HLt.out.q
        have h5 := HLt.out.s
        unfold Ll
        simp only [List.length_append, List.length_cons, List.length_nil]
        omega
    by_cases hk2 : K = 2
    · obtain rfl := hk2
      clear hk
      obtain ⟨ii, hi, hz0, hz1, hz2⟩ := info_u8
      have Hi := hid hi
      have Hz0 := hid hz0
      have Hz1 := hid hz1
      have Hz2 := hid hz2
      clear hi hz0 hz1 hz2
      have ei := HS6.out.g1.cell 2 rfl
      have HS7 := hid (HS6.out.kept0 (World.grownBy_alloc w6 (.cells #[.int .u8 1] 5) none))
      have HO7 := hid HS7.out.own.m
      have HN7 : Hid (∀ j u, [Value.int .u8 1][j]? = some u → (w6.alloc (.cells #[.int .u8 1] 5)).cell? ((⟨w6.heap.size, 0, none⟩ : Addr).add j) = some u) := hid (World.news_of_block (heap_alloc_new w6 _))
      have HNi := hid (HS7.out.ne (.slice pm x.M.length cm) (by simp)).2
      have H63 : Hid (x.M.length + 1 ≤ maxLen ∧ (x.M.length + 1) * 1 ≤ 140737488355328) := hid (by have := HL.out; unfold Ll at this; unfold maxLen; omega)
      go_wp2_with (first
        | (refine wpList_append_lies _ rfl _ _ 25 rfl W.heap.size 5 ii _ 1 1 Tryd.underlying25 Hi.out Hz0.out Hz1.out Hz2.out rfl (by decide) _ x.M.length _ rfl HO7.out ⟨w6.heap.size, 0, none⟩ 1 1 _ rfl rfl HN7.out (by simp [Value.oneCell']) (by decide) H63.out.1 H63.out.2 HS7.out.le _ rfl ?_; intro g cap w8 hown hgrow hat hlt2; have HO := hid hown; have HG := hid hgrow; have HT := hid hat; have hk8 := HS7.out.g1.kept hgrow (fun e => HNi.out e.symm); clear hown hgrow hat hlt2 ei; have ei := hk8.cell 2 rfl; have zi := hk8.free 2; clear hk8)
        | fail)
      go_meet
      refine hid ⟨_, _, OS.tM HS7.out rfl HG.out HT.out HO.out, ?_, ?_⟩
      · intro e
        have := congrArg (fun z : PO => z.M.length) e
        simp at this
      · have h0 := HLt.out.d
        have h1 := HLt.out.c
        have h2 := HLt.out.m
        have h3 := HLt.out.r
        have h4 := HLt.out.q
        have h5 := HLt.out.s
        unfold Ll
        simp only [List.length_append, List.length_cons, List.length_nil]
        omega
    by_cases hk3 : K = 3
    · obtain rfl := hk3
      clear hk
      obtain ⟨ii, hi, hz0, hz1, hz2⟩ := info_reloc
      have Hi := hid hi
      have Hz0 := hid hz0
      have Hz1 := hid hz1
      have Hz2 := hid hz2
      clear hi hz0 hz1 hz2
      have Hzr := zero_rl
      have ei := HS6.out.g1.cell 3 rfl
      have HS7 := hid (HS6.out.kept0 (World.grownBy_alloc w6 (.cells #[.int .i64 0, .int .i64 0, .int .i64 0, .int .i64 0] 62) none))
      have HO7 := hid HS7.out.own.r
      have HN7 : Hid (∀ j u, [Value.int .i64 0, .int .i64 0, .int .i64 0, .int .i64 0][j]? = some u → (w6.alloc (.cells #[.int .i64 0, .int .i64 0, .int .i64 0, .int .i64 0] 62)).cell? ((⟨w6.heap.size, 0, none⟩ : Addr).add j) = some u) := hid (World.news_of_block (heap_alloc_new w6 _))
      have HNi := hid (HS7.out.ne (.slice pr x.R.length cr) (by simp)).2
      have H63 : Hid (x.R.length + 1 ≤ maxLen ∧ (x.R.length + 1) * 32 ≤ 140737488355328) := hid (by have := HL.out; unfold Ll at this; unfold maxLen; omega)
      go_wp2_with (first
        | (refine wpList_append_lies _ rfl _ _ 26 rfl W.heap.size 62 ii _ 4 32 Tryd.underlying26 Hi.out Hz0.out Hz1.out Hz2.out rfl (by decide) _ x.R.length _ rfl HO7.out ⟨w6.heap.size, 0, none⟩ 1 1 _ rfl rfl HN7.out (by simp [Value.oneCell']) (by decide) H63.out.1 H63.out.2 HS7.out.le _ rfl ?_; intro g cap w8 hown hgrow hat hlt2; have HO := hid hown; have HG := hid hgrow; have HT := hid hat; have hk8 := HS7.out.g1.kept hgrow (fun e => HNi.out e.symm); clear hown hgrow hat hlt2 ei; have ei := hk8.cell 3 rfl; have zi := hk8.free 3; clear hk8)
        | fail)
      go_meet
      refine hid ⟨_, _, OS.tR HS7.out rfl HG.out HT.out HO.out, ?_, ?_⟩
      · intro e
        have := congrArg (fun z : PO => z.R.length) e
        simp at this
      · have h0 := HLt.out.d
        have h1 := HLt.out.c
        have h2 := HLt.out.m
        have h3 := HLt.out.r
        have h4 := HLt.out.q
        have h5 := HLt.out.s
        unfold Ll
        simp only [List.length_append, List.length_cons, List.length_nil]
        omega
    by_cases hk4 : K = 4
    · obtain rfl := hk4
      clear hk
      obtain ⟨ii, hi, hz0, hz1, hz2⟩ := info_reloc
      have Hi := hid hi
      have Hz0 := hid hz0
      have Hz1 := hid hz1
      have Hz2 := hid hz2
      clear hi hz0 hz1 hz2
      have Hzr := zero_rl
      have ei := HS6.out.g1.cell 4 rfl
      have HS7 := hid (HS6.out.kept0 (World.grownBy_alloc w6 (.cells #[.int .i64 0, .int .i64 0, .int .i64 0, .int .i64 0] 62) none))
      have HO7 := hid HS7.out.own.q
      have HN7 : Hid (∀ j u, [Value.int .i64 0, .int .i64 0, .int .i64 0, .int .i64 0][j]? = some u → (w6.alloc (.cells #[.int .i64 0, .int .i64 0, .int .i64 0, .int .i64 0] 62)).cell? ((⟨w6.heap.size, 0, none⟩ : Addr).add j) = some u) := hid (World.news_of_block (heap_alloc_new w6 _))
      have HNi := hid (HS7.out.ne (.slice pq x.Q.length cq) (by simp)).2
      have H63 : Hid (x.Q.length + 1 ≤ maxLen ∧ (x.Q.length + 1) * 32 ≤ 140737488355328) := hid (by have := HL.out; unfold Ll at this; unfold maxLen; omega)
      go_wp2_with (first
        | (refine wpList_append_lies _ rfl _ _ 26 rfl W.heap.size 62 ii _ 4 32 Tryd.underlying26 Hi.out Hz0.out Hz1.out Hz2.out rfl (by decide) _ x.Q.length _ rfl HO7.out ⟨w6.heap.size, 0, none⟩ 1 1 _ rfl rfl HN7.out (by simp [Value.oneCell']) (by decide) H63.out.1 H63.out.2 HS7.out.le _ rfl ?_; intro g cap w8 hown hgrow hat hlt2; have HO := hid hown; have HG := hid hgrow; have HT := hid hat; have hk8 := HS7.out.g1.kept hgrow (fun e => HNi.out e.symm); clear hown hgrow hat hlt2 ei; have ei := hk8.cell 4 rfl; have zi := hk8.free 4; clear hk8)
        | fail)
      go_meet
      refine hid ⟨_, _, OS.tQ HS7.out rfl HG.out HT.out HO.out, ?_, ?_⟩
      · intro e
        have := congrArg (fun z : PO => z.Q.length) e
        simp at this
      · have h0 := HLt.out.d
        have h1 := HLt.out.c
        have h2 := HLt.out.m
        have h3 := HLt.out.r
        have h4 := HLt.out.q
        have h5 := HLt.out.s
        unfold Ll
        simp only [List.length_append, List.length_cons, List.length_nil]
        omega
    by_cases hk5 : K = 5
    · obtain rfl := hk5
      clear hk
      obtain ⟨ii, hi, hz0, hz1, hz2⟩ := info_symb
      have Hi := hid hi
      have Hz0 := hid hz0
      have Hz1 := hid hz1
      have Hz2 := hid hz2
      clear hi hz0 hz1 hz2
      have Hzs := zero_sy
      have ei := HS6.out.g1.cell 5 rfl
      have HS7 := hid (HS6.out.kept0 (World.grownBy_alloc w6 (.cells #[.string ⟨#[]⟩, .int .i64 0, .int .i64 0, .bool false] 32) none))
      have HO7 := hid HS7.out.own.s
      have HN7 : Hid (∀ j u, [Value.string ⟨#[]⟩, .int .i64 0, .int .i64 0, .bool false][j]? = some u → (w6.alloc (.cells #[.string ⟨#[]⟩, .int .i64 0, .int .i64 0, .bool false] 32)).cell? ((⟨w6.heap.size, 0, none⟩ : Addr).add j) = some u) := hid (World.news_of_block (heap_alloc_new w6 _))
      have HNi := hid (HS7.out.ne (.slice ps x.S.length cs) (by simp)).2
      have H63 : Hid (x.S.length + 1 ≤ maxLen ∧ (x.S.length + 1) * 40 ≤ 140737488355328) := hid (by have := HL.out; unfold Ll at this; unfold maxLen; omega)
      go_wp2_with (first
        | (refine wpList_append_lies _ rfl _ _ 27 rfl W.heap.size 32 ii _ 4 40 Tryd.underlying27 Hi.out Hz0.out Hz1.out Hz2.out rfl (by decide) _ x.S.length _ rfl HO7.out ⟨w6.heap.size, 0, none⟩ 1 1 _ rfl rfl HN7.out (by simp [Value.oneCell']) (by decide) H63.out.1 H63.out.2 HS7.out.le _ rfl ?_; intro g cap w8 hown hgrow hat hlt2; have HO := hid hown; have HG := hid hgrow; have HT := hid hat; have hk8 := HS7.out.g1.kept hgrow (fun e => HNi.out e.symm); clear hown hgrow hat hlt2 ei; have ei := hk8.cell 5 rfl; have zi := hk8.free 5; clear hk8)
        | fail)
      go_meet
      refine hid ⟨_, _, OS.tS HS7.out rfl HG.out HT.out HO.out, ?_, ?_⟩
      · intro e
        have := congrArg (fun z : PO => z.S.length) e
        simp at this
      · have h0 := HLt.out.d
        have h1 := HLt.out.c
        have h2 := HLt.out.m
        have h3 := HLt.out.r
        have h4 := HLt.out.q
        have h5 := HLt.out.s
        unfold Ll
        simp only [List.length_append, List.length_cons, List.length_nil]
        omega
    omega
  case rest =>
    obtain ⟨V1, x1, hs, hne, hl1⟩ := hcut.out
    have HS7 := hid hs
    have HN1 := hid hne
    have HL1 := hid hl1
    clear hs hne hl1 hcut HS6 HK6 HKn
    obtain ⟨d1, c1, m1, r1, q1, s1⟩ := V1
    go_wp2_with (first
      | (refine wpList_load_rw rfl 29 _ rfl rfl HS7.out.g0 rfl Tryd.underlying29 info_object ?_)
      | fail)
    refine (oclone_any (V := ⟨d, .slice pc0 x.C.length cc0, m, r, q, s⟩) HS7.out.o HL.out).mono ?_
    rintro e w8 ⟨V2, rfl, hown, hg⟩
    have HO8 := hid hown
    have HG8 := hid hg
    clear hown hg
    obtain ⟨d2, c2, m2, r2, q2, s2⟩ := V2
    obtain ⟨p2d, c2d, hd⟩ := own_slice HO8.out.d
    obtain ⟨p2c, c2c, hc⟩ := own_slice HO8.out.c
    obtain ⟨p2m, c2m, hm⟩ := own_slice HO8.out.m
    obtain ⟨p2r, c2r, hr⟩ := own_slice HO8.out.r
    obtain ⟨p2q, c2q, hq⟩ := own_slice HO8.out.q
    obtain ⟨p2s, c2s, hs⟩ := own_slice HO8.out.s
    simp only at hd hc hm hr hq hs
    subst hd; subst hc; subst hm; subst hr; subst hq; subst hs
    have Hz := zero_obj
    have eC := (RwAt.new w8 29 #[.slice p2d x.D.length c2d, .slice p2c x.C.length c2c, .slice p2m x.M.length c2m, .slice p2r x.R.length c2r, .slice p2q x.Q.length c2q, .slice p2s x.S.length c2s]).cell 1 rfl
    by_cases hpos : (x.C.length : Int) > 0
    · obtain ⟨g, cap, hv, hc0, hfz, hX⟩ := HS7.out.three HO8.out HG8.out (by omega)
      simp only [Value.slice.injEq, true_and] at hv
      obtain ⟨rfl, rfl⟩ := hv
      obtain ⟨y, hy⟩ : ∃ y, (x.C.getD 0 0 + 1) % 4294967296 = y := ⟨_, rfl⟩
      have HX := hid (hX y)
      have hw : IntKind.u32.wrap (x.C.getD 0 0 + 1) = y := by rw [IntKind.wrap_u32, hy]
      have HN2 : Hid ({ x with C := x.C.set 0 y } ≠ x) := hid (by
        intro e
        have h1 := congrArg (fun z : PO => z.C[0]?) e
        simp only at h1
        obtain ⟨u, hu⟩ : ∃ u, x.C[0]? = some u := ⟨_, List.getElem?_eq_getElem (by omega)⟩
        have h2 := HF.out.c u (List.mem_of_getElem? hu)
        rw [List.getElem?_set, if_pos rfl, if_pos (by omega), hu] at h1
        have h3 : x.C.getD 0 0 = u := by rw [List.getD_eq_getElem?_getD, hu]; rfl
        rw [h3] at hy
        have := Option.some.inj h1
        omega)
      have HL2 : Hid (Ll { x with C := x.C.set 0 y }) := hid (by have := HL.out; unfold Ll at this ⊢; simpa using this)
      obtain ⟨C0, hC0⟩ : ∃ C0, x.C.getD 0 0 = C0 := ⟨_, rfl⟩
      rw [hC0] at hc0 hw
      clear hC0 hX hy
      have hz0 : ((x.C.length : Int) == 0) = false := by rw [beq_eq_false_iff_ne]; omega
      go_upto_region 24 with (fail)
      clear Hz hc0 hw hfz eC
      obtain ⟨G2, hG2⟩ : ∃ G, w8.heap.size = G := ⟨_, rfl⟩
      rw [hG2] at HX ⊢
      clear hG2
      generalize (w8.alloc (.cells #[.slice p2d x.D.length c2d, .slice (some ⟨g, 0, none⟩) x.C.length c2c, .slice p2m x.M.length c2m, .slice p2r x.R.length c2r, .slice p2q x.Q.length c2q, .slice p2s x.S.length c2s] 29)).setCell ⟨g, 0, none⟩ (.int .u32 y) = wx at HX ⊢
      have HD := hid (HX.out.kept0 (grown_drew (grown_refl wx none)))
      clear HX
      have k00 := HD.out.g0.cell 0 (v := d) rfl
      have k01 := HD.out.g0.cell 1 (v := .slice pc0 x.C.length cc0) rfl
      have k02 := HD.out.g0.cell 2 (v := m) rfl
      have k03 := HD.out.g0.cell 3 (v := r) rfl
      have k04 := HD.out.g0.cell 4 (v := q) rfl
      have k05 := HD.out.g0.cell 5 (v := s) rfl
      have k10 := HD.out.g1.cell 0 (v := d1) rfl
      have k11 := HD.out.g1.cell 1 (v := c1) rfl
      have k12 := HD.out.g1.cell 2 (v := m1) rfl
      have k13 := HD.out.g1.cell 3 (v := r1) rfl
      have k14 := HD.out.g1.cell 4 (v := q1) rfl
      have k15 := HD.out.g1.cell 5 (v := s1) rfl
      have k20 := HD.out.g2.cell 0 (v := .slice p2d x.D.length c2d) rfl
      have k21 := HD.out.g2.cell 1 (v := .slice (some ⟨g, 0, none⟩) x.C.length c2c) rfl
      have k22 := HD.out.g2.cell 2 (v := .slice p2m x.M.length c2m) rfl
      have k23 := HD.out.g2.cell 3 (v := .slice p2r x.R.length c2r) rfl
      have k24 := HD.out.g2.cell 4 (v := .slice p2q x.Q.length c2q) rfl
      have k25 := HD.out.g2.cell 5 (v := .slice p2s x.S.length c2s) rfl
      have HQ1 : Hid (∀ W', wx.drew.grownBy W' none → Calls Tryd.prog 20 #[.agg #[d1, c1, m1, r1, q1, s1], .agg #[d, .slice pc0 x.C.length cc0, m, r, q, s]] W' fun e w' => e = .returned (.bool false) ∧ W'.grownBy w' none) := hid (fun W' hW => osame_any (V := ⟨d1, c1, m1, r1, q1, s1⟩) (V' := ⟨d, .slice pc0 x.C.length cc0, m, r, q, s⟩) (HD.out.p.kept0 hW) (HD.out.o.kept0 hW) HL1.out false (by simpa using HN1.out))
      have HQ2 : Hid (∀ W', wx.drew.grownBy W' none → Calls Tryd.prog 20 #[.agg #[d, .slice pc0 x.C.length cc0, m, r, q, s], .agg #[d1, c1, m1, r1, q1, s1]] W' fun e w' => e = .returned (.bool false) ∧ W'.grownBy w' none) := hid (fun W' hW => osame_any (V := ⟨d, .slice pc0 x.C.length cc0, m, r, q, s⟩) (V' := ⟨d1, c1, m1, r1, q1, s1⟩) (HD.out.o.kept0 hW) (HD.out.p.kept0 hW) HL.out false (by simpa using fun e => HN1.out e.symm))
      have HQ3 : Hid (∀ W', wx.drew.grownBy W' none → Calls Tryd.prog 20 #[.agg #[.slice p2d x.D.length c2d, .slice (some ⟨g, 0, none⟩) x.C.length c2c, .slice p2m x.M.length c2m, .slice p2r x.R.length c2r, .slice p2q x.Q.length c2q, .slice p2s x.S.length c2s], .agg #[d, .slice pc0 x.C.length cc0, m, r, q, s]] W' fun e w' => e = .returned (.bool false) ∧ W'.grownBy w' none) := hid (fun W' hW => osame_any (V := ⟨.slice p2d x.D.length c2d, .slice (some ⟨g, 0, none⟩) x.C.length c2c, .slice p2m x.M.length c2m, .slice p2r x.R.length c2r, .slice p2q x.Q.length c2q, .slice p2s x.S.length c2s⟩) (V' := ⟨d, .slice pc0 x.C.length cc0, m, r, q, s⟩) (HD.out.q.kept0 hW) (HD.out.o.kept0 hW) HL2.out false (by simpa using HN2.out))
      have HQ4 : Hid (∀ W', wx.drew.grownBy W' none → Calls Tryd.prog 26 #[.agg #[d, .slice pc0 x.C.length cc0, m, r, q, s]] W' (OCl W' x)) := hid (fun W' hW => oclone_any (V := ⟨d, .slice pc0 x.C.length cc0, m, r, q, s⟩) (HD.out.o.kept0 hW) HL.out)
      go_region_held3 (fun W' => W'.cell? ⟨G0, 0, none⟩ = some (d) ∧ W'.cell? ⟨G0, 1, none⟩ = some (.slice pc0 x.C.length cc0) ∧ W'.cell? ⟨G0, 2, none⟩ = some (m) ∧ W'.cell? ⟨G0, 3, none⟩ = some (r) ∧ W'.cell? ⟨G0, 4, none⟩ = some (q) ∧ W'.cell? ⟨G0, 5, none⟩ = some (s) ∧ W'.cell? ⟨G1, 0, none⟩ = some (d1) ∧ W'.cell? ⟨G1, 1, none⟩ = some (c1) ∧ W'.cell? ⟨G1, 2, none⟩ = some (m1) ∧ W'.cell? ⟨G1, 3, none⟩ = some (r1) ∧ W'.cell? ⟨G1, 4, none⟩ = some (q1) ∧ W'.cell? ⟨G1, 5, none⟩ = some (s1) ∧ W'.cell? ⟨G2, 0, none⟩ = some (.slice p2d x.D.length c2d) ∧ W'.cell? ⟨G2, 1, none⟩ = some (.slice (some ⟨g, 0, none⟩) x.C.length c2c) ∧ W'.cell? ⟨G2, 2, none⟩ = some (.slice p2m x.M.length c2m) ∧ W'.cell? ⟨G2, 3, none⟩ = some (.slice p2r x.R.length c2r) ∧ W'.cell? ⟨G2, 4, none⟩ = some (.slice p2q x.Q.length c2q) ∧ W'.cell? ⟨G2, 5, none⟩ = some (.slice p2s x.S.length c2s) ∧ wx.drew.grownBy W' none)
        (first | (with_reducible exact ⟨k00, k01, k02, k03, k04, k05, k10, k11, k12, k13, k14, k15, k20, k21, k22, k23, k24, k25, grown_refl _ _⟩) | (go_split_ands; have hgr := grown_trans (w := wx.drew) (r := none) (by assumption) hcb; exact ⟨(HD.out.g0.kept0 hgr).cell 0 rfl, (HD.out.g0.kept0 hgr).cell 1 rfl, (HD.out.g0.kept0 hgr).cell 2 rfl, (HD.out.g0.kept0 hgr).cell 3 rfl, (HD.out.g0.kept0 hgr).cell 4 rfl, (HD.out.g0.kept0 hgr).cell 5 rfl, (HD.out.g1.kept0 hgr).cell 0 rfl, (HD.out.g1.kept0 hgr).cell 1 rfl, (HD.out.g1.kept0 hgr).cell 2 rfl, (HD.out.g1.kept0 hgr).cell 3 rfl, (HD.out.g1.kept0 hgr).cell 4 rfl, (HD.out.g1.kept0 hgr).cell 5 rfl, (HD.out.g2.kept0 hgr).cell 0 rfl, (HD.out.g2.kept0 hgr).cell 1 rfl, (HD.out.g2.kept0 hgr).cell 2 rfl, (HD.out.g2.kept0 hgr).cell 3 rfl, (HD.out.g2.kept0 hgr).cell 4 rfl, (HD.out.g2.kept0 hgr).cell 5 rfl, hgr⟩))
        (first
          | (go_split_ands; go_at_call 20; (with_reducible refine (HQ1.out _ (by assumption)).mono ?_); rintro e w' ⟨rfl, hcb⟩)
          | (go_split_ands; go_at_call 20; (with_reducible refine (HQ2.out _ (by assumption)).mono ?_); rintro e w' ⟨rfl, hcb⟩)
          | (go_split_ands; go_at_call 20; (with_reducible refine (HQ3.out _ (by assumption)).mono ?_); rintro e w' ⟨rfl, hcb⟩)
          | (go_split_ands; go_at_call 26; (with_reducible refine (HQ4.out _ (by assumption)).mono ?_); rintro e w' ⟨V3, rfl, hown3, hcb⟩; have HO3 := hid hown3; clear hown3)
          | (go_split_ands; go_at_call 27; (refine (so_any (V := ⟨d, .slice pc0 x.C.length cc0, m, r, q, s⟩) (V' := V3) (HD.out.o.kept0 (by assumption)) HO3.out.at_ HL.out HL.out true (by simp)).mono ?_); rintro e w' ⟨rfl, hcb⟩))
      go_split_ands
      go_wp2
      go_ret
      exact ⟨rfl, HD.out.below.grown (by assumption) HD.out.below.size (by simp)⟩
    · have hz0 : ((x.C.length : Int) == 0) = true := by rw [beq_iff_eq]; omega
      have HX := hid (HS7.out.two HO8.out HG8.out)
      go_upto_region 24 with (fail)
      clear Hz eC
      obtain ⟨G2, hG2⟩ : ∃ G, w8.heap.size = G := ⟨_, rfl⟩
      rw [hG2] at HX ⊢
      clear hG2
      generalize w8.alloc (.cells #[.slice p2d x.D.length c2d, .slice p2c x.C.length c2c, .slice p2m x.M.length c2m, .slice p2r x.R.length c2r, .slice p2q x.Q.length c2q, .slice p2s x.S.length c2s] 29) = wx at HX ⊢
      refine wp_region_held_drew (S := (fun W' => OS2 W W' G0 G1 G2 ⟨d, .slice pc0 x.C.length cc0, m, r, q, s⟩ ⟨d1, c1, m1, r1, q1, s1⟩ ⟨.slice p2d x.D.length c2d, .slice p2c x.C.length c2c, .slice p2m x.M.length c2m, .slice p2r x.R.length c2r, .slice p2q x.Q.length c2q, .slice p2s x.S.length c2s⟩ x x1 x)) (by kernel_rfl) (HX.out.kept0 (grown_drew (grown_refl _ none))) (fun hS0 => ?_)
      clear HX
      try simp only [List.append_eq, List.cons_append, List.nil_append]
      refine wpAnyH_take (i := 0) (v := ?_) rfl (by kernel_rfl) (by kernel_rfl) (by kernel_rfl) (fun _ _ _ h => h) (Or.inl ⟨by kernel_rfl, ?_⟩) (by assumption) ?_
      rotate_left
      · (intro w hSw; clear hSw; go_simp; try with_reducible rfl)
      try simp only [Act.put, List.setIfInBounds_toArray, List.set_cons_zero, List.set_cons_succ, List.getElem_toArray, List.getElem_cons_zero]
      refine wpAnyH_take (i := 1) (v := ?_) rfl (by kernel_rfl) (by kernel_rfl) (by kernel_rfl) (fun _ _ _ h => h) (Or.inl ⟨by kernel_rfl, ?_⟩) (by assumption) ?_
      rotate_left
      · (intro w hSw; clear hSw; go_simp; try with_reducible rfl)
      try simp only [Act.put, List.setIfInBounds_toArray, List.set_cons_zero, List.set_cons_succ, List.getElem_toArray, List.getElem_cons_succ, List.getElem_cons_zero]
      refine wpAnyH_take (i := 2) (v := .agg #[d1, c1, m1, r1, q1, s1]) rfl (by kernel_rfl) (by kernel_rfl) (by kernel_rfl) (fun _ _ _ h => h) (Or.inl ⟨by kernel_rfl, fun w hSw => obj_yields _ rfl rfl hSw.g1 rfl⟩) (by assumption) ?_
      try simp only [Act.put, List.setIfInBounds_toArray, List.set_cons_zero, List.set_cons_succ, List.getElem_toArray, List.getElem_cons_succ, List.getElem_cons_zero]
      refine wpAnyH_take (i := 3) (v := .agg #[d, .slice pc0 x.C.length cc0, m, r, q, s]) rfl (by kernel_rfl) (by kernel_rfl) (by kernel_rfl) (fun _ _ _ h => h) (Or.inl ⟨by kernel_rfl, fun w hSw => obj_yields _ rfl rfl hSw.g0 rfl⟩) (by assumption) ?_
      try simp only [Act.put, List.setIfInBounds_toArray, List.set_cons_zero, List.set_cons_succ, List.getElem_toArray, List.getElem_cons_succ, List.getElem_cons_zero]
      refine wpAnyH_ready (rs := [4]) (by kernel_rfl) (by simp) ?_
      refine AllReadyH.cons rfl (fun KK hKK => ?_) AllReadyH.nil
      go_simp
      refine (osame_any (V := ⟨d1, c1, m1, r1, q1, s1⟩) (V' := ⟨d, .slice pc0 x.C.length cc0, m, r, q, s⟩) (OS2.p (by assumption)) (OS2.o (by assumption)) HL1.out false (by simpa using HN1.out)).mono ?_
      rintro e w' ⟨rfl, hg⟩
      refine hKK.out _ _ ?_ (fun hHeld => ?_)
      · exact OS2.kept0 (by assumption) hg
      clear hKK KK hg
      try simp only [Act.put, List.setIfInBounds_toArray, List.set_cons_zero, List.set_cons_succ, List.getElem_toArray, List.getElem_cons_succ, List.getElem_cons_zero]
      refine wpAnyH_take (i := 5) (v := ?_) rfl (by kernel_rfl) (by kernel_rfl) (by kernel_rfl) (fun _ _ _ h => h) (Or.inl ⟨by kernel_rfl, ?_⟩) (by assumption) ?_
      rotate_left
      · (intro w hSw; clear hSw; go_simp; try with_reducible rfl)
      try simp only [Act.put, List.setIfInBounds_toArray, List.set_cons_zero, List.set_cons_succ, List.getElem_toArray, List.getElem_cons_succ, List.getElem_cons_zero]
      refine wpAnyH_take (i := 6) (v := ?_) rfl (by kernel_rfl) (by kernel_rfl) (by kernel_rfl) (fun _ _ _ h => h) (Or.inl ⟨by kernel_rfl, ?_⟩) (by assumption) ?_
      rotate_left
      · (intro w hSw; clear hSw; go_simp; try with_reducible rfl)
      try simp only [Act.put, List.setIfInBounds_toArray, List.set_cons_zero, List.set_cons_succ, List.getElem_toArray, List.getElem_cons_succ, List.getElem_cons_zero]
      refine wpAnyH_take (i := 7) (v := ?_) rfl (by kernel_rfl) (by kernel_rfl) (by kernel_rfl) (fun _ _ _ h => h) (Or.inl ⟨by kernel_rfl, ?_⟩) (by assumption) ?_
      rotate_left
      · (intro w hSw; clear hSw; go_simp; try with_reducible rfl)
      try simp only [Act.put, List.setIfInBounds_toArray, List.set_cons_zero, List.set_cons_succ, List.getElem_toArray, List.getElem_cons_succ, List.getElem_cons_zero]
      refine wpAnyH_take (i := 8) (v := .agg #[d, .slice pc0 x.C.length cc0, m, r, q, s]) rfl (by kernel_rfl) (by kernel_rfl) (by kernel_rfl) (fun _ _ _ h => h) (Or.inl ⟨by kernel_rfl, fun w hSw => obj_yields _ rfl rfl hSw.g0 rfl⟩) (by assumption) ?_
      try simp only [Act.put, List.setIfInBounds_toArray, List.set_cons_zero, List.set_cons_succ, List.getElem_toArray, List.getElem_cons_succ, List.getElem_cons_zero]
      refine wpAnyH_take (i := 9) (v := .agg #[d1, c1, m1, r1, q1, s1]) rfl (by kernel_rfl) (by kernel_rfl) (by kernel_rfl) (fun _ _ _ h => h) (Or.inl ⟨by kernel_rfl, fun w hSw => obj_yields _ rfl rfl hSw.g1 rfl⟩) (by assumption) ?_
      try simp only [Act.put, List.setIfInBounds_toArray, List.set_cons_zero, List.set_cons_succ, List.getElem_toArray, List.getElem_cons_succ, List.getElem_cons_zero]
      refine wpAnyH_ready (rs := [10]) (by kernel_rfl) (by simp) ?_
      refine AllReadyH.cons rfl (fun KK hKK => ?_) AllReadyH.nil
      go_simp
      refine (osame_any (V := ⟨d, .slice pc0 x.C.length cc0, m, r, q, s⟩) (V' := ⟨d1, c1, m1, r1, q1, s1⟩) (OS2.o (by assumption)) (OS2.p (by assumption)) HL.out false (by simpa using fun e => HN1.out e.symm)).mono ?_
      rintro e w' ⟨rfl, hg⟩
      refine hKK.out _ _ ?_ (fun hHeld => ?_)
      · exact OS2.kept0 (by assumption) hg
      clear hKK KK hg
      try simp only [Act.put, List.setIfInBounds_toArray, List.set_cons_zero, List.set_cons_succ, List.getElem_toArray, List.getElem_cons_succ, List.getElem_cons_zero]
      refine wpAnyH_take (i := 11) (v := ?_) rfl (by kernel_rfl) (by kernel_rfl) (by kernel_rfl) (fun _ _ _ h => h) (Or.inl ⟨by kernel_rfl, ?_⟩) (by assumption) ?_
      rotate_left
      · (intro w hSw; clear hSw; go_simp; try with_reducible rfl)
      try simp only [Act.put, List.setIfInBounds_toArray, List.set_cons_zero, List.set_cons_succ, List.getElem_toArray, List.getElem_cons_succ, List.getElem_cons_zero]
      refine wpAnyH_take (i := 12) (v := ?_) rfl (by kernel_rfl) (by kernel_rfl) (by kernel_rfl) (fun _ _ _ h => h) (Or.inl ⟨by kernel_rfl, ?_⟩) (by assumption) ?_
      rotate_left
      · (intro w hSw; clear hSw; go_simp; try with_reducible rfl)
      try simp only [Act.put, List.setIfInBounds_toArray, List.set_cons_zero, List.set_cons_succ, List.getElem_toArray, List.getElem_cons_succ, List.getElem_cons_zero]
      refine wpAnyH_take (i := 13) (v := ?_) rfl (by kernel_rfl) (by kernel_rfl) (by kernel_rfl) (fun _ _ _ h => h) (Or.inl ⟨by kernel_rfl, ?_⟩) (by assumption) ?_
      rotate_left
      · (intro w hSw; clear hSw; go_simp; try with_reducible rfl)
      try simp only [Act.put, List.setIfInBounds_toArray, List.set_cons_zero, List.set_cons_succ, List.getElem_toArray, List.getElem_cons_succ, List.getElem_cons_zero]
      refine wpAnyH_take (i := 14) (v := ?_) rfl (by kernel_rfl) (by kernel_rfl) (by kernel_rfl) (fun _ _ _ h => h) (Or.inl ⟨by kernel_rfl, ?_⟩) (by assumption) ?_
      rotate_left
      · (intro w hSw; clear hSw; go_simp; try with_reducible rfl)
      try simp only [Act.put, List.setIfInBounds_toArray, List.set_cons_zero, List.set_cons_succ, List.getElem_toArray, List.getElem_cons_succ, List.getElem_cons_zero]
      refine wpAnyH_take (i := 15) (v := ?_) rfl (by kernel_rfl) (by kernel_rfl) (by kernel_rfl) (fun _ _ _ h => h) (Or.inl ⟨by kernel_rfl, ?_⟩) (by assumption) ?_
      rotate_left
      · (intro w hSw; have hcc := hSw.g0.cell 1 (v := .slice pc0 x.C.length cc0) rfl; clear hSw; go_simp; try with_reducible rfl)
      try simp only [Act.put, List.setIfInBounds_toArray, List.set_cons_zero, List.set_cons_succ, List.getElem_toArray, List.getElem_cons_succ, List.getElem_cons_zero]
      refine wpAnyH_take (i := 16) (v := ?_) rfl (by kernel_rfl) (by kernel_rfl) (by kernel_rfl) (fun _ _ _ h => h) (Or.inl ⟨by kernel_rfl, ?_⟩) (by assumption) ?_
      rotate_left
      · (intro w hSw; clear hSw; go_simp; try with_reducible rfl)
      try simp only [Act.put, List.setIfInBounds_toArray, List.set_cons_zero, List.set_cons_succ, List.getElem_toArray, List.getElem_cons_succ, List.getElem_cons_zero]
      refine wpAnyH_take (i := 17) (v := ?_) rfl (by kernel_rfl) (by kernel_rfl) (by kernel_rfl) (fun _ _ _ h => h) (Or.inl ⟨by kernel_rfl, ?_⟩) (by assumption) ?_
      rotate_left
      · (intro w hSw; clear hSw; go_simp; try with_reducible rfl)
      try simp only [Act.put, List.setIfInBounds_toArray, List.set_cons_zero, List.set_cons_succ, List.getElem_toArray, List.getElem_cons_succ, List.getElem_cons_zero]
      refine wpAnyH_take (i := 18) (v := ?_) rfl (by kernel_rfl) (by kernel_rfl) (by kernel_rfl) (fun _ _ _ h => h) (Or.inl ⟨by kernel_rfl, ?_⟩) (by assumption) ?_
      rotate_left
      · (intro w hSw; clear hSw; go_simp; try with_reducible rfl)
      try simp only [Act.put, List.setIfInBounds_toArray, List.set_cons_zero, List.set_cons_succ, List.getElem_toArray, List.getElem_cons_succ, List.getElem_cons_zero]
      refine wpAnyH_take (i := 19) (v := undef) rfl (by kernel_rfl) (by kernel_rfl) (by kernel_rfl) (fun _ _ _ h => h) (Or.inr ⟨by kernel_rfl, rfl⟩) (by assumption) ?_
      try simp only [Act.put, List.setIfInBounds_toArray, List.set_cons_zero, List.set_cons_succ, List.getElem_toArray, List.getElem_cons_succ, List.getElem_cons_zero]
      refine wpAnyH_take (i := 20) (v := undef) rfl (by kernel_rfl) (by kernel_rfl) (by kernel_rfl) (fun _ _ _ h => h) (Or.inr ⟨by kernel_rfl, rfl⟩) (by assumption) ?_
      try simp only [Act.put, List.setIfInBounds_toArray, List.set_cons_zero, List.set_cons_succ, List.getElem_toArray, List.getElem_cons_succ, List.getElem_cons_zero]
      refine wpAnyH_take (i := 21) (v := undef) rfl (by kernel_rfl) (by kernel_rfl) (by kernel_rfl) (fun _ _ _ h => h) (Or.inr ⟨by kernel_rfl, rfl⟩) (by assumption) ?_
      try simp only [Act.put, List.setIfInBounds_toArray, List.set_cons_zero, List.set_cons_succ, List.getElem_toArray, List.getElem_cons_succ, List.getElem_cons_zero]
      refine wpAnyH_take (i := 22) (v := undef) rfl (by kernel_rfl) (by kernel_rfl) (by kernel_rfl) (fun _ _ _ h => h) (Or.inr ⟨by kernel_rfl, rfl⟩) (by assumption) ?_
      try simp only [Act.put, List.setIfInBounds_toArray, List.set_cons_zero, List.set_cons_succ, List.getElem_toArray, List.getElem_cons_succ, List.getElem_cons_zero]
      refine wpAnyH_take (i := 23) (v := ?_) rfl (by kernel_rfl) (by kernel_rfl) (by kernel_rfl) (fun _ _ _ h => h) (Or.inl ⟨by kernel_rfl, ?_⟩) (by assumption) ?_
      rotate_left
      · (intro w hSw; clear hSw; go_simp; try with_reducible rfl)
      try simp only [Act.put, List.setIfInBounds_toArray, List.set_cons_zero, List.set_cons_succ, List.getElem_toArray, List.getElem_cons_succ, List.getElem_cons_zero]
      refine wpAnyH_take (i := 24) (v := ?_) rfl (by kernel_rfl) (by kernel_rfl) (by kernel_rfl) (fun _ _ _ h => h) (Or.inl ⟨by kernel_rfl, ?_⟩) (by assumption) ?_
      rotate_left
      · (intro w hSw; clear hSw; go_simp; try with_reducible rfl)
      try simp only [Act.put, List.setIfInBounds_toArray, List.set_cons_zero, List.set_cons_succ, List.getElem_toArray, List.getElem_cons_succ, List.getElem_cons_zero]
      refine wpAnyH_take (i := 25) (v := ?_) rfl (by kernel_rfl) (by kernel_rfl) (by kernel_rfl) (fun _ _ _ h => h) (Or.inl ⟨by kernel_rfl, ?_⟩) (by assumption) ?_
      rotate_left
      · (intro w hSw; clear hSw; go_simp; try with_reducible rfl)
      try simp only [Act.put, List.setIfInBounds_toArray, List.set_cons_zero, List.set_cons_succ, List.getElem_toArray, List.getElem_cons_succ, List.getElem_cons_zero]
      refine wpAnyH_take (i := 26) (v := .agg #[d, .slice pc0 x.C.length cc0, m, r, q, s]) rfl (by kernel_rfl) (by kernel_rfl) (by kernel_rfl) (fun _ _ _ h => h) (Or.inl ⟨by kernel_rfl, fun w hSw => obj_yields _ rfl rfl hSw.g0 rfl⟩) (by assumption) ?_
      try simp only [Act.put, List.setIfInBounds_toArray, List.set_cons_zero, List.set_cons_succ, List.getElem_toArray, List.getElem_cons_succ, List.getElem_cons_zero]
      refine wpAnyH_take (i := 27) (v := .agg #[d, .slice pc0 x.C.length cc0, m, r, q, s]) rfl (by kernel_rfl) (by kernel_rfl) (by kernel_rfl) (fun _ _ _ h => h) (Or.inl ⟨by kernel_rfl, fun w hSw => obj_yields _ rfl rfl hSw.g0 rfl⟩) (by assumption) ?_
      try simp only [Act.put, List.setIfInBounds_toArray, List.set_cons_zero, List.set_cons_succ, List.getElem_toArray, List.getElem_cons_succ, List.getElem_cons_zero]
      refine wpAnyH_ready (rs := [28]) (by kernel_rfl) (by simp) ?_
      refine AllReadyH.cons rfl (fun KK hKK => ?_) AllReadyH.nil
      go_simp
      refine (oclone_any (V := ⟨d, .slice pc0 x.C.length cc0, m, r, q, s⟩) (OS2.o (by assumption)) HL.out).mono ?_
      rintro e w' ⟨V3, rfl, hown3, hg⟩
      have HO3 := hid hown3
      clear hown3
      refine hKK.out _ _ ?_ (fun hHeld => ?_)
      · exact OS2.kept0 (by assumption) hg
      clear hKK KK hg
      try simp only [Act.put, List.setIfInBounds_toArray, List.set_cons_zero, List.set_cons_succ, List.getElem_toArray, List.getElem_cons_succ, List.getElem_cons_zero]
      refine wpAnyH_ready (rs := [29]) (by kernel_rfl) (by simp) ?_
      refine AllReadyH.cons rfl (fun KK hKK => ?_) AllReadyH.nil
      go_simp
      refine (so_any (V := ⟨d, .slice pc0 x.C.length cc0, m, r, q, s⟩) (V' := V3) (OS2.o (by assumption)) HO3.out.at_ HL.out HL.out true (by simp)).mono ?_
      rintro e w' ⟨rfl, hg⟩
      refine hKK.out _ _ ?_ (fun hHeld => ?_)
      · exact OS2.kept0 (by assumption) hg
      clear hKK KK hg
      try simp only [Act.put, List.setIfInBounds_toArray, List.set_cons_zero, List.set_cons_succ, List.getElem_toArray, List.getElem_cons_succ, List.getElem_cons_zero]
      refine wpAnyH_take (i := 30) (v := ?_) rfl (by kernel_rfl) (by kernel_rfl) (by kernel_rfl) (fun _ _ _ h => h) (Or.inl ⟨by kernel_rfl, ?_⟩) (by assumption) ?_
      rotate_left
      · (intro w hSw; clear hSw; go_simp; try with_reducible rfl)
      try simp only [Act.put, List.setIfInBounds_toArray, List.set_cons_zero, List.set_cons_succ, List.getElem_toArray, List.getElem_cons_succ, List.getElem_cons_zero]
      refine wpAnyH_take (i := 31) (v := ?_) rfl (by kernel_rfl) (by kernel_rfl) (by kernel_rfl) (fun _ _ _ h => h) (Or.inl ⟨by kernel_rfl, ?_⟩) (by assumption) ?_
      rotate_left
      · (intro w hSw; clear hSw; go_simp; try with_reducible rfl)
      try simp only [Act.put, List.setIfInBounds_toArray, List.set_cons_zero, List.set_cons_succ, List.getElem_toArray, List.getElem_cons_succ, List.getElem_cons_zero]
      refine wpAnyH_done (by kernel_rfl) ?_ _
      go_wp2
      go_ret
      exact ⟨rfl, OS2.below (by assumption)⟩
end Go.Proofs.YtfkecmcnhmlnoaaDoor

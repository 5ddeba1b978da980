/- Whether an object is light: a contract. (Made by gobjl.py.) -/
import Derived.Test.YtgahbpfmiibpeaaGreatDoorZObjH
import Derived.Test.YtgahbpfmiibpeaaGreatDoorZGByt
import Derived.Test.YtgahbpfmiibpeaaGreatDoorZGObjE
import Derived.Test.YtgahbpfmiibpeaaGreatDoorZObjG
import Derived.Test.YtgahbpfmiibpeaaGreatDoorZGObjA
import Derived.Test.YtgahbpfmiibpeaaGreatDoorZGMem
import Derived.Deep.Slices
import Derived.ChangeArms
namespace Go.Proofs.YtgahbpfmiibpeaaGreatDoor
open Go.RowKit
structure LightP (x : PO) (n : Int) : Prop where
  d : (x.D.length : Int) ≤ n
  c : (x.C.length : Int) ≤ n
  m : (x.M.length : Int) ≤ n + 20
  r : (x.R.length : Int) ≤ 40
  q : (x.Q.length : Int) ≤ 80
  s : (x.S.length : Int) ≤ 40
def LiAt (w : World) (x : PO) (n : Int) (e : Ending) (w' : World) : Prop := (∃ b, e = .returned (.bool b) ∧ (b = true → LightP x n)) ∧ w.grownBy w' none
set_option maxRecDepth 100000 in
set_option maxHeartbeats 8000000 in
theorem light_any {w : World} {V : OV} {x : PO} (h : OAt w V x) (hf : OFit x) (n : Int) (h0 : 0 ≤ n) (h1 : n ≤ 1000000) :
    Calls Tryz.prog 10 #[V.agg, .int .i64 n] w (LiAt w x n) := by
  obtain ⟨d, c, m, r, q, s⟩ := V
  obtain ⟨p0, c0, hv0⟩ := h.d.len'
  obtain rfl : d = _ := hv0
  obtain ⟨p1, c1, hv1⟩ := h.c.len'
  obtain rfl : c = _ := hv1
  obtain ⟨p2, c2, hv2⟩ := h.m.len'
  obtain rfl : m = _ := hv2
  obtain ⟨p3, c3, hv3⟩ := h.r.len
  obtain rfl : r = _ := hv3
  obtain ⟨p4, c4, hv4⟩ := h.q.len
  obtain rfl : q = _ := hv4
  obtain ⟨p5, c5, hv5⟩ := h.s.len
  obtain rfl : s = _ := hv5
  have HB := hid (Bo.new h)
  have hL := hf.l
  have hx : (maxLen : Int) ≤ 9223372036854775807 := by unfold maxLen; omega
  have hl0 : (x.D.length : Int) ≤ 9223372036854775807 := by omega
  have hl1 : (x.C.length : Int) ≤ 9223372036854775807 := by omega
  have hl2 : (x.M.length : Int) ≤ 9223372036854775807 := by omega
  have hl3 : (x.R.length : Int) ≤ 9223372036854775807 := by omega
  have hl4 : (x.Q.length : Int) ≤ 9223372036854775807 := by omega
  have hl5 : (x.S.length : Int) ≤ 9223372036854775807 := by omega
  clear h hf hL hx
  go_enter Tryz.func10, Tryz.ntmps10
  go_upto_region 1 with (fail)
  generalize w.alloc (.cells #[.slice p0 x.D.length c0, .slice p1 x.C.length c1, .slice p2 x.M.length c2, .slice p3 x.R.length c3, .slice p4 x.Q.length c4, .slice p5 x.S.length c5] 27) = w1 at HB ⊢
  obtain ⟨G, hG⟩ : ∃ G, w.heap.size = G := ⟨_, rfl⟩
  try rw [hG] at HB ⊢
  try rw [hG] at HB
  clear hG
  have e0 := HB.out.box.cell 0 rfl
  have e1 := HB.out.box.cell 1 rfl
  have e2 := HB.out.box.cell 2 rfl
  have e3 := HB.out.box.cell 3 rfl
  have e4 := HB.out.box.cell 4 rfl
  have e5 := HB.out.box.cell 5 rfl
  by_cases b0 : (x.D.length : Int) > n
  · go_wp2
    go_ret
    exact ⟨⟨false, rfl, fun h => by cases h⟩, HB.out.g⟩
  by_cases b1 : (x.C.length : Int) > n
  · go_wp2
    go_ret
    exact ⟨⟨false, rfl, fun h => by cases h⟩, HB.out.g⟩
  by_cases b2 : (x.M.length : Int) > n + 20
  · go_wp2
    go_ret
    exact ⟨⟨false, rfl, fun h => by cases h⟩, HB.out.g⟩
  by_cases b3 : (x.R.length : Int) > 40
  · go_wp2
    go_ret
    exact ⟨⟨false, rfl, fun h => by cases h⟩, HB.out.g⟩
  by_cases b4 : (x.Q.length : Int) > 80
  · go_wp2
    go_ret
    exact ⟨⟨false, rfl, fun h => by cases h⟩, HB.out.g⟩
  by_cases b5 : (x.S.length : Int) > 40
  · go_wp2
    go_ret
    exact ⟨⟨false, rfl, fun h => by cases h⟩, HB.out.g⟩
  have HP : Hid (LightP x n) := hid ⟨by omega, by omega, by omega, by omega, by omega, by omega⟩
  go_wp2
  clear e0 e1 e2 e3 e4 b0 b1 b2 b3 b4 b5
  go_loop [5] (fun i => ∃ k : Nat, k ≤ x.S.length ∧ i = .int .i64 k) (fun i => x.S.length - (intOf i).toNat)
  case atStart => exact ⟨0, Nat.zero_le _, rfl⟩
  case round =>
    obtain ⟨k, hk, rfl⟩ := hrel
    have k0 : (0 : Int) ≤ (k : Int) := by omega
    by_cases hlt : k < x.S.length
    · have kn : (k : Int) < (x.S.length : Int) := by omega
      obtain ⟨⟨nm, si, sv, sg⟩, hs⟩ : ∃ y, x.S[k]? = some y := ⟨_, List.getElem?_eq_getElem hlt⟩
      obtain ⟨b, o, c', hv, _, hb, hc⟩ := HB.out.o.s.at_ (by omega)
      obtain ⟨rfl, rfl⟩ : p5 = some ⟨b, o, none⟩ ∧ c5 = c' := by simpa using hv
      have h4 := SyAt.cells hc hs
      have f0 := h4.c0
      clear h4 hc hv hb hs
      by_cases hz : (nm.size : Int) > 60
      · go_wp2
        go_ret
        exact ⟨⟨false, rfl, fun h => by cases h⟩, HB.out.g⟩
      · go_wp2
        go_round
        case rel => exact ⟨k + 1, by omega, by go_num⟩
        case measure => simp [intOf]; omega
    · go_wp2
      go_ret
      exact ⟨⟨true, rfl, fun _ => HP.out⟩, HB.out.g⟩
end Go.Proofs.YtgahbpfmiibpeaaGreatDoor
/- The chapter's example (facadelaw9.first): a contract. -/
namespace Go.Proofs.YtgahbpfmiibpeaaGreatDoor
open Go.RowKit
end Go.Proofs.YtgahbpfmiibpeaaGreatDoor
/- Objects compared; a light one: contracts. (Made by gobji.py.) -/
namespace Go.Proofs.YtgahbpfmiibpeaaGreatDoor
open Go.RowKit
/-- two objects' boxes -/
structure Bd (w0 w : World) (G1 G2 : Nat) (V V' : OV) (x x' : PO) : Prop where
  a : RwAt w G1 27 #[V.d, V.c, V.m, V.r, V.q, V.s]
  b : RwAt w G2 27 #[V'.d, V'.c, V'.m, V'.r, V'.q, V'.s]
  o : OAt w V x
  p : OAt w V' x'
  g : w0.grownBy w none
theorem Bd.kept0 {w0 w w1 : World} {G1 G2 : Nat} {V V' : OV} {x x' : PO} (h : Bd w0 w G1 G2 V V' x x') (hg : w.grownBy w1 none) : Bd w0 w1 G1 G2 V V' x x' := ⟨h.a.kept0 hg, h.b.kept0 hg, h.o.kept0 hg, h.p.kept0 hg, grown_trans h.g hg⟩
theorem Bd.new {w : World} {V V' : OV} {x x' : PO} (h : OAt w V x) (h' : OAt w V' x') :
    Bd w ((w.alloc (.cells #[V.d, V.c, V.m, V.r, V.q, V.s] 27)).alloc (.cells #[V'.d, V'.c, V'.m, V'.r, V'.q, V'.s] 27)) w.heap.size (w.heap.size + 1) V V' x x' := by
  have hg := grown_alloc (World.grownBy_alloc w (.cells #[V.d, V.c, V.m, V.r, V.q, V.s] 27) none) (.cells #[V'.d, V'.c, V'.m, V'.r, V'.q, V'.s] 27)
  exact ⟨(RwAt.new w _ _).alloc _, RwAt.new2 w _ _ _, h.kept0 hg, h'.kept0 hg, hg⟩
theorem po_ext {x y : PO} : decide (x = y) = (decide (x.D = y.D) && (decide (x.C = y.C) && (decide (x.M = y.M) && (decide (x.R = y.R) && (decide (x.Q = y.Q) && decide (x.S = y.S)))))) := by
  obtain ⟨a, b, c, d, e, f⟩ := x
  obtain ⟨a', b', c', d', e', f'⟩ := y
  simp [PO.mk.injEq]
/-- lists that are compared are not too long -/
def Ll (x : PO) : Prop := x.D.length ≤ 1000000 ∧ x.C.length ≤ 1000000 ∧ x.M.length ≤ 1000000 ∧ x.R.length ≤ 1000000 ∧ x.Q.length ≤ 1000000 ∧ x.S.length ≤ 1000000


end Go.Proofs.YtgahbpfmiibpeaaGreatDoor
/- Objects as arguments: opened. -/
namespace Go.Proofs.YtgahbpfmiibpeaaGreatDoor
open Go.Joins Go.ChangeShapes Go.WideShapes Go.RowKit Go.Deep
section
variable {H : Type} {enc : TypeId × Value → H} {W : World}
set_option maxRecDepth 100000 in
theorem rl_of {fuel : Nat} {cs : List Value} {x : DataW H × List MemPlace} (h : DataW.trod enc Tryz.prog W 0 (fun _ => true) true fuel 90 cs = some x) : ∃ r : Rl, cs = rlC r := by
  have c1 : Tryz.prog.cellsOf 3 = 1 := by kernel_rfl
  have c4 : Tryz.prog.cellsOf 90 = 4 := by kernel_rfl
  obtain ⟨xs, n, _, _, hlen, hxl, hg⟩ := DataW.trod_struct Tryz.underlying90 h
  rw [c4] at hlen
  match cs, hlen, xs, hxl with
  | [v0, v1, v2, v3], _, [y0, y1, y2, y3], _ =>
    have g0 := hg 0 _ rfl
    have g1 := hg 1 _ rfl
    have g2 := hg 2 _ rfl
    have g3 := hg 3 _ rfl
    simp [c1] at g0 g1 g2 g3
    obtain ⟨a0, e0, _, _⟩ := DataW.trod_int Tryz.underlying3 g0
    obtain ⟨a1, e1, _, _⟩ := DataW.trod_int Tryz.underlying3 g1
    obtain ⟨a2, e2, _, _⟩ := DataW.trod_int Tryz.underlying3 g2
    obtain ⟨a3, e3, _, _⟩ := DataW.trod_int Tryz.underlying3 g3
    simp only [List.cons.injEq, and_true] at e0 e1 e2 e3
    subst e0; subst e1; subst e2; subst e3
    exact ⟨⟨a0, a1, a2, a3⟩, rfl⟩
set_option maxRecDepth 100000 in
theorem sy_of {fuel : Nat} {cs : List Value} {x : DataW H × List MemPlace} (h : DataW.trod enc Tryz.prog W 0 (fun _ => true) true fuel 88 cs = some x) : ∃ r : Sy, cs = syC r := by
  have c0 : Tryz.prog.cellsOf 9 = 1 := by kernel_rfl
  have c1 : Tryz.prog.cellsOf 3 = 1 := by kernel_rfl
  have c2 : Tryz.prog.cellsOf 4 = 1 := by kernel_rfl
  have c4 : Tryz.prog.cellsOf 88 = 4 := by kernel_rfl
  obtain ⟨xs, n, _, _, hlen, hxl, hg⟩ := DataW.trod_struct Tryz.underlying88 h
  rw [c4] at hlen
  match cs, hlen, xs, hxl with
  | [v0, v1, v2, v3], _, [y0, y1, y2, y3], _ =>
    have g0 := hg 0 _ rfl
    have g1 := hg 1 _ rfl
    have g2 := hg 2 _ rfl
    have g3 := hg 3 _ rfl
    simp [c0, c1, c2] at g0 g1 g2 g3
    obtain ⟨a0, e0, _, _⟩ := DataW.trod_string Tryz.underlying9 g0
    obtain ⟨a1, e1, _, _⟩ := DataW.trod_int Tryz.underlying3 g1
    obtain ⟨a2, e2, _, _⟩ := DataW.trod_int Tryz.underlying3 g2
    obtain ⟨a3, e3, _⟩ := DataW.trod_bool Tryz.underlying4 g3
    simp only [List.cons.injEq, and_true] at e0 e1 e2 e3
    subst e0; subst e1; subst e2; subst e3
    exact ⟨⟨a0, a1, a2, a3⟩, rfl⟩
set_option maxRecDepth 100000 in
/-- a slice of things of four cells each -/
theorem csat_of {α : Type} (C : α → List Value) (Cs : List α → List Value) (hC : ∀ a, (C a).length = 4) (hnil : Cs [] = []) (hcons : ∀ a l, Cs (a :: l) = C a ++ Cs l)
    {t e : TypeId} {fuel : Nat} {v : Value} {x : DataW H × List MemPlace} (ht : Tryz.prog.underlying t = some (.slice e)) (hc : Tryz.prog.cellsOf e = 4)
    (each : ∀ {fuel : Nat} {cs : List Value} {x : DataW H × List MemPlace}, DataW.trod enc Tryz.prog W 0 (fun _ => true) true fuel e cs = some x → ∃ r : α, cs = C r)
    (h : DataW.trod enc Tryz.prog W 0 (fun _ => true) true fuel t [v] = some x) : ∃ l : List α, CsAt W v l.length (Cs l) ∧ l.length ≤ maxLen := by
  rcases open_slice ht h with ⟨hcs, _⟩ | ⟨a, len, cap, m, n, D, Pl, hcs, _, hl, hm, hmm, _, hi⟩
  · obtain rfl : v = _ := by simpa using hcs
    exact ⟨[], .inl ⟨⟨_, _, rfl⟩, rfl, hnil⟩, by simp⟩
  · obtain rfl : v = _ := by simpa using hcs
    simp only [if_true] at hmm
    have one : ∀ i, i < len → ∃ d : α, W.cells? 0 (a.add (i * 4)) 4 = some (C d) := by
      intro i hil
      obtain ⟨cs', hc', ht⟩ := hi i (by omega)
      rw [hc] at hc'
      obtain ⟨dd, rfl⟩ := each ht
      exact ⟨dd, hc'⟩
    have all : ∀ k, k ≤ len → ∃ l : List α, l.length = k ∧ ∀ i d, l[i]? = some d → W.cells? 0 (a.add (i * 4)) 4 = some (C d) := by
      intro k
      induction k with
      | zero => exact fun _ => ⟨[], rfl, by simp⟩
      | succ k ih =>
        intro hk
        obtain ⟨l, hll, hl⟩ := ih (by omega)
        obtain ⟨d, hd⟩ := one k (by omega)
        refine ⟨l ++ [d], by simp [hll], fun i z hz => ?_⟩
        by_cases e : i < l.length
        · rw [List.getElem?_append_left e] at hz; exact hl i z hz
        · have hik : i = k := by
            have := (List.getElem?_eq_some_iff.1 hz).1
            simp at this; omega
          subst hik
          rw [List.getElem?_append_right (by omega), hll] at hz
          simp at hz
          subst hz
          exact hd
    obtain ⟨l, hll, hl2⟩ := all len (Nat.le_refl _)
    have hget : ∀ (l : List α) (k j : Nat) (s : α), l[k]? = some s → j < 4 → (Cs l)[k * 4 + j]? = (C s)[j]? := by
      intro l
      induction l with
      | nil => intro k j s h; simp at h
      | cons y r ih =>
        intro k j s h hj
        rw [hcons]
        match k, h with
        | 0, h =>
          obtain rfl : y = s := by simpa using h
          rw [Nat.zero_mul, Nat.zero_add, List.getElem?_append_left (by rw [hC]; exact hj)]
        | k + 1, h =>
          rw [List.getElem?_append_right (by rw [hC]; omega), hC, ← ih k j s (by simpa using h) hj]
          congr 1; omega
    have hlenC : ∀ l : List α, (Cs l).length = l.length * 4 := by
      intro l
      induction l with
      | nil => rw [hnil]; rfl
      | cons y r ih => rw [hcons, List.length_append, hC, ih, List.length_cons]; omega
    subst hll
    by_cases h0 : l.length = 0
    · obtain rfl : l = [] := List.eq_nil_of_length_eq_zero h0
      exact ⟨[], .inl ⟨⟨_, _, rfl⟩, rfl, hnil⟩, by simp⟩
    · obtain ⟨d0, hd0⟩ : ∃ d, l[0]? = some d := ⟨_, List.getElem?_eq_getElem (by omega)⟩
      obtain ⟨b, off, spot⟩ := a
      have hc0 := hl2 0 d0 hd0
      obtain ⟨_, _, hat0⟩ := World.cells?_some hc0
      have h00 := (hat0 0 (by omega)).trans (List.getElem?_eq_getElem (by rw [hC]; omega))
      have hspot : spot = none := by simpa [Addr.add] using World.cell?_spot h00
      subst hspot
      refine ⟨l, .inr ⟨b, off, cap, rfl, hl, by rw [Addr.add_mid, Addr.add_mid] at h00; exact World.block_lt_of_cell? W _ h00, fun j u hu => ?_⟩, by omega⟩
      have hj : j < l.length * 4 := by have := (List.getElem?_eq_some_iff.1 hu).1; rwa [hlenC] at this
      obtain ⟨s, hs⟩ : ∃ s, l[j / 4]? = some s := ⟨_, List.getElem?_eq_getElem (by omega)⟩
      have h1 := hget l (j / 4) (j % 4) s hs (by omega)
      rw [show j / 4 * 4 + j % 4 = j by omega, hu] at h1
      obtain ⟨_, _, hat⟩ := World.cells?_some (hl2 _ s hs)
      have h2 := hat (j % 4) (by omega)
      rw [← h1, Addr.add_mid, Addr.add_mid] at h2
      rw [← h2]
      congr 2
      omega
set_option maxRecDepth 100000 in
theorem open_object {b0 : Nat} {v : Value} {d : DataW H} {p : List MemPlace}
    (hv : Value.okWide Tryz.prog W .any b0 27 v) (h : DataW.Trod enc Tryz.prog W 0 (fun _ => true) true 27 v d p) :
    ∃ (V : OV) (x : PO), v = V.agg ∧ OAt W V x ∧ OFit x := by
  have hs := Tryz.underlying27
  have hC : Tryz.prog.cellsOf 27 = 6 := by kernel_rfl
  have c0 : Tryz.prog.cellsOf 22 = 1 := by kernel_rfl
  have c1 : Tryz.prog.cellsOf 23 = 1 := by kernel_rfl
  have c2 : Tryz.prog.cellsOf 24 = 1 := by kernel_rfl
  have c3 : Tryz.prog.cellsOf 25 = 1 := by kernel_rfl
  have cu : Tryz.prog.cellsOf 46 = 1 := by kernel_rfl
  have cb : Tryz.prog.cellsOf 5 = 1 := by kernel_rfl
  have cr : Tryz.prog.cellsOf 90 = 4 := by kernel_rfl
  have cy : Tryz.prog.cellsOf 88 = 4 := by kernel_rfl
  obtain ⟨cs, rfl, hsz⟩ := okWide_struct hs hv
  obtain ⟨l⟩ := cs
  match l, hsz.trans hC with
  | [v0, v1, v2, v3, v4, v5], _ =>
    obtain ⟨fuel, hf⟩ := h
    obtain ⟨xs, n, _, hx, _, hlen, hg⟩ := DataW.trod_struct hs hf
    match xs, hlen with
    | [y0, y1, y2, y3, y4, y5], _ =>
      have g0 := hg 0 _ rfl
      have g1 := hg 1 _ rfl
      have g2 := hg 2 _ rfl
      have g3 := hg 3 _ rfl
      have g4 := hg 4 _ rfl
      have g5 := hg 5 _ rfl
      clear hg hf hx hv
      simp [Value.cells, c0, c1, c2, c3] at g0 g1 g2 g3 g4 g5
      have ints : ∀ {t e : TypeId} {k : IntKind} {v : Value} {x : DataW H × List MemPlace}, Tryz.prog.underlying t = some (.slice e) → Tryz.prog.underlying e = some (.int k) → Tryz.prog.cellsOf e = 1 →
          DataW.trod enc Tryz.prog W 0 (fun _ => true) true n t [v] = some x → ∃ xs : List Int, SlAt W k v xs ∧ (∀ n ∈ xs, (Lit.int k n).wf = true) ∧ xs.length ≤ maxLen := by
        intro t e k v x ht he hc hh
        rcases open_slice ht hh with ⟨hcs, _⟩ | ⟨a, len, cap, _, _, _, _, hcs, _⟩
        · obtain rfl : v = _ := by simpa using hcs
          exact slat_of_cells ht he hc hh
        · obtain rfl : v = _ := by simpa using hcs
          exact slat_of_cells ht he hc hh
      obtain ⟨D, hD, wD, lD⟩ := ints Tryz.underlying22 Tryz.underlying46 cu g0
      obtain ⟨C, hC, wC, lC⟩ := ints Tryz.underlying22 Tryz.underlying46 cu g1
      obtain ⟨M, hM, wM, lM⟩ := ints Tryz.underlying23 Tryz.underlying5 cb g2
      obtain ⟨R, hR, lR⟩ := csat_of rlC rlsC (fun _ => rfl) rfl (fun _ _ => rfl) Tryz.underlying24 cr rl_of g3
      obtain ⟨Q, hQ, lQ⟩ := csat_of rlC rlsC (fun _ => rfl) rfl (fun _ _ => rfl) Tryz.underlying24 cr rl_of g4
      obtain ⟨S, hS, lS⟩ := csat_of syC sysC (fun _ => rfl) rfl (fun _ _ => rfl) Tryz.underlying25 cy sy_of g5
      refine ⟨⟨v0, v1, v2, v3, v4, v5⟩, ⟨D, C, M, R, Q, S⟩, rfl, ⟨hD, hC, hM, hR, hQ, hS⟩, ⟨fun n hn => ?_, fun n hn => ?_, fun n hn => ?_, lD, lC, lM, lR, lQ, lS⟩⟩
      · have := u32_bd (wD n hn); omega
      · have := u32_bd (wC n hn); omega
      · have h' := (Bool.and_eq_true _ _).mp (wM n hn)
        have h1 : 0 ≤ n := of_decide_eq_true h'.1
        have h2 : n ≤ 255 := of_decide_eq_true h'.2
        omega
end
end Go.Proofs.YtgahbpfmiibpeaaGreatDoor

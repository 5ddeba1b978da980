/- Whether an object is light: a contract. (Made by gobjl.py.) -/
import Derived.Test.YteanoklaammpiaaDoorZObjH
namespace Go.Proofs.YteanoklaammpiaaDoor
open Go.RowKit
structure LightP (x : PO) (n : Int) : Prop where
  d : (x.D.length : Int) ≤ n
  c : (x.C.length : Int) ≤ n
  m : (x.M.length : Int) ≤ n + 20
  r : (x.R.length : Int) ≤ 40
  q : (x.Q.length : Int) ≤ 80
  s : (x.S.length : Int) ≤ 40
def LiAt (w : World) (x : PO) (n : Int) (e : Ending) (w' : World) : Prop := (∃ b, e = .returned (.bool b) ∧ (b = true → LightP x n)) ∧ w.grownBy w' none
set_option maxRecDepth 100000 in
set_option maxHeartbeats 8000000 in
theorem light_any {w : World} {V : OV} {x : PO} (h : OAt w V x) (hf : OFit x) (n : Int) (h0 : 0 ≤ n) (h1 : n ≤ 1000000) :
    Calls Tryd.prog 9 #[V.agg, .int .i64 n] w (LiAt w x n) := by
  obtain ⟨d, c, m, r, q, s⟩ := V
  obtain ⟨p0, c0, hv0⟩ := h.d.len'
  obtain rfl : d = _ := hv0
  obtain ⟨p1, c1, hv1⟩ := h.c.len'
  obtain rfl : c = _ := hv1
  obtain ⟨p2, c2, hv2⟩ := h.m.len'
  obtain rfl : m = _ := hv2
  obtain ⟨p3, c3, hv3⟩ := h.r.len
  obtain rfl : r = _ := hv3
  obtain ⟨p4, c4, hv4⟩ := h.q.len
  obtain rfl : q = _ := hv4
  obtain ⟨p5, c5, hv5⟩ := h.s.len
  obtain rfl : s = _ := hv5
  have HB := hid (Bo.new h)
  have hL := hf.l
  have hx : (maxLen : Int) ≤ 9223372036854775807 := by unfold maxLen; omega
  have hl0 : (x.D.length : Int) ≤ 9223372036854775807 := by omega
  have hl1 : (x.C.length : Int) ≤ 9223372036854775807 := by omega
  have hl2 : (x.M.length : Int) ≤ 9223372036854775807 := by omega
  have hl3 : (x.R.length : Int) ≤ 9223372036854775807 := by omega
  have hl4 : (x.Q.length : Int) ≤ 9223372036854775807 := by omega
  have hl5 : (x.S.length : Int) ≤ 9223372036854775807 := by omega
  clear h hf hL hx
  go_enter Tryd.func9, Tryd.ntmps9
  go_upto_region 1 with (fail)
  generalize w.alloc (.cells #[.slice p0 x.D.length c0, .slice p1 x.C.length c1, .slice p2 x.M.length c2, .slice p3 x.R.length c3, .slice p4 x.Q.length c4, .slice p5 x.S.length c5] 27) = w1 at HB ⊢
  obtain ⟨G, hG⟩ : ∃ G, w.heap.size = G := ⟨_, rfl⟩
  try rw [hG] at HB ⊢
  try rw [hG] at HB
  clear hG
  have e0 := HB.out.box.cell 0 rfl
  have e1 := HB.out.box.cell 1 rfl
  have e2 := HB.out.box.cell 2 rfl
  have e3 := HB.out.box.cell 3 rfl
  have e4 := HB.out.box.cell 4 rfl
  have e5 := HB.out.box.cell 5 rfl
  by_cases b0 : (x.D.length : Int) > n
  · go_wp2
    go_ret
    exact ⟨⟨false, rfl, fun h => by cases h⟩, HB.out.g⟩
  by_cases b1 : (x.C.length : Int) > n
  · go_wp2
    go_ret
    exact ⟨⟨false, rfl, fun h => by cases h⟩, HB.out.g⟩
  by_cases b2 : (x.M.length : Int) > n + 20
  · go_wp2
    go_ret
    exact ⟨⟨false, rfl, fun h => by cases h⟩, HB.out.g⟩
  by_cases b3 : (x.R.length : Int) > 40
  · go_wp2
    go_ret
    exact ⟨⟨false, rfl, fun h => by cases h⟩, HB.out.g⟩
  by_cases b4 : (x.Q.length : Int) > 80
  · go_wp2
    go_ret
    exact ⟨⟨false, rfl, fun h => by cases h⟩, HB.out.g⟩
  by_cases b5 : (x.S.length : Int) > 40
  · go_wp2
    go_ret
    exact ⟨⟨false, rfl, fun h => by cases h⟩, HB.out.g⟩
  have HP : Hid (LightP x n) := hid ⟨by omega, by omega, by omega, by omega, by omega, by omega⟩
  go_wp2
  clear e0 e1 e2 e3 e4 b0 b1 b2 b3 b4 b5
  go_loop [5] (fun i => ∃ k : Nat, k ≤ x.S.length ∧ i = .int .i64 k) (fun i => x.S.length - (intOf i).toNat)
  case atStart => exact ⟨0, Nat.zero_le _, rfl⟩
  case round =>
    obtain ⟨k, hk, rfl⟩ := hrel
    have k0 : (0 : Int) ≤ (k : Int) := by omega
    by_cases hlt : k < x.S.length
    · have kn : (k : Int) < (x.S.length : Int) := by omega
      obtain ⟨⟨nm, si, sv, sg⟩, hs⟩ : ∃ y, x.S[k]? = some y := ⟨_, List.getElem?_eq_getElem hlt⟩
      obtain ⟨b, o, c', hv, _, hb, hc⟩ := HB.out.o.s.at_ (by omega)
      obtain ⟨rfl, rfl⟩ : p5 = some ⟨b, o, none⟩ ∧ c5 = c' := by simpa using hv
      have h4 := SyAt.cells hc hs
      have f0 := h4.c0
      clear h4 hc hv hb hs
      by_cases hz : (nm.size : Int) > 60
      · go_wp2
        go_ret
        exact ⟨⟨false, rfl, fun h => by cases h⟩, HB.out.g⟩
      · go_wp2
        go_round
        case rel => exact ⟨k + 1, by omega, by go_num⟩
        case measure => simp [intOf]; omega
    · go_wp2
      go_ret
      exact ⟨⟨true, rfl, fun _ => HP.out⟩, HB.out.g⟩
end Go.Proofs.YteanoklaammpiaaDoor

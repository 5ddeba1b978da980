/- Package link: what is known of a part; objects in a slice. -/
import Derived.Test.YtnpnafidhcnkhaaGreatDoorYLnk4
namespace Go.Proofs.YtnpnafidhcnkhaaGreatDoor
open Go.RowKit
/-! ### what is known of a part whose object may be -/
theorem in_ok {y : PO} {l : List Rl} {k : Nat} {n : Int} (h : inB y l k n = true) : 0 ≤ (rlN l k).a ∧ (rlN l k).a < n ∧ 0 ≤ (rlN l k).s ∧ (rlN l k).s < y.S.length ∧ -65536 ≤ (rlN l k).d ∧ (rlN l k).d ≤ 65536 := by
  unfold inB at h
  have := of_decide_eq_true h
  exact this.2
theorem rlN_get {l : List Rl} {k : Nat} {r : Rl} (h : l[k]? = some r) : rlN l k = r := by unfold rlN; rw [List.getD_eq_getElem?_getD, h]; rfl
theorem woQ_same (x : PO) (r : Rl) : (woQ x r).a = r.a ∧ (woQ x r).s = r.s ∧ (woQ x r).d = r.d ∧ (r.k = 1 ∨ (woQ x r).k = r.k) := by
  unfold woQ
  split
  · rename_i h; exact ⟨rfl, rfl, rfl, .inl h.1⟩
  · exact ⟨rfl, rfl, rfl, .inr rfl⟩
theorem ptok_of {x : PO} {d c : Nat} (hv : validP (woC x) = none) (hb : ObB x) (hd : d ≤ 100000) (hc : c ≤ 100000) : PtOk ⟨x, d, c⟩ := by
  have hok := valid_ok hv
  have hmany := hok.many
  unfold manyB at hmany
  simp only [decide_eq_false_iff_not] at hmany
  have hCl : (woC x).C.length = x.C.length := woCn_length x _
  have hQl : (woC x).Q.length = x.Q.length := woQn_length x _
  have hlen : x.M.length = x.C.length := by rw [← hCl]; exact hok.len
  refine ⟨hb, hlen, fun r hr => ?_, fun r hr => ?_, fun s hs => ?_, ⟨hd, hc⟩, ?_⟩
  · obtain ⟨k, hk⟩ := List.getElem?_of_mem hr
    have hk : x.Q[k]? = some r := hk
    have hkl := (List.getElem?_eq_some_iff.1 hk).1
    have hw : (woC x).Q[k]? = some (woQ x r) := by
      show (woQn x x.Q.length)[k]? = _
      rw [woQn_get hk, if_pos hkl]
    have h1 := hok.cod k (by rw [hQl]; exact hkl)
    unfold codeF at h1
    by_cases h2 : inB (woC x) (woC x).Q k (woC x).C.length = false ∨ ((rlN (woC x).Q k).k ≠ 1 ∧ (rlN (woC x).Q k).k ≠ 2)
    · rw [if_pos h2] at h1; cases h1
    · rw [not_or] at h2
      have h3 := in_ok (y := woC x) (l := (woC x).Q) (k := k) (n := ((woC x).C.length : Int)) (by simpa using h2.1)
      have h4 := h2.2
      rw [rlN_get hw] at h3 h4
      obtain ⟨e1, e2, e3, e4⟩ := woQ_same x r
      rw [e1, e2, e3, hCl] at h3
      obtain ⟨a0, a1, s0, s1, d0, d1⟩ := h3
      refine ⟨⟨a0, a1⟩, ⟨s0, s1⟩, ?_, fun hm => ?_, d0, d1⟩
      · rcases e4 with e | e
        · exact .inl e
        · rw [e] at h4; omega
      · by_cases h0 : r.a = 0
        · exfalso
          rw [h0] at hm a1
          have hC : 0 < (woC x).C.length := by rw [hCl]; omega
          have hw0 := hok.word 0 hC
          have hm0 : mapN (woC x) 0 = 0 := hm
          unfold wordF opB at hw0
          rw [hm0] at hw0
          simp at hw0
          exact absurd hw0 (by decide)
        · omega
  · obtain ⟨k, hk⟩ := List.getElem?_of_mem hr
    have hk : x.R[k]? = some r := hk
    have hkl := (List.getElem?_eq_some_iff.1 hk).1
    have h1 := hok.dat k hkl
    unfold dataF at h1
    by_cases h2 : inB (woC x) (woC x).R k (woC x).D.length = false ∨ (rlN (woC x).R k).k ≠ 1
    · rw [if_pos h2] at h1; cases h1
    · rw [not_or] at h2
      have h3 := in_ok (y := woC x) (l := (woC x).R) (k := k) (n := ((woC x).D.length : Int)) (by simpa using h2.1)
      have h4 := Classical.not_not.1 h2.2
      have hw : (woC x).R[k]? = some r := hk
      rw [rlN_get hw] at h3 h4
      obtain ⟨a0, a1, s0, s1, d0, d1⟩ := h3
      exact ⟨⟨a0, a1⟩, ⟨s0, s1⟩, h4, d0, d1⟩
  · obtain ⟨k, hk⟩ := List.getElem?_of_mem hs
    have hk : x.S[k]? = some s := hk
    have hkl := (List.getElem?_eq_some_iff.1 hk).1
    have h1 := hok.sym k hkl
    have hsn : symN (woC x) k = s := by
      show x.S.getD k sy0 = s
      rw [List.getD_eq_getElem?_getD, hk]; rfl
    unfold symF at h1
    rw [hsn] at h1
    have hst : standsB (woC x) s = true := by
      by_cases a : s.n.size = 0 ∨ 32 < s.n.size
      · rw [if_pos a] at h1; cases h1
      · rw [if_neg a] at h1
        by_cases b : twiceB (woC x) k = true
        · rw [if_pos b] at h1; cases h1
        · rw [if_neg b] at h1
          by_cases c : standsB (woC x) s = true
          · exact c
          · rw [if_neg c] at h1; cases h1
    have hDl : (woC x).D.length = x.D.length := rfl
    unfold standsB at hst
    by_cases i1 : s.i = 1
    · rw [if_pos i1] at hst
      have := of_decide_eq_true hst
      exact ⟨by omega, .inl i1, fun _ => this.2, fun e => by omega⟩
    · rw [if_neg i1] at hst
      by_cases i2 : s.i = 2
      · rw [if_pos i2] at hst
        have := of_decide_eq_true hst
        rw [hCl] at this
        exact ⟨by omega, .inr (.inl i2), fun e => absurd e i1, fun _ => ⟨this.2.1, this.2.2⟩⟩
      · rw [if_neg i2] at hst
        by_cases i3 : s.i = 3
        · rw [if_pos i3] at hst
          have := of_decide_eq_true hst
          exact ⟨by omega, .inr (.inr i3), fun e => absurd e i1, fun e => absurd e i2⟩
        · rw [if_neg i3] at hst; cases hst
  · show x.D.length ≤ 2048 ∧ x.C.length ≤ 2048
    have hDl : (woC x).D.length = x.D.length := rfl
    omega
/-! ### objects in a slice -/
structure Ob where
  V : OV
  x : PO
def obC (o : Ob) : List Value := [o.V.d, o.V.c, o.V.m, o.V.r, o.V.q, o.V.s]
theorem obC_length (o : Ob) : (obC o).length = 6 := rfl
structure ObsAt (w : World) (v : Value) (L : List Ob) : Prop where
  cs : CsAt w v L.length (csL obC L)
  each : ∀ o ∈ L, OAt w o.V o.x
theorem ObsAt.kept0 {w w1 : World} {v : Value} {L : List Ob} (h : ObsAt w v L) (hg : w.grownBy w1 none) : ObsAt w1 v L := ⟨h.cs.kept0 hg, fun o ho => (h.each o ho).kept0 hg⟩
/-- the cells of object k -/
theorem ob_item {w : World} {v : Value} {L : List Ob} {k : Nat} {o : Ob} (h : ObsAt w v L) (hk : L[k]? = some o) :
    ∃ b q c, v = .slice (some ⟨b, q, none⟩) L.length c ∧ b < w.heap.size ∧ w.cell? ⟨b, q + k * 6, none⟩ = some o.V.d ∧ w.cell? ⟨b, q + k * 6 + 1, none⟩ = some o.V.c ∧ w.cell? ⟨b, q + k * 6 + 2, none⟩ = some o.V.m ∧ w.cell? ⟨b, q + k * 6 + 3, none⟩ = some o.V.r ∧ w.cell? ⟨b, q + k * 6 + 4, none⟩ = some o.V.q ∧ w.cell? ⟨b, q + k * 6 + 5, none⟩ = some o.V.s := by
  obtain ⟨b, q, c, rfl, _, hb, hc⟩ := h.cs.at_ (by have := (List.getElem?_eq_some_iff.1 hk).1; omega)
  have g : ∀ j u, j < 6 → (obC o)[j]? = some u → w.cell? ⟨b, q + (k * 6 + j), none⟩ = some u := fun j u hj hu => hc (k * 6 + j) u (by rw [csL_get obC_length L k j o hk hj]; exact hu)
  exact ⟨b, q, c, rfl, hb, g 0 _ (by decide) rfl, g 1 _ (by decide) rfl, g 2 _ (by decide) rfl, g 3 _ (by decide) rfl, g 4 _ (by decide) rfl, g 5 _ (by decide) rfl⟩
/-- the cells of part k -/
theorem pt_item {w : World} {v : Value} {Q : List Pv} {k : Nat} {q : Pv} (h : CsAt w v Q.length (ptsC Q)) (hk : Q[k]? = some q) :
    ∃ b o c, v = .slice (some ⟨b, o, none⟩) Q.length c ∧ b < w.heap.size ∧ w.cell? ⟨b, o + k * 8, none⟩ = some q.V.d ∧ w.cell? ⟨b, o + k * 8 + 1, none⟩ = some q.V.c ∧ w.cell? ⟨b, o + k * 8 + 2, none⟩ = some q.V.m ∧ w.cell? ⟨b, o + k * 8 + 3, none⟩ = some q.V.r ∧ w.cell? ⟨b, o + k * 8 + 4, none⟩ = some q.V.q ∧ w.cell? ⟨b, o + k * 8 + 5, none⟩ = some q.V.s ∧ w.cell? ⟨b, o + k * 8 + 6, none⟩ = some (.int .i64 q.p.d) ∧ w.cell? ⟨b, o + k * 8 + 7, none⟩ = some (.int .i64 q.p.c) := by
  obtain ⟨b, o, c, rfl, _, hb, hc⟩ := h.at_ (by have := (List.getElem?_eq_some_iff.1 hk).1; omega)
  have g : ∀ j u, j < 8 → (ptC q)[j]? = some u → w.cell? ⟨b, o + (k * 8 + j), none⟩ = some u := fun j u hj hu => hc (k * 8 + j) u (by rw [csL_get ptC_length Q k j q hk hj]; exact hu)
  exact ⟨b, o, c, rfl, hb, g 0 _ (by decide) rfl, g 1 _ (by decide) rfl, g 2 _ (by decide) rfl, g 3 _ (by decide) rfl, g 4 _ (by decide) rfl, g 5 _ (by decide) rfl, g 6 _ (by decide) rfl, g 7 _ (by decide) rfl⟩
end Go.Proofs.YtnpnafidhcnkhaaGreatDoor

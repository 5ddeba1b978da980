/- Objects as arguments: opened. -/
import Derived.Test.YteanoklaammpiaaDoorZGObjA
import Derived.Test.YteanoklaammpiaaDoorZGMem
import Derived.Deep.Slices
import Derived.ChangeArms
namespace Go.Proofs.YteanoklaammpiaaDoor
open Go.Joins Go.ChangeShapes Go.WideShapes Go.RowKit Go.Deep
section
variable {H : Type} {enc : TypeId × Value → H} {W : World}
set_option maxRecDepth 100000 in
theorem rl_of {fuel : Nat} {cs : List Value} {x : DataW H × List MemPlace} (h : DataW.trod enc Tryd.prog W 0 (fun _ => true) true fuel 81 cs = some x) : ∃ r : Rl, cs = rlC r := by
  have c1 : Tryd.prog.cellsOf 3 = 1 := by kernel_rfl
  have c4 : Tryd.prog.cellsOf 81 = 4 := by kernel_rfl
  obtain ⟨xs, n, _, _, hlen, hxl, hg⟩ := DataW.trod_struct Tryd.underlying81 h
  rw [c4] at hlen
  match cs, hlen, xs, hxl with
  | [v0, v1, v2, v3], _, [y0, y1, y2, y3], _ =>
    have g0 := hg 0 _ rfl
    have g1 := hg 1 _ rfl
    have g2 := hg 2 _ rfl
    have g3 := hg 3 _ rfl
    simp [c1] at g0 g1 g2 g3
    obtain ⟨a0, e0, _, _⟩ := DataW.trod_int Tryd.underlying3 g0
    obtain ⟨a1, e1, _, _⟩ := DataW.trod_int Tryd.underlying3 g1
    obtain ⟨a2, e2, _, _⟩ := DataW.trod_int Tryd.underlying3 g2
    obtain ⟨a3, e3, _, _⟩ := DataW.trod_int Tryd.underlying3 g3
    simp only [List.cons.injEq, and_true] at e0 e1 e2 e3
    subst e0; subst e1; subst e2; subst e3
    exact ⟨⟨a0, a1, a2, a3⟩, rfl⟩
set_option maxRecDepth 100000 in
theorem sy_of {fuel : Nat} {cs : List Value} {x : DataW H × List MemPlace} (h : DataW.trod enc Tryd.prog W 0 (fun _ => true) true fuel 63 cs = some x) : ∃ r : Sy, cs = syC r := by
  have c0 : Tryd.prog.cellsOf 9 = 1 := by kernel_rfl
  have c1 : Tryd.prog.cellsOf 3 = 1 := by kernel_rfl
  have c2 : Tryd.prog.cellsOf 4 = 1 := by kernel_rfl
  have c4 : Tryd.prog.cellsOf 63 = 4 := by kernel_rfl
  obtain ⟨xs, n, _, _, hlen, hxl, hg⟩ := DataW.trod_struct Tryd.underlying63 h
  rw [c4] at hlen
  match cs, hlen, xs, hxl with
  | [v0, v1, v2, v3], _, [y0, y1, y2, y3], _ =>
    have g0 := hg 0 _ rfl
    have g1 := hg 1 _ rfl
    have g2 := hg 2 _ rfl
    have g3 := hg 3 _ rfl
    simp [c0, c1, c2] at g0 g1 g2 g3
    obtain ⟨a0, e0, _, _⟩ := DataW.trod_string Tryd.underlying9 g0
    obtain ⟨a1, e1, _, _⟩ := DataW.trod_int Tryd.underlying3 g1
    obtain ⟨a2, e2, _, _⟩ := DataW.trod_int Tryd.underlying3 g2
    obtain ⟨a3, e3, _⟩ := DataW.trod_bool Tryd.underlying4 g3
    simp only [List.cons.injEq, and_true] at e0 e1 e2 e3
    subst e0; subst e1; subst e2; subst e3
    exact ⟨⟨a0, a1, a2, a3⟩, rfl⟩
set_option maxRecDepth 100000 in
/-- a slice of things of four cells each -/
theorem csat_of {α : Type} (C : α → List Value) (Cs : List α → List Value) (hC : ∀ a, (C a).length = 4) (hnil : Cs [] = []) (hcons : ∀ a l, Cs (a :: l) = C a ++ Cs l)
    {t e : TypeId} {fuel : Nat} {v : Value} {x : DataW H × List MemPlace} (ht : Tryd.prog.underlying t = some (.slice e)) (hc : Tryd.prog.cellsOf e = 4)
    (each : ∀ {fuel : Nat} {cs : List Value} {x : DataW H × List MemPlace}, DataW.trod enc Tryd.prog W 0 (fun _ => true) true fuel e cs = some x → ∃ r : α, cs = C r)
    (h : DataW.trod enc Tryd.prog W 0 (fun _ => true) true fuel t [v] = some x) : ∃ l : List α, CsAt W v l.length (Cs l) ∧ l.length ≤ maxLen := by
  rcases open_slice ht h with ⟨hcs, _⟩ | ⟨a, len, cap, m, n, D, Pl, hcs, _, hl, hm, hmm, _, hi⟩
  · obtain rfl : v = _ := by simpa using hcs
    exact ⟨[], .inl ⟨⟨_, _, rfl⟩, rfl, hnil⟩, by simp⟩
  · obtain rfl : v = _ := by simpa using hcs
    simp only [if_true] at hmm
    have one : ∀ i, i < len → ∃ d : α, W.cells? 0 (a.add (i * 4)) 4 = some (C d) := by
      intro i hil
      obtain ⟨cs', hc', ht⟩ := hi i (by omega)
      rw [hc] at hc'
      obtain ⟨dd, rfl⟩ := each ht
      exact ⟨dd, hc'⟩
    have all : ∀ k, k ≤ len → ∃ l : List α, l.length = k ∧ ∀ i d, l[i]? = some d → W.cells? 0 (a.add (i * 4)) 4 = some (C d) := by
      intro k
      induction k with
      | zero => exact fun _ => ⟨[], rfl, by simp⟩
      | succ k ih =>
        intro hk
        obtain ⟨l, hll, hl⟩ := ih (by omega)
        obtain ⟨d, hd⟩ := one k (by omega)
        refine ⟨l ++ [d], by simp [hll], fun i z hz => ?_⟩
        by_cases e : i < l.length
        · rw [List.getElem?_append_left e] at hz; exact hl i z hz
        · have hik : i = k := by
            have := (List.getElem?_eq_some_iff.1 hz).1
            simp at this; omega
          subst hik
          rw [List.getElem?_append_right (by omega), hll] at hz
          simp at hz
          subst hz
          exact hd
    obtain ⟨l, hll, hl2⟩ := all len (Nat.le_refl _)
    have hget : ∀ (l : List α) (k j : Nat) (s : α), l[k]? = some s → j < 4 → (Cs l)[k * 4 + j]? = (C s)[j]? := by
      intro l
      induction l with
      | nil => intro k j s h; simp at h
      | cons y r ih =>
        intro k j s h hj
        rw [hcons]
        match k, h with
        | 0, h =>
          obtain rfl : y = s := by simpa using h
          rw [Nat.zero_mul, Nat.zero_add, List.getElem?_append_left (by rw [hC]; exact hj)]
        | k + 1, h =>
          rw [List.getElem?_append_right (by rw [hC]; omega), hC, ← ih k j s (by simpa using h) hj]
          congr 1; omega
    have hlenC : ∀ l : List α, (Cs l).length = l.length * 4 := by
      intro l
      induction l with
      | nil => rw [hnil]; rfl
      | cons y r ih => rw [hcons, List.length_append, hC, ih, List.length_cons]; omega
    subst hll
    by_cases h0 : l.length = 0
    · obtain rfl : l = [] := List.eq_nil_of_length_eq_zero h0
      exact ⟨[], .inl ⟨⟨_, _, rfl⟩, rfl, hnil⟩, by simp⟩
    · obtain ⟨d0, hd0⟩ : ∃ d, l[0]? = some d := ⟨_, List.getElem?_eq_getElem (by omega)⟩
      obtain ⟨b, off, spot⟩ := a
      have hc0 := hl2 0 d0 hd0
      obtain ⟨_, _, hat0⟩ := World.cells?_some hc0
      have h00 := (hat0 0 (by omega)).trans (List.getElem?_eq_getElem (by rw [hC]; omega))
      have hspot : spot = none := by simpa [Addr.add] using World.cell?_spot h00
      subst hspot
      refine ⟨l, .inr ⟨b, off, cap, rfl, hl, by rw [Addr.add_mid, Addr.add_mid] at h00; exact World.block_lt_of_cell? W _ h00, fun j u hu => ?_⟩, by omega⟩
      have hj : j < l.length * 4 := by have := (List.getElem?_eq_some_iff.1 hu).1; rwa [hlenC] at this
      obtain ⟨s, hs⟩ : ∃ s, l[j / 4]? = some s := ⟨_, List.getElem?_eq_getElem (by omega)⟩
      have h1 := hget l (j / 4) (j % 4) s hs (by omega)
      rw [show j / 4 * 4 + j % 4 = j by omega, hu] at h1
      obtain ⟨_, _, hat⟩ := World.cells?_some (hl2 _ s hs)
      have h2 := hat (j % 4) (by omega)
      rw [← h1, Addr.add_mid, Addr.add_mid] at h2
      rw [← h2]
      congr 2
      omega
set_option maxRecDepth 100000 in
theorem open_object {b0 : Nat} {v : Value} {d : DataW H} {p : List MemPlace}
    (hv : Value.okWide Tryd.prog W .any b0 27 v) (h : DataW.Trod enc Tryd.prog W 0 (fun _ => true) true 27 v d p) :
    ∃ (V : OV) (x : PO), v = V.agg ∧ OAt W V x ∧ OFit x := by
  have hs := Tryd.underlying27
  have hC : Tryd.prog.cellsOf 27 = 6 := by kernel_rfl
  have c0 : Tryd.prog.cellsOf 22 = 1 := by kernel_rfl
  have c1 : Tryd.prog.cellsOf 23 = 1 := by kernel_rfl
  have c2 : Tryd.prog.cellsOf 24 = 1 := by kernel_rfl
  have c3 : Tryd.prog.cellsOf 25 = 1 := by kernel_rfl
  have cu : Tryd.prog.cellsOf 42 = 1 := by kernel_rfl
  have cb : Tryd.prog.cellsOf 5 = 1 := by kernel_rfl
  have cr : Tryd.prog.cellsOf 81 = 4 := by kernel_rfl
  have cy : Tryd.prog.cellsOf 63 = 4 := by kernel_rfl
  obtain ⟨cs, rfl, hsz⟩ := okWide_struct hs hv
  obtain ⟨l⟩ := cs
  match l, hsz.trans hC with
  | [v0, v1, v2, v3, v4, v5], _ =>
    obtain ⟨fuel, hf⟩ := h
    obtain ⟨xs, n, _, hx, _, hlen, hg⟩ := DataW.trod_struct hs hf
    match xs, hlen with
    | [y0, y1, y2, y3, y4, y5], _ =>
      have g0 := hg 0 _ rfl
      have g1 := hg 1 _ rfl
      have g2 := hg 2 _ rfl
      have g3 := hg 3 _ rfl
      have g4 := hg 4 _ rfl
      have g5 := hg 5 _ rfl
      clear hg hf hx hv
      simp [Value.cells, c0, c1, c2, c3] at g0 g1 g2 g3 g4 g5
      have ints : ∀ {t e : TypeId} {k : IntKind} {v : Value} {x : DataW H × List MemPlace}, Tryd.prog.underlying t = some (.slice e) → Tryd.prog.underlying e = some (.int k) → Tryd.prog.cellsOf e = 1 →
          DataW.trod enc Tryd.prog W 0 (fun _ => true) true n t [v] = some x → ∃ xs : List Int, SlAt W k v xs ∧ (∀ n ∈ xs, (Lit.int k n).wf = true) ∧ xs.length ≤ maxLen := by
        intro t e k v x ht he hc hh
        rcases open_slice ht hh with ⟨hcs, _⟩ | ⟨a, len, cap, _, _, _, _, hcs, _⟩
        · obtain rfl : v = _ := by simpa using hcs
          exact slat_of_cells ht he hc hh
        · obtain rfl : v = _ := by simpa using hcs
          exact slat_of_cells ht he hc hh
      obtain ⟨D, hD, wD, lD⟩ := ints Tryd.underlying22 Tryd.underlying42 cu g0
      obtain ⟨C, hC, wC, lC⟩ := ints Tryd.underlying22 Tryd.underlying42 cu g1
      obtain ⟨M, hM, wM, lM⟩ := ints Tryd.underlying23 Tryd.underlying5 cb g2
      obtain ⟨R, hR, lR⟩ := csat_of rlC rlsC (fun _ => rfl) rfl (fun _ _ => rfl) Tryd.underlying24 cr rl_of g3
      obtain ⟨Q, hQ, lQ⟩ := csat_of rlC rlsC (fun _ => rfl) rfl (fun _ _ => rfl) Tryd.underlying24 cr rl_of g4
      obtain ⟨S, hS, lS⟩ := csat_of syC sysC (fun _ => rfl) rfl (fun _ _ => rfl) Tryd.underlying25 cy sy_of g5
      refine ⟨⟨v0, v1, v2, v3, v4, v5⟩, ⟨D, C, M, R, Q, S⟩, rfl, ⟨hD, hC, hM, hR, hQ, hS⟩, ⟨fun n hn => ?_, fun n hn => ?_, fun n hn => ?_, lD, lC, lM, lR, lQ, lS⟩⟩
      · have := u32_bd (wD n hn); omega
      · have := u32_bd (wC n hn); omega
      · have h' := (Bool.and_eq_true _ _).mp (wM n hn)
        have h1 : 0 ≤ n := of_decide_eq_true h'.1
        have h2 : n ≤ 255 := of_decide_eq_true h'.2
        omega
end
end Go.Proofs.YteanoklaammpiaaDoor

/- Package relax: items in a world; may: contract. -/
import Derived.Test.YtmhkghkfpkekbaaRel2
namespace Go.Proofs.Ytmhkghkfpkekbaa
open Go.RowKit
def itC (r : RIt) : List Value := [.int .i64 r.s, .int .i64 r.t, .bool r.b]
def itsC : List RIt → List Value
  | [] => []
  | r :: l => itC r ++ itsC l
theorem itsC_length : ∀ l : List RIt, (itsC l).length = l.length * 3
  | [] => rfl
  | r :: l => by
    have := itsC_length l
    simp only [itsC, itC, List.length_append, List.length_cons, List.length_nil, this]
    omega
theorem itsC_get : ∀ (l : List RIt) (k j : Nat) (r : RIt), l[k]? = some r → j < 3 → (itsC l)[k * 3 + j]? = (itC r)[j]?
  | [], _, _, _, h, _ => by simp at h
  | x :: l, 0, j, r, h, hj => by
    obtain rfl : x = r := by simpa using h
    rw [itsC, List.getElem?_append_left (by simp [itC]; omega), Nat.zero_mul, Nat.zero_add]
  | x :: l, k + 1, j, r, h, hj => by
    rw [itsC, List.getElem?_append_right (by simp [itC]; omega), ← itsC_get l k j r (by simpa using h) hj]
    congr 1
    simp [itC]
    omega
theorem itsC_append : ∀ (a b : List RIt), itsC (a ++ b) = itsC a ++ itsC b
  | [], _ => rfl
  | x :: a, b => by rw [List.cons_append, itsC, itsC, itsC_append a b, List.append_assoc]
abbrev RiAt (w : World) (v : Value) (l : List RIt) : Prop := CsAt w v l.length (itsC l)
/-- the cells of item k -/
theorem RiAt.item {w : World} {v : Value} {l : List RIt} {k : Nat} {r : RIt} (h : RiAt w v l) (hr : l[k]? = some r) :
    ∃ b o c, v = .slice (some ⟨b, o, none⟩) l.length c ∧ b < w.heap.size ∧ w.cell? ⟨b, o + k * 3, none⟩ = some (.int .i64 r.s) ∧ w.cell? ⟨b, o + k * 3 + 1, none⟩ = some (.int .i64 r.t) ∧ w.cell? ⟨b, o + k * 3 + 2, none⟩ = some (.bool r.b) := by
  obtain ⟨b, o, c, rfl, _, hb, hc⟩ := h.at_ (by have := (List.getElem?_eq_some_iff.1 hr).1; omega)
  refine ⟨b, o, c, rfl, hb, ?_, ?_, ?_⟩
  · exact hc (k * 3 + 0) _ (by rw [itsC_get l k 0 r hr (by decide)]; rfl)
  · rw [Nat.add_assoc]; exact hc (k * 3 + 1) _ (by rw [itsC_get l k 1 r hr (by decide)]; rfl)
  · rw [Nat.add_assoc]; exact hc (k * 3 + 2) _ (by rw [itsC_get l k 2 r hr (by decide)]; rfl)
theorem okR_no {L : List RIt} {k : Nat} {r : RIt} (hr : L[k]? = some r) (h : okRI L.length r = false) : validR L = false := by
  unfold validR okR
  rw [Bool.and_eq_false_iff]
  right
  rw [List.all_eq_false]
  exact ⟨r, List.mem_of_getElem? hr, by simp [h]⟩
theorem okR_yes {L : List RIt} (hl : L.length ≤ 4096) (h : ∀ (k : Nat) (r : RIt), L[k]? = some r → okRI L.length r = true) : validR L = true := by
  unfold validR okR
  rw [Bool.and_eq_true]
  refine ⟨by simpa using hl, List.all_eq_true.2 fun r hr => ?_⟩
  obtain ⟨k, hk⟩ := List.getElem?_of_mem hr
  exact h k r hk
set_option maxRecDepth 100000 in
set_option maxHeartbeats 4000000 in
theorem may_any {W : World} {v : Value} {L : List RIt} (h : RiAt W v L) (hL : L.length ≤ 1000000) :
    Calls Try.prog 21 #[v] W fun e w' => e = .returned (.bool (validR L)) ∧ W.grownBy w' none := by
  obtain ⟨p, c, hv⟩ := h.len
  subst hv
  obtain ⟨n, hn⟩ : ∃ n, L.length = n := ⟨_, rfl⟩
  have HN := hid hn
  have HA := hid h
  have HP := hid (fun (t : Int) (w : World) => hasPlace_any (p := p) (n := n) (c := c) (t := t) (by omega) w)
  have n0 : (0 : Int) ≤ (n : Int) := by omega
  have n1 : (n : Int) ≤ 1000000 := by omega
  by_cases hb : n ≤ 4096
  · have nb : (n : Int) ≤ 4096 := by omega
    have Hnb := hid hb
    rw [hn]
    clear h hL hn hb
    go_enter Try.func21, Try.ntmps21
    go_wp2
    go_loopw [10] (fun i wr => ∃ k : Nat, k ≤ n ∧ i = .int .i64 k ∧ Hid (W.grownBy wr none ∧ ∀ (j : Nat) (r : RIt), j < k → L[j]? = some r → okRI L.length r = true)) (fun i _ => n - (intOf i).toNat)
    case atStart => exact ⟨0, Nat.zero_le _, rfl, hid ⟨grown_refl _ _, fun j _ hj => by omega⟩⟩
    case round =>
      obtain ⟨k, hk, rfl, HR⟩ := hrel
      have k0 : (0 : Int) ≤ (k : Int) := by omega
      by_cases hlt : k < n
      · have kn : (k : Int) < (n : Int) := by omega
        have Hlt := hid hlt
        obtain ⟨r, hr⟩ : ∃ r, L[k]? = some r := ⟨_, List.getElem?_eq_getElem (by have := HN.out; omega)⟩
        have HRr := hid hr
        obtain ⟨b, o, c', hv, hb, c0, c1, c2⟩ := RiAt.item (HA.out.kept0 HR.out.1) hr
        simp only [Value.slice.injEq] at hv
        obtain ⟨rfl, -, -⟩ := hv
        obtain ⟨s, t, br⟩ := r
        simp only at c0 c1 c2
        have HX := hid (RwAt.new wr 29 #[.int .i64 s, .int .i64 t, .bool br])
        have HG := hid (grown_trans HR.out.1 (World.grownBy_alloc wr (.cells #[.int .i64 s, .int .i64 t, .bool br] 29) none))
        clear hr hlt hb hk
        go_upto_region 6 with (fail)
        obtain ⟨X, hX⟩ : ∃ X, wr.heap.size = X := ⟨_, rfl⟩
        rw [hX] at HX ⊢
        clear hX c0 c1 c2
        generalize wr.alloc (.cells #[.int .i64 s, .int .i64 t, .bool br] 29) = w2 at HX HG ⊢
        have x0 := HX.out.cell 0 (v := .int .i64 s) rfl
        have x1 := HX.out.cell 1 (v := .int .i64 t) rfl
        have x2 := HX.out.cell 2 (v := .bool br) rfl
        by_cases s0 : s < 0
        · have HF : Hid (validR L = false) := hid (okR_no HRr.out (by simp [okRI]; intros; omega))
          go_wp2
          go_ret
          exact ⟨ret_b HF.out.symm, HG.out⟩
        · by_cases s1 : s > 2048
          · have HF : Hid (validR L = false) := hid (okR_no HRr.out (by simp [okRI]; intros; omega))
            have s0' : 0 ≤ s := by omega
            go_wp2
            go_ret
            exact ⟨ret_b HF.out.symm, HG.out⟩
          · have s0' : 0 ≤ s := by omega
            have s1' : s ≤ 2048 := by omega
            have Hs := hid (And.intro s0' s1')
            have d0 : decide (s < 0) = false := by simpa using s0'
            have d1 : decide (2048 < s) = false := by simpa using s1'
            clear s0 s1
            cases br
            · go_wp2
              go_roundw
              case rel =>
                refine ⟨k + 1, Hlt.out, by go_num, hid ⟨HG.out, fun j r hj hr => ?_⟩⟩
                rcases Nat.lt_succ_iff_lt_or_eq.1 hj with h | rfl
                · exact HR.out.2 j r h hr
                · rw [HRr.out] at hr; cases hr; simpa [okRI] using Hs.out
              case measure => simp [intOf]; have := Hlt.out; omega
            · by_cases hp : 0 ≤ t ∧ t ≤ (n : Int)
              · have hd : decide (0 ≤ t ∧ t ≤ (n : Int)) = true := by simpa using hp
                have Hp := hid hp
                clear hp
                go_wp2_with fail
                refine (HP.out _ _).mono ?_
                rintro e w3 ⟨rfl, hg⟩
                rw [hd]
                have HG3 := hid (grown_trans HG.out hg)
                clear hg
                go_wp2
                go_roundw
                case rel =>
                  refine ⟨k + 1, Hlt.out, by go_num, hid ⟨HG3.out, fun j r hj hr => ?_⟩⟩
                  rcases Nat.lt_succ_iff_lt_or_eq.1 hj with h | rfl
                  · exact HR.out.2 j r h hr
                  · rw [HRr.out] at hr; cases hr; have := Hs.out; have := Hp.out; simp [okRI, HN.out]; omega
                case measure => simp [intOf]; have := Hlt.out; omega
              · have hd : decide (0 ≤ t ∧ t ≤ (n : Int)) = false := by simpa using hp
                have HF : Hid (validR L = false) := hid (okR_no HRr.out (by simp only [okRI, HN.out, hd]; simp))
                clear hp
                go_wp2_with fail
                refine (HP.out _ _).mono ?_
                rintro e w3 ⟨rfl, hg⟩
                rw [hd]
                have HG3 := hid (grown_trans HG.out hg)
                clear hg
                go_wp2
                go_ret
                exact ⟨ret_b HF.out.symm, HG3.out⟩
      · obtain rfl : k = n := by omega
        clear hlt
        have kn : ¬ ((k : Int) < (k : Int)) := by omega
        go_wp2
        go_ret
        refine ⟨ret_b ?_, HR.out.1⟩
        rw [okR_yes (by have := HN.out; have := Hnb.out; omega) (fun j r hr => HR.out.2 j r (by have := HN.out; have := (List.getElem?_eq_some_iff.1 hr).1; omega) hr)]
  · have nb : (n : Int) > 4096 := by omega
    have HF : Hid (validR L = false) := hid (by unfold validR; rw [show decide (L.length ≤ 4096) = false by simp; omega]; rfl)
    have HG := hid (grown_refl W none)
    rw [hn]
    clear h hL hn hb
    go_enter Try.func21, Try.ntmps21
    go_wp2
    go_ret
    exact ⟨ret_b HF.out.symm, HG.out⟩
end Go.Proofs.Ytmhkghkfpkekbaa

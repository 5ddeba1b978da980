/- The document's chapter 12 (ValidItems, Places, fits), lists of bools compared and copied: contracts. -/
import Derived.Test.YtmhkghkfpkekbaaRel5
namespace Go.Proofs.Ytmhkghkfpkekbaa
open Go.RowKit
set_option maxRecDepth 100000 in
theorem sb_any {w : World} {va vb : Value} {la lb : List Bool} (ha : BlAt w va la) (hb : BlAt w vb lb) (h1 : la.length ≤ 1000000) (_h2 : lb.length ≤ 1000000) (r : Bool) (hr : decide (la = lb) = r) :
    Calls Try.prog 13 #[va, vb] w fun e w' => e = .returned (.bool r) ∧ w.grownBy w' none := by
  obtain ⟨p, c, rfl⟩ := ha.len
  obtain ⟨q, d, rfl⟩ := hb.len
  by_cases hl : la.length = lb.length
  · have Ha := hid ha
    have Hb := hid hb
    have Hr := hid hr
    have HL := hid hl
    obtain ⟨N, hN⟩ : ∃ N, la.length = N := ⟨_, rfl⟩
    have HN := hid hN
    rw [← hl, hN]
    have n1 : (N : Int) ≤ 1000000 := by omega
    clear ha hb h1 _h2 hr hl hN
    go_enter Try.func13, Try.ntmps13
    go_wp2
    go_loopw [5, 6] (fun i _ wr => ∃ k : Nat, k ≤ N ∧ i = .int .i64 k ∧ Hid (la.take k = lb.take k) ∧ Hid (w.grownBy wr none)) (fun i _ _ => N - (intOf i).toNat)
    case atStart => exact ⟨0, Nat.zero_le _, rfl, hid (by simp), hid (grown_refl _ _)⟩
    case round =>
      obtain ⟨k, hk, rfl, Hk, Hg⟩ := hrel
      have k0 : (0 : Int) ≤ (k : Int) := by omega
      by_cases hlt : k < N
      · have kN : (k : Int) < (N : Int) := by omega
        obtain ⟨b, o, c', hv, hbl, cx⟩ := BlAt.item (Ha.out.kept0 Hg.out) (k := k) (by rw [HN.out]; exact hlt)
        obtain ⟨b', o', d', hv', hbl', cy⟩ := BlAt.item (Hb.out.kept0 Hg.out) (k := k) (by rw [← HL.out, HN.out]; exact hlt)
        simp only [Value.slice.injEq] at hv hv'
        obtain ⟨rfl, -, -⟩ := hv
        obtain ⟨rfl, -, -⟩ := hv'
        have Hx : Hid (la[k]? = some (la.getD k false)) := hid (by rw [List.getD_eq_getElem?_getD, List.getElem?_eq_getElem (by rw [HN.out]; exact hlt)]; rfl)
        have Hy : Hid (lb[k]? = some (lb.getD k false)) := hid (by rw [List.getD_eq_getElem?_getD, List.getElem?_eq_getElem (by rw [← HL.out, HN.out]; exact hlt)]; rfl)
        have Hlt := hid hlt
        generalize la.getD k false = x at cx Hx
        generalize lb.getD k false = y at cy Hy
        clear hbl hbl' hlt hk
        by_cases hxy : x = y
        · subst hxy
          go_wp2
          go_quiet (fail)
          go_wp2
          go_roundw
          case rel =>
            refine ⟨k + 1, Hlt.out, by go_num, hid ?_, hid (grown_drewN Hg.out _)⟩
            rw [List.take_add_one, List.take_add_one, Hk.out, Hx.out, Hy.out]
          case measure => simp [intOf]; have := Hlt.out; omega
        · have hxy2 : (x == y) = false := by simpa using hxy
          go_wp2
          go_quiet (fail)
          go_wp2
          go_ret
          refine ⟨ret_b ?_, grown_drewN Hg.out _⟩
          rw [← Hr.out, eq_comm, decide_eq_false_iff_not]
          intro e
          have e1 := Hx.out
          have e2 := Hy.out
          rw [e, e2] at e1
          exact hxy (Option.some.inj e1).symm
      · have kN : ¬ ((k : Int) < (N : Int)) := by omega
        go_wp2
        go_ret
        refine ⟨ret_b ?_, Hg.out⟩
        have hn : k = N := by omega
        have e := Hk.out
        rw [hn, List.take_of_length_le (by rw [HN.out]; omega), List.take_of_length_le (by rw [← HL.out, HN.out]; omega)] at e
        rw [← Hr.out, e]
        simp
  · have : r = false := by rw [← hr, decide_eq_false_iff_not]; intro e; exact hl (by rw [e])
    subst this
    have hz : ((la.length : Int) == (lb.length : Int)) = false := by simp; omega
    have hz2 : (la.length == lb.length) = false := by simpa using hl
    have Hr := hid (grown_refl w none)
    clear ha hb hr
    go_enter Try.func13, Try.ntmps13
    go_wp2
    go_ret
    exact ⟨rfl, Hr.out⟩
set_option maxRecDepth 100000 in
set_option maxHeartbeats 4000000 in
theorem valid9_any {W : World} {v : Value} {L : List RIt} (h : RiAt W v L) (hL : L.length ≤ 1000000) :
    Calls Try.prog 15 #[v] W fun e w' => e = .returned (.bool (validR L)) ∧ W.grownBy w' none := by
  obtain ⟨p, c, hv⟩ := h.len
  subst hv
  obtain ⟨n, hn⟩ : ∃ n, L.length = n := ⟨_, rfl⟩
  have HN := hid hn
  have HA := hid h
  have n0 : (0 : Int) ≤ (n : Int) := by omega
  have n1 : (n : Int) ≤ 1000000 := by omega
  by_cases hb : n ≤ 4096
  · have nb : (n : Int) ≤ 4096 := by omega
    have Hnb := hid hb
    rw [hn]
    clear h hL hn hb
    go_enter Try.func15, Try.ntmps15
    go_wp2
    go_loopw [3] (fun i wr => ∃ k : Nat, k ≤ n ∧ i = .int .i64 k ∧ Hid (W.grownBy wr none ∧ ∀ (j : Nat) (r : RIt), j < k → L[j]? = some r → okRI L.length r = true)) (fun i _ => n - (intOf i).toNat)
    case atStart => exact ⟨0, Nat.zero_le _, rfl, hid ⟨grown_refl _ _, fun j _ hj => by omega⟩⟩
    case round =>
      obtain ⟨k, hk, rfl, HR⟩ := hrel
      have k0 : (0 : Int) ≤ (k : Int) := by omega
      by_cases hlt : k < n
      · have kn : (k : Int) < (n : Int) := by omega
        have Hlt := hid hlt
        obtain ⟨r, hr⟩ : ∃ r, L[k]? = some r := ⟨_, List.getElem?_eq_getElem (by have := HN.out; omega)⟩
        have HRr := hid hr
        obtain ⟨b, o, c', hv, hb, c0, c1, c2⟩ := RiAt.item (HA.out.kept0 HR.out.1) hr
        simp only [Value.slice.injEq] at hv
        obtain ⟨rfl, -, -⟩ := hv
        obtain ⟨s, t, br⟩ := r
        simp only at c0 c1 c2
        clear hr hlt hb hk
        by_cases s0 : s < 0
        · have HF : Hid (validR L = false) := hid (okR_no HRr.out (by simp [okRI]; intros; omega))
          go_wp2
          go_ret
          exact ⟨ret_b HF.out.symm, HR.out.1⟩
        · have d0 : decide (s < 0) = false := by simpa using s0
          by_cases s1 : s > 2048
          · have HF : Hid (validR L = false) := hid (okR_no HRr.out (by simp [okRI]; intros; omega))
            have s1' : 2048 < s := s1
            go_wp2
            go_ret
            exact ⟨ret_b HF.out.symm, HR.out.1⟩
          · have s0' : 0 ≤ s := by omega
            have s1' : s ≤ 2048 := by omega
            have Hs := hid (And.intro s0' s1')
            have d1 : decide (2048 < s) = false := by simpa using s1'
            clear s0 s1
            cases br
            · go_wp2
              go_roundw
              case rel =>
                refine ⟨k + 1, Hlt.out, by go_num, hid ⟨HR.out.1, fun j r hj hr => ?_⟩⟩
                rcases Nat.lt_succ_iff_lt_or_eq.1 hj with h | rfl
                · exact HR.out.2 j r h hr
                · rw [HRr.out] at hr; cases hr; simpa [okRI] using Hs.out
              case measure => simp [intOf]; have := Hlt.out; omega
            · by_cases t0 : t < 0
              · have HF : Hid (validR L = false) := hid (okR_no HRr.out (by simp [okRI]; intros; omega))
                go_wp2
                go_ret
                exact ⟨ret_b HF.out.symm, HR.out.1⟩
              · have e0 : decide (t < 0) = false := by simpa using t0
                by_cases t1 : t > (n : Int)
                · have HF : Hid (validR L = false) := hid (okR_no HRr.out (by simp [okRI, HN.out]; intros; omega))
                  have t1' : (n : Int) < t := t1
                  go_wp2
                  go_ret
                  exact ⟨ret_b HF.out.symm, HR.out.1⟩
                · have Ht : Hid (0 ≤ t ∧ t ≤ (n : Int)) := hid (by omega)
                  have e1 : decide ((n : Int) < t) = false := by simp; omega
                  clear t0 t1
                  go_wp2
                  go_roundw
                  case rel =>
                    refine ⟨k + 1, Hlt.out, by go_num, hid ⟨HR.out.1, fun j r hj hr => ?_⟩⟩
                    rcases Nat.lt_succ_iff_lt_or_eq.1 hj with h | rfl
                    · exact HR.out.2 j r h hr
                    · rw [HRr.out] at hr; cases hr; have := Hs.out; have := Ht.out; simp [okRI, HN.out]; omega
                  case measure => simp [intOf]; have := Hlt.out; omega
      · obtain rfl : k = n := by omega
        clear hlt
        have kn : ¬ ((k : Int) < (k : Int)) := by omega
        go_wp2
        go_ret
        refine ⟨ret_b ?_, HR.out.1⟩
        rw [okR_yes (by have := HN.out; have := Hnb.out; omega) (fun j r hr => HR.out.2 j r (by have := HN.out; have := (List.getElem?_eq_some_iff.1 hr).1; omega) hr)]
  · have nb : (n : Int) > 4096 := by omega
    have HF : Hid (validR L = false) := hid (by unfold validR; rw [show decide (L.length ≤ 4096) = false by simp; omega]; rfl)
    have HG := hid (grown_refl W none)
    rw [hn]
    clear h hL hn hb
    go_enter Try.func15, Try.ntmps15
    go_wp2
    go_ret
    exact ⟨ret_b HF.out.symm, HG.out⟩
set_option maxRecDepth 100000 in
theorem fits9_any {W : World} {s : Int} {br : Bool} {T k N c : Nat} {o b : Nat} {P Q : Int} (hT : T < N) (hk : k < N) (hN : N ≤ 5001) (hb : b < W.heap.size)
    (cT : W.cell? ⟨b, o + T, none⟩ = some (.int .i64 Q)) (ck : W.cell? ⟨b, o + k, none⟩ = some (.int .i64 P)) (h0 : 0 ≤ P ∧ P ≤ 20000000) (h1 : 0 ≤ Q ∧ Q ≤ 20000000) :
    Calls Try.prog 25 #[.agg #[.int .i64 s, .int .i64 T, .bool br], .int .i64 k, .slice (some ⟨b, o, none⟩) N c] W fun e w' => e = .returned (.bool (nearR (Q - P))) ∧ W.grownBy w' none := by
  have al := World.grownBy_alloc W (.cells #[.int .i64 s, .int .i64 T, .bool br] 52) none
  have HX := hid (RwAt.new W 52 #[.int .i64 s, .int .i64 T, .bool br])
  have HG := hid al
  have HC := hid (And.intro ((grown_cell (p := ⟨b, o + T, none⟩) al hb (by simp)).trans cT) ((grown_cell (p := ⟨b, o + k, none⟩) al hb (by simp)).trans ck))
  have T0 : (0 : Int) ≤ (T : Int) := by omega
  have TN : (T : Int) < (N : Int) := by omega
  have k0 : (0 : Int) ≤ (k : Int) := by omega
  have kN : (k : Int) < (N : Int) := by omega
  have N1 : (N : Int) ≤ 5001 := by omega
  obtain ⟨D, hD⟩ : ∃ D, Q - P = D := ⟨_, rfl⟩
  have hw := wrap_i64_id (n := D) (by omega) (by omega)
  rw [hD]
  clear al cT ck hT hk hN hb h0 h1
  by_cases d1 : D < -128
  · have hn : nearR D = false := by simp [nearR]; omega
    rw [hn]
    have e1 : decide (-128 ≤ D) = false := by simp; omega
    clear d1 hn
    go_enter Try.func25, Try.ntmps25
    go_upto_region 1 with (fail)
    obtain ⟨X, hX⟩ : ∃ X, W.heap.size = X := ⟨_, rfl⟩
    rw [hX] at HX ⊢
    clear hX
    generalize W.alloc (.cells #[.int .i64 s, .int .i64 T, .bool br] 52) = w2 at HX HG HC ⊢
    have x1 := HX.out.cell 1 (v := .int .i64 T) rfl
    have cT := HC.out.1
    have ck := HC.out.2
    go_quiet (fail)
    go_wp2
    go_ret
    exact ⟨rfl, grown_drewN HG.out _⟩
  · have hn : nearR D = decide (D ≤ 127) := by unfold nearR; rw [show decide (-128 ≤ D) = true by simp; omega, Bool.true_and]
    rw [hn]
    have e1 : -128 ≤ D := by omega
    obtain ⟨f, hf⟩ : ∃ f, decide (D ≤ 127) = f := ⟨_, rfl⟩
    rw [hf]
    clear d1 hn
    go_enter Try.func25, Try.ntmps25
    go_upto_region 1 with (fail)
    obtain ⟨X, hX⟩ : ∃ X, W.heap.size = X := ⟨_, rfl⟩
    rw [hX] at HX ⊢
    clear hX
    generalize W.alloc (.cells #[.int .i64 s, .int .i64 T, .bool br] 52) = w2 at HX HG HC ⊢
    have x1 := HX.out.cell 1 (v := .int .i64 T) rfl
    have cT := HC.out.1
    have ck := HC.out.2
    go_quiet (fail)
    go_wp2
    go_ret
    exact ⟨rfl, grown_drewN HG.out _⟩
end Go.Proofs.Ytmhkghkfpkekbaa

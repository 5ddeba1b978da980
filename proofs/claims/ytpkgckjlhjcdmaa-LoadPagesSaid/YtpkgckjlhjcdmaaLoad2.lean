/- Package load: a page of an image, whether an image is light: contracts; chapter 14's first. -/
import Derived.Test.YtpkgckjlhjcdmaaLoad1
namespace Go.Proofs.Ytpkgckjlhjcdmaa
open Go.RowKit
theorem page_no {V : IV} {x : Ig} {e : Int} (W : World) (h : ImAt W V x) (hd : V.dn ≤ 1000000) (hc : V.cn ≤ 1000000) (k : Int) (hk : pageI x k = none) (k0 : -9223372036854775808 ≤ k) (k1 : k ≤ 9223372036854775807) :
    Calls Try.prog 8 #[.agg (imgC V e), .int .i64 k] W fun e' w' => e' = .returned (.tuple #[.slice none 0 0, .bool false]) ∧ W.grownBy w' none := by
  obtain ⟨dp, dn, dc, cp, cn, cc, rp, rn, rc, pp, pn, pc, sp, sn, sc⟩ := V
  have Hr := hid (grown_refl W none)
  have hdl := h.dl
  have hcl := h.cl
  simp only at hd hc hdl hcl
  unfold pageI at hk
  clear h
  by_cases hlt : k < 128
  · rw [if_pos hlt] at hk
    have H1 := hid (fun W => pageOf_no (p := dp) (c := dc) W hd hdl k hk)
    clear hk hd hc hdl hcl
    go_enter Try.func8, Try.ntmps8
    go_wp2_with fail
    refine (H1.out _).mono ?_; rintro e w1 ⟨rfl, rfl⟩
    go_wp2
    go_ret2
    exact ⟨rfl, grown_alloc Hr.out _⟩
  · rw [if_neg hlt] at hk
    obtain ⟨q, hq⟩ : ∃ q : Int, k - 128 = q := ⟨_, rfl⟩
    rw [hq] at hk
    have H1 := hid (fun W => pageOf_no (p := cp) (c := cc) W hc hcl q hk)
    clear hk hd hc hdl hcl
    go_enter Try.func8, Try.ntmps8
    go_wp2_with fail
    refine (H1.out _).mono ?_; rintro e w1 ⟨rfl, rfl⟩
    go_wp2
    go_ret2
    exact ⟨rfl, grown_alloc Hr.out _⟩
theorem page_yes {V : IV} {x : Ig} {e : Int} (W : World) (h : ImAt W V x) (hd : V.dn ≤ 1000000) (hc : V.cn ≤ 1000000) (k : Int) {L : List Int} (hk : pageI x k = some L) (k0 : -9223372036854775808 ≤ k) (k1 : k ≤ 9223372036854775807) :
    Calls Try.prog 8 #[.agg (imgC V e), .int .i64 k] W (PgAt W L) := by
  obtain ⟨dp, dn, dc, cp, cn, cc, rp, rn, rc, pp, pn, pc, sp, sn, sc⟩ := V
  have hdl := h.dl
  have hcl := h.cl
  have hcap := h.cap
  have al := World.grownBy_alloc W (.cells (imgC ⟨dp, dn, dc, cp, cn, cc, rp, rn, rc, pp, pn, pc, sp, sn, sc⟩ e) 26) none
  have hds := h.d.kept0 al
  have hcs := h.c.kept0 al
  simp only [imgC] at hd hc hdl hcl hcap hds hcs al
  unfold pageI at hk
  have Hal := hid al
  clear h al
  by_cases hlt : k < 128
  · rw [if_pos hlt] at hk
    have H1 := hid (pageOf_yes _ hd hdl hcap.1 hcap.2.1 hds k hk)
    clear hk hd hc hdl hcl hds hcs hcap
    go_enter Try.func8, Try.ntmps8
    go_wp2_with fail
    refine (H1.out).mono ?_; rintro e w1 ⟨g, rfl, hg, hs, hw⟩
    have HS := hid hs
    have HG := hid hw
    have Hg := hid hg
    clear hs hg hw
    go_wp2
    go_ret2
    exact ⟨g, rfl, Nat.le_trans Hal.out.size Hg.out, HS.out, grown_trans Hal.out HG.out⟩
  · rw [if_neg hlt] at hk
    obtain ⟨q, hq⟩ : ∃ q : Int, k - 128 = q := ⟨_, rfl⟩
    rw [hq] at hk
    have H1 := hid (pageOf_yes _ hc hcl hcap.2.2.1 hcap.2.2.2 hcs q hk)
    clear hk hd hc hdl hcl hds hcs hcap
    go_enter Try.func8, Try.ntmps8
    go_wp2_with fail
    refine (H1.out).mono ?_; rintro e w1 ⟨g, rfl, hg, hs, hw⟩
    have HS := hid hs
    have HG := hid hw
    have Hg := hid hg
    clear hs hg hw
    go_wp2
    go_ret2
    exact ⟨g, rfl, Nat.le_trans Hal.out.size Hg.out, HS.out, grown_trans Hal.out HG.out⟩
/-- is an image light? -/
def lightI (V : IV) (n : Nat) : Bool := decide (V.dn ≤ n ∧ V.cn ≤ n ∧ V.rn ≤ n ∧ V.pn ≤ n ∧ V.sn ≤ n)
set_option maxHeartbeats 1000000 in
theorem limage_any (V : IV) (e : Int) (W : World) (N : Int) (n : Nat) (hN : N = (n : Int)) (b : Bool) (hb : lightI V n = b) :
    Calls Try.prog 5 #[.agg (imgC V e), .int .i64 N] W fun e' w' => e' = .returned (.bool b) ∧ W.grownBy w' none := by
  subst hN
  subst hb
  obtain ⟨dp, dn, dc, cp, cn, cc, rp, rn, rc, pp, pn, pc, sp, sn, sc⟩ := V
  have Hr := hid (grown_refl W none)
  unfold lightI
  simp only
  by_cases h1 : dn ≤ n
  · by_cases h2 : cn ≤ n
    · by_cases h3 : rn ≤ n
      · by_cases h4 : pn ≤ n
        · by_cases h5 : sn ≤ n
          · have e : decide (dn ≤ n ∧ cn ≤ n ∧ rn ≤ n ∧ pn ≤ n ∧ sn ≤ n) = true := decide_eq_true ⟨h1, h2, h3, h4, h5⟩
            rw [e]
            have i1 : (dn : Int) ≤ n := by omega
            have i2 : (cn : Int) ≤ n := by omega
            have i3 : (rn : Int) ≤ n := by omega
            have i4 : (pn : Int) ≤ n := by omega
            have i5 : (sn : Int) ≤ n := by omega
            go_enter Try.func5, Try.ntmps5
            go_wp2
            go_ret
            exact ⟨rfl, grown_alloc Hr.out _⟩
          · have e : decide (dn ≤ n ∧ cn ≤ n ∧ rn ≤ n ∧ pn ≤ n ∧ sn ≤ n) = false := decide_eq_false (fun h => h5 h.2.2.2.2)
            rw [e]
            have i5 : ¬ (sn : Int) ≤ n := by omega
            go_enter Try.func5, Try.ntmps5
            go_wp2
            go_ret
            exact ⟨rfl, grown_alloc Hr.out _⟩
        · have e : decide (dn ≤ n ∧ cn ≤ n ∧ rn ≤ n ∧ pn ≤ n ∧ sn ≤ n) = false := decide_eq_false (fun h => h4 h.2.2.2.1)
          rw [e]
          go_enter Try.func5, Try.ntmps5
          go_wp2
          go_ret
          exact ⟨rfl, grown_alloc Hr.out _⟩
      · have e : decide (dn ≤ n ∧ cn ≤ n ∧ rn ≤ n ∧ pn ≤ n ∧ sn ≤ n) = false := decide_eq_false (fun h => h3 h.2.2.1)
        rw [e]
        go_enter Try.func5, Try.ntmps5
        go_wp2
        go_ret
        exact ⟨rfl, grown_alloc Hr.out _⟩
    · have e : decide (dn ≤ n ∧ cn ≤ n ∧ rn ≤ n ∧ pn ≤ n ∧ sn ≤ n) = false := decide_eq_false (fun h => h2 h.2.1)
      rw [e]
      go_enter Try.func5, Try.ntmps5
      go_wp2
      go_ret
      exact ⟨rfl, grown_alloc Hr.out _⟩
  · have e : decide (dn ≤ n ∧ cn ≤ n ∧ rn ≤ n ∧ pn ≤ n ∧ sn ≤ n) = false := decide_eq_false (fun h => h1 h.1)
    rw [e]
    go_enter Try.func5, Try.ntmps5
    go_wp2
    go_ret
    exact ⟨rfl, grown_alloc Hr.out _⟩
def iv0 : IV := ⟨none, 0, 0, none, 0, 0, none, 0, 0, none, 0, 0, none, 0, 0⟩
theorem build_image0 (w : World) : (Instr.build 26 #[]).run Try.prog w = .ok (.agg (imgC iv0 0)) w := by kernel_rfl
theorem first14_any (W : World) : Calls Try.prog 4 #[] W fun e w' => e = .returned (.bool true) ∧ W.grownBy w' none := by
  have H1 := hid (fun W => quota_any iv0 0 W (by decide) 17 rfl)
  have hb := build_image0
  go_enter Try.func4, Try.ntmps4
  go_wp2_with fail
  refine (H1.out _).mono ?_; rintro e w1 ⟨rfl, hg⟩
  have HG := hid hg
  clear hg
  go_wp2
  go_ret
  exact ⟨rfl, HG.out⟩
section
variable {ops : Array Oper} {rest : List Oper} {o : Oper} {a : Act} {w : World}
/-- an image is loaded whole, behind a guard or not -/
theorem wpList_load_im {Q : Exit → Act → World → Prop} (hgd : Region.wanted o (yielded ops a.tmps) = true) (p : Operand) (ho : o.op = .load 26 p) {g : Nat} (hx : a.eval p = .pointer (some ⟨g, 0, none⟩)) {V : IV} {e : Int} (hg : RwAt w g 26 (imgC V e))
    (h : wpList Try.prog ops Q rest (a.put o.dst (.agg (imgC V e))) w) : wpList Try.prog ops Q (o :: rest) a w := by
  simp only [wpList, hgd, if_true]
  exact Or.inl (wp_load_row 26 p ho g hx _ _ _ _ hg.blk Try.underlying26 rfl info_image h)
end
theorem sl_cell {w : World} {g n c : Nat} {l : List Int} (h : SlAt w .u32 (.slice (some ⟨g, 0, none⟩) n c) l) {j : Nat} {z : Int} (hz : l[j]? = some z) : w.cell? ⟨g, j, none⟩ = some (.int .u32 z) := by
  rcases h with ⟨_, rfl⟩ | ⟨b, o, c', hv, _, hc⟩
  · cases hz
  · simp only [Value.slice.injEq, Option.some.injEq, Addr.mk.injEq, and_true] at hv
    obtain ⟨⟨rfl, rfl⟩, _⟩ := hv
    have := hc j z hz
    rwa [Nat.zero_add] at this
theorem sl_at {w : World} {k : IntKind} {v : Value} {xs : List Int} (h : SlAt w k v xs) (hn : 0 < xs.length) : ∃ b o c, v = .slice (some ⟨b, o, none⟩) xs.length c ∧ b < w.heap.size ∧ ∀ j x, xs[j]? = some x → w.cell? ⟨b, o + j, none⟩ = some (.int k x) := by
  rcases h with ⟨_, rfl⟩ | h
  · simp at hn
  · exact h
theorem pageOfI_some {l : List Int} {p : Nat} (h : p < pgN l) : pageOfI l (p : Int) = some (pgW l p) := by
  unfold pageOfI
  rw [if_pos ⟨by omega, by omega⟩]
  rfl
theorem pageOfI_none {l : List Int} {p : Int} (h : p < 0 ∨ (pgN l : Int) ≤ p) : pageOfI l p = none := by
  unfold pageOfI
  rw [if_neg (by omega)]
theorem pageI_low {x : Ig} {p : Int} (h : p < 128) : pageI x p = pageOfI x.D p := by unfold pageI; rw [if_pos h]
theorem pageI_high {x : Ig} {p : Int} (h : 128 ≤ p) : pageI x p = pageOfI x.C (p - 128) := by unfold pageI; rw [if_neg (by omega)]
end Go.Proofs.Ytpkgckjlhjcdmaa

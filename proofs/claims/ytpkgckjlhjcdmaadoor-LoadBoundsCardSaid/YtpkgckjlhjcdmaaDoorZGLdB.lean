/- Package load: pages, quota, one page: contracts; whether an image is light. -/
import Derived.Test.YtpkgckjlhjcdmaaDoorZGLdA
import Derived.Test.YtpkgckjlhjcdmaaDoorZGCore
import Derived.Laws.CopyOwn
import Derived.Deep.RegionHeld3
import Derived.BigGuardPart
namespace Go.Proofs.YtpkgckjlhjcdmaaDoor
open Go.RowKit
theorem info_image : (Tryd.prog.info? 29).map (·.size) = some 6 := by kernel_rfl
set_option maxRecDepth 100000 in
theorem pagesOf_any {n c : Nat} {p : Option Addr} (W : World) (hn : n ≤ 1000000) (P : Nat) (hP : (n + 15) / 16 = P) :
    Calls Tryd.prog 51 #[.slice p n c] W fun e w' => e = .returned (.int .i64 P) ∧ w' = W := by
  have hq : ((n : Int) + 16 - 1) / 16 = (P : Int) := by omega
  have h0 : (0 : Int) ≤ (n : Int) + 16 - 1 := by omega
  have h1 : (n : Int) ≤ 1000000 := by omega
  clear hn hP
  go_enter Tryd.func51, Tryd.ntmps51
  go_wp2
  go_ret
  exact ⟨ret_i hq, rfl⟩
set_option maxRecDepth 100000 in
set_option maxHeartbeats 1000000 in
theorem pages_any (V : IV) (e : Int) (W : World) (hd : V.dn ≤ 1000000) (hc : V.cn ≤ 1000000) (D C : Nat) (hD : (V.dn + 15) / 16 = D) (hC : (V.cn + 15) / 16 = C) :
    Calls Tryd.prog 23 #[.agg (imgC V e)] W fun e' w' => e' = .returned (.tuple #[.int .i64 D, .int .i64 C]) ∧ W.grownBy w' none := by
  obtain ⟨dp, dn, dc, cp, cn, cc, rp, rn, rc, pp, pn, pc, sp, sn, sc⟩ := V
  simp only at hd hc hD hC
  have Hr := hid (grown_refl W none)
  have H1 := hid (fun W => pagesOf_any (p := dp) (c := dc) W hd D hD)
  have H2 := hid (fun W => pagesOf_any (p := cp) (c := cc) W hc C hC)
  clear hd hc hD hC
  go_enter Tryd.func23, Tryd.ntmps23
  go_wp2
  go_quiet ((first | (go_at_call 51; first | exact Calls.quiet_of_same (H1.out _) | exact Calls.quiet_of_same (H2.out _))))
  go_wp2
  go_ret2
  exact ⟨rfl, grown_drewN (grown_alloc Hr.out _) _⟩
set_option maxRecDepth 100000 in
set_option maxHeartbeats 1000000 in
theorem quota_any (V : IV) (e : Int) (W : World) (hd : V.dn ≤ 1000000) (Q : Nat) (hQ : 17 + (V.dn + 15) / 16 = Q) :
    Calls Tryd.prog 29 #[.agg (imgC V e)] W fun e' w' => e' = .returned (.int .i64 Q) ∧ W.grownBy w' none := by
  obtain ⟨dp, dn, dc, cp, cn, cc, rp, rn, rc, pp, pn, pc, sp, sn, sc⟩ := V
  simp only at hd hQ
  have Hr := hid (grown_refl W none)
  obtain ⟨D, hD⟩ : ∃ D, (dn + 15) / 16 = D := ⟨_, rfl⟩
  have hq : 17 + (D : Int) = (Q : Int) := by omega
  have hb : (D : Int) ≤ 1000000 := by omega
  have H1 := hid (fun W => pagesOf_any (p := dp) (c := dc) W hd D hD)
  clear hd hD hQ
  go_enter Tryd.func29, Tryd.ntmps29
  go_wp2_with fail
  refine (H1.out _).mono ?_; rintro e w1 ⟨rfl, rfl⟩
  go_wp2
  go_ret
  exact ⟨rfl, grown_alloc Hr.out _⟩
set_option maxRecDepth 100000 in
theorem pageOf_no {l : List Int} {p : Option Addr} {n c : Nat} (W : World) (hn : n ≤ 1000000) (hl : l.length = n) (k : Int) (hk : pageOfI l k = none) :
    Calls Tryd.prog 52 #[.slice p n c, .int .i64 k] W fun e w' => e = .returned (.tuple #[.slice none 0 0, .bool false]) ∧ w' = W := by
  obtain ⟨P, hP⟩ : ∃ P, (n + 15) / 16 = P := ⟨_, rfl⟩
  have H1 := hid (fun W => pagesOf_any (p := p) (c := c) W hn P hP)
  have hk2 : k < 0 ∨ (P : Int) ≤ k := by
    unfold pageOfI pgN at hk
    rw [hl, hP] at hk
    split at hk
    · cases hk
    · omega
  clear hk hn hl hP
  rcases hk2 with h | h
  · go_enter Tryd.func52, Tryd.ntmps52
    go_wp2
    go_ret2
    exact ⟨rfl, rfl⟩
  · have h0 : ¬ k < 0 := by omega
    go_enter Tryd.func52, Tryd.ntmps52
    go_wp2_with fail
    refine (H1.out _).mono ?_; rintro e w1 ⟨rfl, rfl⟩
    go_wp2
    go_ret2
    exact ⟨rfl, rfl⟩
/-- a page that was handed out -/
def PgAt (W : World) (l : List Int) (e : Ending) (w' : World) : Prop :=
  ∃ g, e = .returned (.tuple #[.slice (some ⟨g, 0, none⟩) 16 16, .bool true]) ∧ W.heap.size ≤ g ∧ SlAt w' .u32 (.slice (some ⟨g, 0, none⟩) 16 16) l ∧ W.grownBy w' none
theorem made16 (W : World) : (Instr.makeSlice 26 (.int .i64 16) (.int .i64 16)).run Tryd.prog W = .ok (.slice (some ⟨W.heap.size, 0, none⟩) 16 16) (W.alloc (.cells (List.replicate 16 (Value.int .u32 0)).toArray 25)) := by
  obtain ⟨i, hi, hz0, hz1, hz2⟩ := info_parts (P := Tryd.prog) (e := 25) (z := .int .u32 0) (size := 1) (bytes := 4) (by kernel_rfl)
  have := run_make (P := Tryd.prog) W 26 25 i _ Tryd.underlying26 hi hz0 .i64 .i64 16 16 (by omega) (by omega) (by rw [hz2]; omega) (by omega)
  rw [this, hz1]
  have e := toList_madeZero (.int .u32 0) 16 1 (by omega)
  have e2 : (List.replicate 16 (Value.int .u32 0)).toArray = Array.replicate 16 (.int .u32 0) := List.toArray_replicate ..
  rw [e2, ← e]
  rfl
set_option maxRecDepth 100000 in
set_option maxHeartbeats 2000000 in
theorem pageOf_yes {l : List Int} {p : Option Addr} {n c : Nat} (W : World) (hn : n ≤ 1000000) (hl : l.length = n) (hc : n ≤ c) (_hc2 : c ≤ maxLen) (hs : SlAt W .u32 (.slice p n c) l) (k : Int) {L : List Int} (hk : pageOfI l k = some L) :
    Calls Tryd.prog 52 #[.slice p n c, .int .i64 k] W (PgAt W L) := by
  obtain ⟨P, hP⟩ : ∃ P, (n + 15) / 16 = P := ⟨_, rfl⟩
  have H1 := hid (fun W => pagesOf_any (p := p) (c := c) W hn P hP)
  have hk2 : 0 ≤ k ∧ k < (P : Int) ∧ L = pgW l k.toNat := by
    unfold pageOfI pgN at hk
    rw [hl, hP] at hk
    split at hk
    · rename_i h; exact ⟨h.1, h.2, (Option.some.inj hk).symm⟩
    · cases hk
  obtain ⟨k0, k1, rfl⟩ := hk2
  obtain ⟨q, rfl⟩ := Int.eq_ofNat_of_zero_le k0
  clear hk
  rcases hs with ⟨⟨p', c', hv⟩, rfl⟩ | ⟨b, o, c', hv, hb, hcell⟩
  · simp at hl; omega
  · simp only [Value.slice.injEq] at hv
    obtain ⟨rfl, hv2, rfl⟩ := hv
    clear hv2
    obtain ⟨O, hO⟩ : ∃ O : Nat, q * 16 = O := ⟨_, rfl⟩
    have hO1 : (q : Int) * 16 = (O : Int) := by omega
    have hOn : O < n := by omega
    have hne : ¬ c = O := by omega
    have hOc : O ≤ c := by omega
    have hO2 : (0 : Int) ≤ (O : Int) := by omega
    have hO3 : (O : Int) ≤ 1000000 := by omega
    have hO4 : (O : Int) < (n : Int) := by omega
    have hk3 : ¬ (q : Int) < 0 := by omega
    have hk4 : ¬ (P : Int) ≤ (q : Int) := by omega
    have hmk := made16
    have Hu : Hid ((Tryd.prog.info? 25).map (·.size) = some 1) := hid (by kernel_rfl)
    have HP : Hid ((pgL l q).length = Nat.min (n - O) 16) := hid (by
      unfold pgL
      rw [List.length_take, List.length_drop, hl, show 16 * q = O from by omega]
      show min 16 (n - O) = min (n - O) 16
      omega)
    have Hn : Hid (((pgL l q).map (Value.int .u32)).length = Nat.min (n - O) 16) := hid (by rw [List.length_map]; exact HP.out)
    have Hfit : Hid (0 + ((pgL l q).map (Value.int .u32)).length ≤ (List.replicate 16 (Value.int .u32 0)).length) := hid (by
      have := pgL_length l q
      simp; omega)
    have H1c : Hid (∀ v ∈ (pgL l q).map (Value.int .u32), v.oneCell' = true) := hid (by intro v hv; obtain ⟨x, _, rfl⟩ := List.mem_map.1 hv; rfl)
    have Hpos : Hid (∀ j v, ((pgL l q).map (Value.int .u32))[j]? = some v → (W.alloc (.cells (List.replicate 16 (Value.int .u32 0)).toArray 25)).cell? ((⟨b, o + O, none⟩ : Addr).add j) = some v) := hid (by
      intro j v hv
      obtain ⟨x, hx, rfl⟩ : ∃ x, (pgL l q)[j]? = some x ∧ v = .int .u32 x := by
        simp only [List.getElem?_map, Option.map_eq_some_iff] at hv
        obtain ⟨x, hx, rfl⟩ := hv
        exact ⟨x, hx, rfl⟩
      have hj := (List.getElem?_eq_some_iff.1 hx).1
      have hpl := pgL_length l q
      unfold pgL at hx
      rw [List.getElem?_take, if_pos (by omega), List.getElem?_drop] at hx
      rw [Addr.add_mid, World.cell?_alloc_lt _ _ _ hb, show o + O + j = o + (16 * q + j) from by omega]
      exact hcell _ x hx)
    clear hcell hP hn hl
    go_enter Tryd.func52, Tryd.ntmps52
    go_wp2_with fail
    refine (H1.out _).mono ?_; rintro e w1 ⟨rfl, rfl⟩
    go_wp2_with (first
      | (refine wpList_copy_splice rfl _ _ _ _ rfl 25 Tryd.underlying26 Hu.out _ _ _ _ _ _ rfl rfl w1.heap.size 0 (List.replicate 16 (Value.int .u32 0)) 25 (heap_alloc_last w1 _) ((pgL l q).map (Value.int .u32)) Hn.out (fun h0 => ⟨rfl, _, rfl, Hpos.out⟩) Hfit.out H1c.out w1.heap.size w1 ((Below.refl _ _).alloc (Nat.le_refl _) _) (Nat.le_refl _) ?_; intro w2 HG2 hB2)
      | fail)
    go_wp2
    go_ret2
    have hg : w1.grownBy w2 none := below_is_grown hB2
    have h2 := HG2.out
    rw [splice_padded, padded_pg] at h2
    refine ⟨w1.heap.size, rfl, Nat.le_refl _, ?_, hg⟩
    have := SlAt.whole (k := .u32) (c := 16) h2
    rwa [pgW_length] at this
end Go.Proofs.YtpkgckjlhjcdmaaDoor
/- Package load: a page of an image, whether an image is light: contracts; chapter 14's first. -/
namespace Go.Proofs.YtpkgckjlhjcdmaaDoor
open Go.RowKit
set_option maxRecDepth 100000 in
theorem page_no {V : IV} {x : Ig} {e : Int} (W : World) (h : ImAt W V x) (hd : V.dn ≤ 1000000) (hc : V.cn ≤ 1000000) (k : Int) (hk : pageI x k = none) (k0 : -9223372036854775808 ≤ k) (k1 : k ≤ 9223372036854775807) :
    Calls Tryd.prog 25 #[.agg (imgC V e), .int .i64 k] W fun e' w' => e' = .returned (.tuple #[.slice none 0 0, .bool false]) ∧ W.grownBy w' none := by
  obtain ⟨dp, dn, dc, cp, cn, cc, rp, rn, rc, pp, pn, pc, sp, sn, sc⟩ := V
  have Hr := hid (grown_refl W none)
  have hdl := h.dl
  have hcl := h.cl
  simp only at hd hc hdl hcl
  unfold pageI at hk
  clear h
  by_cases hlt : k < 128
  · rw [if_pos hlt] at hk
    have H1 := hid (fun W => pageOf_no (p := dp) (c := dc) W hd hdl k hk)
    clear hk hd hc hdl hcl
    go_enter Tryd.func25, Tryd.ntmps25
    go_wp2_with fail
    refine (H1.out _).mono ?_; rintro e w1 ⟨rfl, rfl⟩
    go_wp2
    go_ret2
    exact ⟨rfl, grown_alloc Hr.out _⟩
  · rw [if_neg hlt] at hk
    obtain ⟨q, hq⟩ : ∃ q : Int, k - 128 = q := ⟨_, rfl⟩
    rw [hq] at hk
    have H1 := hid (fun W => pageOf_no (p := cp) (c := cc) W hc hcl q hk)
    clear hk hd hc hdl hcl
    go_enter Tryd.func25, Tryd.ntmps25
    go_wp2_with fail
    refine (H1.out _).mono ?_; rintro e w1 ⟨rfl, rfl⟩
    go_wp2
    go_ret2
    exact ⟨rfl, grown_alloc Hr.out _⟩
set_option maxRecDepth 100000 in
theorem page_yes {V : IV} {x : Ig} {e : Int} (W : World) (h : ImAt W V x) (hd : V.dn ≤ 1000000) (hc : V.cn ≤ 1000000) (k : Int) {L : List Int} (hk : pageI x k = some L) (k0 : -9223372036854775808 ≤ k) (k1 : k ≤ 9223372036854775807) :
    Calls Tryd.prog 25 #[.agg (imgC V e), .int .i64 k] W (PgAt W L) := by
  obtain ⟨dp, dn, dc, cp, cn, cc, rp, rn, rc, pp, pn, pc, sp, sn, sc⟩ := V
  have hdl := h.dl
  have hcl := h.cl
  have hcap := h.cap
  have al := World.grownBy_alloc W (.cells (imgC ⟨dp, dn, dc, cp, cn, cc, rp, rn, rc, pp, pn, pc, sp, sn, sc⟩ e) 29) none
  have hds := h.d.kept0 al
  have hcs := h.c.kept0 al
  simp only [imgC] at hd hc hdl hcl hcap hds hcs al
  unfold pageI at hk
  have Hal := hid al
  clear h al
  by_cases hlt : k < 128
  · rw [if_pos hlt] at hk
    have H1 := hid (pageOf_yes _ hd hdl hcap.1 hcap.2.1 hds k hk)
    clear hk hd hc hdl hcl hds hcs hcap
    go_enter Tryd.func25, Tryd.ntmps25
    go_wp2_with fail
    refine (H1.out).mono ?_; rintro e w1 ⟨g, rfl, hg, hs, hw⟩
    have HS := hid hs
    have HG := hid hw
    have Hg := hid hg
    clear hs hg hw
    go_wp2
    go_ret2
    exact ⟨g, rfl, Nat.le_trans Hal.out.size Hg.out, HS.out, grown_trans Hal.out HG.out⟩
  · rw [if_neg hlt] at hk
    obtain ⟨q, hq⟩ : ∃ q : Int, k - 128 = q := ⟨_, rfl⟩
    rw [hq] at hk
    have H1 := hid (pageOf_yes _ hc hcl hcap.2.2.1 hcap.2.2.2 hcs q hk)
    clear hk hd hc hdl hcl hds hcs hcap
    go_enter Tryd.func25, Tryd.ntmps25
    go_wp2_with fail
    refine (H1.out).mono ?_; rintro e w1 ⟨g, rfl, hg, hs, hw⟩
    have HS := hid hs
    have HG := hid hw
    have Hg := hid hg
    clear hs hg hw
    go_wp2
    go_ret2
    exact ⟨g, rfl, Nat.le_trans Hal.out.size Hg.out, HS.out, grown_trans Hal.out HG.out⟩
/-- is an image light? -/
def lightI (V : IV) (n : Nat) : Bool := decide (V.dn ≤ n ∧ V.cn ≤ n ∧ V.rn ≤ n ∧ V.pn ≤ n ∧ V.sn ≤ n)
set_option maxRecDepth 100000 in
set_option maxHeartbeats 1000000 in
theorem limage_any (V : IV) (e : Int) (W : World) (N : Int) (n : Nat) (hN : N = (n : Int)) (b : Bool) (hb : lightI V n = b) :
    Calls Tryd.prog 21 #[.agg (imgC V e), .int .i64 N] W fun e' w' => e' = .returned (.bool b) ∧ W.grownBy w' none := by
  subst hN
  subst hb
  obtain ⟨dp, dn, dc, cp, cn, cc, rp, rn, rc, pp, pn, pc, sp, sn, sc⟩ := V
  have Hr := hid (grown_refl W none)
  unfold lightI
  simp only
  by_cases h1 : dn ≤ n
  · by_cases h2 : cn ≤ n
    · by_cases h3 : rn ≤ n
      · by_cases h4 : pn ≤ n
        · by_cases h5 : sn ≤ n
          · have e : decide (dn ≤ n ∧ cn ≤ n ∧ rn ≤ n ∧ pn ≤ n ∧ sn ≤ n) = true := decide_eq_true ⟨h1, h2, h3, h4, h5⟩
            rw [e]
            have i1 : (dn : Int) ≤ n := by omega
            have i2 : (cn : Int) ≤ n := by omega
            have i3 : (rn : Int) ≤ n := by omega
            have i4 : (pn : Int) ≤ n := by omega
            have i5 : (sn : Int) ≤ n := by omega
            go_enter Tryd.func21, Tryd.ntmps21
            go_wp2
            go_ret
            exact ⟨rfl, grown_alloc Hr.out _⟩
          · have e : decide (dn ≤ n ∧ cn ≤ n ∧ rn ≤ n ∧ pn ≤ n ∧ sn ≤ n) = false := decide_eq_false (fun h => h5 h.2.2.2.2)
            rw [e]
            have i5 : ¬ (sn : Int) ≤ n := by omega
            go_enter Tryd.func21, Tryd.ntmps21
            go_wp2
            go_ret
            exact ⟨rfl, grown_alloc Hr.out _⟩
        · have e : decide (dn ≤ n ∧ cn ≤ n ∧ rn ≤ n ∧ pn ≤ n ∧ sn ≤ n) = false := decide_eq_false (fun h => h4 h.2.2.2.1)
          rw [e]
          go_enter Tryd.func21, Tryd.ntmps21
          go_wp2
          go_ret
          exact ⟨rfl, grown_alloc Hr.out _⟩
      · have e : decide (dn ≤ n ∧ cn ≤ n ∧ rn ≤ n ∧ pn ≤ n ∧ sn ≤ n) = false := decide_eq_false (fun h => h3 h.2.2.1)
        rw [e]
        go_enter Tryd.func21, Tryd.ntmps21
        go_wp2
        go_ret
        exact ⟨rfl, grown_alloc Hr.out _⟩
    · have e : decide (dn ≤ n ∧ cn ≤ n ∧ rn ≤ n ∧ pn ≤ n ∧ sn ≤ n) = false := decide_eq_false (fun h => h2 h.2.1)
      rw [e]
      go_enter Tryd.func21, Tryd.ntmps21
      go_wp2
      go_ret
      exact ⟨rfl, grown_alloc Hr.out _⟩
  · have e : decide (dn ≤ n ∧ cn ≤ n ∧ rn ≤ n ∧ pn ≤ n ∧ sn ≤ n) = false := decide_eq_false (fun h => h1 h.1)
    rw [e]
    go_enter Tryd.func21, Tryd.ntmps21
    go_wp2
    go_ret
    exact ⟨rfl, grown_alloc Hr.out _⟩
def iv0 : IV := ⟨none, 0, 0, none, 0, 0, none, 0, 0, none, 0, 0, none, 0, 0⟩
theorem build_image0 (w : World) : (Instr.build 29 #[]).run Tryd.prog w = .ok (.agg (imgC iv0 0)) w := by kernel_rfl
set_option maxRecDepth 100000 in
theorem first14_any (W : World) : Calls Tryd.prog 20 #[] W fun e w' => e = .returned (.bool true) ∧ W.grownBy w' none := by
  have H1 := hid (fun W => quota_any iv0 0 W (by decide) 17 rfl)
  have hb := build_image0
  go_enter Tryd.func20, Tryd.ntmps20
  go_wp2_with fail
  refine (H1.out _).mono ?_; rintro e w1 ⟨rfl, hg⟩
  have HG := hid hg
  clear hg
  go_wp2
  go_ret
  exact ⟨rfl, HG.out⟩
section
variable {ops : Array Oper} {rest : List Oper} {o : Oper} {a : Act} {w : World}
/-- an image is loaded whole, behind a guard or not -/
theorem wpList_load_im {Q : Exit → Act → World → Prop} (hgd : Region.wanted o (yielded ops a.tmps) = true) (p : Operand) (ho : o.op = .load 29 p) {g : Nat} (hx : a.eval p = .pointer (some ⟨g, 0, none⟩)) {V : IV} {e : Int} (hg : RwAt w g 29 (imgC V e))
    (h : wpList Tryd.prog ops Q rest (a.put o.dst (.agg (imgC V e))) w) : wpList Tryd.prog ops Q (o :: rest) a w := by
  simp only [wpList, hgd, if_true]
  exact Or.inl (wp_load_row 29 p ho g hx _ _ _ _ hg.blk Tryd.underlying29 rfl info_image h)
end
theorem sl_cell {w : World} {g n c : Nat} {l : List Int} (h : SlAt w .u32 (.slice (some ⟨g, 0, none⟩) n c) l) {j : Nat} {z : Int} (hz : l[j]? = some z) : w.cell? ⟨g, j, none⟩ = some (.int .u32 z) := by
  rcases h with ⟨_, rfl⟩ | ⟨b, o, c', hv, _, hc⟩
  · cases hz
  · simp only [Value.slice.injEq, Option.some.injEq, Addr.mk.injEq, and_true] at hv
    obtain ⟨⟨rfl, rfl⟩, _⟩ := hv
    have := hc j z hz
    rwa [Nat.zero_add] at this
theorem sl_at {w : World} {k : IntKind} {v : Value} {xs : List Int} (h : SlAt w k v xs) (hn : 0 < xs.length) : ∃ b o c, v = .slice (some ⟨b, o, none⟩) xs.length c ∧ b < w.heap.size ∧ ∀ j x, xs[j]? = some x → w.cell? ⟨b, o + j, none⟩ = some (.int k x) := by
  rcases h with ⟨_, rfl⟩ | h
  · simp at hn
  · exact h
theorem pageOfI_some {l : List Int} {p : Nat} (h : p < pgN l) : pageOfI l (p : Int) = some (pgW l p) := by
  unfold pageOfI
  rw [if_pos ⟨by omega, by omega⟩]
  rfl
theorem pageOfI_none {l : List Int} {p : Int} (h : p < 0 ∨ (pgN l : Int) ≤ p) : pageOfI l p = none := by
  unfold pageOfI
  rw [if_neg (by omega)]
theorem pageI_low {x : Ig} {p : Int} (h : p < 128) : pageI x p = pageOfI x.D p := by unfold pageI; rw [if_pos h]
theorem pageI_high {x : Ig} {p : Int} (h : 128 ≤ p) : pageI x p = pageOfI x.C (p - 128) := by unfold pageI; rw [if_neg (by omega)]
end Go.Proofs.YtpkgckjlhjcdmaaDoor

/- Package load: pages, quota, one page: contracts; whether an image is light. -/
import Derived.Test.YtpkgckjlhjcdmaaImgA
import Derived.Test.YtpkgckjlhjcdmaaCore0
import Derived.Laws.CopyOwn
import Derived.Deep.RegionHeld3
import Derived.BigGuardPart
namespace Go.Proofs.Ytpkgckjlhjcdmaa
open Go.RowKit
theorem info_image : (Try.prog.info? 26).map (·.size) = some 6 := by kernel_rfl
theorem pagesOf_any {n c : Nat} {p : Option Addr} (W : World) (hn : n ≤ 1000000) (P : Nat) (hP : (n + 15) / 16 = P) :
    Calls Try.prog 10 #[.slice p n c] W fun e w' => e = .returned (.int .i64 P) ∧ w' = W := by
  have hq : ((n : Int) + 16 - 1) / 16 = (P : Int) := by omega
  have h0 : (0 : Int) ≤ (n : Int) + 16 - 1 := by omega
  have h1 : (n : Int) ≤ 1000000 := by omega
  clear hn hP
  go_enter Try.func10, Try.ntmps10
  go_wp2
  go_ret
  exact ⟨ret_i hq, rfl⟩
set_option maxHeartbeats 1000000 in
theorem pages_any (V : IV) (e : Int) (W : World) (hd : V.dn ≤ 1000000) (hc : V.cn ≤ 1000000) (D C : Nat) (hD : (V.dn + 15) / 16 = D) (hC : (V.cn + 15) / 16 = C) :
    Calls Try.prog 6 #[.agg (imgC V e)] W fun e' w' => e' = .returned (.tuple #[.int .i64 D, .int .i64 C]) ∧ W.grownBy w' none := by
  obtain ⟨dp, dn, dc, cp, cn, cc, rp, rn, rc, pp, pn, pc, sp, sn, sc⟩ := V
  simp only at hd hc hD hC
  have Hr := hid (grown_refl W none)
  have H1 := hid (fun W => pagesOf_any (p := dp) (c := dc) W hd D hD)
  have H2 := hid (fun W => pagesOf_any (p := cp) (c := cc) W hc C hC)
  clear hd hc hD hC
  go_enter Try.func6, Try.ntmps6
  go_wp2
  go_quiet ((first | (go_at_call 10; first | exact Calls.quiet_of_same (H1.out _) | exact Calls.quiet_of_same (H2.out _))))
  go_wp2
  go_ret2
  exact ⟨rfl, grown_drewN (grown_alloc Hr.out _) _⟩
set_option maxHeartbeats 1000000 in
theorem quota_any (V : IV) (e : Int) (W : World) (hd : V.dn ≤ 1000000) (Q : Nat) (hQ : 17 + (V.dn + 15) / 16 = Q) :
    Calls Try.prog 7 #[.agg (imgC V e)] W fun e' w' => e' = .returned (.int .i64 Q) ∧ W.grownBy w' none := by
  obtain ⟨dp, dn, dc, cp, cn, cc, rp, rn, rc, pp, pn, pc, sp, sn, sc⟩ := V
  simp only at hd hQ
  have Hr := hid (grown_refl W none)
  obtain ⟨D, hD⟩ : ∃ D, (dn + 15) / 16 = D := ⟨_, rfl⟩
  have hq : 17 + (D : Int) = (Q : Int) := by omega
  have hb : (D : Int) ≤ 1000000 := by omega
  have H1 := hid (fun W => pagesOf_any (p := dp) (c := dc) W hd D hD)
  clear hd hD hQ
  go_enter Try.func7, Try.ntmps7
  go_wp2_with fail
  refine (H1.out _).mono ?_; rintro e w1 ⟨rfl, rfl⟩
  go_wp2
  go_ret
  exact ⟨rfl, grown_alloc Hr.out _⟩
theorem pageOf_no {l : List Int} {p : Option Addr} {n c : Nat} (W : World) (hn : n ≤ 1000000) (hl : l.length = n) (k : Int) (hk : pageOfI l k = none) :
    Calls Try.prog 11 #[.slice p n c, .int .i64 k] W fun e w' => e = .returned (.tuple #[.slice none 0 0, .bool false]) ∧ w' = W := by
  obtain ⟨P, hP⟩ : ∃ P, (n + 15) / 16 = P := ⟨_, rfl⟩
  have H1 := hid (fun W => pagesOf_any (p := p) (c := c) W hn P hP)
  have hk2 : k < 0 ∨ (P : Int) ≤ k := by
    unfold pageOfI pgN at hk
    rw [hl, hP] at hk
    split at hk
    · cases hk
    · omega
  clear hk hn hl hP
  rcases hk2 with h | h
  · go_enter Try.func11, Try.ntmps11
    go_wp2
    go_ret2
    exact ⟨rfl, rfl⟩
  · have h0 : ¬ k < 0 := by omega
    go_enter Try.func11, Try.ntmps11
    go_wp2_with fail
    refine (H1.out _).mono ?_; rintro e w1 ⟨rfl, rfl⟩
    go_wp2
    go_ret2
    exact ⟨rfl, rfl⟩
/-- a page that was handed out -/
def PgAt (W : World) (l : List Int) (e : Ending) (w' : World) : Prop :=
  ∃ g, e = .returned (.tuple #[.slice (some ⟨g, 0, none⟩) 16 16, .bool true]) ∧ W.heap.size ≤ g ∧ SlAt w' .u32 (.slice (some ⟨g, 0, none⟩) 16 16) l ∧ W.grownBy w' none
theorem made16 (W : World) : (Instr.makeSlice 23 (.int .i64 16) (.int .i64 16)).run Try.prog W = .ok (.slice (some ⟨W.heap.size, 0, none⟩) 16 16) (W.alloc (.cells (List.replicate 16 (Value.int .u32 0)).toArray 22)) := by
  obtain ⟨i, hi, hz0, hz1, hz2⟩ := info_parts (P := Try.prog) (e := 22) (z := .int .u32 0) (size := 1) (bytes := 4) (by kernel_rfl)
  have := run_make (P := Try.prog) W 23 22 i _ Try.underlying23 hi hz0 .i64 .i64 16 16 (by omega) (by omega) (by rw [hz2]; omega) (by omega)
  rw [this, hz1]
  have e := toList_madeZero (.int .u32 0) 16 1 (by omega)
  have e2 : (List.replicate 16 (Value.int .u32 0)).toArray = Array.replicate 16 (.int .u32 0) := List.toArray_replicate ..
  rw [e2, ← e]
  rfl
set_option maxRecDepth 100000 in
set_option maxHeartbeats 2000000 in
theorem pageOf_yes {l : List Int} {p : Option Addr} {n c : Nat} (W : World) (hn : n ≤ 1000000) (hl : l.length = n) (hc : n ≤ c) (hc2 : c ≤ maxLen) (hs : SlAt W .u32 (.slice p n c) l) (k : Int) {L : List Int} (hk : pageOfI l k = some L) :
    Calls Try.prog 11 #[.slice p n c, .int .i64 k] W (PgAt W L) := by
  obtain ⟨P, hP⟩ : ∃ P, (n + 15) / 16 = P := ⟨_, rfl⟩
  have H1 := hid (fun W => pagesOf_any (p := p) (c := c) W hn P hP)
  have hk2 : 0 ≤ k ∧ k < (P : Int) ∧ L = pgW l k.toNat := by
    unfold pageOfI pgN at hk
    rw [hl, hP] at hk
    split at hk
    · rename_i h; exact ⟨h.1, h.2, (Option.some.inj hk).symm⟩
    · cases hk
  obtain ⟨k0, k1, rfl⟩ := hk2
  obtain ⟨q, rfl⟩ := Int.eq_ofNat_of_zero_le k0
  clear hk
  rcases hs with ⟨⟨p', c', hv⟩, rfl⟩ | ⟨b, o, c', hv, hb, hcell⟩
  · simp at hl; omega
  · simp only [Value.slice.injEq] at hv
    obtain ⟨rfl, hv2, rfl⟩ := hv
    clear hv2
    obtain ⟨O, hO⟩ : ∃ O : Nat, q * 16 = O := ⟨_, rfl⟩
    have hO1 : (q : Int) * 16 = (O : Int) := by omega
    have hOn : O < n := by omega
    have hne : ¬ c = O := by omega
    have hOc : O ≤ c := by omega
    have hO2 : (0 : Int) ≤ (O : Int) := by omega
    have hO3 : (O : Int) ≤ 1000000 := by omega
    have hO4 : (O : Int) < (n : Int) := by omega
    have hk3 : ¬ (q : Int) < 0 := by omega
    have hk4 : ¬ (P : Int) ≤ (q : Int) := by omega
    have hmk := made16
    have Hu : Hid ((Try.prog.info? 22).map (·.size) = some 1) := hid (by kernel_rfl)
    have HP : Hid ((pgL l q).length = Nat.min (n - O) 16) := hid (by
      unfold pgL
      rw [List.length_take, List.length_drop, hl, show 16 * q = O from by omega]
      show min 16 (n - O) = min (n - O) 16
      omega)
    have Hn : Hid (((pgL l q).map (Value.int .u32)).length = Nat.min (n - O) 16) := hid (by rw [List.length_map]; exact HP.out)
    have Hfit : Hid (0 + ((pgL l q).map (Value.int .u32)).length ≤ (List.replicate 16 (Value.int .u32 0)).length) := hid (by
      have := pgL_length l q
      simp; omega)
    have H1c : Hid (∀ v ∈ (pgL l q).map (Value.int .u32), v.oneCell' = true) := hid (by intro v hv; obtain ⟨x, _, rfl⟩ := List.mem_map.1 hv; rfl)
    have Hpos : Hid (∀ j v, ((pgL l q).map (Value.int .u32))[j]? = some v → (W.alloc (.cells (List.replicate 16 (Value.int .u32 0)).toArray 22)).cell? ((⟨b, o + O, none⟩ : Addr).add j) = some v) := hid (by
      intro j v hv
      obtain ⟨x, hx, rfl⟩ : ∃ x, (pgL l q)[j]? = some x ∧ v = .int .u32 x := by
        simp only [List.getElem?_map, Option.map_eq_some_iff] at hv
        obtain ⟨x, hx, rfl⟩ := hv
        exact ⟨x, hx, rfl⟩
      have hj := (List.getElem?_eq_some_iff.1 hx).1
      have hpl := pgL_length l q
      unfold pgL at hx
      rw [List.getElem?_take, if_pos (by omega), List.getElem?_drop] at hx
      rw [Addr.add_mid, World.cell?_alloc_lt _ _ _ hb, show o + O + j = o + (16 * q + j) from by omega]
      exact hcell _ x hx)
    clear hcell hP hn hl
    go_enter Try.func11, Try.ntmps11
    go_wp2_with fail
    refine (H1.out _).mono ?_; rintro e w1 ⟨rfl, rfl⟩
    go_wp2_with (first
      | (refine wpList_copy_splice rfl _ _ _ _ rfl 22 Try.underlying23 Hu.out _ _ _ _ _ _ rfl rfl w1.heap.size 0 (List.replicate 16 (Value.int .u32 0)) 22 (heap_alloc_last w1 _) ((pgL l q).map (Value.int .u32)) Hn.out (fun h0 => ⟨rfl, _, rfl, Hpos.out⟩) Hfit.out H1c.out w1.heap.size w1 ((Below.refl _ _).alloc (Nat.le_refl _) _) (Nat.le_refl _) ?_; intro w2 HG2 hB2)
      | fail)
    go_wp2
    go_ret2
    have hg : w1.grownBy w2 none := below_is_grown hB2
    have h2 := HG2.out
    rw [splice_padded, padded_pg] at h2
    refine ⟨w1.heap.size, rfl, Nat.le_refl _, ?_, hg⟩
    have := SlAt.whole (k := .u32) (c := 16) h2
    rwa [pgW_length] at this
end Go.Proofs.Ytpkgckjlhjcdmaa

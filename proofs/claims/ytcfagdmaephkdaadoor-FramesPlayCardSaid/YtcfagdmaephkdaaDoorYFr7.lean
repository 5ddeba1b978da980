/- The document's frames (facaderef16): Free, Make, Plain, Write, Unwrite, Use, Unuse: contracts. (Made by gofr7.py.) -/
import Derived.Test.YtcfagdmaephkdaaDoorYBase
import Derived.RegionTactic
import Derived.Test.YtcfagdmaephkdaaDoorYFr4
namespace Go.Proofs.YtcfagdmaephkdaaDoor
open Go.RowKit
abbrev FdAt (w : World) (m b n c : Nat) (L : List Fm) : Prop := FrAt w 45 42 m b n c L
theorem owner_rf (who : Int) (w : World) : Calls Tryd.prog 49 #[.int .i64 who] w fun e w' => e = .returned (.bool (mayB who)) ∧ w = w' := by
  by_cases h0 : 0 ≤ who
  · by_cases h1 : who < 8
    · have Hd : Hid (true = mayB who) := hid (by unfold mayB; simp [h0, h1])
      have e1 : decide (who < 8) = true := by simpa using h1
      go_enter Tryd.func49, Tryd.ntmps49
      go_wp2
      go_ret
      exact ⟨ret_b Hd.out, rfl⟩
    · have Hd : Hid ((who == 100) = mayB who) := hid (by unfold mayB; simp [h1, BEq.beq])
      have e1 : decide (who < 8) = false := by simpa using h1
      clear h1
      go_enter Tryd.func49, Tryd.ntmps49
      go_wp2
      go_ret
      exact ⟨ret_b Hd.out, rfl⟩
  · have Hd : Hid ((who == 100) = mayB who) := hid (by unfold mayB; simp [h0, BEq.beq])
    have e1 : decide (0 ≤ who) = false := by simpa using h0
    clear h0
    go_enter Tryd.func49, Tryd.ntmps49
    go_wp2
    go_ret
    exact ⟨ret_b Hd.out, rfl⟩
section
variable {w : World} {m b n c : Nat} {L : List Fm} {K : Int}
def mineE (L : List Fm) (i who : Int) : Int := match atF L i with | none => 107 | some f => if f.o ≠ who then 110 else 0
theorem mine_rf (h : FdAt w m b n c L) (i who : Int) (i0 : -9223372036854775808 ≤ i) :
    Calls Tryd.prog 50 #[.pointer (some ⟨m, 0, none⟩), .int .i64 i, .int .i64 who] w fun e w' => e = .returned (.int .i64 (mineE L i who)) ∧ w = w' := by
  have hm := h.mcell
  have hl := h.len
  have hn := h.n2
  have H := hid h
  clear h
  cases hat : atF L i with
  | none =>
    have e1 : mineE L i who = 107 := by unfold mineE; rw [hat]
    rw [e1]
    rcases atF_none hat with h0 | h0 | ⟨k, f, rfl, hk, ho⟩
    · clear hat e1
      go_enter Tryd.func50, Tryd.ntmps50
      go_wp2
      go_ret
      exact ⟨rfl, rfl⟩
    · rw [hl] at h0
      have h1 : ¬ i < 0 := by omega
      have h2 : i ≥ (n : Int) := h0
      have h3 : decide (i ≥ (n : Int)) = true := by simpa using h0
      clear hat e1
      go_enter Tryd.func50, Tryd.ntmps50
      go_wp2
      go_ret
      exact ⟨rfl, rfl⟩
    · have hkn := H.out.klt hk
      have co := H.out.cO hk
      rw [ho] at co
      have k0 : (0 : Int) ≤ (k : Int) := by omega
      have k1 : (k : Int) < (n : Int) := by omega
      clear hk ho hat e1
      go_enter Tryd.func50, Tryd.ntmps50
      go_wp2
      go_ret
      exact ⟨rfl, rfl⟩
  | some f =>
    obtain ⟨k, rfl, hk, ho⟩ := atF_some hat
    have hkn := H.out.klt hk
    have co := H.out.cO hk
    have k0 : (0 : Int) ≤ (k : Int) := by omega
    have k1 : (k : Int) < (n : Int) := by omega
    have ho1 : (f.o == -1) = false := by simpa using ho
    by_cases hw : f.o = who
    · have e1 : mineE L k who = 0 := by unfold mineE; rw [hat]; simp [hw]
      rw [e1]
      have hw1 : (f.o != who) = false := by simpa using hw
      clear hk ho hat e1 hw
      go_enter Tryd.func50, Tryd.ntmps50
      go_wp2
      go_ret
      exact ⟨rfl, rfl⟩
    · have e1 : mineE L k who = 110 := by unfold mineE; rw [hat]; simp [hw]
      rw [e1]
      have hw1 : (f.o != who) = true := by simpa using hw
      clear hk ho hat e1 hw
      go_enter Tryd.func50, Tryd.ntmps50
      go_wp2
      go_ret
      exact ⟨rfl, rfl⟩
theorem there_rf (h : FdAt w m b n c L) (i : Int) :
    Calls Tryd.prog 51 #[.pointer (some ⟨m, 0, none⟩), .int .i64 i] w fun e w' => e = .returned (.bool (atF L i).isSome) ∧ w = w' := by
  have hm := h.mcell
  have hl := h.len
  have hn := h.n2
  have H := hid h
  clear h
  cases hat : atF L i with
  | none =>
    rcases atF_none hat with h0 | h0 | ⟨k, f, rfl, hk, ho⟩
    · have h1 : decide (0 ≤ i) = false := by simp; omega
      clear hat
      go_enter Tryd.func51, Tryd.ntmps51
      go_wp2
      go_ret
      exact ⟨rfl, rfl⟩
    · rw [hl] at h0
      have h1 : 0 ≤ i := by omega
      have h2 : ¬ i < (n : Int) := by omega
      clear hat
      go_enter Tryd.func51, Tryd.ntmps51
      go_wp2
      go_ret
      exact ⟨rfl, rfl⟩
    · have hkn := H.out.klt hk
      have co := H.out.cO hk
      rw [ho] at co
      have k0 : (0 : Int) ≤ (k : Int) := by omega
      have k1 : (k : Int) < (n : Int) := by omega
      clear hk ho hat
      go_enter Tryd.func51, Tryd.ntmps51
      go_wp2
      go_ret
      exact ⟨rfl, rfl⟩
  | some f =>
    obtain ⟨k, rfl, hk, ho⟩ := atF_some hat
    have hkn := H.out.klt hk
    have co := H.out.cO hk
    have k0 : (0 : Int) ≤ (k : Int) := by omega
    have k1 : (k : Int) < (n : Int) := by omega
    have ho1 : (f.o != -1) = true := by simpa using ho
    clear hk ho hat
    go_enter Tryd.func51, Tryd.ntmps51
    go_wp2
    go_ret
    exact ⟨rfl, rfl⟩
set_option maxHeartbeats 8000000 in
theorem rwrite_rf (h : FdAt w m b n c L) (hG : FsOk K L) (hK : K ≤ 1000000) (i : Int) :
    Calls Tryd.prog 35 #[.pointer (some ⟨m, 0, none⟩), .int .i64 i] w fun e w' => e = .returned (.int .i64 (codO (writeF L i).1)) ∧ FdAt w' m b n c (writeF L i).2 ∧ w.grownBy w' (some b) := by
  have Hr := hid (grown_refl w (some b))
  have hm := h.mcell
  have H := hid h
  cases hat : atF L i with
  | none =>
    have e1 : writeF L i = (some 6, L) := by unfold writeF; rw [hat]
    rw [e1]
    have Hc := hid (there_rf h i)
    have Hmc : Hid ((atF L i).isSome = false) := hid (by rw [hat]; rfl)
    unfold codO
    clear h hat hG hK e1
    go_enter Tryd.func35, Tryd.ntmps35
    go_wp2_with (go_at_call 51; refine Hc.out.mono ?_; rintro e w' ⟨rfl, rfl⟩; try rw [Hmc.out])
    go_ret
    exact ⟨rfl, H.out, Hr.out⟩
  | some f =>
    obtain ⟨k, rfl, hk, ho⟩ := atF_some hat
    obtain ⟨w0, wK, u0, uK, htab, hnob⟩ := hG k f hk
    clear htab hnob
    have Hk := hid hk
    have hkn := h.klt hk
    have k0 : (0 : Int) ≤ (k : Int) := by omega
    have k1 : (k : Int) < (n : Int) := by omega
    have co := h.cO hk
    have ct := h.cT hk
    have cw := h.cW hk
    have cu := h.cU hk
    have z0 := h.free (k * 4)
    have z1 := h.free (k * 4 + 1)
    have z2 := h.free (k * 4 + 2)
    have z3 := h.free (k * 4 + 3)
    have Hc := hid (there_rf h k)
    have Hmc : Hid ((atF L (k : Int)).isSome = true) := hid (by rw [hat]; rfl)
    by_cases h1 : ¬ f.t = 0
    · skip
      have e1 : writeF L (k : Int) = (some 10, L) := by unfold writeF; rw [hat]; simp [h1]
      rw [e1]
      have dh1 : (f.t != 0) = true := by simpa using h1
      unfold codO
      clear h hG hK e1 hat hk ho
      go_enter Tryd.func35, Tryd.ntmps35
      go_wp2_with (go_at_call 51; refine Hc.out.mono ?_; rintro e w' ⟨rfl, rfl⟩; try rw [Hmc.out])
      go_ret
      exact ⟨rfl, H.out, Hr.out⟩
    · skip
      have e1 : writeF L (k : Int) = (none, L.set k ⟨f.o, f.t, f.w + 1, f.u⟩) := by unfold writeF; rw [hat]; simp [h1]
      rw [e1]
      have dh1 : (f.t != 0) = false := by simpa using h1
      have zw : IntKind.i64.wrap (f.w + 1) = f.w + 1 := by rw [IntKind.wrap_i64]; omega
      unfold codO
      clear h hG hK e1 hat hk ho
      go_enter Tryd.func35, Tryd.ntmps35
      go_wp2_with (go_at_call 51; refine Hc.out.mono ?_; rintro e w' ⟨rfl, rfl⟩; try rw [Hmc.out])
      go_region
      all_goals
        go_wp2
        go_ret
        exact ⟨rfl, (H.out.sW Hk.out _).kept0 (grown_drew (grown_refl _ none)), grown_drew (grown_setCell Hr.out _ _)⟩
set_option maxHeartbeats 8000000 in
theorem runwrite_rf (h : FdAt w m b n c L) (hG : FsOk K L) (hK : K ≤ 1000000) (i : Int) :
    Calls Tryd.prog 36 #[.pointer (some ⟨m, 0, none⟩), .int .i64 i] w fun e w' => e = .returned (.int .i64 (codO (unwriteF L i).1)) ∧ FdAt w' m b n c (unwriteF L i).2 ∧ w.grownBy w' (some b) := by
  have Hr := hid (grown_refl w (some b))
  have hm := h.mcell
  have H := hid h
  cases hat : atF L i with
  | none =>
    have e1 : unwriteF L i = (some 6, L) := by unfold unwriteF; rw [hat]
    rw [e1]
    have Hc := hid (there_rf h i)
    have Hmc : Hid ((atF L i).isSome = false) := hid (by rw [hat]; rfl)
    unfold codO
    clear h hat hG hK e1
    go_enter Tryd.func36, Tryd.ntmps36
    go_wp2_with (go_at_call 51; refine Hc.out.mono ?_; rintro e w' ⟨rfl, rfl⟩; try rw [Hmc.out])
    go_ret
    exact ⟨rfl, H.out, Hr.out⟩
  | some f =>
    obtain ⟨k, rfl, hk, ho⟩ := atF_some hat
    obtain ⟨w0, wK, u0, uK, htab, hnob⟩ := hG k f hk
    clear htab hnob
    have Hk := hid hk
    have hkn := h.klt hk
    have k0 : (0 : Int) ≤ (k : Int) := by omega
    have k1 : (k : Int) < (n : Int) := by omega
    have co := h.cO hk
    have ct := h.cT hk
    have cw := h.cW hk
    have cu := h.cU hk
    have z0 := h.free (k * 4)
    have z1 := h.free (k * 4 + 1)
    have z2 := h.free (k * 4 + 2)
    have z3 := h.free (k * 4 + 3)
    have Hc := hid (there_rf h k)
    have Hmc : Hid ((atF L (k : Int)).isSome = true) := hid (by rw [hat]; rfl)
    by_cases h1 : f.w = 0
    · skip
      have e1 : unwriteF L (k : Int) = (some 11, L) := by unfold unwriteF; rw [hat]; simp [h1]
      rw [e1]
      have dh1 : (f.w == 0) = true := by simpa using h1
      unfold codO
      clear h hG hK e1 hat hk ho
      go_enter Tryd.func36, Tryd.ntmps36
      go_wp2_with (go_at_call 51; refine Hc.out.mono ?_; rintro e w' ⟨rfl, rfl⟩; try rw [Hmc.out])
      go_ret
      exact ⟨rfl, H.out, Hr.out⟩
    · skip
      have e1 : unwriteF L (k : Int) = (none, L.set k ⟨f.o, f.t, f.w - 1, f.u⟩) := by unfold unwriteF; rw [hat]; simp [h1]
      rw [e1]
      have dh1 : (f.w == 0) = false := by simpa using h1
      have zw : IntKind.i64.wrap (f.w - 1) = f.w - 1 := by rw [IntKind.wrap_i64]; omega
      unfold codO
      clear h hG hK e1 hat hk ho
      go_enter Tryd.func36, Tryd.ntmps36
      go_wp2_with (go_at_call 51; refine Hc.out.mono ?_; rintro e w' ⟨rfl, rfl⟩; try rw [Hmc.out])
      go_region
      all_goals
        go_wp2
        go_ret
        exact ⟨rfl, (H.out.sW Hk.out _).kept0 (grown_drew (grown_refl _ none)), grown_drew (grown_setCell Hr.out _ _)⟩
set_option maxHeartbeats 8000000 in
theorem ruse_rf (h : FdAt w m b n c L) (hG : FsOk K L) (hK : K ≤ 1000000) (i : Int) :
    Calls Tryd.prog 37 #[.pointer (some ⟨m, 0, none⟩), .int .i64 i] w fun e w' => e = .returned (.int .i64 (codO (useF L i).1)) ∧ FdAt w' m b n c (useF L i).2 ∧ w.grownBy w' (some b) := by
  have Hr := hid (grown_refl w (some b))
  have hm := h.mcell
  have H := hid h
  cases hat : atF L i with
  | none =>
    have e1 : useF L i = (some 6, L) := by unfold useF; rw [hat]
    rw [e1]
    have Hc := hid (there_rf h i)
    have Hmc : Hid ((atF L i).isSome = false) := hid (by rw [hat]; rfl)
    unfold codO
    clear h hat hG hK e1
    go_enter Tryd.func37, Tryd.ntmps37
    go_wp2_with (go_at_call 51; refine Hc.out.mono ?_; rintro e w' ⟨rfl, rfl⟩; try rw [Hmc.out])
    go_ret
    exact ⟨rfl, H.out, Hr.out⟩
  | some f =>
    obtain ⟨k, rfl, hk, ho⟩ := atF_some hat
    obtain ⟨w0, wK, u0, uK, htab, hnob⟩ := hG k f hk
    clear htab hnob
    have Hk := hid hk
    have hkn := h.klt hk
    have k0 : (0 : Int) ≤ (k : Int) := by omega
    have k1 : (k : Int) < (n : Int) := by omega
    have co := h.cO hk
    have ct := h.cT hk
    have cw := h.cW hk
    have cu := h.cU hk
    have z0 := h.free (k * 4)
    have z1 := h.free (k * 4 + 1)
    have z2 := h.free (k * 4 + 2)
    have z3 := h.free (k * 4 + 3)
    have Hc := hid (there_rf h k)
    have Hmc : Hid ((atF L (k : Int)).isSome = true) := hid (by rw [hat]; rfl)
    have e1 : useF L (k : Int) = (none, L.set k ⟨f.o, f.t, f.w, f.u + 1⟩) := by unfold useF; rw [hat]; simp [Int.toNat_natCast]
    rw [e1]
    have zw : IntKind.i64.wrap (f.u + 1) = f.u + 1 := by rw [IntKind.wrap_i64]; omega
    unfold codO
    clear h hG hK e1 hat hk ho
    go_enter Tryd.func37, Tryd.ntmps37
    go_wp2_with (go_at_call 51; refine Hc.out.mono ?_; rintro e w' ⟨rfl, rfl⟩; try rw [Hmc.out])
    go_region
    all_goals
      go_wp2
      go_ret
      exact ⟨rfl, (H.out.sU Hk.out _).kept0 (grown_drew (grown_refl _ none)), grown_drew (grown_setCell Hr.out _ _)⟩
set_option maxHeartbeats 8000000 in
theorem runuse_rf (h : FdAt w m b n c L) (hG : FsOk K L) (hK : K ≤ 1000000) (i : Int) :
    Calls Tryd.prog 38 #[.pointer (some ⟨m, 0, none⟩), .int .i64 i] w fun e w' => e = .returned (.int .i64 (codO (unuseF L i).1)) ∧ FdAt w' m b n c (unuseF L i).2 ∧ w.grownBy w' (some b) := by
  have Hr := hid (grown_refl w (some b))
  have hm := h.mcell
  have H := hid h
  cases hat : atF L i with
  | none =>
    have e1 : unuseF L i = (some 6, L) := by unfold unuseF; rw [hat]
    rw [e1]
    have Hc := hid (there_rf h i)
    have Hmc : Hid ((atF L i).isSome = false) := hid (by rw [hat]; rfl)
    unfold codO
    clear h hat hG hK e1
    go_enter Tryd.func38, Tryd.ntmps38
    go_wp2_with (go_at_call 51; refine Hc.out.mono ?_; rintro e w' ⟨rfl, rfl⟩; try rw [Hmc.out])
    go_ret
    exact ⟨rfl, H.out, Hr.out⟩
  | some f =>
    obtain ⟨k, rfl, hk, ho⟩ := atF_some hat
    obtain ⟨w0, wK, u0, uK, htab, hnob⟩ := hG k f hk
    clear htab hnob
    have Hk := hid hk
    have hkn := h.klt hk
    have k0 : (0 : Int) ≤ (k : Int) := by omega
    have k1 : (k : Int) < (n : Int) := by omega
    have co := h.cO hk
    have ct := h.cT hk
    have cw := h.cW hk
    have cu := h.cU hk
    have z0 := h.free (k * 4)
    have z1 := h.free (k * 4 + 1)
    have z2 := h.free (k * 4 + 2)
    have z3 := h.free (k * 4 + 3)
    have Hc := hid (there_rf h k)
    have Hmc : Hid ((atF L (k : Int)).isSome = true) := hid (by rw [hat]; rfl)
    by_cases h1 : f.u = 0
    · skip
      have e1 : unuseF L (k : Int) = (some 11, L) := by unfold unuseF; rw [hat]; simp [h1]
      rw [e1]
      have dh1 : (f.u == 0) = true := by simpa using h1
      unfold codO
      clear h hG hK e1 hat hk ho
      go_enter Tryd.func38, Tryd.ntmps38
      go_wp2_with (go_at_call 51; refine Hc.out.mono ?_; rintro e w' ⟨rfl, rfl⟩; try rw [Hmc.out])
      go_ret
      exact ⟨rfl, H.out, Hr.out⟩
    · skip
      have e1 : unuseF L (k : Int) = (none, L.set k ⟨f.o, f.t, f.w, f.u - 1⟩) := by unfold unuseF; rw [hat]; simp [h1]
      rw [e1]
      have dh1 : (f.u == 0) = false := by simpa using h1
      have zw : IntKind.i64.wrap (f.u - 1) = f.u - 1 := by rw [IntKind.wrap_i64]; omega
      unfold codO
      clear h hG hK e1 hat hk ho
      go_enter Tryd.func38, Tryd.ntmps38
      go_wp2_with (go_at_call 51; refine Hc.out.mono ?_; rintro e w' ⟨rfl, rfl⟩; try rw [Hmc.out])
      go_region
      all_goals
        go_wp2
        go_ret
        exact ⟨rfl, (H.out.sU Hk.out _).kept0 (grown_drew (grown_refl _ none)), grown_drew (grown_setCell Hr.out _ _)⟩
set_option maxHeartbeats 8000000 in
theorem rplain_rf (h : FdAt w m b n c L) (hG : FsOk K L) (_hK : K ≤ 1000000) (i who : Int) (i0 : -9223372036854775808 ≤ i) :
    Calls Tryd.prog 34 #[.pointer (some ⟨m, 0, none⟩), .int .i64 i, .int .i64 who] w fun e w' => e = .returned (.int .i64 (codO (plainF L i who).1)) ∧ FdAt w' m b n c (plainF L i who).2 ∧ w.grownBy w' (some b) := by
  have Hr := hid (grown_refl w (some b))
  have hm := h.mcell
  have H := hid h
  cases hat : atF L i with
  | none =>
    have e1 : plainF L i who = (some 6, L) := by unfold plainF; rw [hat]
    rw [e1]
    have Hc := hid (mine_rf h i who i0)
    have Hmc : Hid (mineE L i who = 107) := hid (by unfold mineE; rw [hat])
    unfold codO
    clear h hat hG _hK e1
    go_enter Tryd.func34, Tryd.ntmps34
    go_wp2_with (go_at_call 50; refine Hc.out.mono ?_; rintro e w' ⟨rfl, rfl⟩; try rw [Hmc.out])
    go_ret
    exact ⟨rfl, H.out, Hr.out⟩
  | some f =>
    obtain ⟨k, rfl, hk, ho⟩ := atF_some hat
    obtain ⟨w0, wK, u0, uK, htab, hnob⟩ := hG k f hk
    clear htab hnob
    have Hk := hid hk
    have hkn := h.klt hk
    have k0 : (0 : Int) ≤ (k : Int) := by omega
    have k1 : (k : Int) < (n : Int) := by omega
    have co := h.cO hk
    have ct := h.cT hk
    have cw := h.cW hk
    have cu := h.cU hk
    have z0 := h.free (k * 4)
    have z1 := h.free (k * 4 + 1)
    have z2 := h.free (k * 4 + 2)
    have z3 := h.free (k * 4 + 3)
    have Hc := hid (mine_rf h k who i0)
    by_cases hw : f.o = who
    · have Hmc : Hid (mineE L (k : Int) who = 0) := hid (by unfold mineE; rw [hat]; simp [hw])
      by_cases h1 : f.t = 0
      · skip
        have e1 : plainF L (k : Int) who = (some 10, L) := by unfold plainF; rw [hat]; simp [hw, h1]
        rw [e1]
        have dh1 : (f.t == 0) = true := by simpa using h1
        unfold codO
        clear h hG _hK e1 hat hk ho hw
        go_enter Tryd.func34, Tryd.ntmps34
        go_wp2_with (go_at_call 50; refine Hc.out.mono ?_; rintro e w' ⟨rfl, rfl⟩; try rw [Hmc.out])
        go_ret
        exact ⟨rfl, H.out, Hr.out⟩
      · skip
        by_cases h2 : 0 < f.u
        · skip
          have e1 : plainF L (k : Int) who = (some 11, L) := by unfold plainF; rw [hat]; simp [hw, h1, h2]
          rw [e1]
          have dh1 : (f.t == 0) = false := by simpa using h1
          have dh2 : decide (f.u > 0) = true := by simpa using h2
          unfold codO
          clear h hG _hK e1 hat hk ho hw
          go_enter Tryd.func34, Tryd.ntmps34
          go_wp2_with (go_at_call 50; refine Hc.out.mono ?_; rintro e w' ⟨rfl, rfl⟩; try rw [Hmc.out])
          go_ret
          exact ⟨rfl, H.out, Hr.out⟩
        · skip
          have e1 : plainF L (k : Int) who = (none, L.set k ⟨f.o, 0, f.w, f.u⟩) := by unfold plainF; rw [hat]; simp [hw, h1, h2]
          rw [e1]
          have dh1 : (f.t == 0) = false := by simpa using h1
          have dh2 : decide (f.u > 0) = false := by simpa using h2
          unfold codO
          clear h hG _hK e1 hat hk ho hw
          go_enter Tryd.func34, Tryd.ntmps34
          go_wp2_with (go_at_call 50; refine Hc.out.mono ?_; rintro e w' ⟨rfl, rfl⟩; try rw [Hmc.out])
          go_ret
          exact ⟨rfl, H.out.sT Hk.out _, grown_setCell Hr.out _ _⟩
    · have Hmc : Hid (mineE L (k : Int) who = 110) := hid (by unfold mineE; rw [hat]; simp [hw])
      have e1 : plainF L (k : Int) who = (some 9, L) := by unfold plainF; rw [hat]; simp [hw]
      rw [e1]
      unfold codO
      clear h hG _hK e1 hat hk ho hw
      go_enter Tryd.func34, Tryd.ntmps34
      go_wp2_with (go_at_call 50; refine Hc.out.mono ?_; rintro e w' ⟨rfl, rfl⟩; try rw [Hmc.out])
      go_ret
      exact ⟨rfl, H.out, Hr.out⟩
set_option maxHeartbeats 8000000 in
theorem rmake_rf (h : FdAt w m b n c L) (hG : FsOk K L) (_hK : K ≤ 1000000) (i who kind : Int) (i0 : -9223372036854775808 ≤ i) :
    Calls Tryd.prog 33 #[.pointer (some ⟨m, 0, none⟩), .int .i64 i, .int .i64 who, .int .i64 kind] w fun e w' => e = .returned (.int .i64 (codO (makeF L i who kind).1)) ∧ FdAt w' m b n c (makeF L i who kind).2 ∧ w.grownBy w' (some b) := by
  have Hr := hid (grown_refl w (some b))
  have hm := h.mcell
  by_cases hk1 : kind = 1 ∨ kind = 2
  · rcases hk1 with hk1 | hk1
    · have kd : (kind != 1) = false := by simp [hk1]
      have H := hid h
      cases hat : atF L i with
      | none =>
        have e1 : makeF L i who kind = (some 6, L) := by unfold makeF; rw [hat]; simp [hk1]
        rw [e1]
        have Hc := hid (mine_rf h i who i0)
        have Hmc : Hid (mineE L i who = 107) := hid (by unfold mineE; rw [hat])
        unfold codO
        clear h hat hG _hK e1 hk1
        go_enter Tryd.func33, Tryd.ntmps33
        go_wp2_with (go_at_call 50; refine Hc.out.mono ?_; rintro e w' ⟨rfl, rfl⟩; try rw [Hmc.out])
        go_ret
        exact ⟨rfl, H.out, Hr.out⟩
      | some f =>
        obtain ⟨k, rfl, hk, ho⟩ := atF_some hat
        obtain ⟨w0, wK, u0, uK, htab, hnob⟩ := hG k f hk
        clear htab hnob
        have Hk := hid hk
        have hkn := h.klt hk
        have k0 : (0 : Int) ≤ (k : Int) := by omega
        have k1 : (k : Int) < (n : Int) := by omega
        have co := h.cO hk
        have ct := h.cT hk
        have cw := h.cW hk
        have cu := h.cU hk
        have z0 := h.free (k * 4)
        have z1 := h.free (k * 4 + 1)
        have z2 := h.free (k * 4 + 2)
        have z3 := h.free (k * 4 + 3)
        have Hc := hid (mine_rf h k who i0)
        by_cases hw : f.o = who
        · have Hmc : Hid (mineE L (k : Int) who = 0) := hid (by unfold mineE; rw [hat]; simp [hw])
          by_cases h1 : ¬ f.t = 0
          · skip
            have e1 : makeF L (k : Int) who kind = (some 10, L) := by unfold makeF; rw [hat]; simp [hk1, hw, h1]
            rw [e1]
            have dh1 : (f.t != 0) = true := by simpa using h1
            unfold codO
            clear h hG _hK e1 hat hk ho hw hk1
            go_enter Tryd.func33, Tryd.ntmps33
            go_wp2_with (go_at_call 50; refine Hc.out.mono ?_; rintro e w' ⟨rfl, rfl⟩; try rw [Hmc.out])
            go_ret
            exact ⟨rfl, H.out, Hr.out⟩
          · skip
            by_cases h2 : 0 < f.w
            · skip
              have e1 : makeF L (k : Int) who kind = (some 11, L) := by unfold makeF; rw [hat]; simp [hk1, hw, h1, bsy, h2]
              rw [e1]
              have dh1 : (f.t != 0) = false := by simpa using h1
              have dh2 : decide (f.w > 0) = true := by simpa using h2
              unfold codO
              clear h hG _hK e1 hat hk ho hw hk1
              go_enter Tryd.func33, Tryd.ntmps33
              go_wp2_with (go_at_call 50; refine Hc.out.mono ?_; rintro e w' ⟨rfl, rfl⟩; try rw [Hmc.out])
              go_ret
              exact ⟨rfl, H.out, Hr.out⟩
            · skip
              by_cases h3 : 0 < f.u
              · skip
                have e1 : makeF L (k : Int) who kind = (some 11, L) := by unfold makeF; rw [hat]; simp [hk1, hw, h1, bsy, h2, h3]
                rw [e1]
                have dh1 : (f.t != 0) = false := by simpa using h1
                have dh2 : decide (f.w > 0) = false := by simpa using h2
                have dh3 : decide (f.u > 0) = true := by simpa using h3
                unfold codO
                clear h hG _hK e1 hat hk ho hw hk1
                go_enter Tryd.func33, Tryd.ntmps33
                go_wp2_with (go_at_call 50; refine Hc.out.mono ?_; rintro e w' ⟨rfl, rfl⟩; try rw [Hmc.out])
                go_ret
                exact ⟨rfl, H.out, Hr.out⟩
              · skip
                have e1 : makeF L (k : Int) who kind = (none, L.set k ⟨f.o, kind, f.w, f.u⟩) := by unfold makeF; rw [hat]; simp [hk1, hw, h1, bsy, h2, h3]
                rw [e1]
                have dh1 : (f.t != 0) = false := by simpa using h1
                have dh2 : decide (f.w > 0) = false := by simpa using h2
                have dh3 : decide (f.u > 0) = false := by simpa using h3
                unfold codO
                clear h hG _hK e1 hat hk ho hw hk1
                go_enter Tryd.func33, Tryd.ntmps33
                go_wp2_with (go_at_call 50; refine Hc.out.mono ?_; rintro e w' ⟨rfl, rfl⟩; try rw [Hmc.out])
                go_ret
                exact ⟨rfl, H.out.sT Hk.out _, grown_setCell Hr.out _ _⟩
        · have Hmc : Hid (mineE L (k : Int) who = 110) := hid (by unfold mineE; rw [hat]; simp [hw])
          have e1 : makeF L (k : Int) who kind = (some 9, L) := by unfold makeF; rw [hat]; simp [hk1, hw]
          rw [e1]
          unfold codO
          clear h hG _hK e1 hat hk ho hw hk1
          go_enter Tryd.func33, Tryd.ntmps33
          go_wp2_with (go_at_call 50; refine Hc.out.mono ?_; rintro e w' ⟨rfl, rfl⟩; try rw [Hmc.out])
          go_ret
          exact ⟨rfl, H.out, Hr.out⟩
    · have kd : (kind != 1) = true := by simp [hk1]
      have kd2 : (kind != 2) = false := by simp [hk1]
      have H := hid h
      cases hat : atF L i with
      | none =>
        have e1 : makeF L i who kind = (some 6, L) := by unfold makeF; rw [hat]; simp [hk1]
        rw [e1]
        have Hc := hid (mine_rf h i who i0)
        have Hmc : Hid (mineE L i who = 107) := hid (by unfold mineE; rw [hat])
        unfold codO
        clear h hat hG _hK e1 hk1
        go_enter Tryd.func33, Tryd.ntmps33
        go_wp2_with (go_at_call 50; refine Hc.out.mono ?_; rintro e w' ⟨rfl, rfl⟩; try rw [Hmc.out])
        go_ret
        exact ⟨rfl, H.out, Hr.out⟩
      | some f =>
        obtain ⟨k, rfl, hk, ho⟩ := atF_some hat
        obtain ⟨w0, wK, u0, uK, htab, hnob⟩ := hG k f hk
        clear htab hnob
        have Hk := hid hk
        have hkn := h.klt hk
        have k0 : (0 : Int) ≤ (k : Int) := by omega
        have k1 : (k : Int) < (n : Int) := by omega
        have co := h.cO hk
        have ct := h.cT hk
        have cw := h.cW hk
        have cu := h.cU hk
        have z0 := h.free (k * 4)
        have z1 := h.free (k * 4 + 1)
        have z2 := h.free (k * 4 + 2)
        have z3 := h.free (k * 4 + 3)
        have Hc := hid (mine_rf h k who i0)
        by_cases hw : f.o = who
        · have Hmc : Hid (mineE L (k : Int) who = 0) := hid (by unfold mineE; rw [hat]; simp [hw])
          by_cases h1 : ¬ f.t = 0
          · skip
            have e1 : makeF L (k : Int) who kind = (some 10, L) := by unfold makeF; rw [hat]; simp [hk1, hw, h1]
            rw [e1]
            have dh1 : (f.t != 0) = true := by simpa using h1
            unfold codO
            clear h hG _hK e1 hat hk ho hw hk1
            go_enter Tryd.func33, Tryd.ntmps33
            go_wp2_with (go_at_call 50; refine Hc.out.mono ?_; rintro e w' ⟨rfl, rfl⟩; try rw [Hmc.out])
            go_ret
            exact ⟨rfl, H.out, Hr.out⟩
          · skip
            by_cases h2 : 0 < f.w
            · skip
              have e1 : makeF L (k : Int) who kind = (some 11, L) := by unfold makeF; rw [hat]; simp [hk1, hw, h1, bsy, h2]
              rw [e1]
              have dh1 : (f.t != 0) = false := by simpa using h1
              have dh2 : decide (f.w > 0) = true := by simpa using h2
              unfold codO
              clear h hG _hK e1 hat hk ho hw hk1
              go_enter Tryd.func33, Tryd.ntmps33
              go_wp2_with (go_at_call 50; refine Hc.out.mono ?_; rintro e w' ⟨rfl, rfl⟩; try rw [Hmc.out])
              go_ret
              exact ⟨rfl, H.out, Hr.out⟩
            · skip
              by_cases h3 : 0 < f.u
              · skip
                have e1 : makeF L (k : Int) who kind = (some 11, L) := by unfold makeF; rw [hat]; simp [hk1, hw, h1, bsy, h2, h3]
                rw [e1]
                have dh1 : (f.t != 0) = false := by simpa using h1
                have dh2 : decide (f.w > 0) = false := by simpa using h2
                have dh3 : decide (f.u > 0) = true := by simpa using h3
                unfold codO
                clear h hG _hK e1 hat hk ho hw hk1
                go_enter Tryd.func33, Tryd.ntmps33
                go_wp2_with (go_at_call 50; refine Hc.out.mono ?_; rintro e w' ⟨rfl, rfl⟩; try rw [Hmc.out])
                go_ret
                exact ⟨rfl, H.out, Hr.out⟩
              · skip
                have e1 : makeF L (k : Int) who kind = (none, L.set k ⟨f.o, kind, f.w, f.u⟩) := by unfold makeF; rw [hat]; simp [hk1, hw, h1, bsy, h2, h3]
                rw [e1]
                have dh1 : (f.t != 0) = false := by simpa using h1
                have dh2 : decide (f.w > 0) = false := by simpa using h2
                have dh3 : decide (f.u > 0) = false := by simpa using h3
                unfold codO
                clear h hG _hK e1 hat hk ho hw hk1
                go_enter Tryd.func33, Tryd.ntmps33
                go_wp2_with (go_at_call 50; refine Hc.out.mono ?_; rintro e w' ⟨rfl, rfl⟩; try rw [Hmc.out])
                go_ret
                exact ⟨rfl, H.out.sT Hk.out _, grown_setCell Hr.out _ _⟩
        · have Hmc : Hid (mineE L (k : Int) who = 110) := hid (by unfold mineE; rw [hat]; simp [hw])
          have e1 : makeF L (k : Int) who kind = (some 9, L) := by unfold makeF; rw [hat]; simp [hk1, hw]
          rw [e1]
          unfold codO
          clear h hG _hK e1 hat hk ho hw hk1
          go_enter Tryd.func33, Tryd.ntmps33
          go_wp2_with (go_at_call 50; refine Hc.out.mono ?_; rintro e w' ⟨rfl, rfl⟩; try rw [Hmc.out])
          go_ret
          exact ⟨rfl, H.out, Hr.out⟩
  · have kd : (kind != 1) = true := by simp; omega
    have kd2 : (kind != 2) = true := by simp; omega
    have e1 : makeF L i who kind = (some 2, L) := by unfold makeF; rw [if_pos (by omega)]
    rw [e1]
    have H := hid h
    unfold codO
    clear h hG _hK e1 hk1
    go_enter Tryd.func33, Tryd.ntmps33
    go_wp2
    go_ret
    exact ⟨rfl, H.out, Hr.out⟩
set_option maxHeartbeats 8000000 in
theorem rfree_rf (h : FdAt w m b n c L) (hG : FsOk K L) (_hK : K ≤ 1000000) (i who : Int) (i0 : -9223372036854775808 ≤ i) :
    Calls Tryd.prog 32 #[.pointer (some ⟨m, 0, none⟩), .int .i64 i, .int .i64 who] w fun e w' => e = .returned (.int .i64 (codO (freeF L i who).1)) ∧ FdAt w' m b n c (freeF L i who).2 ∧ w.grownBy w' (some b) := by
  have Hr := hid (grown_refl w (some b))
  have hm := h.mcell
  have H := hid h
  cases hat : atF L i with
  | none =>
    have e1 : freeF L i who = (some 6, L) := by unfold freeF; rw [hat]
    rw [e1]
    have Hc := hid (mine_rf h i who i0)
    have Hmc : Hid (mineE L i who = 107) := hid (by unfold mineE; rw [hat])
    unfold codO
    clear h hat hG _hK e1
    go_enter Tryd.func32, Tryd.ntmps32
    go_wp2_with (go_at_call 50; refine Hc.out.mono ?_; rintro e w' ⟨rfl, rfl⟩; try rw [Hmc.out])
    go_ret
    exact ⟨rfl, H.out, Hr.out⟩
  | some f =>
    obtain ⟨k, rfl, hk, ho⟩ := atF_some hat
    obtain ⟨w0, wK, u0, uK, htab, hnob⟩ := hG k f hk
    clear htab hnob
    have Hk := hid hk
    have hkn := h.klt hk
    have k0 : (0 : Int) ≤ (k : Int) := by omega
    have k1 : (k : Int) < (n : Int) := by omega
    have co := h.cO hk
    have ct := h.cT hk
    have cw := h.cW hk
    have cu := h.cU hk
    have z0 := h.free (k * 4)
    have z1 := h.free (k * 4 + 1)
    have z2 := h.free (k * 4 + 2)
    have z3 := h.free (k * 4 + 3)
    have Hc := hid (mine_rf h k who i0)
    by_cases hw : f.o = who
    · have Hmc : Hid (mineE L (k : Int) who = 0) := hid (by unfold mineE; rw [hat]; simp [hw])
      by_cases h2 : 0 < f.w
      · skip
        have e1 : freeF L (k : Int) who = (some 11, L) := by unfold freeF; rw [hat]; simp [hw, bsy, h2]
        rw [e1]
        have dh2 : decide (f.w > 0) = true := by simpa using h2
        unfold codO
        clear h hG _hK e1 hat hk ho hw
        go_enter Tryd.func32, Tryd.ntmps32
        go_wp2_with (go_at_call 50; refine Hc.out.mono ?_; rintro e w' ⟨rfl, rfl⟩; try rw [Hmc.out])
        go_ret
        exact ⟨rfl, H.out, Hr.out⟩
      · skip
        by_cases h3 : 0 < f.u
        · skip
          have e1 : freeF L (k : Int) who = (some 11, L) := by unfold freeF; rw [hat]; simp [hw, bsy, h2, h3]
          rw [e1]
          have dh2 : decide (f.w > 0) = false := by simpa using h2
          have dh3 : decide (f.u > 0) = true := by simpa using h3
          unfold codO
          clear h hG _hK e1 hat hk ho hw
          go_enter Tryd.func32, Tryd.ntmps32
          go_wp2_with (go_at_call 50; refine Hc.out.mono ?_; rintro e w' ⟨rfl, rfl⟩; try rw [Hmc.out])
          go_ret
          exact ⟨rfl, H.out, Hr.out⟩
        · skip
          have e1 : freeF L (k : Int) who = (none, L.set k noFm) := by unfold freeF; rw [hat]; simp [hw, bsy, h2, h3]
          rw [e1]
          have dh2 : decide (f.w > 0) = false := by simpa using h2
          have dh3 : decide (f.u > 0) = false := by simpa using h3
          unfold codO
          clear h hG _hK e1 hat hk ho hw
          go_enter Tryd.func32, Tryd.ntmps32
          go_wp2_with (go_at_call 50; refine Hc.out.mono ?_; rintro e w' ⟨rfl, rfl⟩; try rw [Hmc.out])
          go_ret
          exact ⟨rfl, H.out.sAll Hk.out _ _ _ _, grown_four Hr.out _ _ _ _⟩
    · have Hmc : Hid (mineE L (k : Int) who = 110) := hid (by unfold mineE; rw [hat]; simp [hw])
      have e1 : freeF L (k : Int) who = (some 9, L) := by unfold freeF; rw [hat]; simp [hw]
      rw [e1]
      unfold codO
      clear h hG _hK e1 hat hk ho hw
      go_enter Tryd.func32, Tryd.ntmps32
      go_wp2_with (go_at_call 50; refine Hc.out.mono ?_; rintro e w' ⟨rfl, rfl⟩; try rw [Hmc.out])
      go_ret
      exact ⟨rfl, H.out, Hr.out⟩
end
end Go.Proofs.YtcfagdmaephkdaaDoor
namespace Go.Proofs.YtcfagdmaephkdaaDoor
open Go.RowKit
theorem partF_get {n c : Nat} (h : c < n) : (partF n c)[c]? = some zFm := by
  unfold partF
  rw [List.getElem?_append_right (by simp), List.length_replicate, Nat.sub_self, List.getElem?_replicate, if_pos (by omega)]
theorem partF_set {n c : Nat} (h : c < n) : (partF n c).set c ⟨-1, 0, 0, 0⟩ = partF n (c + 1) := by
  obtain ⟨d, hd⟩ : ∃ d, n - c = d + 1 := ⟨n - c - 1, by omega⟩
  unfold partF
  rw [List.set_append_right _ _ (by simp), hd, show n - (c + 1) = d by omega]
  have e : List.replicate (c + 1) noFm = List.replicate c noFm ++ [noFm] := List.replicate_succ'
  rw [e, List.append_assoc, List.length_replicate, Nat.sub_self]
  rfl
set_option maxRecDepth 100000 in
set_option maxHeartbeats 8000000 in
theorem rnew_rf (n : Nat) (n1 : 1 ≤ n) (n2 : n ≤ 1024) (w : World) :
    Calls Tryd.prog 10 #[.int .i64 n] w (MadeF w 45 42 n (List.replicate n noFm) id) := by
  obtain ⟨i, hi, hz0, hz1, hz2⟩ := info_parts (P := Tryd.prog) (e := 42) (z := .agg #[.int .i64 0, .int .i64 0, .int .i64 0, .int .i64 0]) (size := 4) (bytes := 32) (by kernel_rfl)
  have hmk : ∀ W : World, (Instr.makeSlice 43 (.int .i64 n) (.int .i64 n)).run Tryd.prog W = .ok (.slice (some ⟨W.heap.size, 0, none⟩) n n) (W.alloc (.cells (frsL (partF n 0)).toArray 42)) := fun W => by
    have := run_make (P := Tryd.prog) W 43 42 i _ Tryd.underlying43 hi hz0 .i64 .i64 n n (by omega) (by omega) (by rw [hz2]; omega) (by omega)
    rw [this, hz1]
    have e := toList_madeZero (.int .i64 0) (n * 4) 4 (by omega)
    simp only [Int.toNat_natCast]
    have e2 : (frsL (partF n 0)).toArray = Array.replicate (n * 4) (.int .i64 0) := by
      unfold partF
      simp only [List.replicate_zero, List.nil_append, Nat.sub_zero, frsL_zeros]
      simp
    rw [e2, ← e]
    rfl
  have Hn := hid (And.intro n1 n2)
  have nn0 : (0 : Int) ≤ (n : Int) := by omega
  obtain ⟨g, hg⟩ : ∃ g, w.heap.size = g := ⟨_, rfl⟩
  have Hg := hid hg
  have HF : Hid (FdAt ((w.alloc (.cells (frsL (partF n 0)).toArray 42)).alloc (.cells #[.slice (some ⟨w.heap.size, 0, none⟩) n n] 45)) (w.heap.size + 1) w.heap.size n n (partF n 0)) := hid (by
    have hown : (w.alloc (.cells (frsL (partF n 0)).toArray 42)).ownsRow w.heap.size 42 4 (.slice (some ⟨w.heap.size, 0, none⟩) n n) n (frsL (partF n 0)) := by
      refine ⟨by rw [frsL_length, partF_length (Nat.zero_le _)], .inr ⟨w.heap.size, n, _, rfl, Nat.le_refl _, heap_alloc_last _ _, Nat.le_refl _, by unfold maxLen; omega, ?_, ?_⟩⟩
      · simp only [List.size_toArray]; rw [frsL_length, partF_length (Nat.zero_le _)]
      · exact List.take_of_length_le (by rw [frsL_length, partF_length (Nat.zero_le _)]; exact Nat.le_refl _)
    obtain ⟨b', c', hv, hb', hF⟩ := fr_of_owned (T := 45) hown (partF_length (Nat.zero_le _)) n1 n2
    simp only [Value.slice.injEq, Option.some.injEq, Addr.mk.injEq, and_true, true_and] at hv
    obtain ⟨rfl, rfl⟩ := hv
    simpa using hF)
  have HG := hid (grown_alloc (World.grownBy_alloc w (.cells (frsL (partF n 0)).toArray 42) none) (.cells #[.slice (some ⟨w.heap.size, 0, none⟩) n n] 45))
  clear hi hz0 hz1 hz2 n1 hg
  go_enter Tryd.func10, Tryd.ntmps10
  go_wp2
  try rw [show (w.alloc (.cells (frsL (partF n 0)).toArray 42)).heap.size = w.heap.size + 1 by simp]
  generalize (w.alloc (.cells (frsL (partF n 0)).toArray 42)).alloc (.cells #[.slice (some ⟨w.heap.size, 0, none⟩) n n] 45) = w1 at HF HG ⊢
  rw [Hg.out] at HF ⊢
  go_loopw [4] (fun i wr => ∃ k : Nat, k ≤ n ∧ i = .int .i64 k ∧ Hid (FdAt wr (g + 1) g n n (partF n k)) ∧ Hid (w.grownBy wr none)) (fun i _ => n - (intOf i).toNat)
  case atStart => exact ⟨0, Nat.zero_le _, rfl, HF, HG⟩
  case round =>
    obtain ⟨k, hk, rfl, HR, HGr⟩ := hrel
    clear HF HG
    by_cases hlt : k < n
    · have k0 : (0 : Int) ≤ (k : Int) := by omega
      have k1 : (k : Int) < (n : Int) := by omega
      have Hlt := hid hlt
      have hm := HR.out.mcell
      have co := HR.out.cO (partF_get hlt)
      have z := HR.out.free (k * 4)
      go_wp2
      go_roundw
      case rel =>
        have := HR.out.sO (partF_get Hlt.out) (-1)
        rw [show (⟨-1, zFm.t, zFm.w, zFm.u⟩ : Fm) = ⟨-1, 0, 0, 0⟩ from rfl, partF_set Hlt.out] at this
        exact ⟨k + 1, by omega, by go_num, hid this, hid (grown_new' (grown_setCell (grown_none HGr.out) _ _) (fun j hj => by obtain rfl := Option.some.inj hj; exact Nat.le_of_eq Hg.out))⟩
      case measure => simp [intOf]; omega
    · obtain rfl : k = n := by omega
      have k1 : ¬ ((k : Int) < (k : Int)) := by omega
      go_wp2
      go_ret
      have := HR.out
      rw [partF_all] at this
      exact ⟨g + 1, g, k, rfl, by have := Hg.out; omega, by have := Hg.out; omega, this, HGr.out⟩
section
variable {w : World} {m b n c : Nat} {L : List Fm} {K : Int}
set_option maxRecDepth 100000 in
set_option maxHeartbeats 8000000 in
theorem ralloc_rf (h : FdAt w m b n c L) (who : Int) :
    Calls Tryd.prog 31 #[.pointer (some ⟨m, 0, none⟩), .int .i64 who] w fun e w' => e = .returned (.tuple #[.int .i64 (allocF L who).2.1, .int .i64 (codO (allocF L who).1)]) ∧ FdAt w' m b n c (allocF L who).2.2 ∧ w.grownBy w' (some b) := by
  have Hr := hid (grown_refl w (some b))
  have H := hid h
  have hm := h.mcell
  have Hl := hid h.len
  have hn := h.n2
  cases hb : mayB who with
  | false =>
    have e1 : allocF L who = (some 2, 0, L) := by unfold allocF; rw [if_pos hb]
    rw [e1]
    have Hb := hid hb
    unfold codO
    clear h e1 hb
    go_enter Tryd.func31, Tryd.ntmps31
    go_wp2_with (go_at_call 49; refine (owner_rf who _).mono ?_; rintro e w' ⟨rfl, rfl⟩; rw [Hb.out])
    go_ret2
    exact ⟨rfl, H.out, Hr.out⟩
  | true =>
    have Hb := hid hb
    have Ha : Hid ((freeIx L = none → allocF L who = (some 12, 0, L)) ∧ ∀ k, freeIx L = some k → allocF L who = (none, k, L.set k ⟨who, 0, 0, 0⟩)) := hid ⟨fun hx => by unfold allocF; rw [if_neg (by rw [hb]; decide), hx], fun k hx => by unfold allocF; rw [if_neg (by rw [hb]; decide), hx]⟩
    clear h hb
    obtain ⟨R, hR⟩ : ∃ R, allocF L who = R := ⟨_, rfl⟩
    have Ha2 := Ha
    rw [hR] at Ha2
    rw [hR]
    have HR := hid hR
    clear hR
    go_enter Tryd.func31, Tryd.ntmps31
    go_wp2_with (go_at_call 49; refine (owner_rf who _).mono ?_; rintro e w' ⟨rfl, rfl⟩; rw [Hb.out])
    go_loopw [6] (fun i wr => ∃ k : Nat, k ≤ n ∧ i = .int .i64 k ∧ w = wr ∧ Hid (∀ (j : Nat) (g : Fm), j < k → L[j]? = some g → g.o ≠ -1)) (fun i _ => n - (intOf i).toNat)
    case atStart => exact ⟨0, Nat.zero_le _, rfl, rfl, hid (fun j g hj => absurd hj (Nat.not_lt_zero _))⟩
    case round =>
      obtain ⟨k, hk, rfl, rfl, Hk⟩ := hrel
      by_cases hlt : k < n
      · obtain ⟨f, hf⟩ : ∃ f, L[k]? = some f := ⟨_, List.getElem?_eq_getElem (by rw [Hl.out]; exact hlt)⟩
        have Hf := hid hf
        have k0 : (0 : Int) ≤ (k : Int) := by omega
        have k1 : (k : Int) < (n : Int) := by omega
        have co := H.out.cO hf
        have ct := H.out.cT hf
        have cw := H.out.cW hf
        have cu := H.out.cU hf
        have z0 := H.out.free (k * 4)
        have z1 := H.out.free (k * 4 + 1)
        have z2 := H.out.free (k * 4 + 2)
        have z3 := H.out.free (k * 4 + 3)
        clear hf
        by_cases ho : f.o = -1
        · have Ho := hid ho
          have ho1 : (f.o == -1) = true := by simpa using ho
          have e2 := Ha2.out.2 _ (freeIx_found Hf.out ho Hk.out)
          subst e2
          clear ho
          go_wp2
          go_ret2
          exact ⟨rfl, H.out.sAll Hf.out _ _ _ _, grown_four Hr.out _ _ _ _⟩
        · have Ho := hid ho
          have ho1 : (f.o == -1) = false := by simpa using ho
          clear ho
          go_wp2
          go_roundw
          case rel =>
            refine ⟨k + 1, by omega, by go_num, by first | rfl | trivial, hid (fun j g hj hg => ?_)⟩
            by_cases e : j = k
            · subst e
              rw [Hf.out] at hg
              cases hg
              exact Ho.out
            · exact Hk.out j g (by omega) hg
          case measure => simp [intOf]; omega
      · obtain rfl : k = n := by omega
        have k1 : ¬ ((k : Int) < (k : Int)) := by omega
        have e2 := Ha2.out.1 (freeIx_none (fun j g hg => Hk.out j g (by rw [← Hl.out]; exact (List.getElem?_eq_some_iff.1 hg).1) hg))
        subst e2
        go_wp2
        go_ret2
        exact ⟨rfl, H.out, Hr.out⟩
set_option maxRecDepth 100000 in
set_option maxHeartbeats 8000000 in
theorem rof_rf (h : FdAt w m b n c L) (who : Int) :
    Calls Tryd.prog 16 #[.pointer (some ⟨m, 0, none⟩), .int .i64 who] w (fun e w' => ∃ v, e = .returned v ∧ (∃ p c, v = .slice p (ofF L who n).length c) ∧ SlAt w' .i64 v (ofF L who n) ∧ w.grownBy w' none) := by
  have H := hid h
  have hn := h.n2
  have Hl := hid h.len
  obtain ⟨i, hi, hz0, hz1, hz2⟩ := info_intF
  have Hi := hid hi
  have Hz0 := hid hz0
  have Hz1 := hid hz1
  have Hz2 := hid hz2
  clear h hi hz0 hz1 hz2
  go_enter Tryd.func16, Tryd.ntmps16
  go_wp2
  go_loopw [5, 6] (fun v i wr => ∃ k N : Nat, k ≤ n ∧ i = .int .i64 k ∧ Hid (N = (ofF L who k).length) ∧ Hid (OfR w wr v (ofF L who k) N)) (fun _ i _ => n - (intOf i).toNat)
  case atStart => exact ⟨0, 0, Nat.zero_le _, rfl, hid rfl, hid ⟨by simpa [ofF] using World.ownsRow_nil w w.heap.size 3 1, grown_refl _ _⟩⟩
  case round =>
    obtain ⟨k, N, hk, rfl, HN, HR⟩ := hrel
    have HF := hid (H.out.kept0 HR.out.gr)
    have hm := HF.out.mcell
    by_cases hlt : k < n
    · obtain ⟨f, hf⟩ : ∃ f, L[k]? = some f := ⟨_, List.getElem?_eq_getElem (by rw [Hl.out]; exact hlt)⟩
      have co := HF.out.cO hf
      have Hf := hid hf
      have k0 : (0 : Int) ≤ (k : Int) := by omega
      have k1 : (k : Int) < (n : Int) := by omega
      have HN2 : Hid (N ≤ k) := hid (by rw [HN.out]; exact ofF_length L who k)
      clear hf
      obtain ⟨vp, vc, hv⟩ := HR.out.form
      subst hv
      by_cases ho : f.o = who
      · have Ho := hid ho
        have hob : (f.o == who) = true := by simpa using ho
        clear ho
        have Hal2 := hid (World.grownBy_alloc wr (.cells #[.int .i64 k] 3) none)
        have HR3 := hid (HR.out.kept0 Hal2.out)
        have HNw : Hid (∀ j u, [Value.int .i64 (k : Int)][j]? = some u → (wr.alloc (.cells #[.int .i64 k] 3)).cell? ((⟨wr.heap.size, 0, none⟩ : Addr).add j) = some u) := hid (World.news_of_block (heap_alloc_new _ _))
        have HOw := hid HR3.out.own
        go_wp2_with (first
          | (refine wpList_append_lies _ rfl _ _ 33 rfl w.heap.size 3 i _ 1 8 Tryd.underlying33 Hi.out Hz0.out Hz1.out Hz2.out rfl (by decide) _ N _ rfl HOw.out ⟨wr.heap.size, 0, none⟩ 1 1 _ rfl rfl HNw.out (by simp [Value.oneCell']) (by decide) (by have := HN2.out; unfold maxLen; omega) (by have := HN2.out; omega) HR3.out.gr.size _ rfl ?_
             intro g cap w5 hown hgrow hat hlt2
             have HO := hid hown
             have HG5 := hid hgrow
             clear hown hgrow hat hlt2)
          | fail)
        go_roundw
        case rel =>
          refine ⟨k + 1, N + 1, by omega, by go_num, hid ?_, hid ⟨?_, ?_⟩⟩
          · rw [ofF_yes Hf.out Ho.out, List.length_append, ← HN.out]; rfl
          · rw [ofF_yes Hf.out Ho.out, List.map_append]
            exact HO.out
          · exact grown_new' (grown_trans (grown_none HR3.out.gr) HG5.out) (fun j hj => (HOw.out.lt j hj).1)
        case measure => simp [intOf]; omega
      · have Ho := hid ho
        have hob : (f.o == who) = false := by simpa using ho
        clear ho
        go_wp2
        go_roundw
        case rel => exact ⟨k + 1, N, by omega, by go_num, hid (by rw [ofF_no Hf.out Ho.out]; exact HN.out), hid (by rw [ofF_no Hf.out Ho.out]; exact HR.out)⟩
        case measure => simp [intOf]; omega
    · obtain rfl : k = n := by omega
      have k1 : ¬ ((k : Int) < (k : Int)) := by omega
      go_wp2
      go_ret
      exact ⟨_, rfl, by rw [← HN.out]; exact HR.out.form, SlAt.own HR.out.own, HR.out.gr⟩
end
end Go.Proofs.YtcfagdmaephkdaaDoor

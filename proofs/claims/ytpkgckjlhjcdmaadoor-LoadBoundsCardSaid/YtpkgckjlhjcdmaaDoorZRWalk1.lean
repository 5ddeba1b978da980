/- The document's own entries (facaderef1.Bits, OfBits): contracts. -/
import Derived.Test.YtpkgckjlhjcdmaaDoorZGWalk
namespace Go.Proofs.YtpkgckjlhjcdmaaDoor
open Go.RowKit
theorem or_bits {f : Int} (h0 : 0 ≤ f) (h1 : f < 1024) : bits BinOp.or IntKind.u32 (f * 256) 1 = f * 256 + 1 ∧ bits BinOp.or IntKind.u32 (f * 256 + 1) 2 = f * 256 + 3 ∧ bits BinOp.or IntKind.u32 (f * 256 + 1) 4 = f * 256 + 5 ∧ bits BinOp.or IntKind.u32 (f * 256 + 3) 4 = f * 256 + 7 := by
  obtain ⟨n, rfl⟩ := Int.eq_ofNat_of_zero_le h0
  have k : ∀ (a : Nat), a < 4 → n * 256 + a < 4294967296 := by intro a ha; omega
  have j : ∀ (a b : Nat), a < 8 → b < 8 → a + b < 8 → (a ||| b = a + b) → (n * 256 + a) ||| b = n * 256 + (a + b) := by
    intro a b ha hb hab h
    have q1 : n * 256 ||| a = n * 256 + a := nat_join 8 _ _ (by omega) (by omega)
    have q2 : n * 256 ||| (a + b) = n * 256 + (a + b) := nat_join 8 _ _ (by omega) (by omega)
    rw [← q1, Nat.or_assoc, h, q2]
  have e : ∀ a : Nat, ((n : Int) * 256 + (a : Int)) = ((n * 256 + a : Nat) : Int) := by intro a; omega
  have j0 := j 0 1 (by omega) (by omega) (by omega) rfl
  have j1 := j 1 2 (by omega) (by omega) (by omega) rfl
  have j2 := j 1 4 (by omega) (by omega) (by omega) rfl
  have j3 := j 3 4 (by omega) (by omega) (by omega) rfl
  refine ⟨?_, ?_, ?_, ?_⟩
  · have e0 : (n : Int) * 256 = ((n * 256 + 0 : Nat) : Int) := by omega
    rw [e0, show (1 : Int) = ((1 : Nat) : Int) from rfl, u32_or_nat _ 1 (by omega) (by omega), j0]; omega
  · rw [show (1 : Int) = ((1 : Nat) : Int) from rfl, show (2 : Int) = ((2 : Nat) : Int) from rfl, e 1, u32_or_nat _ 2 (by omega) (by omega), j1]; omega
  · rw [show (1 : Int) = ((1 : Nat) : Int) from rfl, show (4 : Int) = ((4 : Nat) : Int) from rfl, e 1, u32_or_nat _ 4 (by omega) (by omega), j2]; omega
  · rw [show (3 : Int) = ((3 : Nat) : Int) from rfl, show (4 : Int) = ((4 : Nat) : Int) from rfl, e 3, u32_or_nat _ 4 (by omega) (by omega), j3]; omega
theorem rbits_out (f : Int) (t w u : Bool) (W : World) (h : f < 0 ∨ 1024 ≤ f) :
    Calls Tryd.prog 84 #[.agg #[.int .i64 f, .bool t, .bool w, .bool u]] W fun e w' => e = .returned (.tuple #[.int .u32 0, .bool false]) ∧ W.grownBy w' none := by
  have Hr := hid (grown_refl W none)
  rcases h with h | h
  · go_enter Tryd.func84, Tryd.ntmps84
    go_wp2
    go_ret2
    exact ⟨rfl, grown_alloc Hr.out _⟩
  · have h0 : ¬ f < 0 := by omega
    go_enter Tryd.func84, Tryd.ntmps84
    go_wp2
    go_ret2
    exact ⟨rfl, grown_alloc Hr.out _⟩
set_option maxHeartbeats 1000000 in
theorem rbits_there (f : Int) (w u : Bool) (W : World) (h0 : 0 ≤ f) (h1 : f < 1024) :
    Calls Tryd.prog 84 #[.agg #[.int .i64 f, .bool true, .bool w, .bool u]] W fun e w' => e = .returned (.tuple #[.int .u32 (bitV f true w u), .bool true]) ∧ W.grownBy w' none := by
  have Hr := hid (grown_refl W none)
  have Hv := hid (bitV_yes (w := w) (u := u) h0 h1)
  obtain ⟨E1, E2, E3, E4⟩ := or_bits h0 h1
  have hn : ¬ f < 0 := by omega
  have hn2 : ¬ f ≥ 1024 := by omega
  cases w <;> cases u
  all_goals
    go_enter Tryd.func84, Tryd.ntmps84
    go_wp2
    go_ret2
    exact ⟨rt_ib (by rw [Hv.out]; simp [twoV, fourV]; try omega) rfl, grown_alloc Hr.out _⟩
set_option maxHeartbeats 1000000 in
theorem rbits_none (f : Int) (w u : Bool) (W : World) (h0 : 0 ≤ f) (h1 : f < 1024) :
    Calls Tryd.prog 84 #[.agg #[.int .i64 f, .bool false, .bool w, .bool u]] W fun e w' => e = .returned (.tuple #[.int .u32 0, .bool (decide (f = 0) && !w && !u)]) ∧ W.grownBy w' none := by
  have Hr := hid (grown_refl W none)
  have hn : ¬ f < 0 := by omega
  have hn2 : ¬ f ≥ 1024 := by omega
  by_cases hf : f = 0
  · subst hf
    cases w <;> cases u
    all_goals
      go_enter Tryd.func84, Tryd.ntmps84
      go_wp2
      go_quiet (fail)
      go_wp2
      go_ret2
      exact ⟨rfl, grown_drewN (grown_alloc Hr.out _) _⟩
  · have hq : (f == 0) = false := by simpa using hf
    have Hd : Hid (decide (f = 0) = false) := hid (by simpa using hf)
    rw [Hd.out]
    go_enter Tryd.func84, Tryd.ntmps84
    go_wp2
    go_quiet (fail)
    go_wp2
    go_ret2
    exact ⟨rfl, grown_drewN (grown_alloc Hr.out _) _⟩
theorem rbits_any (f : Int) (t w u : Bool) (W : World) :
    Calls Tryd.prog 84 #[.agg #[.int .i64 f, .bool t, .bool w, .bool u]] W fun e w' => e = .returned (.tuple #[.int .u32 (bitV f t w u), .bool (bitB f t w u)]) ∧ W.grownBy w' none := by
  by_cases h0 : 0 ≤ f ∧ f < 1024
  · obtain ⟨h0, h1⟩ := h0
    cases t
    · have e : bitV f false w u = 0 := by unfold bitV; rw [if_neg (by simp)]
      have e2 : bitB f false w u = (decide (f = 0) && !w && !u) := by unfold bitB; simp [h0, h1]
      rw [e, e2]
      exact rbits_none f w u W h0 h1
    · have e : bitB f true w u = true := by unfold bitB; simp [h0, h1]
      rw [e]
      exact rbits_there f w u W h0 h1
  · have e : bitB f t w u = false := by unfold bitB; rw [decide_eq_false h0]; rfl
    rw [bitV_no e, e]
    exact rbits_out f t w u W (by omega)
theorem rbits_of (f : Int) (t w u : Bool) (V : Int) (b : Bool) (hV : bitV f t w u = V) (hb : bitB f t w u = b) (W : World) :
    Calls Tryd.prog 84 #[.agg #[.int .i64 f, .bool t, .bool w, .bool u]] W fun e w' => e = .returned (.tuple #[.int .u32 V, .bool b]) ∧ W.grownBy w' none := by
  subst hV; subst hb
  exact rbits_any f t w u W
set_option maxHeartbeats 2000000 in
theorem rof_any (v : Int) (W : World) (h0 : 0 ≤ v) (h1 : v < 4294967296) :
    Calls Tryd.prog 89 #[.int .u32 v] W fun e w' => e = .returned (.tuple #[.agg #[.int .i64 (oF (ofO v)), .bool (oT (ofO v)), .bool (oW (ofO v)), .bool (oU (ofO v))], .bool (ofB v)]) ∧ W.grownBy w' none := by
  have Hr := hid (grown_refl W none)
  by_cases hz : v = 0
  · subst hz
    go_enter Tryd.func89, Tryd.ntmps89
    go_wp2
    refine bodyPost_ret (v := .tuple #[.agg #[.int .i64 0, .bool false, .bool false, .bool false], .bool true]) (by simp [results, Tryd.results89, go_sem]) rfl ?_
    exact ⟨rfl, grown_alloc Hr.out _⟩
  obtain ⟨T, E1, HT⟩ : ∃ T, (bits BinOp.and IntKind.u32 v 1 != 0) = T ∧ Hid (tB v = T) := ⟨_, bit_one h0 h1, hid rfl⟩
  obtain ⟨X, E2, HX⟩ : ∃ X, (bits BinOp.and IntKind.u32 v 2 != 0) = X ∧ Hid (wB v = X) := ⟨_, bit_two h0 h1, hid rfl⟩
  obtain ⟨U, E4, HU⟩ : ∃ U, (bits BinOp.and IntKind.u32 v 4 != 0) = U ∧ Hid (uB v = U) := ⟨_, bit_four h0 h1, hid rfl⟩
  have hz : (v == 0) = false := by simpa using hz
  cases ho : ofB v
  · have Hq : Hid (oF (ofO v) = 0 ∧ oT (ofO v) = false ∧ oW (ofO v) = false ∧ oU (ofO v) = false) := by rw [ofO_no ho]; exact hid ⟨rfl, rfl, rfl, rfl⟩
    have hne := bitV_ne ho
    rw [HT.out, HX.out, HU.out] at hne
    obtain ⟨V, HV⟩ : ∃ V, Hid (bitV (v / 256) T X U = V) := ⟨_, hid rfl⟩
    obtain ⟨C, HC⟩ : ∃ C, Hid (bitB (v / 256) T X U = C) := ⟨_, hid rfl⟩
    rw [HV.out] at hne
    have hne2 : (V == v) = false := by simpa using hne
    clear HT HX HU ho hne
    cases C
    all_goals
      go_enter Tryd.func89, Tryd.ntmps89
      go_wp2_with (go_at_call 84; refine (rbits_of _ _ _ _ V _ HV.out HC.out _).mono ?_; rintro e w' ⟨rfl, hg⟩; have HG := hid (grown_trans (grown_alloc (grown_alloc (grown_refl W none) _) _) hg); have r0 := (((EntAt.new W 0 false false false).alloc _).kept0 hg).all; clear hg; obtain ⟨k0, k1, k2, k3, kf, kl⟩ := r0)
      refine bodyPost_ret (v := .tuple #[.agg #[.int .i64 0, .bool false, .bool false, .bool false], .bool false]) (by simp [results, Tryd.results89, k0, k1, k2, k3, go_sem]) rfl ?_
      exact ⟨rt_ent Hq.out.1.symm Hq.out.2.1.symm Hq.out.2.2.1.symm Hq.out.2.2.2.symm rfl, grown_new (b := W.heap.size) (by (repeat apply grown_setCell); exact grown_none HG.out) (Nat.le_refl _)⟩
  · have Hq : Hid (oF (ofO v) = v / 256 ∧ oT (ofO v) = T ∧ oW (ofO v) = X ∧ oU (ofO v) = U) := by rw [ofO_yes ho]; exact hid ⟨rfl, HT.out, HX.out, HU.out⟩
    have HV := hid (bitV_of ho)
    rw [HT.out, HX.out, HU.out] at HV
    clear HT HX HU ho
    go_enter Tryd.func89, Tryd.ntmps89
    go_wp2_with (go_at_call 84; refine (rbits_of _ _ _ _ v true HV.out.2 HV.out.1 _).mono ?_; rintro e w' ⟨rfl, hg⟩; have HG := hid (grown_trans (grown_alloc (grown_alloc (grown_refl W none) _) _) hg); have r0 := (((EntAt.new W 0 false false false).alloc _).kept0 hg).all; have r1 := ((EntAt.new (W.alloc (.cells #[.int .i64 0, .bool false, .bool false, .bool false] 142)) (v / 256) T X U).kept0 hg).all; clear hg; simp only [World.size_alloc] at r1; obtain ⟨k0, k1, k2, k3, kf, kl⟩ := r0; obtain ⟨m0, m1, m2, m3, mf, ml⟩ := r1)
    refine bodyPost_ret (v := .tuple #[.agg #[.int .i64 (v / 256), .bool T, .bool X, .bool U], .bool true]) (by simp [results, Tryd.results89, k0, k1, k2, k3, go_sem]) rfl ?_
    exact ⟨rt_ent Hq.out.1.symm Hq.out.2.1.symm Hq.out.2.2.1.symm Hq.out.2.2.2.symm rfl, grown_new (b := W.heap.size) (by (repeat apply grown_setCell); exact grown_none HG.out) (Nat.le_refl _)⟩
theorem rof_of (v F : Int) (T X U b : Bool) (h0 : 0 ≤ v) (h1 : v < 4294967296) (hF : oF (ofO v) = F) (hT : oT (ofO v) = T) (hX : oW (ofO v) = X) (hU : oU (ofO v) = U) (hb : ofB v = b) (W : World) :
    Calls Tryd.prog 89 #[.int .u32 v] W fun e w' => e = .returned (.tuple #[.agg #[.int .i64 F, .bool T, .bool X, .bool U], .bool b]) ∧ W.grownBy w' none := by
  subst hF; subst hT; subst hX; subst hU; subst hb
  exact rof_any v W h0 h1
end Go.Proofs.YtpkgckjlhjcdmaaDoor

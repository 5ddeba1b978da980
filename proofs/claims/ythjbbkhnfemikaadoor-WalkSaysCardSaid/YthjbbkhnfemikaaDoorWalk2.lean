/- What package walk's Of answers: a contract. -/
import Derived.Test.YthjbbkhnfemikaaDoorWalk1
import Derived.Deep.WholeRow
namespace Go.Proofs.YthjbbkhnfemikaaDoor
open Go.RowKit
theorem nat_and_bit (n : Nat) : n &&& 1 = n % 2 ∧ n &&& 2 = n / 2 % 2 * 2 ∧ n &&& 4 = n / 4 % 2 * 4 := by
  have key : ∀ m : Nat, (m &&& 1) = m % 2 := Nat.and_one_is_mod
  refine ⟨key n, ?_, ?_⟩
  · have h1 : (n &&& 2) / 2 = (n / 2) &&& 1 := Nat.and_div_two
    have h2 : (n &&& 2) % 2 = 0 := by
      have := Nat.and_mod_two_pow (a := n) (b := 2) (n := 1)
      simpa using this
    rw [key] at h1
    omega
  · have h1 : (n &&& 4) / 2 = (n / 2) &&& 2 := Nat.and_div_two
    have h3 : (n / 2 &&& 2) / 2 = (n / 2 / 2) &&& 1 := Nat.and_div_two
    have h2 : (n &&& 4) % 4 = 0 := by
      have := Nat.and_mod_two_pow (a := n) (b := 4) (n := 2)
      simpa using this
    rw [key] at h3
    omega
theorem bit_one {v : Int} (h : 0 ≤ v) (h' : v < 4294967296) : (bits BinOp.and IntKind.u32 v 1 != 0) = tB v := by
  obtain ⟨n, rfl⟩ := Int.eq_ofNat_of_zero_le h
  rw [show (1 : Int) = ((1 : Nat) : Int) from rfl, u32_and_nat n 1 (by omega) (by decide), (nat_and_bit n).1]
  unfold tB
  rw [Bool.eq_iff_iff]; simp; omega
theorem bit_two {v : Int} (h : 0 ≤ v) (h' : v < 4294967296) : (bits BinOp.and IntKind.u32 v 2 != 0) = wB v := by
  obtain ⟨n, rfl⟩ := Int.eq_ofNat_of_zero_le h
  rw [show (2 : Int) = ((2 : Nat) : Int) from rfl, u32_and_nat n 2 (by omega) (by decide), (nat_and_bit n).2.1]
  unfold wB
  rw [Bool.eq_iff_iff]; simp; omega
theorem bit_four {v : Int} (h : 0 ≤ v) (h' : v < 4294967296) : (bits BinOp.and IntKind.u32 v 4 != 0) = uB v := by
  obtain ⟨n, rfl⟩ := Int.eq_ofNat_of_zero_le h
  rw [show (4 : Int) = ((4 : Nat) : Int) from rfl, u32_and_nat n 4 (by omega) (by decide), (nat_and_bit n).2.2]
  unfold uB
  rw [Bool.eq_iff_iff]; simp; omega
/-- a block that holds an entry -/
def EntAt (W : World) (B : Nat) (f : Int) (t w u : Bool) : Prop := W.heap[B]? = some (.cells #[.int .i64 f, .bool t, .bool w, .bool u] 32 (0, 0))
section
variable {W W1 : World} {B : Nat} {f : Int} {t w u : Bool}
theorem EntAt.lt (h : EntAt W B f t w u) : B < W.heap.size := (Array.getElem?_eq_some_iff.1 h).1
theorem EntAt.c0 (h : EntAt W B f t w u) : W.cell? ⟨B, 0, none⟩ = some (.int .i64 f) := by rw [cell_of_row W B 0 _ _ _ h]; rfl
theorem EntAt.c1 (h : EntAt W B f t w u) : W.cell? ⟨B, 1, none⟩ = some (.bool t) := by rw [cell_of_row W B 1 _ _ _ h]; rfl
theorem EntAt.c2 (h : EntAt W B f t w u) : W.cell? ⟨B, 2, none⟩ = some (.bool w) := by rw [cell_of_row W B 2 _ _ _ h]; rfl
theorem EntAt.c3 (h : EntAt W B f t w u) : W.cell? ⟨B, 3, none⟩ = some (.bool u) := by rw [cell_of_row W B 3 _ _ _ h]; rfl
theorem EntAt.fz (h : EntAt W B f t w u) (k : Nat) : W.frozen? ⟨B, k, none⟩ = false := frozen_of_row W B k _ _ h
theorem EntAt.kept {r : Option Nat} (h : EntAt W B f t w u) (hg : W.grownBy W1 r) (hr : some B ≠ r) : EntAt W1 B f t w u := (hg.block _ h.lt hr).trans h
theorem EntAt.kept0 (h : EntAt W B f t w u) (hg : W.grownBy W1 none) : EntAt W1 B f t w u := h.kept hg (by simp)
theorem EntAt.new (W : World) (f : Int) (t w u : Bool) : EntAt (W.alloc (.cells #[.int .i64 f, .bool t, .bool w, .bool u] 32)) W.heap.size f t w u := heap_alloc_last _ _
theorem EntAt.alloc (h : EntAt W B f t w u) (o : Obj) : EntAt (W.alloc o) B f t w u := h.kept0 (World.grownBy_alloc _ _ _)
theorem EntAt.all (h : EntAt W B f t w u) : W.cell? ⟨B, 0, none⟩ = some (.int .i64 f) ∧ W.cell? ⟨B, 1, none⟩ = some (.bool t) ∧ W.cell? ⟨B, 2, none⟩ = some (.bool w) ∧ W.cell? ⟨B, 3, none⟩ = some (.bool u) ∧ (∀ k, W.frozen? ⟨B, k, none⟩ = false) ∧ B < W.heap.size := ⟨h.c0, h.c1, h.c2, h.c3, h.fz, h.lt⟩
end
theorem bits_of (f : Int) (t w u : Bool) (V : Int) (b : Bool) (hV : bitV f t w u = V) (hb : bitB f t w u = b) (W : World) :
    Calls Tryd.prog 10 #[.agg #[.int .i64 f, .bool t, .bool w, .bool u]] W fun e w' => e = .returned (.tuple #[.int .u32 V, .bool b]) ∧ W.grownBy w' none := by
  subst hV; subst hb
  exact bits_any f t w u W
theorem rt_ent {f f' : Int} {t t' w w' u u' c c' : Bool} (h0 : f = f') (h1 : t = t') (h2 : w = w') (h3 : u = u') (h4 : c = c') :
    Ending.returned (.tuple #[.agg #[.int .i64 f, .bool t, .bool w, .bool u], .bool c]) = .returned (.tuple #[.agg #[.int .i64 f', .bool t', .bool w', .bool u'], .bool c']) := by rw [h0, h1, h2, h3, h4]
set_option maxHeartbeats 1000000 in
theorem of_any (v : Int) (W : World) (h0 : 0 ≤ v) (h1 : v < 4294967296) :
    Calls Tryd.prog 15 #[.int .u32 v] W fun e w' => e = .returned (.tuple #[.agg #[.int .i64 (oF (ofO v)), .bool (oT (ofO v)), .bool (oW (ofO v)), .bool (oU (ofO v))], .bool (ofB v)]) ∧ W.grownBy w' none := by
  obtain ⟨T, E1, HT⟩ : ∃ T, (bits BinOp.and IntKind.u32 v 1 != 0) = T ∧ Hid (tB v = T) := ⟨_, bit_one h0 h1, hid rfl⟩
  obtain ⟨X, E2, HX⟩ : ∃ X, (bits BinOp.and IntKind.u32 v 2 != 0) = X ∧ Hid (wB v = X) := ⟨_, bit_two h0 h1, hid rfl⟩
  obtain ⟨U, E4, HU⟩ : ∃ U, (bits BinOp.and IntKind.u32 v 4 != 0) = U ∧ Hid (uB v = U) := ⟨_, bit_four h0 h1, hid rfl⟩
  cases ho : ofB v
  · have Hq : Hid (oF (ofO v) = 0 ∧ oT (ofO v) = false ∧ oW (ofO v) = false ∧ oU (ofO v) = false) := by rw [ofO_no ho]; exact hid ⟨rfl, rfl, rfl, rfl⟩
    have hne := bitV_ne ho
    rw [HT.out, HX.out, HU.out] at hne
    obtain ⟨V, HV⟩ : ∃ V, Hid (bitV (v / 256) T X U = V) := ⟨_, hid rfl⟩
    rw [HV.out] at hne
    have hne : (V == v) = false := by simpa using hne
    clear HT HX HU ho
    go_enter Tryd.func15, Tryd.ntmps15
    go_wp2_with (go_at_call 10; refine (bits_of _ _ _ _ V _ HV.out rfl _).mono ?_; rintro e w' ⟨rfl, hg⟩; have HG := hid (grown_trans (grown_alloc (grown_alloc (grown_refl W none) _) _) hg); have r0 := (((EntAt.new W 0 false false false).alloc _).kept0 hg).all; clear hg; obtain ⟨k0, k1, k2, k3, kf, kl⟩ := r0)
    refine bodyPost_ret (v := .tuple #[.agg #[.int .i64 0, .bool false, .bool false, .bool false], .bool false]) (by simp [results, Tryd.results15, k0, k1, k2, k3, go_sem]) rfl ?_
    exact ⟨rt_ent Hq.out.1.symm Hq.out.2.1.symm Hq.out.2.2.1.symm Hq.out.2.2.2.symm rfl, grown_new (b := W.heap.size) (by (repeat apply grown_setCell); exact grown_none HG.out) (Nat.le_refl _)⟩
  · have Hq : Hid (oF (ofO v) = v / 256 ∧ oT (ofO v) = T ∧ oW (ofO v) = X ∧ oU (ofO v) = U) := by rw [ofO_yes ho]; exact hid ⟨rfl, HT.out, HX.out, HU.out⟩
    have HV := hid (bitV_of ho)
    rw [HT.out, HX.out, HU.out] at HV
    clear HT HX HU ho
    go_enter Tryd.func15, Tryd.ntmps15
    go_wp2_with (go_at_call 10; refine (bits_of _ _ _ _ v true HV.out.2 HV.out.1 _).mono ?_; rintro e w' ⟨rfl, hg⟩; have HG := hid (grown_trans (grown_alloc (grown_alloc (grown_refl W none) _) _) hg); have r0 := (((EntAt.new W 0 false false false).alloc _).kept0 hg).all; have r1 := ((EntAt.new (W.alloc (.cells #[.int .i64 0, .bool false, .bool false, .bool false] 32)) (v / 256) T X U).kept0 hg).all; clear hg; simp only [World.size_alloc] at r1; obtain ⟨k0, k1, k2, k3, kf, kl⟩ := r0; obtain ⟨m0, m1, m2, m3, mf, ml⟩ := r1)
    refine bodyPost_ret (v := .tuple #[.agg #[.int .i64 (v / 256), .bool T, .bool X, .bool U], .bool true]) (by simp [results, Tryd.results15, k0, k1, k2, k3, go_sem]) rfl ?_
    exact ⟨rt_ent Hq.out.1.symm Hq.out.2.1.symm Hq.out.2.2.1.symm Hq.out.2.2.2.symm rfl, grown_new (b := W.heap.size) (by (repeat apply grown_setCell); exact grown_none HG.out) (Nat.le_refl _)⟩
end Go.Proofs.YthjbbkhnfemikaaDoor

/- Plain facts on the words that facadelaw7's mapped lays: no program is named here. -/
import Derived.Test.YtkkbhifplbleiaaDoorZCoreP
import Derived.Test.YtkkbhifplbleiaaDoorZGWay
import Derived.Test.YtkkbhifplbleiaaDoorZGCore
import Derived.Test.YtkkbhifplbleiaaDoorZRWalk1
import Derived.Test.YtkkbhifplbleiaaDoorZWalk4
import Derived.Test.YtkkbhifplbleiaaDoorZGMem
namespace Go.Proofs.YtkkbhifplbleiaaDoor
def base7 : List Int := ((List.replicate 384 (0 : Int)).set 0 263).set 8 263
/-- the entries of pages 0 to 5 -/
def m1 (w u : Bool) : Nat → List Int
  | 0 => base7
  | k + 1 => (m1 w u k).set (16 + k) (bitV (2 + (k : Int)) true w u)
/-- the entries of pages 6 to 11 -/
def m2 (w u : Bool) : Nat → List Int
  | 0 => m1 w u 6
  | k + 1 => (m2 w u k).set (22 + k) (bitV (8 + (k : Int)) true false u)
/-- the words -/
def m3 (l : List Int) (w u : Bool) : Nat → List Int
  | 0 => m2 w u 6
  | k + 1 => (m3 l w u k).set (32 + k) (l.getD k 0)
def mapW (l : List Int) (w u : Bool) : List Int := m3 l w u (min l.length 352)
theorem base7_len : base7.length = 384 := by unfold base7; rw [List.length_set, List.length_set, List.length_replicate]
theorem m1_len (w u : Bool) : ∀ k, (m1 w u k).length = 384
  | 0 => base7_len
  | k + 1 => by rw [m1, List.length_set, m1_len w u k]
theorem m2_len (w u : Bool) : ∀ k, (m2 w u k).length = 384
  | 0 => m1_len w u 6
  | k + 1 => by rw [m2, List.length_set, m2_len w u k]
theorem m3_len (l : List Int) (w u : Bool) : ∀ k, (m3 l w u k).length = 384
  | 0 => m2_len w u 6
  | k + 1 => by rw [m3, List.length_set, m3_len l w u k]
theorem mapW_len (l : List Int) (w u : Bool) : (mapW l w u).length = 384 := m3_len l w u _
theorem zeros7_u32 : U32s (List.replicate 384 0) := fun x hx => by have := List.eq_of_mem_replicate hx; omega
theorem base7_u32 : U32s base7 := (zeros7_u32.set 0 (by decide) (by decide)).set 8 (by decide) (by decide)
theorem bit_bd (f : Int) (t w u : Bool) : 0 ≤ bitV f t w u ∧ bitV f t w u < 4294967296 := by have := bitV_bd f t w u; omega
theorem m1_u32 (w u : Bool) : ∀ k, U32s (m1 w u k)
  | 0 => base7_u32
  | k + 1 => (m1_u32 w u k).set _ (bit_bd _ _ _ _).1 (bit_bd _ _ _ _).2
theorem m2_u32 (w u : Bool) : ∀ k, U32s (m2 w u k)
  | 0 => m1_u32 w u 6
  | k + 1 => (m2_u32 w u k).set _ (bit_bd _ _ _ _).1 (bit_bd _ _ _ _).2
theorem m3_u32 {l : List Int} (hl : U32s l) (w u : Bool) : ∀ k, U32s (m3 l w u k)
  | 0 => m2_u32 w u 6
  | k + 1 => by
    have h : 0 ≤ l.getD k 0 ∧ l.getD k 0 < 4294967296 := by
      rw [List.getD_eq_getElem?_getD]
      cases e : l[k]? with
      | none => simp
      | some x => exact hl.get e
    exact (m3_u32 hl w u k).set _ h.1 h.2
theorem mapW_u32 {l : List Int} (hl : U32s l) (w u : Bool) : U32s (mapW l w u) := m3_u32 hl w u _
/-! ### what lies where -/
theorem base7_get {j : Nat} (h : j < 384) : base7[j]? = some (if j = 0 ∨ j = 8 then 263 else 0) := by
  unfold base7
  by_cases h8 : j = 8
  · subst h8; rw [List.getElem?_set_self (by rw [List.length_set, List.length_replicate]; omega)]; rfl
  · rw [List.getElem?_set_ne (by omega)]
    by_cases h0 : j = 0
    · subst h0; rw [List.getElem?_set_self (by rw [List.length_replicate]; omega)]; rfl
    · rw [List.getElem?_set_ne (by omega), List.getElem?_replicate, if_pos h, if_neg (by omega)]
theorem m1_get (w u : Bool) {j : Nat} (h : j < 384) : ∀ k, k ≤ 6 → (m1 w u k)[j]? = some (if 16 ≤ j ∧ j < 16 + k then bitV (2 + ((j - 16 : Nat) : Int)) true w u else if j = 0 ∨ j = 8 then 263 else 0)
  | 0, _ => by rw [m1, base7_get h, if_neg (show ¬ (16 ≤ j ∧ j < 16 + 0) by omega)]
  | k + 1, hk => by
    rw [m1]
    by_cases e : j = 16 + k
    · subst e
      rw [List.getElem?_set_self (by rw [m1_len]; omega), if_pos (by omega)]
      rw [show 16 + k - 16 = k by omega]
    · rw [List.getElem?_set_ne (by omega), m1_get w u h k (by omega)]
      by_cases e2 : 16 ≤ j ∧ j < 16 + k
      · rw [if_pos e2, if_pos (by omega)]
      · rw [if_neg e2, if_neg (show ¬ (16 ≤ j ∧ j < 16 + (k + 1)) by omega)]
theorem m2_get (w u : Bool) {j : Nat} (h : j < 384) : ∀ k, k ≤ 6 → (m2 w u k)[j]? = some (if 22 ≤ j ∧ j < 22 + k then bitV (8 + ((j - 22 : Nat) : Int)) true false u else if 16 ≤ j ∧ j < 22 then bitV (2 + ((j - 16 : Nat) : Int)) true w u else if j = 0 ∨ j = 8 then 263 else 0)
  | 0, _ => by rw [m2, m1_get w u h 6 (by omega), if_neg (show ¬ (22 ≤ j ∧ j < 22 + 0) by omega)]
  | k + 1, hk => by
    rw [m2]
    by_cases e : j = 22 + k
    · subst e
      rw [List.getElem?_set_self (by rw [m2_len]; omega), if_pos (by omega)]
      rw [show 22 + k - 22 = k by omega]
    · rw [List.getElem?_set_ne (by omega), m2_get w u h k (by omega)]
      by_cases e2 : 22 ≤ j ∧ j < 22 + k
      · rw [if_pos e2, if_pos (by omega)]
      · rw [if_neg e2, if_neg (show ¬ (22 ≤ j ∧ j < 22 + (k + 1)) by omega)]
theorem m3_get (l : List Int) (w u : Bool) {j : Nat} (h : j < 384) : ∀ k, k ≤ 352 → (m3 l w u k)[j]? = some (if 32 ≤ j ∧ j < 32 + k then l.getD (j - 32) 0 else if 22 ≤ j ∧ j < 28 then bitV (8 + ((j - 22 : Nat) : Int)) true false u else if 16 ≤ j ∧ j < 22 then bitV (2 + ((j - 16 : Nat) : Int)) true w u else if j = 0 ∨ j = 8 then 263 else 0)
  | 0, _ => by rw [m3, m2_get w u h 6 (by omega), if_neg (show ¬ (32 ≤ j ∧ j < 32 + 0) by omega)]
  | k + 1, hk => by
    rw [m3]
    by_cases e : j = 32 + k
    · subst e
      rw [List.getElem?_set_self (by rw [m3_len]; omega), if_pos (by omega)]
      rw [show 32 + k - 32 = k by omega]
    · rw [List.getElem?_set_ne (by omega), m3_get l w u h k (by omega)]
      by_cases e2 : 32 ≤ j ∧ j < 32 + k
      · rw [if_pos e2, if_pos (by omega)]
      · rw [if_neg e2, if_neg (show ¬ (32 ≤ j ∧ j < 32 + (k + 1)) by omega)]
/-- every word of the mapped memory -/
theorem mapW_get (l : List Int) (w u : Bool) {j : Nat} (h : j < 384) : (mapW l w u)[j]? = some (if 32 ≤ j then l.getD (j - 32) 0 else if 22 ≤ j ∧ j < 28 then bitV (8 + ((j - 22 : Nat) : Int)) true false u else if 16 ≤ j ∧ j < 22 then bitV (2 + ((j - 16 : Nat) : Int)) true w u else if j = 0 ∨ j = 8 then 263 else 0) := by
  unfold mapW
  rw [m3_get l w u h _ (by omega)]
  by_cases e : 32 ≤ j ∧ j < 32 + min l.length 352
  · rw [if_pos e, if_pos e.1]
  · rw [if_neg e]
    by_cases e2 : 32 ≤ j
    · rw [if_pos e2, if_neg (by omega), if_neg (by omega), if_neg (by omega), List.getD_eq_getElem?_getD, List.getElem?_eq_none (by omega)]; rfl
    · rw [if_neg e2]
/-! ### addresses there -/
/-- the entry of a page of the first twelve -/
theorem map_page (l : List Int) (w u : Bool) {p : Nat} (hp : p < 12) : ∃ v, pageO (mapW l w u) 24 0 (p : Int) = some v ∧ v / 256 = 2 + (p : Int) ∧ wB v = (decide (p < 6) && w) ∧ uB v = u := by
  have h0 : (mapW l w u)[0]? = some 263 := by rw [mapW_get l w u (by omega)]; rfl
  obtain ⟨W0, hW0⟩ : ∃ W0, W0 = (decide (p < 6) && w) := ⟨_, rfl⟩
  have hy : (mapW l w u)[16 + p]? = some (bitV (2 + (p : Int)) true W0 u) := by
    rw [mapW_get l w u (by omega), if_neg (by omega)]
    by_cases h6 : p < 6
    · rw [if_neg (by omega), if_pos (by omega), show 16 + p - 16 = p by omega, hW0, decide_eq_true h6, Bool.true_and]
    · rw [if_pos (by omega), hW0, decide_eq_false h6, Bool.false_and]
      congr 2; omega
  have hb : bitB (2 + (p : Int)) true W0 u = true := by unfold bitB; simp; omega
  obtain ⟨o1, o2, o3, o4, o5⟩ := of_bitV hb
  have hl : liveB (bitV (2 + (p : Int)) true W0 u) = true := by rw [← ofO_live, ofO_yes o1]; exact o3
  refine ⟨bitV (2 + (p : Int)) true W0 u, ?_, o2, by rw [o4, hW0], o5⟩
  rw [pageO_in (x := 263) (y := bitV (2 + (p : Int)) true W0 u) (by omega) (by omega) (by omega) (by omega) (wordI_get h0 (by omega)) (by decide) (by decide) (wordI_get hy (by omega))]
  exact liveO_yes hl
/-- no other page below 128 is there -/
theorem map_miss (l : List Int) (w u : Bool) {p : Int} (h0 : 12 ≤ p) (h1 : p < 128) : pageO (mapW l w u) 24 0 p = none := by
  obtain ⟨P, rfl⟩ := Int.eq_ofNat_of_zero_le (show 0 ≤ p by omega)
  by_cases h16 : P < 16
  · have hz : (mapW l w u)[16 + P]? = some 0 := by
      rw [mapW_get l w u (by omega), if_neg (by omega), if_neg (by omega), if_neg (by omega), if_neg (by omega)]
    have h00 : (mapW l w u)[0]? = some 263 := by rw [mapW_get l w u (by omega)]; rfl
    rw [pageO_in (x := 263) (y := 0) (by omega) (by omega) (by omega) (by omega) (wordI_get h00 (by omega)) (by decide) (by decide) (wordI_get hz (by omega))]
    rfl
  · have hz : (mapW l w u)[P / 16]? = some 0 := by
      rw [mapW_get l w u (by omega), if_neg (by omega), if_neg (by omega), if_neg (by omega), if_neg (by omega)]
    exact pageO_dead (x := 0) (wordI_get hz (by omega)) (.inl (by decide))
/-- an address of the first twelve pages -/
theorem map_at (l : List Int) (w u : Bool) {a : Int} (a0 : 0 ≤ a) (a1 : a < 192) (write user : Bool) :
    atB (mapW l w u) 24 0 a write user = ((!write || (decide (a < 96) && w)) && (!user || u)) ∧ (atB (mapW l w u) 24 0 a write user = true → atV (mapW l w u) 24 0 a write user = 32 + a) := by
  obtain ⟨p, hp⟩ := Int.eq_ofNat_of_zero_le (show 0 ≤ a / 16 by omega)
  obtain ⟨v, h1, h2, h3, h4⟩ := map_page l w u (p := p) (by omega)
  have hB : atB (mapW l w u) 24 0 a write user = ((!write || (decide (a < 96) && w)) && (!user || u)) := by
    unfold atB
    rw [show a / 16 = (p : Int) from hp, h1]
    show ((!write || wB v) && (!user || uB v) && decide (v / 256 < 24)) = _
    rw [h3, h4, decide_eq_true (show v / 256 < 24 by omega), Bool.and_true]
    have : decide (p < 6) = decide (a < 96) := by rw [decide_eq_decide]; omega
    rw [this]
  refine ⟨hB, fun hb => ?_⟩
  unfold atB at hb
  unfold atV wayV
  rw [if_pos hb, show a / 16 = (p : Int) from hp, h1]
  show v / 256 * 16 + a % 16 = _
  omega
theorem map_far (l : List Int) (w u : Bool) {a : Int} (a0 : 192 ≤ a) (a1 : a < 2048) (write user : Bool) : atB (mapW l w u) 24 0 a write user = false := by
  unfold atB
  rw [map_miss l w u (by omega) (by omega)]
  rfl
theorem map_rd (l : List Int) (w u : Bool) {a : Int} (a0 : 0 ≤ a) (a1 : a < 192) (user : Bool) (hu : (!user || u) = true) : rdV (mapW l w u) 24 0 a user = l.getD a.toNat 0 := by
  obtain ⟨h1, h2⟩ := map_at l w u a0 a1 false user
  have hb : atB (mapW l w u) 24 0 a false user = true := by rw [h1, hu]; rfl
  unfold rdV
  rw [if_pos hb, h2 hb]
  obtain ⟨k, rfl⟩ := Int.eq_ofNat_of_zero_le a0
  have hx : (mapW l w u)[32 + k]? = some (l.getD k 0) := by rw [mapW_get l w u (by omega), if_pos (by omega), show 32 + k - 32 = k by omega]
  rw [wordI_get hx (by omega)]
  rfl
end Go.Proofs.YtkkbhifplbleiaaDoor
/- facadelaw7's mapped: a contract. -/
namespace Go.Proofs.YtkkbhifplbleiaaDoor
open Go.RowKit
theorem bitB_yes {f : Int} (h0 : 0 ≤ f) (h1 : f < 1024) (w u : Bool) : bitB f true w u = true := by unfold bitB; simp; omega
/-- what mapped answers -/
def MappedAt (W : World) (xs : List Int) (e : Ending) (w' : World) : Prop :=
  ∃ g, e = .returned (.slice (some ⟨g, 0, none⟩) 384 384) ∧ W.heap.size ≤ g ∧ w'.heap[g]? = some (.cells (wA xs) 22 (0, 0)) ∧ W.grownBy w' none
theorem RwAt.word {w : World} {B : Nat} {t : TypeId} {xs : List Int} (h : RwAt w B t (wA xs)) {k : Nat} (hk : k < xs.length) : w.cell? ⟨B, k, none⟩ = some (.int .u32 xs[k]) := h.cell k (by rw [wA_get, List.getElem?_eq_getElem hk]; rfl)
theorem RwAt.sWord {w : World} {B : Nat} {t : TypeId} {xs : List Int} (h : RwAt w B t (wA xs)) (k : Nat) (x : Int) : RwAt (w.setCell ⟨B, k, none⟩ (.int .u32 x)) B t (wA (xs.set k x)) := by
  have := h.set k (.int .u32 x)
  rwa [wA_set] at this
theorem make384 (W : World) : (Instr.makeSlice 38 (.int .i64 384) (.int .i64 384)).run Tryd.prog W = .ok (.slice (some ⟨W.heap.size, 0, none⟩) 384 384) (W.alloc (.cells (wA (List.replicate 384 0)) 22)) := by
  obtain ⟨i, hi, hz0, hz1, hz2⟩ := info_parts (P := Tryd.prog) (e := 22) (z := .int .u32 0) (size := 1) (bytes := 4) (by kernel_rfl)
  have := run_make (P := Tryd.prog) W 38 22 i _ Tryd.underlying38 hi hz0 .i64 .i64 384 384 (by omega) (by omega) (by rw [hz2]; omega) (by omega)
  rw [this, hz1]
  have e := toList_madeZero (.int .u32 0) 384 1 (by omega)
  have e2 : wA (List.replicate 384 0) = Array.replicate 384 (.int .u32 0) := by simp only [wA, List.map_replicate, List.toArray_replicate]
  rw [e2, ← e]
  rfl
def z384 : List Int := List.replicate 384 0
theorem make384' (W : World) : (Instr.makeSlice 38 (.int .i64 384) (.int .i64 384)).run Tryd.prog W = .ok (.slice (some ⟨W.heap.size, 0, none⟩) 384 384) (W.alloc (.cells (wA z384) 22)) := make384 W
theorem z384_len : z384.length = 384 := List.length_replicate
set_option maxRecDepth 100000 in
set_option maxHeartbeats 8000000 in
theorem mapped_any (v : Value) (l : List Int) (w u : Bool) (W : World) (hv : SlAt W .u32 v l) (hl0 : l.length ≤ maxLen) :
    Calls Tryd.prog 8 #[v, .bool w, .bool u] W (MappedAt W (mapW l w u)) := by
  obtain ⟨p, c', rfl⟩ := hv.len
  have Hv := hid hv
  have hmk := make384' W
  unfold maxLen at hl0
  clear hv
  obtain ⟨g, hg0⟩ : ∃ g, g = W.heap.size := ⟨_, rfl⟩
  have HGe := hid (Nat.le_of_eq hg0.symm)
  have HX : Hid (RwAt (W.alloc (.cells (wA z384) 22)) g 22 (wA z384)) := hid (by rw [hg0]; exact RwAt.new _ _ _)
  have HG : Hid (W.grownBy (W.alloc (.cells (wA z384) 22)) none) := hid (grown_alloc (grown_refl _ _) _)
  have HT : Hid (bitV 1 true true true = 263) := hid (by decide)
  have HTB : Hid (bitB 1 true true true = true) := hid (by decide)
  go_enter Tryd.func8, Tryd.ntmps8
  go_upto_region 2 with (fail)
  rw [← hg0]
  clear hmk hg0
  generalize W.alloc (.cells (wA z384) 22) = w1 at HX HG ⊢
  go_wp2_with fail
  refine (rbits_of 1 true true true 263 true HT.out HTB.out _).mono ?_; rintro e w2 ⟨rfl, hg⟩
  replace HX := hid (HX.out.kept0 hg)
  replace HG := hid (grown_trans HG.out hg)
  clear hg
  have c0 := HX.out.word (k := 0) (by rw [z384_len]; decide)
  have c8 := HX.out.word (k := 8) (by rw [z384_len]; decide)
  have kf := fun k => HX.out.free k
  have HX2 := hid ((HX.out.sWord 0 263).sWord 8 263)
  have HG2 := hid (grown_setN (grown_setN HG.out HGe.out 0 (.int .u32 263)) HGe.out 8 (.int .u32 263))
  clear HX HG
  go_upto_region 5 with (fail)
  clear c0 c8 kf
  generalize ((w2.setCell ⟨g, 0, none⟩ (.int .u32 263)).setCell ⟨g, 8, none⟩ (.int .u32 263)) = w3 at HX2 HG2 ⊢
  have HX3 : Hid (RwAt w3 g 22 (wA (m1 w u 0))) := HX2
  clear HX2
  go_wp2
  go_loopw [10] (fun i wr => ∃ k : Nat, k ≤ 6 ∧ i = .int .i64 k ∧ Hid (RwAt wr g 22 (wA (m1 w u k))) ∧ Hid (W.grownBy wr none)) (fun i _ => 6 - (intOf i).toNat)
  case atStart => exact ⟨0, Nat.zero_le _, rfl, HX3, HG2⟩
  case round =>
    obtain ⟨k, hk, rfl, HXk, HGk⟩ := hrel
    by_cases hlt : k < 6
    · have hk0 : (0 : Int) ≤ (k : Int) := by omega
      have hk1 : (k : Int) < 6 := by omega
      obtain ⟨V, hV⟩ : ∃ V, bitV (2 + (k : Int)) true w u = V := ⟨_, rfl⟩
      have HV := hid hV
      have HVB : Hid (bitB (2 + (k : Int)) true w u = true) := hid (bitB_yes (by omega) (by omega) w u)
      clear hV
      go_wp2_with fail
      refine (rbits_of (2 + (k : Int)) true w u V true HV.out HVB.out _).mono ?_; rintro e w4 ⟨rfl, hg⟩
      have HX4 := hid (HXk.out.kept0 hg)
      have HG4 := hid (grown_trans HGk.out hg)
      clear hg HXk HGk
      obtain ⟨P, hP⟩ : ∃ P : Nat, (16 : Int) + (k : Int) = (P : Int) := ⟨16 + k, by omega⟩
      have hPn : Hid (P = 16 + k) := hid (by omega)
      have hP0 : (0 : Int) ≤ (P : Int) := by omega
      have hP1 : (P : Int) < 384 := by omega
      have c0 := HX4.out.word (k := P) (by rw [m1_len]; omega)
      have kf := fun k => HX4.out.free k
      have HX5 : Hid (RwAt (w4.setCell ⟨g, P, none⟩ (.int .u32 V)) g 22 (wA (m1 w u (k + 1)))) := hid (by rw [m1, HV.out, ← hPn.out]; exact HX4.out.sWord P V)
      have HG5 := hid (grown_setN HG4.out HGe.out P (.int .u32 V))
      go_wp2
      go_roundw
      case rel => exact ⟨k + 1, by omega, by go_num, HX5, HG5⟩
      case measure => simp [intOf]; omega
    · have hge : ¬ (k : Int) < 6 := by omega
      have e6 : k = 6 := by omega
      have HX6 : Hid (RwAt wr g 22 (wA (m2 w u 0))) := hid (by rw [← show m1 w u 6 = m2 w u 0 from rfl, ← e6]; exact HXk.out)
      clear e6
      clear hlt hk HX3 HG2
      go_wp2
      go_loopw [13] (fun i wr => ∃ k : Nat, 6 ≤ k ∧ k ≤ 12 ∧ i = .int .i64 k ∧ Hid (RwAt wr g 22 (wA (m2 w u (k - 6)))) ∧ Hid (W.grownBy wr none)) (fun i _ => 12 - (intOf i).toNat)
      case atStart => exact ⟨6, Nat.le_refl _, by decide, rfl, HX6, HGk⟩
      case round =>
        clear HX6 HXk HGk
        clear hge
        obtain ⟨k, hk6, hk, rfl, HXk, HGk⟩ := hrel
        by_cases hlt : k < 12
        · have hk0 : (0 : Int) ≤ (k : Int) := by omega
          have hk1 : (k : Int) < 12 := by omega
          obtain ⟨V, hV⟩ : ∃ V, bitV (2 + (k : Int)) true false u = V := ⟨_, rfl⟩
          have HV := hid hV
          have HVB : Hid (bitB (2 + (k : Int)) true false u = true) := hid (bitB_yes (by omega) (by omega) false u)
          clear hV
          go_wp2_with fail
          refine (rbits_of (2 + (k : Int)) true false u V true HV.out HVB.out _).mono ?_; rintro e w4 ⟨rfl, hg⟩
          have HX4 := hid (HXk.out.kept0 hg)
          have HG4 := hid (grown_trans HGk.out hg)
          clear hg HXk HGk
          obtain ⟨P, hP⟩ : ∃ P : Nat, (16 : Int) + (k : Int) = (P : Int) := ⟨16 + k, by omega⟩
          have hPn : Hid (P = 22 + (k - 6)) := hid (by omega)
          have hKn : Hid (k + 1 - 6 = (k - 6) + 1) := hid (by omega)
          have hFn : Hid (8 + ((k - 6 : Nat) : Int) = 2 + (k : Int)) := hid (by omega)
          have hP0 : (0 : Int) ≤ (P : Int) := by omega
          have hP1 : (P : Int) < 384 := by omega
          have c0 := HX4.out.word (k := P) (by rw [m2_len]; omega)
          have kf := fun k => HX4.out.free k
          have HX5 : Hid (RwAt (w4.setCell ⟨g, P, none⟩ (.int .u32 V)) g 22 (wA (m2 w u (k + 1 - 6)))) := hid (by rw [hKn.out, m2, hFn.out, HV.out, ← hPn.out]; exact HX4.out.sWord P V)
          have HG5 := hid (grown_setN HG4.out HGe.out P (.int .u32 V))
          go_wp2
          go_roundw
          case rel => exact ⟨k + 1, by omega, by omega, by go_num, HX5, HG5⟩
          case measure => simp [intOf]; omega
        · have hge : ¬ (k : Int) < 12 := by omega
          have e6 : k - 6 = 6 := by omega
          have HX7 : Hid (RwAt wr g 22 (wA (m3 l w u 0))) := hid (by rw [← show m2 w u 6 = m3 l w u 0 from rfl, ← e6]; exact HXk.out)
          clear e6
          clear hlt hk hk6 HXk
          go_wp2
          go_loopw [16] (fun i wr => ∃ k : Nat, k ≤ min l.length 352 ∧ i = .int .i64 k ∧ Hid (RwAt wr g 22 (wA (m3 l w u k))) ∧ Hid (W.grownBy wr none)) (fun i _ => min l.length 352 - (intOf i).toNat)
          case atStart => exact ⟨0, Nat.zero_le _, rfl, HX7, HGk⟩
          case round =>
            clear HX7 HGk hge
            obtain ⟨k, hk, rfl, HXk, HGk⟩ := hrel
            have hk0 : (0 : Int) ≤ (k : Int) := by omega
            obtain ⟨Q, hQ⟩ : ∃ Q : Nat, (32 : Int) + (k : Int) = (Q : Int) := ⟨32 + k, by omega⟩
            have hQn : Hid (Q = 32 + k) := hid (by omega)
            have hQ0 : (0 : Int) ≤ (Q : Int) := by omega
            by_cases hlt : k < l.length
            · by_cases hlt2 : k < 352
              · have h1 : (k : Int) < (l.length : Int) := by omega
                have h2 : (Q : Int) < 384 := by omega
                obtain ⟨y, hy⟩ : ∃ y, l[k]? = some y := ⟨_, List.getElem?_eq_getElem hlt⟩
                have Hy := hid hy
                have Hy2 : Hid (l.getD k 0 = y) := hid (by rw [List.getD_eq_getElem?_getD, hy]; rfl)
                rcases Hv.out with ⟨_, rfl⟩ | ⟨bl, o, c2, he, hbl, hcl⟩
                · simp at hlt
                · have hp : p = some ⟨bl, o, none⟩ := by injection he
                  have hc1 := (grown_cell (p := ⟨bl, o + k, none⟩) HGk.out hbl (by simp)).trans (hcl k y Hy.out)
                  have c0 := HXk.out.word (k := Q) (by rw [m3_len]; omega)
                  have kf := fun k => HXk.out.free k
                  have HX5 : Hid (RwAt (wr.setCell ⟨g, Q, none⟩ (.int .u32 y)) g 22 (wA (m3 l w u (k + 1)))) := hid (by rw [m3, Hy2.out, ← hQn.out]; exact HXk.out.sWord Q y)
                  have HG5 := hid (grown_setN HGk.out HGe.out Q (.int .u32 y))
                  have hkk : Hid (k + 1 ≤ min l.length 352) := hid (by omega)
                  have hme : Hid (min l.length 352 - (k + 1) < min l.length 352 - k) := hid (by omega)
                  clear he hcl hbl hk hy
                  subst hp
                  go_wp2
                  go_roundw
                  case rel => exact ⟨k + 1, hkk.out, by go_num, HX5, HG5⟩
                  case measure => simp [intOf]; have := hme.out; omega
              · have h1 : (k : Int) < (l.length : Int) := by omega
                have h2 : (384 : Int) ≤ (Q : Int) := by omega
                have h3 : (Q : Int) < 385 := by omega
                have hkm : Hid (k = min l.length 352) := hid (by omega)
                clear hk hlt hlt2
                go_wp2
                go_ret
                exact ⟨g, rfl, HGe.out, by unfold mapW; rw [← hkm.out]; exact HXk.out.blk, HGk.out⟩
            · have h1 : (l.length : Int) ≤ (k : Int) := by omega
              have hkm : Hid (k = min l.length 352) := hid (by omega)
              clear hk hlt
              go_wp2
              go_ret
              exact ⟨g, rfl, HGe.out, by unfold mapW; rw [← hkm.out]; exact HXk.out.blk, HGk.out⟩
end Go.Proofs.YtkkbhifplbleiaaDoor
/- facadelaw7's memory: both memories with these words: a contract. -/
namespace Go.Proofs.YtkkbhifplbleiaaDoor
open Go.RowKit
/-- the first k of these words, and behind them nothing -/
def layX (l : List Int) (k : Nat) : List Int := l.take k ++ List.replicate (384 - k) 0
theorem layX_zero (l : List Int) : layX l 0 = List.replicate 384 0 := by unfold layX; rw [List.take_zero, List.nil_append]
theorem layX_length {l : List Int} {k : Nat} (h : k ≤ l.length) (h2 : k ≤ 384) : (layX l k).length = 384 := by
  simp only [layX, List.length_append, List.length_take, List.length_replicate]; omega
theorem layX_succ {l : List Int} {k : Nat} {y : Int} (hy : l[k]? = some y) (h2 : k < 384) : layX l (k + 1) = (layX l k).set k y := by
  have hk : k < l.length := (List.getElem?_eq_some_iff.1 hy).1
  unfold layX
  rw [List.set_append_right _ _ (by simp; omega), List.take_add_one, hy]
  have e : k - (l.take k).length = 0 := by simp; omega
  rw [e]
  obtain ⟨d, hd⟩ : ∃ d, 384 - k = d + 1 := ⟨384 - k - 1, by omega⟩
  rw [hd, show 384 - (k + 1) = d by omega, List.replicate_succ, List.set_cons_zero]
  simp
theorem layX_u32 {l : List Int} {k : Nat} (h : U32s l) : U32s (layX l k) := by
  intro x hx
  unfold layX at hx
  rcases List.mem_append.1 hx with h1 | h1
  · exact h x (List.mem_of_mem_take h1)
  · have := List.eq_of_mem_replicate h1; omega
/-- what memory answers -/
def Memory7At (W : World) (xs : List Int) (e : Ending) (w' : World) : Prop :=
  ∃ m b m' b', e = .returned (.tuple #[.pointer (some ⟨m, 0, none⟩), .pointer (some ⟨m', 0, none⟩)]) ∧ W.heap.size ≤ m ∧ W.heap.size ≤ b ∧ W.heap.size ≤ b' ∧ MemAt w' m b 24 24 xs ∧ RefAt w' m' b' 384 xs ∧ W.grownBy w' none
set_option maxHeartbeats 2000000 in
theorem memory7_any (v : Value) (l : List Int) (W : World) (hv : SlAt W .u32 v l) (hl : l.length ≤ 384) :
    Calls Tryd.prog 7 #[v] W (Memory7At W (layX l l.length)) := by
  obtain ⟨p, c', rfl⟩ := hv.len
  have Hv := hid hv
  have hl2 : l.length ≤ 384 := hl
  clear hv hl
  go_enter Tryd.func7, Tryd.ntmps7
  go_wp2_with fail
  refine (new_of 24 24 rfl (by omega) (by omega)).mono ?_; rintro e W1 ⟨m, b, rfl, hm, hb, hM, hg⟩
  have HM := hid hM
  have HG := hid hg
  have Hm := hid hm
  have Hb := hid hb
  clear hM hg hm hb
  go_wp2_with fail
  refine (rnew_of 24 24 rfl (by omega)).mono ?_; rintro e W2 ⟨m', b', rfl, hm', hb', hR, hg⟩
  have HM2 := hid (HM.out.kept0 hg)
  have HR2 : Hid (RefAt W2 m' b' 384 (List.replicate 384 0)) := hid hR
  have HG2 := hid (grown_trans HG.out hg)
  have N1 : Hid (m ≠ b') := hid (by have := HM.out.mlt; omega)
  have N2 : Hid (b ≠ b') := hid (by have := HM.out.blt; omega)
  have N3 : Hid (m' ≠ b) := hid (by have := HM.out.blt; omega)
  have Hb' := hid (Nat.le_trans HG.out.size hb')
  clear hR hg hm' hb' HM HG
  go_wp2
  go_loopw [7] (fun i wr => ∃ k : Nat, k ≤ l.length ∧ i = .int .i64 k ∧ Hid (MemAt wr m b 24 24 (layX l k)) ∧ Hid (RefAt wr m' b' 384 (layX l k)) ∧ Hid (W.grownBy wr none)) (fun i _ => l.length - (intOf i).toNat)
  case atStart => exact ⟨0, Nat.zero_le _, rfl, by rw [layX_zero]; exact HM2, by rw [layX_zero]; exact HR2, HG2⟩
  case round =>
    obtain ⟨k, hk, rfl, HMk, HRk, HGk⟩ := hrel
    by_cases hlt : k < l.length
    · have hlt2 : (k : Int) < (l.length : Int) := by omega
      have hk0 : (0 : Int) ≤ (k : Int) := by omega
      obtain ⟨y, Hy⟩ : ∃ y, Hid (l[k]? = some y) := ⟨_, hid (List.getElem?_eq_getElem hlt)⟩
      rcases Hv.out with ⟨_, rfl⟩ | ⟨bl, o, c2, he, hbl, hcl⟩
      · simp at hlt
      · have hp : p = some ⟨bl, o, none⟩ := by injection he
        have Hcl := hid (hcl k y Hy.out)
        have Hbl := hid hbl
        have hc1 := (grown_cell (p := ⟨bl, o + k, none⟩) HGk.out hbl (by simp)).trans (hcl k y Hy.out)
        clear he hcl hbl
        subst hp
        go_wp2_with fail
        refine (write_of HMk.out _ y k rfl (by omega)).mono ?_; rintro e W3 ⟨rfl, hM3, hg3⟩
        have HM3 := hid hM3
        have HR3 := hid (HRk.out.kept hg3 (by simpa using N3.out) (by simpa using N2.out.symm))
        have HG3 := hid (grown_new' (grown_trans (grown_none HGk.out) hg3) (fun q hq => by obtain rfl := Option.some.inj hq; exact Hb.out))
        clear hM3 hg3
        have hc3 := (grown_cell (p := ⟨bl, o + k, none⟩) HG3.out Hbl.out (by simp)).trans Hcl.out
        go_wp2_with fail
        refine (rwrite_yes HR3.out k y (by omega)).mono ?_; rintro e W4 ⟨rfl, hR4, hg4⟩
        have HR4 := hid hR4
        have HM4 := hid (HM3.out.kept hg4 (by simpa using N1.out) (by simpa using N2.out))
        have HG4 := hid (grown_new' (grown_trans (grown_none HG3.out) hg4) (fun q hq => by obtain rfl := Option.some.inj hq; exact Hb'.out))
        clear hR4 hg4
        go_wp2
        go_roundw
        case rel => exact ⟨k + 1, by omega, by go_num, by rw [layX_succ Hy.out (by omega)]; exact HM4, by rw [layX_succ Hy.out (by omega)]; exact HR4, HG4⟩
        case measure => simp [intOf]; omega
    · have hge : (l.length : Int) ≤ (k : Int) := by omega
      go_wp2
      go_ret2
      obtain rfl : k = l.length := by omega
      exact ⟨m, b, m', b', rfl, Hm.out, Hb.out, Hb'.out, HMk.out, HRk.out, HGk.out⟩
end Go.Proofs.YtkkbhifplbleiaaDoor

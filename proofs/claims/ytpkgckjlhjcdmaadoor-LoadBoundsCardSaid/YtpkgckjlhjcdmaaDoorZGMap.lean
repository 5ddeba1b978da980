/- Plain facts on the words that facadelaw7's mapped lays: no program is named here. -/
import Derived.Test.YtpkgckjlhjcdmaaDoorZCoreP
import Derived.Test.YtpkgckjlhjcdmaaDoorZGWay
namespace Go.Proofs.YtpkgckjlhjcdmaaDoor
def base7 : List Int := ((List.replicate 384 (0 : Int)).set 0 263).set 8 263
/-- the entries of pages 0 to 5 -/
def m1 (w u : Bool) : Nat → List Int
  | 0 => base7
  | k + 1 => (m1 w u k).set (16 + k) (bitV (2 + (k : Int)) true w u)
/-- the entries of pages 6 to 11 -/
def m2 (w u : Bool) : Nat → List Int
  | 0 => m1 w u 6
  | k + 1 => (m2 w u k).set (22 + k) (bitV (8 + (k : Int)) true false u)
/-- the words -/
def m3 (l : List Int) (w u : Bool) : Nat → List Int
  | 0 => m2 w u 6
  | k + 1 => (m3 l w u k).set (32 + k) (l.getD k 0)
def mapW (l : List Int) (w u : Bool) : List Int := m3 l w u (min l.length 352)
theorem base7_len : base7.length = 384 := by unfold base7; rw [List.length_set, List.length_set, List.length_replicate]
theorem m1_len (w u : Bool) : ∀ k, (m1 w u k).length = 384
  | 0 => base7_len
  | k + 1 => by rw [m1, List.length_set, m1_len w u k]
theorem m2_len (w u : Bool) : ∀ k, (m2 w u k).length = 384
  | 0 => m1_len w u 6
  | k + 1 => by rw [m2, List.length_set, m2_len w u k]
theorem m3_len (l : List Int) (w u : Bool) : ∀ k, (m3 l w u k).length = 384
  | 0 => m2_len w u 6
  | k + 1 => by rw [m3, List.length_set, m3_len l w u k]
theorem mapW_len (l : List Int) (w u : Bool) : (mapW l w u).length = 384 := m3_len l w u _
theorem zeros7_u32 : U32s (List.replicate 384 0) := fun x hx => by have := List.eq_of_mem_replicate hx; omega
theorem base7_u32 : U32s base7 := (zeros7_u32.set 0 (by decide) (by decide)).set 8 (by decide) (by decide)
theorem bit_bd (f : Int) (t w u : Bool) : 0 ≤ bitV f t w u ∧ bitV f t w u < 4294967296 := by have := bitV_bd f t w u; omega
theorem m1_u32 (w u : Bool) : ∀ k, U32s (m1 w u k)
  | 0 => base7_u32
  | k + 1 => (m1_u32 w u k).set _ (bit_bd _ _ _ _).1 (bit_bd _ _ _ _).2
theorem m2_u32 (w u : Bool) : ∀ k, U32s (m2 w u k)
  | 0 => m1_u32 w u 6
  | k + 1 => (m2_u32 w u k).set _ (bit_bd _ _ _ _).1 (bit_bd _ _ _ _).2
theorem m3_u32 {l : List Int} (hl : U32s l) (w u : Bool) : ∀ k, U32s (m3 l w u k)
  | 0 => m2_u32 w u 6
  | k + 1 => by
    have h : 0 ≤ l.getD k 0 ∧ l.getD k 0 < 4294967296 := by
      rw [List.getD_eq_getElem?_getD]
      cases e : l[k]? with
      | none => simp
      | some x => exact hl.get e
    exact (m3_u32 hl w u k).set _ h.1 h.2
theorem mapW_u32 {l : List Int} (hl : U32s l) (w u : Bool) : U32s (mapW l w u) := m3_u32 hl w u _
/-! ### what lies where -/
theorem base7_get {j : Nat} (h : j < 384) : base7[j]? = some (if j = 0 ∨ j = 8 then 263 else 0) := by
  unfold base7
  by_cases h8 : j = 8
  · subst h8; rw [List.getElem?_set_self (by rw [List.length_set, List.length_replicate]; omega)]; rfl
  · rw [List.getElem?_set_ne (by omega)]
    by_cases h0 : j = 0
    · subst h0; rw [List.getElem?_set_self (by rw [List.length_replicate]; omega)]; rfl
    · rw [List.getElem?_set_ne (by omega), List.getElem?_replicate, if_pos h, if_neg (by omega)]
theorem m1_get (w u : Bool) {j : Nat} (h : j < 384) : ∀ k, k ≤ 6 → (m1 w u k)[j]? = some (if 16 ≤ j ∧ j < 16 + k then bitV (2 + ((j - 16 : Nat) : Int)) true w u else if j = 0 ∨ j = 8 then 263 else 0)
  | 0, _ => by rw [m1, base7_get h, if_neg (show ¬ (16 ≤ j ∧ j < 16 + 0) by omega)]
  | k + 1, hk => by
    rw [m1]
    by_cases e : j = 16 + k
    · subst e
      rw [List.getElem?_set_self (by rw [m1_len]; omega), if_pos (by omega)]
      rw [show 16 + k - 16 = k by omega]
    · rw [List.getElem?_set_ne (by omega), m1_get w u h k (by omega)]
      by_cases e2 : 16 ≤ j ∧ j < 16 + k
      · rw [if_pos e2, if_pos (by omega)]
      · rw [if_neg e2, if_neg (show ¬ (16 ≤ j ∧ j < 16 + (k + 1)) by omega)]
theorem m2_get (w u : Bool) {j : Nat} (h : j < 384) : ∀ k, k ≤ 6 → (m2 w u k)[j]? = some (if 22 ≤ j ∧ j < 22 + k then bitV (8 + ((j - 22 : Nat) : Int)) true false u else if 16 ≤ j ∧ j < 22 then bitV (2 + ((j - 16 : Nat) : Int)) true w u else if j = 0 ∨ j = 8 then 263 else 0)
  | 0, _ => by rw [m2, m1_get w u h 6 (by omega), if_neg (show ¬ (22 ≤ j ∧ j < 22 + 0) by omega)]
  | k + 1, hk => by
    rw [m2]
    by_cases e : j = 22 + k
    · subst e
      rw [List.getElem?_set_self (by rw [m2_len]; omega), if_pos (by omega)]
      rw [show 22 + k - 22 = k by omega]
    · rw [List.getElem?_set_ne (by omega), m2_get w u h k (by omega)]
      by_cases e2 : 22 ≤ j ∧ j < 22 + k
      · rw [if_pos e2, if_pos (by omega)]
      · rw [if_neg e2, if_neg (show ¬ (22 ≤ j ∧ j < 22 + (k + 1)) by omega)]
theorem m3_get (l : List Int) (w u : Bool) {j : Nat} (h : j < 384) : ∀ k, k ≤ 352 → (m3 l w u k)[j]? = some (if 32 ≤ j ∧ j < 32 + k then l.getD (j - 32) 0 else if 22 ≤ j ∧ j < 28 then bitV (8 + ((j - 22 : Nat) : Int)) true false u else if 16 ≤ j ∧ j < 22 then bitV (2 + ((j - 16 : Nat) : Int)) true w u else if j = 0 ∨ j = 8 then 263 else 0)
  | 0, _ => by rw [m3, m2_get w u h 6 (by omega), if_neg (show ¬ (32 ≤ j ∧ j < 32 + 0) by omega)]
  | k + 1, hk => by
    rw [m3]
    by_cases e : j = 32 + k
    · subst e
      rw [List.getElem?_set_self (by rw [m3_len]; omega), if_pos (by omega)]
      rw [show 32 + k - 32 = k by omega]
    · rw [List.getElem?_set_ne (by omega), m3_get l w u h k (by omega)]
      by_cases e2 : 32 ≤ j ∧ j < 32 + k
      · rw [if_pos e2, if_pos (by omega)]
      · rw [if_neg e2, if_neg (show ¬ (32 ≤ j ∧ j < 32 + (k + 1)) by omega)]
/-- every word of the mapped memory -/
theorem mapW_get (l : List Int) (w u : Bool) {j : Nat} (h : j < 384) : (mapW l w u)[j]? = some (if 32 ≤ j then l.getD (j - 32) 0 else if 22 ≤ j ∧ j < 28 then bitV (8 + ((j - 22 : Nat) : Int)) true false u else if 16 ≤ j ∧ j < 22 then bitV (2 + ((j - 16 : Nat) : Int)) true w u else if j = 0 ∨ j = 8 then 263 else 0) := by
  unfold mapW
  rw [m3_get l w u h _ (by omega)]
  by_cases e : 32 ≤ j ∧ j < 32 + min l.length 352
  · rw [if_pos e, if_pos e.1]
  · rw [if_neg e]
    by_cases e2 : 32 ≤ j
    · rw [if_pos e2, if_neg (by omega), if_neg (by omega), if_neg (by omega), List.getD_eq_getElem?_getD, List.getElem?_eq_none (by omega)]; rfl
    · rw [if_neg e2]
/-! ### addresses there -/
/-- the entry of a page of the first twelve -/
theorem map_page (l : List Int) (w u : Bool) {p : Nat} (hp : p < 12) : ∃ v, pageO (mapW l w u) 24 0 (p : Int) = some v ∧ v / 256 = 2 + (p : Int) ∧ wB v = (decide (p < 6) && w) ∧ uB v = u := by
  have h0 : (mapW l w u)[0]? = some 263 := by rw [mapW_get l w u (by omega)]; rfl
  obtain ⟨W0, hW0⟩ : ∃ W0, W0 = (decide (p < 6) && w) := ⟨_, rfl⟩
  have hy : (mapW l w u)[16 + p]? = some (bitV (2 + (p : Int)) true W0 u) := by
    rw [mapW_get l w u (by omega), if_neg (by omega)]
    by_cases h6 : p < 6
    · rw [if_neg (by omega), if_pos (by omega), show 16 + p - 16 = p by omega, hW0, decide_eq_true h6, Bool.true_and]
    · rw [if_pos (by omega), hW0, decide_eq_false h6, Bool.false_and]
      congr 2; omega
  have hb : bitB (2 + (p : Int)) true W0 u = true := by unfold bitB; simp; omega
  obtain ⟨o1, o2, o3, o4, o5⟩ := of_bitV hb
  have hl : liveB (bitV (2 + (p : Int)) true W0 u) = true := by rw [← ofO_live, ofO_yes o1]; exact o3
  refine ⟨bitV (2 + (p : Int)) true W0 u, ?_, o2, by rw [o4, hW0], o5⟩
  rw [pageO_in (x := 263) (y := bitV (2 + (p : Int)) true W0 u) (by omega) (by omega) (by omega) (by omega) (wordI_get h0 (by omega)) (by decide) (by decide) (wordI_get hy (by omega))]
  exact liveO_yes hl
/-- no other page below 128 is there -/
theorem map_miss (l : List Int) (w u : Bool) {p : Int} (h0 : 12 ≤ p) (h1 : p < 128) : pageO (mapW l w u) 24 0 p = none := by
  obtain ⟨P, rfl⟩ := Int.eq_ofNat_of_zero_le (show 0 ≤ p by omega)
  by_cases h16 : P < 16
  · have hz : (mapW l w u)[16 + P]? = some 0 := by
      rw [mapW_get l w u (by omega), if_neg (by omega), if_neg (by omega), if_neg (by omega), if_neg (by omega)]
    have h00 : (mapW l w u)[0]? = some 263 := by rw [mapW_get l w u (by omega)]; rfl
    rw [pageO_in (x := 263) (y := 0) (by omega) (by omega) (by omega) (by omega) (wordI_get h00 (by omega)) (by decide) (by decide) (wordI_get hz (by omega))]
    rfl
  · have hz : (mapW l w u)[P / 16]? = some 0 := by
      rw [mapW_get l w u (by omega), if_neg (by omega), if_neg (by omega), if_neg (by omega), if_neg (by omega)]
    exact pageO_dead (x := 0) (wordI_get hz (by omega)) (.inl (by decide))
/-- an address of the first twelve pages -/
theorem map_at (l : List Int) (w u : Bool) {a : Int} (a0 : 0 ≤ a) (a1 : a < 192) (write user : Bool) :
    atB (mapW l w u) 24 0 a write user = ((!write || (decide (a < 96) && w)) && (!user || u)) ∧ (atB (mapW l w u) 24 0 a write user = true → atV (mapW l w u) 24 0 a write user = 32 + a) := by
  obtain ⟨p, hp⟩ := Int.eq_ofNat_of_zero_le (show 0 ≤ a / 16 by omega)
  obtain ⟨v, h1, h2, h3, h4⟩ := map_page l w u (p := p) (by omega)
  have hB : atB (mapW l w u) 24 0 a write user = ((!write || (decide (a < 96) && w)) && (!user || u)) := by
    unfold atB
    rw [show a / 16 = (p : Int) from hp, h1]
    show ((!write || wB v) && (!user || uB v) && decide (v / 256 < 24)) = _
    rw [h3, h4, decide_eq_true (show v / 256 < 24 by omega), Bool.and_true]
    have : decide (p < 6) = decide (a < 96) := by rw [decide_eq_decide]; omega
    rw [this]
  refine ⟨hB, fun hb => ?_⟩
  unfold atB at hb
  unfold atV wayV
  rw [if_pos hb, show a / 16 = (p : Int) from hp, h1]
  show v / 256 * 16 + a % 16 = _
  omega
theorem map_far (l : List Int) (w u : Bool) {a : Int} (a0 : 192 ≤ a) (a1 : a < 2048) (write user : Bool) : atB (mapW l w u) 24 0 a write user = false := by
  unfold atB
  rw [map_miss l w u (by omega) (by omega)]
  rfl
theorem map_rd (l : List Int) (w u : Bool) {a : Int} (a0 : 0 ≤ a) (a1 : a < 192) (user : Bool) (hu : (!user || u) = true) : rdV (mapW l w u) 24 0 a user = l.getD a.toNat 0 := by
  obtain ⟨h1, h2⟩ := map_at l w u a0 a1 false user
  have hb : atB (mapW l w u) 24 0 a false user = true := by rw [h1, hu]; rfl
  unfold rdV
  rw [if_pos hb, h2 hb]
  obtain ⟨k, rfl⟩ := Int.eq_ofNat_of_zero_le a0
  have hx : (mapW l w u)[32 + k]? = some (l.getD k 0) := by rw [mapW_get l w u (by omega), if_pos (by omega), show 32 + k - 32 = k by omega]
  rw [wordI_get hx (by omega)]
  rfl
end Go.Proofs.YtpkgckjlhjcdmaaDoor

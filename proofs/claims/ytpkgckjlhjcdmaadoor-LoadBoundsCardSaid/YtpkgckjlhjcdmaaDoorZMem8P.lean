/- The words that facadelaw8's memory lays: plain facts. -/
import Derived.Test.YtpkgckjlhjcdmaaDoorZGWay
namespace Go.Proofs.YtpkgckjlhjcdmaaDoor
def z8 (q : Nat) : List Int := List.replicate ((q + 16) * 16) 0
def a8 (q : Nat) : Nat → List Int
  | 0 => z8 q
  | k + 1 => (a8 q k).set k (bitV ((k : Int) + 1) true true true)
def b8 (q : Nat) : Nat → List Int
  | 0 => a8 q 16
  | k + 1 => (b8 q k).set (16 + k) (bitV (17 + (k : Int)) true true true)
def c8 (q : Nat) : Nat → List Int
  | 0 => b8 q (min 3 (q - 17))
  | k + 1 => (c8 q k).set (144 + k) (bitV ((q : Int) + (k : Int)) true false true)
def d8 (q : Nat) (data : List Int) : Nat → List Int
  | 0 => c8 q 16
  | k + 1 => (d8 q data k).set (272 + k) (data.getD k 0)
def e8 (q : Nat) (data code : List Int) : Nat → List Int
  | 0 => d8 q data (min data.length 48)
  | k + 1 => (e8 q data code k).set (16 * q + k) (code.getD k 0)
/-- the words -/
def memW8 (q : Nat) (data code : List Int) : List Int := e8 q data code (min code.length 256)
section
variable (q : Nat) (data code : List Int)
theorem z8_len : (z8 q).length = (q + 16) * 16 := by unfold z8; rw [List.length_replicate]
theorem a8_len : ∀ k, (a8 q k).length = (q + 16) * 16
  | 0 => z8_len q
  | k + 1 => by rw [a8, List.length_set, a8_len k]
theorem b8_len : ∀ k, (b8 q k).length = (q + 16) * 16
  | 0 => a8_len q 16
  | k + 1 => by rw [b8, List.length_set, b8_len k]
theorem c8_len : ∀ k, (c8 q k).length = (q + 16) * 16
  | 0 => b8_len q _
  | k + 1 => by rw [c8, List.length_set, c8_len k]
theorem d8_len : ∀ k, (d8 q data k).length = (q + 16) * 16
  | 0 => c8_len q 16
  | k + 1 => by rw [d8, List.length_set, d8_len k]
theorem e8_len : ∀ k, (e8 q data code k).length = (q + 16) * 16
  | 0 => d8_len q data _
  | k + 1 => by rw [e8, List.length_set, e8_len k]
theorem memW8_len : (memW8 q data code).length = (q + 16) * 16 := e8_len q data code _
theorem z8_u32 : U32s (z8 q) := fun x hx => by have := List.eq_of_mem_replicate hx; omega
theorem bit8 (f : Int) (t w u : Bool) : 0 ≤ bitV f t w u ∧ bitV f t w u < 4294967296 := by have := bitV_bd f t w u; omega
theorem a8_u32 : ∀ k, U32s (a8 q k)
  | 0 => z8_u32 q
  | k + 1 => (a8_u32 k).set _ (bit8 _ _ _ _).1 (bit8 _ _ _ _).2
theorem b8_u32 : ∀ k, U32s (b8 q k)
  | 0 => a8_u32 q 16
  | k + 1 => (b8_u32 k).set _ (bit8 _ _ _ _).1 (bit8 _ _ _ _).2
theorem c8_u32 : ∀ k, U32s (c8 q k)
  | 0 => b8_u32 q _
  | k + 1 => (c8_u32 k).set _ (bit8 _ _ _ _).1 (bit8 _ _ _ _).2
theorem getD8 {l : List Int} (h : U32s l) (k : Nat) : 0 ≤ l.getD k 0 ∧ l.getD k 0 < 4294967296 := by
  rw [List.getD_eq_getElem?_getD]
  cases e : l[k]? with
  | none => simp
  | some x => exact h.get e
variable {data code}
theorem d8_u32 (hd : U32s data) : ∀ k, U32s (d8 q data k)
  | 0 => c8_u32 q 16
  | k + 1 => (d8_u32 hd k).set _ (getD8 hd k).1 (getD8 hd k).2
theorem e8_u32 (hd : U32s data) (hc : U32s code) : ∀ k, U32s (e8 q data code k)
  | 0 => d8_u32 q hd _
  | k + 1 => (e8_u32 hd hc k).set _ (getD8 hc k).1 (getD8 hc k).2
theorem memW8_u32 (hd : U32s data) (hc : U32s code) : U32s (memW8 q data code) := e8_u32 q hd hc _
/-! ### what lies where -/
theorem a8_get (hq : 1 ≤ q) (j : Nat) : ∀ k, k ≤ 16 → (a8 q k)[j]? = if j < k then some (bitV ((j : Int) + 1) true true true) else (z8 q)[j]?
  | 0, _ => by rw [a8, if_neg (by omega)]
  | k + 1, hk => by
    rw [a8]
    by_cases e : k = j
    · subst e; rw [List.getElem?_set_self (by rw [a8_len]; omega), if_pos (by omega)]
    · rw [List.getElem?_set_ne e, a8_get hq j k (by omega)]
      by_cases h : j < k
      · rw [if_pos h, if_pos (by omega)]
      · rw [if_neg h, if_neg (by omega)]
theorem b8_get (hq : 1 ≤ q) (j : Nat) : ∀ k, k ≤ 3 → (b8 q k)[j]? = if 16 ≤ j ∧ j < 16 + k then some (bitV (17 + ((j - 16 : Nat) : Int)) true true true) else (a8 q 16)[j]?
  | 0, _ => by rw [b8, if_neg (by omega)]
  | k + 1, hk => by
    rw [b8]
    by_cases e : 16 + k = j
    · subst e; rw [List.getElem?_set_self (by rw [b8_len]; omega), if_pos (by omega), show 16 + k - 16 = k by omega]
    · rw [List.getElem?_set_ne e, b8_get hq j k (by omega)]
      by_cases h : 16 ≤ j ∧ j < 16 + k
      · rw [if_pos h, if_pos (by omega)]
      · rw [if_neg h, if_neg (by omega)]
theorem c8_get (hq : 1 ≤ q) (j : Nat) : ∀ k, k ≤ 16 → (c8 q k)[j]? = if 144 ≤ j ∧ j < 144 + k then some (bitV ((q : Int) + ((j - 144 : Nat) : Int)) true false true) else (c8 q 0)[j]?
  | 0, _ => by rw [if_neg (by omega)]
  | k + 1, hk => by
    rw [show c8 q (k + 1) = (c8 q k).set (144 + k) (bitV ((q : Int) + (k : Int)) true false true) from rfl]
    by_cases e : 144 + k = j
    · subst e; rw [List.getElem?_set_self (by rw [c8_len]; omega), if_pos (by omega), show 144 + k - 144 = k by omega]
    · rw [List.getElem?_set_ne e, c8_get hq j k (by omega)]
      by_cases h : 144 ≤ j ∧ j < 144 + k
      · rw [if_pos h, if_pos (by omega)]
      · rw [if_neg h, if_neg (by omega)]
theorem d8_get (hq : 17 ≤ q) (j : Nat) : ∀ k, k ≤ 48 → (d8 q data k)[j]? = if 272 ≤ j ∧ j < 272 + k then some (data.getD (j - 272) 0) else (c8 q 16)[j]?
  | 0, _ => by rw [d8, if_neg (by omega)]
  | k + 1, hk => by
    rw [d8]
    by_cases e : 272 + k = j
    · subst e; rw [List.getElem?_set_self (by rw [d8_len]; omega), if_pos (by omega), show 272 + k - 272 = k by omega]
    · rw [List.getElem?_set_ne e, d8_get hq j k (by omega)]
      by_cases h : 272 ≤ j ∧ j < 272 + k
      · rw [if_pos h, if_pos (by omega)]
      · rw [if_neg h, if_neg (by omega)]
theorem e8_get (j : Nat) : ∀ k, k ≤ 256 → (e8 q data code k)[j]? = if 16 * q ≤ j ∧ j < 16 * q + k then some (code.getD (j - 16 * q) 0) else (d8 q data (min data.length 48))[j]?
  | 0, _ => by rw [e8, if_neg (by omega)]
  | k + 1, hk => by
    rw [e8]
    by_cases e : 16 * q + k = j
    · subst e; rw [List.getElem?_set_self (by rw [e8_len]; omega), if_pos (by omega), show 16 * q + k - 16 * q = k by omega]
    · rw [List.getElem?_set_ne e, e8_get j k (by omega)]
      by_cases h : 16 * q ≤ j ∧ j < 16 * q + k
      · rw [if_pos h, if_pos (by omega)]
      · rw [if_neg h, if_neg (by omega)]
/-- code -/
theorem mem8_code (q : Nat) (data : List Int) {code : List Int} {i : Nat} (hi : i < code.length) (h : i < 256) : (memW8 q data code)[16 * q + i]? = some (code.getD i 0) := by
  unfold memW8
  rw [e8_get q (16 * q + i) _ (by omega), if_pos (by omega), show 16 * q + i - 16 * q = i by omega]
/-- what lies ahead of data and code -/
theorem mem8_low {q : Nat} (hq : 17 ≤ q) (data code : List Int) {j : Nat} (hj : j < 272) : (memW8 q data code)[j]? = (c8 q 16)[j]? := by
  unfold memW8
  rw [e8_get q j _ (by omega), if_neg (by omega), d8_get q hq j _ (by omega), if_neg (by omega)]
theorem mem8_root {q : Nat} (hq : 17 ≤ q) (data code : List Int) {j : Nat} (hj : j < 16) : (memW8 q data code)[j]? = some (bitV ((j : Int) + 1) true true true) := by
  rw [mem8_low hq data code (by omega), c8_get q (by omega) j 16 (by omega), if_neg (by omega), c8, b8_get q (by omega) j _ (by omega), if_neg (by omega), a8_get q (by omega) j 16 (by omega), if_pos (by omega)]
theorem mem8_page {q : Nat} (hq : 17 ≤ q) (data code : List Int) {j : Nat} (hj : j < 16) : (memW8 q data code)[144 + j]? = some (bitV ((q : Int) + (j : Int)) true false true) := by
  rw [mem8_low hq data code (by omega), c8_get q (by omega) _ 16 (by omega), if_pos (by omega), show 144 + j - 144 = j by omega]
theorem mem8_data {q : Nat} (hq : 20 ≤ q) (data code : List Int) {j : Nat} (hj : j < 3) : (memW8 q data code)[16 + j]? = some (bitV (17 + (j : Int)) true true true) := by
  rw [mem8_low (by omega) data code (by omega), c8_get q (by omega) _ 16 (by omega), if_neg (by omega), c8, b8_get q (by omega) _ _ (by omega), if_pos (by omega), show 16 + j - 16 = j by omega]
/-- tables of the second level bear nothing else -/
theorem mem8_none {q : Nat} (hq : 17 ≤ q) (data code : List Int) {j : Nat} (h1 : 19 ≤ j) (h2 : j < 272) (h3 : j < 144 ∨ 160 ≤ j) : (memW8 q data code)[j]? = some 0 := by
  rw [mem8_low hq data code h2, c8_get q (by omega) _ 16 (by omega), if_neg (by omega), c8, b8_get q (by omega) _ _ (by omega), if_neg (by omega), a8_get q (by omega) j 16 (by omega), if_neg (by omega)]
  unfold z8
  rw [List.getElem?_replicate, if_pos (by omega)]
end
end Go.Proofs.YtpkgckjlhjcdmaaDoor

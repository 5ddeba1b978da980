/- Images on plain data: pages, quota, what memory holds as it is laid; no program is named here. -/
import Derived.Test.YtpkgckjlhjcdmaaMem4
import Derived.Test.YtpkgckjlhjcdmaaWalkP
namespace Go.Proofs.Ytpkgckjlhjcdmaa
open Go.RowKit
structure Ig where
  e : Int
  D : List Int
  C : List Int
def pgN (l : List Int) : Nat := (l.length + 15) / 16
def quoI (x : Ig) : Nat := 17 + pgN x.D
def valI (x : Ig) : Int := if 2048 < x.D.length ∨ 2048 < x.C.length then 104 else if x.e < 2048 ∨ 2048 + (x.C.length : Int) ≤ x.e then 103 else 0
def pgL (l : List Int) (p : Nat) : List Int := (l.drop (16 * p)).take 16
def pgW (l : List Int) (p : Nat) : List Int := (List.range 16).map fun j => l.getD (16 * p + j) 0
theorem pgW_length (l : List Int) (p : Nat) : (pgW l p).length = 16 := by simp [pgW]
theorem pgW_get {l : List Int} {p j : Nat} (h : j < 16) : (pgW l p)[j]? = some (l.getD (16 * p + j) 0) := by
  unfold pgW; rw [List.getElem?_map, List.getElem?_range h]; rfl
theorem pgW_getD {l : List Int} {p j : Nat} (h : j < 16) : (pgW l p).getD j 0 = l.getD (16 * p + j) 0 := by
  rw [List.getD, pgW_get h]; rfl
theorem pgL_length (l : List Int) (p : Nat) : (pgL l p).length ≤ 16 := by unfold pgL; simp; omega
theorem padded_pg (l : List Int) (p : Nat) : padded (pgL l p) = pgW l p := by
  apply List.ext_getElem?
  intro j
  by_cases hj : j < 16
  · rw [pgW_get hj]
    unfold padded
    by_cases h : j < (pgL l p).length
    · rw [List.getElem?_append_left h]
      unfold pgL at h ⊢
      rw [List.getElem?_take, if_pos hj, List.getElem?_drop]
      simp at h
      have : 16 * p + j < l.length := by omega
      rw [List.getD, List.getElem?_eq_getElem this]; rfl
    · rw [List.getElem?_append_right (by omega), List.getElem?_replicate]
      have hl := pgL_length l p
      rw [if_pos (by omega)]
      have : l.length ≤ 16 * p + j := by unfold pgL at h; simp at h; omega
      rw [List.getD, List.getElem?_eq_none this]; rfl
  · rw [List.getElem?_eq_none (by rw [padded_length (pgL_length l p)]; omega), List.getElem?_eq_none (by rw [pgW_length]; omega)]
def pageOfI (l : List Int) (p : Int) : Option (List Int) := if 0 ≤ p ∧ p < pgN l then some (pgW l p.toNat) else none
def pageI (x : Ig) (page : Int) : Option (List Int) := if page < 128 then pageOfI x.D page else pageOfI x.C (page - 128)
/-! ### memory -/
def memF (x : Ig) (q kk de df ce cf : Nat) (j : Nat) : Int :=
  if j < 16 then (if j < kk then ((j : Int) + 1) * 256 + 7 else 0)
  else if j < 272 then (if j - 16 < de then (17 + ((j - 16 : Nat) : Int)) * 256 + 7 else if 144 ≤ j ∧ j - 144 < ce then ((q : Int) + ((j - 144 : Nat) : Int)) * 256 + 5 else 0)
  else if j < 272 + 16 * df then x.D.getD (j - 272) 0
  else if 16 * q ≤ j ∧ j < 16 * q + 16 * cf then x.C.getD (j - 16 * q) 0 else 0
def memL (x : Ig) (q kk de df ce cf : Nat) : List Int := (List.range (16 * (q + pgN x.C))).map (memF x q kk de df ce cf)
def memI (x : Ig) (q : Nat) : List Int := memL x q 16 (pgN x.D) (pgN x.D) (pgN x.C) (pgN x.C)
theorem memL_length (x : Ig) (q kk de df ce cf : Nat) : (memL x q kk de df ce cf).length = 16 * (q + pgN x.C) := by simp [memL]
theorem rng_set {N i : Nat} {f g : Nat → Int} {v : Int} (h : ∀ j, j < N → g j = if j = i then v else f j) : ((List.range N).map f).set i v = (List.range N).map g := by
  apply List.ext_getElem?
  intro j
  by_cases hj : j < N
  · rw [List.getElem?_set, List.getElem?_map, List.getElem?_map, List.getElem?_range hj]
    have := h j hj
    by_cases e : i = j
    · subst e
      rw [if_pos rfl] at this
      simp [hj, this]
    · rw [if_neg (Ne.symm e)] at this
      simp [e, this]
  · rw [List.getElem?_eq_none (by simp; omega), List.getElem?_eq_none (by simp; omega)]
theorem rng_many {N o : Nat} {f g : Nat → Int} {l : List Int} (hl : o + l.length ≤ N) (h : ∀ j, j < N → g j = if o ≤ j ∧ j < o + l.length then l.getD (j - o) 0 else f j) : setMany ((List.range N).map f) o l = (List.range N).map g := by
  apply List.ext_getElem?
  intro j
  rw [setMany_get _ _ _ _ (by simpa using hl)]
  by_cases hj : j < N
  · rw [List.getElem?_map, List.getElem?_map, List.getElem?_range hj]
    have := h j hj
    by_cases e : o ≤ j ∧ j < o + l.length
    · rw [if_pos e] at this
      rw [if_pos e, Option.map_some, this, List.getD, List.getElem?_eq_getElem (by omega : j - o < l.length)]; rfl
    · rw [if_neg e] at this
      rw [if_neg e, Option.map_some, Option.map_some, this]
  · rw [if_neg (by omega), List.getElem?_eq_none (by simp; omega), List.getElem?_eq_none (by simp; omega)]
section
variable {x : Ig} {q kk de df ce cf : Nat}
theorem memL_zero : memL x q 0 0 0 0 0 = List.replicate (16 * (q + pgN x.C)) 0 := by
  apply List.ext_getElem?
  intro j
  unfold memL
  by_cases hj : j < 16 * (q + pgN x.C)
  · rw [List.getElem?_map, List.getElem?_range hj, List.getElem?_replicate, if_pos hj]
    simp only [Option.map_some, memF, Option.some.injEq]
    repeat' split
    all_goals first | rfl | omega
  · rw [List.getElem?_eq_none (by simp; omega), List.getElem?_eq_none (by simp; omega)]
theorem memL_k (h : kk < 16) : (memL x q kk de df ce cf).set kk (((kk : Int) + 1) * 256 + 7) = memL x q (kk + 1) de df ce cf := by
  apply rng_set
  intro j _
  unfold memF
  by_cases e : j = kk
  · subst e; rw [if_pos h, if_pos (by omega), if_pos rfl]
  · rw [if_neg e]
    by_cases a : j < 16
    · rw [if_pos a, if_pos a]
      by_cases b : j < kk
      · rw [if_pos b, if_pos (by omega)]
      · rw [if_neg b, if_neg (by omega)]
    · rw [if_neg a, if_neg a]
theorem memL_de (h : de < 128) : (memL x q kk de df ce cf).set (16 + de) ((17 + (de : Int)) * 256 + 7) = memL x q kk (de + 1) df ce cf := by
  apply rng_set
  intro j _
  unfold memF
  by_cases e : j = 16 + de
  · subst e
    rw [if_neg (by omega), if_pos (by omega), if_pos (by omega), if_pos rfl]
    have : 16 + de - 16 = de := by omega
    rw [this]
  · rw [if_neg e]
    by_cases a : j < 16
    · rw [if_pos a, if_pos a]
    · rw [if_neg a, if_neg a]
      by_cases c : j < 272
      · rw [if_pos c, if_pos c]
        by_cases b : j - 16 < de
        · rw [if_pos b, if_pos (by omega)]
        · rw [if_neg b, if_neg (by omega)]
      · rw [if_neg c, if_neg c]
theorem memL_df (h : 17 + df < q + pgN x.C) : setMany (memL x q kk de df ce cf) ((17 + df) * 16) (pgW x.D df) = memL x q kk de (df + 1) ce cf := by
  apply rng_many
  · rw [pgW_length]; omega
  intro j _
  rw [pgW_length]
  unfold memF
  by_cases e : (17 + df) * 16 ≤ j ∧ j < (17 + df) * 16 + 16
  · rw [if_neg (by omega), if_neg (by omega), if_pos (by omega), if_pos e, pgW_getD (by omega), show 16 * df + (j - (17 + df) * 16) = j - 272 from by omega]
  · rw [if_neg e]
    by_cases a : j < 16
    · rw [if_pos a, if_pos a]
    · rw [if_neg a, if_neg a]
      by_cases c : j < 272
      · rw [if_pos c, if_pos c]
      · rw [if_neg c, if_neg c]
        by_cases b : j < 272 + 16 * df
        · rw [if_pos b, if_pos (by omega)]
        · rw [if_neg b, if_neg (by omega)]
theorem memL_ce (hd : de ≤ 128) (h : ce < 128) : (memL x q kk de df ce cf).set (144 + ce) (((q : Int) + (ce : Int)) * 256 + 5) = memL x q kk de df (ce + 1) cf := by
  apply rng_set
  intro j _
  unfold memF
  by_cases e : j = 144 + ce
  · subst e
    rw [if_neg (by omega), if_pos (by omega), if_neg (by omega), if_pos (by omega), if_pos rfl]
    have : 144 + ce - 144 = ce := by omega
    rw [this]
  · rw [if_neg e]
    by_cases a : j < 16
    · rw [if_pos a, if_pos a]
    · rw [if_neg a, if_neg a]
      by_cases c : j < 272
      · rw [if_pos c, if_pos c]
        by_cases b : j - 16 < de
        · rw [if_pos b, if_pos b]
        · rw [if_neg b, if_neg b]
          by_cases d : 144 ≤ j ∧ j - 144 < ce
          · rw [if_pos d, if_pos (by omega)]
          · rw [if_neg d, if_neg (by omega)]
      · rw [if_neg c, if_neg c]
theorem memL_cf (hq : 17 + df ≤ q) (h : cf < pgN x.C) : setMany (memL x q kk de df ce cf) ((q + cf) * 16) (pgW x.C cf) = memL x q kk de df ce (cf + 1) := by
  apply rng_many
  · rw [pgW_length]; omega
  intro j _
  rw [pgW_length]
  unfold memF
  by_cases e : (q + cf) * 16 ≤ j ∧ j < (q + cf) * 16 + 16
  · rw [if_neg (by omega), if_neg (by omega), if_neg (by omega), if_pos (by omega), if_pos e, pgW_getD (by omega), show 16 * cf + (j - (q + cf) * 16) = j - 16 * q from by omega]
  · rw [if_neg e]
    by_cases a : j < 16
    · rw [if_pos a, if_pos a]
    · rw [if_neg a, if_neg a]
      by_cases c : j < 272
      · rw [if_pos c, if_pos c]
      · rw [if_neg c, if_neg c]
        by_cases b : j < 272 + 16 * df
        · rw [if_pos b, if_pos b]
        · rw [if_neg b, if_neg b]
          by_cases d : 16 * q ≤ j ∧ j < 16 * q + 16 * cf
          · rw [if_pos d, if_pos (by omega)]
          · rw [if_neg d, if_neg (by omega)]
theorem bit7 {f : Int} (h0 : 0 ≤ f) (h1 : f < 1024) : bitV f true true true = f * 256 + 7 := by rw [bitV_yes h0 h1]; simp [twoV, fourV]; omega
theorem bit5 {f : Int} (h0 : 0 ≤ f) (h1 : f < 1024) : bitV f true false true = f * 256 + 5 := by rw [bitV_yes h0 h1]; simp [twoV, fourV]; omega
theorem bitB_there {f : Int} (w u : Bool) (h0 : 0 ≤ f) (h1 : f < 1024) : bitB f true w u = true := by simp [bitB, h0, h1]
theorem memF_get {j : Nat} (h : j < 16 * (q + pgN x.C)) : (memL x q kk de df ce cf)[j]? = some (memF x q kk de df ce cf j) := by
  unfold memL; rw [List.getElem?_map, List.getElem?_range h]; rfl
theorem memF_u32 (hd : ∀ v ∈ x.D, 0 ≤ v ∧ v < 4294967296) (hc : ∀ v ∈ x.C, 0 ≤ v ∧ v < 4294967296) (hq : q ≤ 512) (j : Nat) : 0 ≤ memF x q kk de df ce cf j ∧ memF x q kk de df ce cf j < 4294967296 := by
  have g : ∀ (l : List Int) (k : Nat), (∀ v ∈ l, 0 ≤ v ∧ v < 4294967296) → 0 ≤ l.getD k 0 ∧ l.getD k 0 < 4294967296 := by
    intro l k h
    by_cases e : k < l.length
    · rw [List.getD, List.getElem?_eq_getElem e]; exact h _ (List.getElem_mem e)
    · rw [List.getD, List.getElem?_eq_none (by omega)]; simp
  unfold memF
  repeat' split
  all_goals first | exact g _ _ hd | exact g _ _ hc | omega
end
/-! ### where things lie -/
section
variable {x : Ig} {q n : Nat}
theorem memI_page (hq : 17 + pgN x.D ≤ q) (hq2 : q ≤ 256) (hd : pgN x.D ≤ 128) (hc : pgN x.C ≤ 128) (hn : n = q + pgN x.C) (p : Nat) (hp : p < 256) :
    pageO (memI x q) n 0 p = if p < pgN x.D then some ((17 + (p : Int)) * 256 + 7) else if 128 ≤ p ∧ p < 128 + pgN x.C then some (((q : Int) + ((p - 128 : Nat) : Int)) * 256 + 5) else none := by
  have g1 : (memI x q)[p / 16]? = some (((p / 16 : Nat) : Int) * 256 + 263) := by
    unfold memI
    rw [memF_get (by omega)]
    unfold memF
    rw [if_pos (by omega), if_pos (by omega), show (((p / 16 : Nat) : Int) + 1) * 256 + 7 = ((p / 16 : Nat) : Int) * 256 + 263 from by omega]
  have g2 : (memI x q)[16 + p]? = some (memF x q 16 (pgN x.D) (pgN x.D) (pgN x.C) (pgN x.C) (16 + p)) := by
    unfold memI
    rw [memF_get (by omega)]
  have v2 : memF x q 16 (pgN x.D) (pgN x.D) (pgN x.C) (pgN x.C) (16 + p) = if p < pgN x.D then (17 + (p : Int)) * 256 + 7 else if 128 ≤ p ∧ p < 128 + pgN x.C then ((q : Int) + ((p - 128 : Nat) : Int)) * 256 + 5 else 0 := by
    unfold memF
    have e1 : 16 + p - 16 = p := by omega
    have e2 : 16 + p - 144 = p - 128 := by omega
    rw [if_neg (by omega), if_pos (by omega), e1, e2]
    by_cases a : p < pgN x.D
    · rw [if_pos a, if_pos a]
    · rw [if_neg a, if_neg a]
      by_cases b : 128 ≤ p ∧ p < 128 + pgN x.C
      · rw [if_pos b, if_pos (by omega)]
      · rw [if_neg b, if_neg (by omega)]
  have w1 : wordI (memI x q) (0 * 16 + (p : Int) / 16) = ((p / 16 : Nat) : Int) * 256 + 263 := wordI_get g1 (by omega)
  have w2 : wordI (memI x q) ((((p / 16 : Nat) : Int) * 256 + 263) / 256 * 16 + (p : Int) % 16) = memF x q 16 (pgN x.D) (pgN x.D) (pgN x.C) (pgN x.C) (16 + p) := wordI_get g2 (by omega)
  rw [pageO_in (by omega) (by omega) (by omega) (by omega) w1 (by unfold liveB; simp; omega) (by omega) w2, v2]
  by_cases a : p < pgN x.D
  · rw [if_pos a, if_pos a, liveO_yes (by unfold liveB; simp; omega)]
  · rw [if_neg a, if_neg a]
    by_cases b : 128 ≤ p ∧ p < 128 + pgN x.C
    · rw [if_pos b, if_pos b, liveO_yes (by unfold liveB; simp; omega)]
    · rw [if_neg b, if_neg b, liveO_no (by decide)]
theorem memI_data (hq : 17 + pgN x.D ≤ q) {a : Nat} (h : a / 16 < pgN x.D) : (memI x q)[(17 + a / 16) * 16 + a % 16]? = some (x.D.getD a 0) := by
  unfold memI
  rw [memF_get (by omega)]
  unfold memF
  rw [if_neg (by omega), if_neg (by omega), if_pos (by omega), show (17 + a / 16) * 16 + a % 16 - 272 = a from by omega]
theorem memI_code (hq : 17 + pgN x.D ≤ q) {a : Nat} (h0 : 2048 ≤ a) (h : a / 16 - 128 < pgN x.C) : (memI x q)[(q + (a / 16 - 128)) * 16 + a % 16]? = some (x.C.getD (a - 2048) 0) := by
  unfold memI
  rw [memF_get (by omega)]
  unfold memF
  rw [if_neg (by omega), if_neg (by omega), if_neg (by omega), if_pos (by omega), show (q + (a / 16 - 128)) * 16 + a % 16 - 16 * q = a - 2048 from by omega]
end
end Go.Proofs.Ytpkgckjlhjcdmaa

/- Plain facts on entries of page tables, and on the ways that tables are: no program is named here. -/
import Derived.Test.YtpkgckjlhjcdmaaBase
namespace Go.Proofs.Ytpkgckjlhjcdmaa
def tB (v : Int) : Bool := decide (v % 2 = 1)
def wB (v : Int) : Bool := decide (v / 2 % 2 = 1)
def uB (v : Int) : Bool := decide (v / 4 % 2 = 1)
/-- the word of an entry that is there -/
def liveB (v : Int) : Bool := decide (v % 2 = 1 ∧ v % 256 < 8 ∧ 0 ≤ v ∧ v < 262144)
/-- the word of an entry -/
def ofB (v : Int) : Bool := decide (v = 0) || liveB v
/-- an entry that may be -/
def bitB (f : Int) (t w u : Bool) : Bool := decide (0 ≤ f ∧ f < 1024) && (t || (decide (f = 0) && !w && !u))
def twoV (w : Bool) : Int := if w = true then 2 else 0
def fourV (u : Bool) : Int := if u = true then 4 else 0
def bitV (f : Int) (t w u : Bool) : Int := if 0 ≤ f ∧ f < 1024 ∧ t = true then f * 256 + 1 + twoV w + fourV u else 0
/-- the entry of a word, where there is one -/
def oF : Option Int → Int | none => 0 | some v => v / 256
def oT : Option Int → Bool | none => false | some v => tB v
def oW : Option Int → Bool | none => false | some v => wB v
def oU : Option Int → Bool | none => false | some v => uB v
def ofO (v : Int) : Option Int := if ofB v = true then some v else none
def liveO (v : Int) : Option Int := if liveB v = true then some v else none
theorem ofO_yes {v : Int} (h : ofB v = true) : ofO v = some v := by unfold ofO; rw [if_pos h]
theorem ofO_no {v : Int} (h : ofB v = false) : ofO v = none := by unfold ofO; rw [if_neg (by simp [h])]
theorem liveO_yes {v : Int} (h : liveB v = true) : liveO v = some v := by unfold liveO; rw [if_pos h]
theorem liveO_no {v : Int} (h : liveB v = false) : liveO v = none := by unfold liveO; rw [if_neg (by simp [h])]
theorem live_bd {v : Int} (h : liveB v = true) : v % 2 = 1 ∧ v % 256 < 8 ∧ 0 ≤ v ∧ v < 262144 := of_decide_eq_true h
theorem of_live {v : Int} (h : liveB v = true) : ofB v = true := by unfold ofB; rw [h]; simp
theorem tB_live {v : Int} (h : liveB v = true) : tB v = true := by have := live_bd h; unfold tB; simp; omega
theorem ofO_live {v : Int} : oT (ofO v) = liveB v := by
  cases h : liveB v
  · cases h2 : ofB v
    · rw [ofO_no h2]; rfl
    · rw [ofO_yes h2]
      unfold ofB at h2; rw [h] at h2; simp at h2; subst h2; rfl
  · rw [ofO_yes (of_live h)]; exact tB_live h
/-- an entry that is not there is none -/
theorem of_dead {v : Int} (h : liveB v = false) : oF (ofO v) = 0 ∧ oT (ofO v) = false ∧ oW (ofO v) = false ∧ oU (ofO v) = false := by
  cases h2 : ofB v
  · rw [ofO_no h2]; exact ⟨rfl, rfl, rfl, rfl⟩
  · rw [ofO_yes h2]
    unfold ofB at h2; rw [h] at h2; simp at h2; subst h2; exact ⟨rfl, rfl, rfl, rfl⟩
theorem two_cases (w : Bool) : (w = true ∧ twoV w = 2) ∨ (w = false ∧ twoV w = 0) := by cases w <;> simp [twoV]
theorem four_cases (w : Bool) : (w = true ∧ fourV w = 4) ∨ (w = false ∧ fourV w = 0) := by cases w <;> simp [fourV]
theorem bitV_yes {f : Int} {w u : Bool} (h0 : 0 ≤ f) (h1 : f < 1024) : bitV f true w u = f * 256 + 1 + twoV w + fourV u := by unfold bitV; rw [if_pos ⟨h0, h1, rfl⟩]
theorem bitV_no {f : Int} {t w u : Bool} (h : bitB f t w u = false) : bitV f t w u = 0 := by
  unfold bitV
  split
  · rename_i h2
    unfold bitB at h
    rw [h2.2.2, decide_eq_true ⟨h2.1, h2.2.1⟩] at h
    simp at h
  · rfl
theorem bitV_bd (f : Int) (t w u : Bool) : 0 ≤ bitV f t w u ∧ bitV f t w u < 262144 := by
  unfold bitV
  rcases two_cases w with ⟨_, h2⟩ | ⟨_, h2⟩ <;> rcases four_cases u with ⟨_, h4⟩ | ⟨_, h4⟩ <;> rw [h2, h4] <;> split <;> omega
/-- read from its bits it is as it is -/
theorem of_bitV {f : Int} {t w u : Bool} (h : bitB f t w u = true) :
    ofB (bitV f t w u) = true ∧ bitV f t w u / 256 = f ∧ tB (bitV f t w u) = t ∧ wB (bitV f t w u) = w ∧ uB (bitV f t w u) = u := by
  unfold bitB at h
  simp only [Bool.and_eq_true, Bool.or_eq_true, decide_eq_true_eq, Bool.not_eq_true'] at h
  obtain ⟨⟨h0, h1⟩, h⟩ := h
  cases t
  · simp at h
    obtain ⟨⟨rfl, rfl⟩, rfl⟩ := h
    decide
  · rw [bitV_yes h0 h1]
    unfold ofB liveB tB wB uB
    simp only [Bool.or_eq_true, decide_eq_true_eq]
    rcases two_cases w with ⟨rfl, h2⟩ | ⟨rfl, h2⟩ <;> rcases four_cases u with ⟨rfl, h4⟩ | ⟨rfl, h4⟩ <;> rw [h2, h4] <;>
      simp only [decide_eq_true_eq, decide_eq_false_iff_not] <;> omega
/-- a word that is an entry's is its bits -/
theorem bitV_of {v : Int} (h : ofB v = true) : bitB (v / 256) (tB v) (wB v) (uB v) = true ∧ bitV (v / 256) (tB v) (wB v) (uB v) = v := by
  unfold ofB at h
  simp only [Bool.or_eq_true, decide_eq_true_eq] at h
  rcases h with rfl | h
  · decide
  · have hb := live_bd h
    rw [tB_live h]
    refine ⟨?_, ?_⟩
    · unfold bitB
      simp; omega
    · rw [bitV_yes (by omega) (by omega)]
      unfold twoV fourV wB uB
      simp only [decide_eq_true_eq]
      repeat' split
      all_goals omega
/-- unlike ones have unlike bits -/
theorem bitV_inj {f f' : Int} {t t' w w' u u' : Bool} (h : bitB f t w u = true) (h' : bitB f' t' w' u' = true) :
    (bitV f t w u = bitV f' t' w' u') ↔ (f = f' ∧ t = t' ∧ w = w' ∧ u = u') := by
  constructor
  · intro e
    obtain ⟨_, a1, a2, a3, a4⟩ := of_bitV h
    obtain ⟨_, b1, b2, b3, b4⟩ := of_bitV h'
    rw [e] at a1 a2 a3 a4
    exact ⟨a1.symm.trans b1, a2.symm.trans b2, a3.symm.trans b3, a4.symm.trans b4⟩
  · rintro ⟨rfl, rfl, rfl, rfl⟩; rfl
theorem bitV_ne {v : Int} (h : ofB v = false) : bitV (v / 256) (tB v) (wB v) (uB v) ≠ v := by
  intro e
  cases hb : bitB (v / 256) (tB v) (wB v) (uB v)
  · rw [bitV_no hb] at e
    subst e
    exact absurd h (by decide)
  · have := (of_bitV hb).1
    rw [e, h] at this
    cases this
/-- what is read of a word as an entry that is there -/
theorem live_parts (v : Int) : oF (ofO v) = oF (liveO v) ∧ oT (ofO v) = oT (liveO v) ∧ oW (ofO v) = oW (liveO v) ∧ oU (ofO v) = oU (liveO v) := by
  cases h : liveB v
  · obtain ⟨h0, h1, h2, h3⟩ := of_dead h
    rw [h0, h1, h2, h3, liveO_no h]; exact ⟨rfl, rfl, rfl, rfl⟩
  · rw [liveO_yes h, ofO_yes (of_live h)]; exact ⟨rfl, rfl, rfl, rfl⟩
/-! ### ways by the tables -/
def wordI (xs : List Int) (a : Int) : Int := xs.getD a.toNat 0
/-- the word of a page's entry, if both levels have one that is there -/
def pageO (xs : List Int) (n root page : Int) : Option Int :=
  if 0 ≤ page ∧ page < 256 ∧ 0 ≤ root ∧ root < n then
    if liveB (wordI xs (root * 16 + page / 16)) = true ∧ wordI xs (root * 16 + page / 16) / 256 < n then
      liveO (wordI xs (wordI xs (root * 16 + page / 16) / 256 * 16 + page % 16))
    else none
  else none
/-- is the way there, for whom and what? -/
def wayB (o : Option Int) (n : Int) (write user : Bool) : Bool :=
  match o with | none => false | some v => (!write || wB v) && (!user || uB v) && decide (v / 256 < n)
def wayV (o : Option Int) (n addr : Int) (write user : Bool) : Int := if wayB o n write user = true then oF o * 16 + addr % 16 else 0
theorem pageO_out {xs : List Int} {n root page : Int} (h : page < 0 ∨ 256 ≤ page ∨ root < 0 ∨ n ≤ root) : pageO xs n root page = none := by
  unfold pageO; rw [if_neg (by omega)]
theorem pageO_dead {xs : List Int} {n root page x : Int} (hx : wordI xs (root * 16 + page / 16) = x) (h : liveB x = false ∨ n ≤ x / 256) : pageO xs n root page = none := by
  unfold pageO
  rw [hx]
  split
  · rw [if_neg]
    rintro ⟨h1, h2⟩
    rcases h with h | h
    · rw [h] at h1; cases h1
    · omega
  · rfl
theorem pageO_in {xs : List Int} {n root page x y : Int} (h0 : 0 ≤ page) (h1 : page < 256) (h2 : 0 ≤ root) (h3 : root < n) (hx : wordI xs (root * 16 + page / 16) = x) (hl : liveB x = true) (hn : x / 256 < n)
    (hy : wordI xs (x / 256 * 16 + page % 16) = y) : pageO xs n root page = liveO y := by
  unfold pageO
  rw [hx, hy, if_pos ⟨h0, h1, h2, h3⟩, if_pos ⟨hl, hn⟩]
theorem pageO_live {xs : List Int} {n root page v : Int} (h : pageO xs n root page = some v) : liveB v = true := by
  unfold pageO at h
  split at h
  · split at h
    · unfold liveO at h
      split at h
      · rename_i h2; rw [← Option.some.inj h]; exact h2
      · cases h
    · cases h
  · cases h
theorem wordI_get {xs : List Int} {k : Nat} {x : Int} (h : xs[k]? = some x) {a : Int} (ha : a = (k : Int)) : wordI xs a = x := by
  subst ha; unfold wordI; rw [List.getD, Int.toNat_natCast, h]; rfl
end Go.Proofs.Ytpkgckjlhjcdmaa

/- Plain facts of the law BareQueue: its code, and how it runs. -/
import Derived.Test.YtkkbhifplbleiaaGreatDoorZBShowP
import Derived.Test.YtkkbhifplbleiaaGreatDoorZGBareA
namespace Go.Proofs.YtkkbhifplbleiaaGreatDoor
open Go.RowKit
def fQ (x : Int) : Int := (numB x 24 : Int)
theorem fQ_bd (x : Int) : 0 ≤ fQ x ∧ fQ x < 24 := by have := numB_lt x (k := 24) (by decide); unfold fQ; omega
def queueC : List Int → List Int
  | [] => []
  | x :: r => [235143168, fQ x * 256 + 3, 688063488] ++ queueC r
def codeQ (page : Nat) (ls : List Int) : List Int := ([235077632, (page : Int)] ++ queueC ls) ++ [704643072]
def lastF (f last : Int) : Int := if 17 ≤ f then f else last
def waitsF (f : Int) (w : Nat) : Nat := if 17 ≤ f then (if w = 16 then 1 else w + 1) else w
def lastQ (l : List Int) : Int := l.foldl (fun a x => lastF (fQ x) a) (-1)
def waitsQ (l : List Int) : Nat := l.foldl (fun a x => waitsF (fQ x) a) 0
theorem lastQ_snoc (l : List Int) (x : Int) : lastQ (l ++ [x]) = lastF (fQ x) (lastQ l) := by unfold lastQ; rw [List.foldl_append]; rfl
theorem waitsQ_snoc (l : List Int) (x : Int) : waitsQ (l ++ [x]) = waitsF (fQ x) (waitsQ l) := by unfold waitsQ; rw [List.foldl_append]; rfl
theorem lastF_bd {f last : Int} (h0 : 0 ≤ f) (h1 : f < 24) (h : -1 ≤ last ∧ last < 24) : -1 ≤ lastF f last ∧ lastF f last < 24 := by unfold lastF; split <;> omega
theorem lastQ_go : ∀ (l : List Int) (a : Int), -1 ≤ a ∧ a < 24 → -1 ≤ l.foldl (fun a x => lastF (fQ x) a) a ∧ l.foldl (fun a x => lastF (fQ x) a) a < 24
  | [], _, h => h
  | x :: r, _, h => lastQ_go r _ (lastF_bd (fQ_bd x).1 (fQ_bd x).2 h)
theorem lastQ_bd (l : List Int) : -1 ≤ lastQ l ∧ lastQ l < 24 := lastQ_go l _ (by decide)
theorem queueC_app : ∀ a b : List Int, queueC (a ++ b) = queueC a ++ queueC b
  | [], _ => rfl
  | x :: r, b => by simp only [List.cons_append, queueC, queueC_app r b, List.append_assoc]
theorem queueC_snoc (a : List Int) (x : Int) : queueC (a ++ [x]) = queueC a ++ [235143168, fQ x * 256 + 3, 688063488] := by rw [queueC_app]; simp [queueC]
theorem queueC_len : ∀ l : List Int, (queueC l).length = 3 * l.length
  | [] => rfl
  | x :: r => by simp only [queueC, List.length_append, List.length_cons, List.length_nil, queueC_len r]; omega
theorem queueC_u32 : ∀ l : List Int, U32s (queueC l)
  | [] => fun x hx => by cases hx
  | x :: r => by
    refine u32s_app ?_ (queueC_u32 r)
    intro y hy
    have := fQ_bd x
    simp at hy
    rcases hy with rfl | rfl | rfl <;> omega
theorem codeQ_len (page : Nat) (ls : List Int) : (codeQ page ls).length = 3 + 3 * ls.length := by unfold codeQ; simp [queueC_len]; omega
theorem codeQ_u32 {page : Nat} (hp : page < 3) (ls : List Int) : U32s (codeQ page ls) := by
  refine u32s_app (u32s_app ?_ (queueC_u32 ls)) ?_
  · intro y hy
    simp at hy
    rcases hy with rfl | rfl <;> omega
  · intro y hy
    simp at hy
    subst hy
    decide
theorem codeQ_at {page : Nat} {ls : List Int} {j : Nat} {x : Int} (hx : ls[j]? = some x) {i : Nat} (hi : i < 3) : (codeQ page ls).getD (2 + 3 * j + i) 0 = [235143168, fQ x * 256 + 3, 688063488].getD i 0 := by
  obtain ⟨hj, he⟩ := List.getElem?_eq_some_iff.1 hx
  have e : ls = ls.take j ++ ([x] ++ ls.drop (j + 1)) := by
    conv => lhs; rw [← List.take_append_drop j ls]
    rw [List.drop_eq_getElem_cons hj, he]
    rfl
  have hpre : ([235077632, (page : Int)] ++ queueC (ls.take j)).length = 2 + 3 * j := by simp [queueC_len]; omega
  have := getD_at ([235077632, (page : Int)] ++ queueC (ls.take j)) [235143168, fQ x * 256 + 3, 688063488] (queueC (ls.drop (j + 1)) ++ [704643072]) (j := i) hi
  rw [hpre] at this
  rw [← this]
  congr 1
  unfold codeQ
  conv => lhs; rw [e]
  simp [queueC_app, queueC]
/-! ### what lies there -/
def seenQ (xs0 : List Int) (page : Nat) (last : Int) : List Int := if last < 0 then xs0 else xs0.set (16 + page) (last * 256 + 3)
section
variable {xs0 : List Int} {page : Nat}
theorem seenQ_other {k : Nat} (hk : k ≠ 16 + page) (last : Int) : (seenQ xs0 page last)[k]? = xs0[k]? := by
  unfold seenQ
  split
  · rfl
  · rw [List.getElem?_set_ne (by omega)]
theorem seenQ_code {code : List Int} (hp : page < 3) (C : CodeIn 24 code xs0) (last : Int) : CodeIn 24 code (seenQ xs0 page last) := by
  unfold seenQ
  split
  · exact C
  · exact C.set (by omega) (by omega) (by omega) _
theorem upd_seen (hp : page < 3) (h0 : xs0[0]? = some 263) (last f : Int) (hf : 0 ≤ f) : updP 40 (seenQ xs0 page last) ((page : Int), f * 256 + 3) = seenQ xs0 page f := by
  have hw : wordI (seenQ xs0 page last) (((page : Int), f * 256 + 3).1 / 16) = 263 := by
    rw [show ((page : Int), f * 256 + 3).1 / 16 = ((0 : Nat) : Int) by show (page : Int) / 16 = _; omega]
    exact word_get ((seenQ_other (by omega) last).trans h0) rfl
  unfold updP
  rw [hw, if_pos (by decide)]
  rw [show ((263 : Int) / 256 * 16 + ((page : Int), f * 256 + 3).1 % 16).toNat = 16 + page by show ((263 : Int) / 256 * 16 + (page : Int) % 16).toNat = _; omega]
  show (seenQ xs0 page last).set (16 + page) (f * 256 + 3) = _
  unfold seenQ
  rw [if_neg (by omega : ¬ f < 0)]
  split
  · rfl
  · rw [List.set_set]
/-- what waits, and what it comes to -/
structure QS (xs0 : List Int) (page : Nat) (last : Int) (waits : Nat) (ws : List (Int × Int)) (xs : List Int) : Prop where
  now : ∃ l', xs = seenQ xs0 page l'
  then_ : flushP 40 xs ws = seenQ xs0 page last
  len : ws.length = waits
  le : waits ≤ 16
theorem may_f {f : Int} (h0 : 0 ≤ f) (h1 : f < 24) : mayW 24 (f * 256 + 3) = decide (17 ≤ f) := by
  unfold mayW ofB liveB
  have e : (f * 256 + 3) / 256 = f := by omega
  rw [e, decide_eq_false (by omega : ¬ f * 256 + 3 = 0), decide_eq_true (by omega : (f * 256 + 3) % 2 = 1 ∧ (f * 256 + 3) % 256 < 8 ∧ 0 ≤ f * 256 + 3 ∧ f * 256 + 3 < 262144)]
  by_cases h : 17 ≤ f
  · rw [decide_eq_true h, decide_eq_true (show 17 ≤ f ∧ f < 24 from ⟨h, h1⟩)]; rfl
  · rw [decide_eq_false h, decide_eq_false (by omega : ¬ (17 ≤ f ∧ f < 24))]; rfl
theorem put_seen (hp : page < 3) (h0 : xs0[0]? = some 263) {last : Int} {waits : Nat} {ws : List (Int × Int)} {xs : List Int} (h : QS xs0 page last waits ws xs) {f : Int} (f0 : 0 ≤ f) (f1 : f < 24) :
    ∃ xs' ws', QS xs0 page (lastF f last) (waitsF f waits) ws' xs' ∧ ∀ X : Mc, X.xs = xs → X.ws = ws → putP 40 24 X (page : Int) (f * 256 + 3) = ⟨xs', X.c, X.d, X.now, X.ov, ws'⟩ := by
  have hm := may_f f0 f1
  obtain ⟨⟨l', hl'⟩, ht, hl, hle⟩ := h
  by_cases h17 : 17 ≤ f
  · rw [decide_eq_true h17] at hm
    by_cases h16 : waits = 16
    · refine ⟨flushP 40 xs ws, [((page : Int), f * 256 + 3)], ⟨⟨last, ht⟩, ?_, ?_, ?_⟩, fun X hx hw => ?_⟩
      · rw [ht]
        show updP 40 (seenQ xs0 page last) _ = _
        rw [upd_seen hp h0 last f f0, lastF, if_pos h17]
      · rw [waitsF, if_pos h17, if_pos h16]; rfl
      · rw [waitsF, if_pos h17, if_pos h16]; decide
      · rw [put_full (q := 24) _ _ ⟨by omega, hm⟩ (by rw [hw, hl]; exact h16), hx, hw]
    · refine ⟨xs, ws ++ [((page : Int), f * 256 + 3)], ⟨⟨l', hl'⟩, ?_, ?_, ?_⟩, fun X hx hw => ?_⟩
      · unfold flushP
        rw [List.foldl_append]
        show updP 40 (flushP 40 xs ws) _ = _
        rw [ht, upd_seen hp h0 last f f0, lastF, if_pos h17]
      · rw [waitsF, if_pos h17, if_neg h16, List.length_append, hl]; rfl
      · rw [waitsF, if_pos h17, if_neg h16]; omega
      · rw [put_room (q := 24) _ _ ⟨by omega, hm⟩ (by rw [hw, hl]; exact h16), hx, hw]
  · rw [decide_eq_false h17] at hm
    refine ⟨xs, ws, ⟨⟨l', hl'⟩, ?_, ?_, ?_⟩, fun X hx hw => ?_⟩
    · rw [lastF, if_neg h17]; exact ht
    · rw [waitsF, if_neg h17]; exact hl
    · rw [waitsF, if_neg h17]; exact hle
    · rw [put_not (q := 24) _ _ (by rw [hm]; simp), ← hx, ← hw]
end
/-! ### how it runs -/
def machQ (page : Nat) (ls : List Int) : Mc := initM (memW8 24 [] (codeQ page ls)) (pcP 2048 0)
structure RunQ (page : Nat) (ls : List Int) (j : Nat) (off t : Nat) : Prop where
  run : ∃ l xs ws, l.length = 16 ∧ regI l 3 = (page : Int) ∧ QS (memW8 24 [] (codeQ page ls)) page (lastQ (ls.take j)) (waitsQ (ls.take j)) ws xs ∧ Is xs off false l [] (List.replicate 16 0) [] (t : Int) ws (iterP 40 24 t (machQ page ls))
section
variable {page : Nat} {ls : List Int}
theorem codeQ_in (hl : ls.length ≤ 40) : CodeIn 24 (codeQ page ls) (memW8 24 [] (codeQ page ls)) := code_mem8 (by decide) (by decide) [] (by rw [codeQ_len]; omega)
theorem queue_start (hl : ls.length ≤ 40) : RunQ page ls 0 2 1 := by
  have h := is_li (q' := 24) (a := 3) (v := (page : Int)) (is_init 24 [] (codeQ page ls)) (.inl rfl) (codeQ_in hl) (by rw [codeQ_len]; omega) (by decide) rfl rfl
  exact ⟨⟨_, memW8 24 [] (codeQ page ls), [], rfl, rfl, ⟨⟨-1, rfl⟩, rfl, rfl, Nat.zero_le _⟩, h⟩⟩
theorem queue_li (hp : page < 3) (hl : ls.length ≤ 40) {j : Nat} {x : Int} (hx : ls[j]? = some x) (h : RunQ page ls j (2 + 3 * j) (1 + 2 * j)) :
    ∃ l xs ws, l.length = 16 ∧ regI l 3 = (page : Int) ∧ regI l 4 = fQ x * 256 + 3 ∧ QS (memW8 24 [] (codeQ page ls)) page (lastQ (ls.take j)) (waitsQ (ls.take j)) ws xs ∧ Is xs (2 + 3 * j + 2) false l [] (List.replicate 16 0) [] ((2 + 2 * j : Nat) : Int) ws (iterP 40 24 (2 + 2 * j) (machQ page ls)) := by
  obtain ⟨l, xs, ws, h1, h2, h3, h4⟩ := h
  have hj := (List.getElem?_eq_some_iff.1 hx).1
  obtain ⟨l', hl'⟩ := h3.now
  have C : CodeIn 24 (codeQ page ls) xs := by rw [hl']; exact seenQ_code hp (codeQ_in hl) l'
  have hs := is_li (q' := 24) (a := 4) (v := fQ x * 256 + 3) h4 (.inl rfl) C (by rw [codeQ_len]; omega) (by decide) (codeQ_at hx (i := 0) (by decide)) (codeQ_at hx (i := 1) (by decide))
  rw [← iter_snoc, show 1 + 2 * j + 1 = 2 + 2 * j by omega, show ((1 + 2 * j : Nat) : Int) + 1 = ((2 + 2 * j : Nat) : Int) by omega] at hs
  exact ⟨_, _, _, by rw [List.length_set]; exact h1, (reg_other (a := 4) (b := 3) (by decide) _).trans h2, reg_set (a := 4) (by omega) _, h3, hs⟩
theorem queue_next (hp : page < 3) (hl : ls.length ≤ 40) {j : Nat} {x : Int} (hx : ls[j]? = some x) (h : RunQ page ls j (2 + 3 * j) (1 + 2 * j)) : RunQ page ls (j + 1) (2 + 3 * (j + 1)) (1 + 2 * (j + 1)) := by
  obtain ⟨l, xs, ws, h1, h2, h2', h3, h4⟩ := queue_li hp hl hx h
  have hj := (List.getElem?_eq_some_iff.1 hx).1
  obtain ⟨l', hl'⟩ := h3.now
  have C : CodeIn 24 (codeQ page ls) xs := by rw [hl']; exact seenQ_code hp (codeQ_in hl) l'
  obtain ⟨xs', ws', h5, h6⟩ := put_seen hp (mem8_root (by decide) [] (codeQ page ls) (j := 0) (by decide)) h3 (fQ_bd x).1 (fQ_bd x).2
  have hs := is_spte (q' := 24) (a := 3) (b := 4) h4 (.inl rfl) C (by rw [codeQ_len]; omega) (by decide) (codeQ_at hx (i := 2) (by decide)) (xs' := xs') (ws' := ws') (fun X e1 e2 => by rw [h2, h2']; exact h6 X e1 e2)
  rw [← iter_snoc, show 2 + 2 * j + 1 = 1 + 2 * (j + 1) by omega, show ((2 + 2 * j : Nat) : Int) + 1 = ((1 + 2 * (j + 1) : Nat) : Int) by omega] at hs
  refine ⟨_, _, _, h1, h2, ?_, hs⟩
  rw [List.take_add_one, hx]
  show QS _ _ (lastQ (ls.take j ++ [x])) (waitsQ (ls.take j ++ [x])) _ _
  rw [lastQ_snoc, waitsQ_snoc]
  exact h5
theorem queue_at (hp : page < 3) (hl : ls.length ≤ 40) : ∀ j : Nat, j ≤ ls.length → RunQ page ls j (2 + 3 * j) (1 + 2 * j)
  | 0, _ => queue_start hl
  | j + 1, hj => queue_next hp hl (List.getElem?_eq_getElem (by omega : j < ls.length)) (queue_at hp hl j (by omega))
theorem queue_wait (hp : page < 3) (hl : ls.length ≤ 40) {i : Nat} (h0 : 1 ≤ i) (h1 : i ≤ 1 + 2 * ls.length) : (iterP 40 24 i (machQ page ls)).ws.length = waitsQ (ls.take ((i - 1) / 2)) := by
  obtain ⟨j, hj⟩ : ∃ j, (i - 1) / 2 = j := ⟨_, rfl⟩
  rw [hj]
  by_cases he : i = 1 + 2 * j
  · obtain ⟨l, xs, ws, _, _, h3, h4⟩ := queue_at hp hl j (by omega)
    rw [he, h4.ws]
    exact h3.len
  · have e : i = 2 + 2 * j := by omega
    obtain ⟨l, xs, ws, _, _, _, h3, h4⟩ := queue_li hp hl (List.getElem?_eq_getElem (by omega : j < ls.length)) (queue_at hp hl j (by omega))
    rw [e, h4.ws]
    exact h3.len
/-- the word that is asked in the end -/
def wordQ (page : Nat) (last : Int) : Int := if last < 0 then (17 + (page : Int)) * 256 + 7 else last * 256 + 3
theorem queue_end (hp : page < 3) (hl : ls.length ≤ 40) :
    (iterP 40 24 (2 + 2 * ls.length) (machQ page ls)).ws = [] ∧ (iterP 40 24 (2 + 2 * ls.length) (machQ page ls)).ov = false ∧ (iterP 40 24 (2 + 2 * ls.length) (machQ page ls)).xs[16 + page]? = some (wordQ page (lastQ ls)) := by
  obtain ⟨l, xs, ws, h1, h2, h3, h4⟩ := queue_at hp hl ls.length (Nat.le_refl _)
  rw [List.take_length] at h3
  obtain ⟨l', hl'⟩ := h3.now
  have C : CodeIn 24 (codeQ page ls) xs := by rw [hl']; exact seenQ_code hp (codeQ_in hl) l'
  have hx : (codeQ page ls).getD (2 + 3 * ls.length) 0 = 704643072 := by
    have := getD_at ([235077632, (page : Int)] ++ queueC ls) [704643072] [] (j := 0) (by decide)
    rw [List.append_nil] at this
    rw [show 2 + 3 * ls.length = ([235077632, (page : Int)] ++ queueC ls).length + 0 by simp [queueC_len]; omega]
    exact this
  have hs := is_sync (q' := 24) h4 (.inl rfl) C (by rw [codeQ_len]; omega) hx
  rw [← iter_snoc, show 1 + 2 * ls.length + 1 = 2 + 2 * ls.length by omega] at hs
  refine ⟨hs.ws, hs.ov, ?_⟩
  rw [hs.xs]
  rw [show (24 + 16 : Nat) = 40 from rfl, h3.then_]
  unfold seenQ wordQ
  split
  · refine (mem8_data (by decide) [] (codeQ page ls) hp).trans (congrArg some ?_)
    have : page = 0 ∨ page = 1 ∨ page = 2 := by omega
    rcases this with rfl | rfl | rfl <;> rfl
  · rw [List.getElem?_set_self]
    rw [memW8_len]
    omega
end
end Go.Proofs.YtkkbhifplbleiaaGreatDoor

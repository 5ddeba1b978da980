/- What bytes are an object, as plain data: read word by word; back and forth. -/
import Derived.Test.YtbjijddpdefhpaaDoorZGObjA
namespace Go.Proofs.YtbjijddpdefhpaaDoor
/-- what is left, and what was wrong first -/
structure RS where
  l : List Int
  e : Option Nat
deriving DecidableEq
def takeS (n : Nat) (s : RS) : List Int × RS :=
  if s.e = none then (if s.l.length < n then ([], ⟨s.l, some 0⟩) else (s.l.take n, ⟨s.l.drop n, none⟩)) else ([], s)
def leW : List Int → Int
  | [] => 0
  | b :: l => b + 256 * leW l
def wordS (s : RS) : Int × RS := (leW (takeS 4 s).1, (takeS 4 s).2)
def numS (most : Int) (s : RS) : Int × RS := if most < (wordS s).1 then (0, ⟨(wordS s).2.l, some 2⟩) else wordS s
def manyS {α : Type} (f : RS → α × RS) : Nat → RS → List α × RS
  | 0, s => ([], s)
  | n + 1, s => ((manyS f n s).1 ++ [(f (manyS f n s).2).1], (f (manyS f n s).2).2)
abbrev wordsS (n : Nat) (s : RS) := manyS wordS n s
def sgn (w : Int) : Int := if w < 2147483648 then w else w - 4294967296
abbrev relA (s : RS) : Int × RS := numS 2147483647 s
def relS (s : RS) : Rl × RS :=
  (⟨(relA s).1, (relA (relA s).2).1, (relA (relA (relA s).2).2).1, sgn (wordS (relA (relA (relA s).2).2).2).1⟩, (wordS (relA (relA (relA s).2).2).2).2)
def strO (l : List Int) : ByteArray := ⟨(l.map fun b => UInt8.ofNat b.toNat).toArray⟩
def symT (s : RS) : Int × RS := numS 32 (numS 1 (relA (relA s).2).2).2
def symS (s : RS) : Sy × RS :=
  (⟨strO (takeS (symT s).1.toNat (symT s).2).1, (relA s).1, (relA (relA s).2).1, decide ((numS 1 (relA (relA s).2).2).1 = 1)⟩, (takeS (symT s).1.toNat (symT s).2).2)
abbrev BtB (l : List Int) : Prop := ∀ b ∈ l, 0 ≤ b ∧ b < 256
/-! ### an error stays -/
/-- f takes bytes from the front: where nothing is wrong behind it nothing was ahead, and what it took is what it says -/
structure Takes {α : Type} (f : RS → α × RS) (B : α → List Int) : Prop where
  suf : ∀ s, ∃ p, s.l = p ++ (f s).2.l
  ok : ∀ s, BtB s.l → (f s).2.e = none → s.e = none ∧ s.l = B (f s).1 ++ (f s).2.l
theorem Takes.bt {α : Type} {f : RS → α × RS} {B : α → List Int} (h : Takes f B) {s : RS} (hb : BtB s.l) : BtB (f s).2.l := by
  intro b hm
  obtain ⟨p, hp⟩ := h.suf s
  exact hb b (by rw [hp]; exact List.mem_append_right _ hm)
theorem takeS_takes (n : Nat) : Takes (takeS n) id := by
  refine ⟨fun s => ?_, fun s _ he => ?_⟩
  · unfold takeS
    split
    · split
      · exact ⟨[], rfl⟩
      · exact ⟨s.l.take n, (List.take_append_drop n s.l).symm⟩
    · exact ⟨[], rfl⟩
  · unfold takeS at he ⊢
    by_cases h : s.e = none
    · rw [if_pos h] at he ⊢
      by_cases hl : s.l.length < n
      · rw [if_pos hl] at he; cases he
      · rw [if_neg hl]
        exact ⟨h, (List.take_append_drop n s.l).symm⟩
    · rw [if_neg h] at he; exact absurd he h
theorem takeS_len {n : Nat} {s : RS} (he : (takeS n s).2.e = none) : (takeS n s).1.length = n := by
  unfold takeS at he ⊢
  by_cases h : s.e = none
  · rw [if_pos h] at he ⊢
    by_cases hl : s.l.length < n
    · rw [if_pos hl] at he; cases he
    · rw [if_neg hl, List.length_take]; omega
  · rw [if_neg h] at he; exact absurd he h
theorem takeS_bt {n : Nat} {s : RS} (hb : BtB s.l) : BtB (takeS n s).1 := by
  unfold takeS
  split
  · split
    · intro b hx; cases hx
    · exact fun b hx => hb b (List.mem_of_mem_take hx)
  · intro b hx; cases hx
theorem takeS_len2 (n : Nat) (s : RS) : (takeS n s).1 = [] ∨ (takeS n s).1.length = n := by
  unfold takeS
  split
  · split
    · exact .inl rfl
    · right; rw [List.length_take]; omega
  · exact .inl rfl
theorem leW_w4 {a b c d : Int} (ha : 0 ≤ a ∧ a < 256) (hb : 0 ≤ b ∧ b < 256) (hc : 0 ≤ c ∧ c < 256) (hd : 0 ≤ d ∧ d < 256) : w4 (leW [a, b, c, d]) = [a, b, c, d] := by
  simp only [w4, leW, List.cons.injEq, and_true]
  omega
theorem wordS_takes : Takes wordS w4 := by
  refine ⟨(takeS_takes 4).suf, fun s hb he => ?_⟩
  have h1 := (takeS_takes 4).ok s hb he
  have h2 := takeS_len he
  have hm := takeS_bt (n := 4) hb
  refine ⟨h1.1, ?_⟩
  have h3 : s.l = (takeS 4 s).1 ++ (takeS 4 s).2.l := h1.2
  show s.l = w4 (leW (takeS 4 s).1) ++ (takeS 4 s).2.l
  match hx : (takeS 4 s).1, h2 with
  | [a, b, c, d], _ =>
    rw [hx] at hm h3
    rw [leW_w4 (hm a (by simp)) (hm b (by simp)) (hm c (by simp)) (hm d (by simp))]
    exact h3
theorem wordS_bd {s : RS} (hb : BtB s.l) : 0 ≤ (wordS s).1 ∧ (wordS s).1 < 4294967296 := by
  have hm := takeS_bt (n := 4) hb
  show 0 ≤ leW (takeS 4 s).1 ∧ leW (takeS 4 s).1 < 4294967296
  rcases takeS_len2 4 s with h | h
  · rw [h]; simp [leW]
  · match hx : (takeS 4 s).1, h with
    | [a, b, c, d], _ =>
      rw [hx] at hm
      have h1 := hm a (by simp)
      have h2 := hm b (by simp)
      have h3 := hm c (by simp)
      have h4 := hm d (by simp)
      simp only [leW]
      omega
theorem numS_takes (most : Int) : Takes (numS most) w4 := by
  refine ⟨fun s => ?_, fun s hb he => ?_⟩
  · unfold numS
    split
    · exact wordS_takes.suf s
    · exact wordS_takes.suf s
  · unfold numS at he ⊢
    by_cases h : most < (wordS s).1
    · rw [if_pos h] at he; cases he
    · rw [if_neg h] at he ⊢; exact wordS_takes.ok s hb he
theorem numS_bd {most : Int} {s : RS} (hm : 0 ≤ most) (hb : BtB s.l) : 0 ≤ (numS most s).1 ∧ (numS most s).1 ≤ most := by
  unfold numS
  split
  · exact ⟨by simp, hm⟩
  · have := wordS_bd hb; omega
def flatB {α : Type} (B : α → List Int) : List α → List Int
  | [] => []
  | a :: l => B a ++ flatB B l
theorem flatB_append {α : Type} (B : α → List Int) : ∀ l k : List α, flatB B (l ++ k) = flatB B l ++ flatB B k
  | [], _ => rfl
  | a :: l, k => by rw [List.cons_append, flatB, flatB_append B l k, flatB, List.append_assoc]
theorem manyS_takes {α : Type} {f : RS → α × RS} {B : α → List Int} (h : Takes f B) : ∀ n, Takes (manyS f n) (flatB B)
  | 0 => ⟨fun s => ⟨[], rfl⟩, fun s _ he => ⟨he, by simp [manyS, flatB]⟩⟩
  | n + 1 => by
    have ih := manyS_takes h n
    refine ⟨fun s => ?_, fun s hb he => ?_⟩
    · obtain ⟨p, hp⟩ := ih.suf s
      obtain ⟨q, hq⟩ := h.suf (manyS f n s).2
      exact ⟨p ++ q, by rw [List.append_assoc]; exact hp.trans (by rw [hq]; rfl)⟩
    · have h2 := h.ok _ (ih.bt hb) he
      have h1 := ih.ok s hb h2.1
      refine ⟨h1.1, ?_⟩
      have e1 := h1.2
      rw [h2.2] at e1
      rw [e1]
      show _ = flatB B ((manyS f n s).1 ++ [(f (manyS f n s).2).1]) ++ (f (manyS f n s).2).2.l
      rw [flatB_append, List.append_assoc]
      simp [flatB]
theorem manyS_len {α : Type} (f : RS → α × RS) : ∀ n s, (manyS f n s).1.length = n
  | 0, _ => rfl
  | n + 1, s => by rw [manyS, List.length_append, manyS_len f n s]; rfl
theorem manyS_all {α : Type} {f : RS → α × RS} {B : α → List Int} (h : Takes f B) (p : α → Prop) (hp : ∀ s, BtB s.l → p (f s).1) : ∀ n s, BtB s.l → ∀ a ∈ (manyS f n s).1, p a
  | 0, _, _, a, ha => by simp [manyS] at ha
  | n + 1, s, hb, a, ha => by
    rw [manyS] at ha
    rcases List.mem_append.1 ha with ha | ha
    · exact manyS_all h p hp n s hb a ha
    · obtain rfl : a = _ := by simpa using ha
      exact hp _ ((manyS_takes h n).bt hb)
theorem flat_words : ∀ l, flatB w4 l = wsB l
  | [] => rfl
  | _ :: l => by rw [flatB, flat_words l, wsB]
theorem flat_rls : ∀ l, flatB (fun r => wsB (rlI r)) l = rlsB l
  | [] => rfl
  | _ :: l => by rw [flatB, flat_rls l, rlsB]
theorem flat_sys : ∀ l, flatB syB l = sysB l
  | [] => rfl
  | _ :: l => by rw [flatB, flat_sys l, sysB]
theorem w4_sgn {n : Int} (_h : 0 ≤ n ∧ n < 4294967296) : w4 (sgn n) = w4 n := by
  unfold sgn
  split
  · rfl
  · simp only [w4, List.cons.injEq, and_true]; omega
theorem relS_takes : Takes relS (fun r => wsB (rlI r)) := by
  refine ⟨fun s => ?_, fun s hb he => ?_⟩
  · obtain ⟨p, hp⟩ := (numS_takes 2147483647).suf s
    obtain ⟨q, hq⟩ := (numS_takes 2147483647).suf (relA s).2
    obtain ⟨r, hr⟩ := (numS_takes 2147483647).suf (relA (relA s).2).2
    obtain ⟨t, ht⟩ := wordS_takes.suf (relA (relA (relA s).2).2).2
    refine ⟨p ++ q ++ r ++ t, ?_⟩
    rw [hp, hq, hr, ht]
    simp [relS]
  · have b1 := (numS_takes 2147483647).bt hb
    have b2 := (numS_takes 2147483647).bt b1
    have b3 := (numS_takes 2147483647).bt b2
    have h4 := wordS_takes.ok _ b3 he
    have h3 := (numS_takes 2147483647).ok _ b2 h4.1
    have h2 := (numS_takes 2147483647).ok _ b1 h3.1
    have h1 := (numS_takes 2147483647).ok _ hb h2.1
    refine ⟨h1.1, ?_⟩
    simp only [relS, rlI, wsB, List.append_nil, w4_sgn (wordS_bd b3)]
    rw [List.append_assoc, List.append_assoc, List.append_assoc, ← h4.2, ← h3.2, ← h2.2]
    exact h1.2
theorem strI_strO {l : List Int} (h : BtB l) : strI (strO l) = l := by
  unfold strI strO
  simp only [List.map_map]
  conv => rhs; rw [← List.map_id l]
  refine List.map_congr_left fun b hb => ?_
  have := h b hb
  simp only [Function.comp, id]
  have h2 : (UInt8.ofNat b.toNat).toNat = b.toNat := by rw [UInt8.toNat_ofNat']; omega
  rw [h2]; omega
theorem strO_strI (s : ByteArray) : strO (strI s) = s := by
  unfold strI strO
  rw [List.map_map]
  have : s.data.toList.map ((fun b : Int => UInt8.ofNat b.toNat) ∘ fun b : UInt8 => (b.toNat : Int)) = s.data.toList := by
    conv => rhs; rw [← List.map_id s.data.toList]
    refine List.map_congr_left fun b _ => ?_
    simp
  rw [this]
theorem strO_size (l : List Int) : (strO l).size = l.length := by simp [strO, ByteArray.size]
theorem bI_dec {n : Int} (h : 0 ≤ n ∧ n ≤ 1) : bI (decide (n = 1)) = n := by
  unfold bI
  by_cases h1 : n = 1
  · rw [if_pos (by simp [h1]), h1]
  · rw [if_neg (by simp [h1])]; omega
theorem symS_takes : Takes symS syB := by
  refine ⟨fun s => ?_, fun s hb he => ?_⟩
  · obtain ⟨p, hp⟩ := (numS_takes 2147483647).suf s
    obtain ⟨q, hq⟩ := (numS_takes 2147483647).suf (relA s).2
    obtain ⟨r, hr⟩ := (numS_takes 1).suf (relA (relA s).2).2
    obtain ⟨t, ht⟩ := (numS_takes 32).suf (numS 1 (relA (relA s).2).2).2
    obtain ⟨u, hu⟩ := (takeS_takes (symT s).1.toNat).suf (symT s).2
    refine ⟨p ++ q ++ r ++ t ++ u, ?_⟩
    have ht' : (numS 1 (relA (relA s).2).2).2.l = t ++ (symT s).2.l := ht
    rw [hp, hq, hr, ht', hu]
    simp [symS]
  · have b1 := (numS_takes 2147483647).bt hb
    have b2 := (numS_takes 2147483647).bt b1
    have b3 := (numS_takes 1).bt b2
    have b4 : BtB (symT s).2.l := (numS_takes 32).bt b3
    have h5 := (takeS_takes _).ok _ b4 he
    have h4 := (numS_takes 32).ok _ b3 h5.1
    have h3 := (numS_takes 1).ok _ b2 h4.1
    have h2 := (numS_takes 2147483647).ok _ b1 h3.1
    have h1 := (numS_takes 2147483647).ok _ hb h2.1
    refine ⟨h1.1, ?_⟩
    have n3 := numS_bd (most := 1) (by omega) b2
    have n4 : 0 ≤ (symT s).1 ∧ _ := numS_bd (most := 32) (by omega) b3
    have bt := takeS_bt (n := (symT s).1.toNat) b4
    have hsz : ((strO (takeS (symT s).1.toNat (symT s).2).1).size : Int) = (symT s).1 := by rw [strO_size, takeS_len he]; omega
    simp only [symS, syB, syI, wsB, List.append_nil, strI_strO bt, hsz, bI_dec n3]
    have e5 : (symT s).2.l = (takeS (symT s).1.toNat (symT s).2).1 ++ (takeS (symT s).1.toNat (symT s).2).2.l := h5.2
    have e4 : (numS 1 (relA (relA s).2).2).2.l = w4 (symT s).1 ++ (symT s).2.l := h4.2
    rw [List.append_assoc, List.append_assoc, List.append_assoc, List.append_assoc, ← e5, ← e4, ← h3.2, ← h2.2]
    exact h1.2
/-! ### the whole -/
def sizS (b : List Int) : List Int × RS := wordsS 5 (wordS ⟨b, none⟩).2
def sz (b : List Int) (k : Nat) : Nat := ((sizS b).1.getD k 0).toNat
def pD (b : List Int) : List Int × RS := wordsS (sz b 0) (sizS b).2
def pC (b : List Int) : List Int × RS := wordsS (sz b 1) (pD b).2
def pM (b : List Int) : List Int × RS := takeS (sz b 1) (pC b).2
def pR (b : List Int) : List Rl × RS := manyS relS (sz b 2) (pM b).2
def pQ (b : List Int) : List Rl × RS := manyS relS (sz b 3) (pR b).2
def pS (b : List Int) : List Sy × RS := manyS symS (sz b 4) (pQ b).2
/-- the object that is read, whatever is wrong -/
def readO (b : List Int) : PO := ⟨(pD b).1, (pC b).1, (pM b).1, (pR b).1, (pQ b).1, (pS b).1⟩
def tooM (l : List Int) : Bool := decide (2048 < l.getD 0 0 ∨ 2048 < l.getD 1 0 ∨ 1024 < l.getD 2 0 ∨ 1024 < l.getD 3 0 ∨ 256 < l.getD 4 0)
/-- what is wrong with the rest -/
def endE (s : RS) : Option Nat := match s.e with
  | some c => some c
  | none => if s.l = [] then none else some 1
/-- what is wrong with bytes, but for what the object's own faults are -/
def readE (b : List Int) : Option Nat :=
  if b.length < 24 then some 0
  else if (wordS ⟨b, none⟩).1 ≠ 842225232 then some 1
  else if tooM (sizS b).1 = true then some 3
  else endE (pS b).2
def readF (b : List Int) : Fl := match readE b with
  | some c => some (c, none)
  | none => validP (readO b)
theorem endE_none {s : RS} (h : endE s = none) : s.e = none ∧ s.l = [] := by
  unfold endE at h
  split at h
  · cases h
  · rename_i he
    by_cases hl : s.l = []
    · exact ⟨he, hl⟩
    · rw [if_neg hl] at h; cases h
theorem oread_parts {b : List Int} (hb : BtB b) (h : readE b = none) :
    (wordS ⟨b, none⟩).1 = 842225232 ∧ tooM (sizS b).1 = false ∧ (∀ n ∈ (sizS b).1, 0 ≤ n ∧ n < 4294967296) ∧ bytesP (readO b) = b := by
  unfold readE at h
  by_cases h0 : b.length < 24
  · rw [if_pos h0] at h; cases h
  · rw [if_neg h0] at h
    by_cases h1 : (wordS ⟨b, none⟩).1 ≠ 842225232
    · rw [if_pos h1] at h; cases h
    · rw [if_neg h1] at h
      by_cases h2 : tooM (sizS b).1 = true
      · rw [if_pos h2] at h; cases h
      · rw [if_neg h2] at h
        obtain ⟨he, hl⟩ := endE_none h
        have T5 := manyS_takes wordS_takes 5
        have b0 : BtB (wordS ⟨b, none⟩).2.l := wordS_takes.bt (s := ⟨b, none⟩) hb
        have b1 : BtB (sizS b).2.l := T5.bt b0
        have b2 : BtB (pD b).2.l := (manyS_takes wordS_takes _).bt b1
        have b3 : BtB (pC b).2.l := (manyS_takes wordS_takes _).bt b2
        have b4 : BtB (pM b).2.l := (takeS_takes _).bt b3
        have b5 : BtB (pR b).2.l := (manyS_takes relS_takes _).bt b4
        have b6 : BtB (pQ b).2.l := (manyS_takes relS_takes _).bt b5
        have h8 := (manyS_takes symS_takes (sz b 4)).ok _ b6 he
        have h7 := (manyS_takes relS_takes (sz b 3)).ok _ b5 h8.1
        have h6 := (manyS_takes relS_takes (sz b 2)).ok _ b4 h7.1
        have h5 := (takeS_takes (sz b 1)).ok _ b3 h6.1
        have h4 := (manyS_takes wordS_takes (sz b 1)).ok _ b2 h5.1
        have h3 := (manyS_takes wordS_takes (sz b 0)).ok _ b1 h4.1
        have h2' := T5.ok _ b0 h3.1
        have h1' := wordS_takes.ok ⟨b, none⟩ hb h2'.1
        have hall : ∀ n ∈ (sizS b).1, 0 ≤ n ∧ n < 4294967296 := manyS_all wordS_takes _ (fun s hs => wordS_bd hs) 5 _ b0
        have hm : (wordS ⟨b, none⟩).1 = 842225232 := by omega
        refine ⟨hm, by simpa using h2, hall, ?_⟩
        have hsl : (sizS b).1.length = 5 := manyS_len wordS 5 _
        have hlens : lensI (readO b) = (sizS b).1 := by
          have hM : (pM b).1.length = sz b 1 := takeS_len h6.1
          match hx : (sizS b).1, hsl with
          | [n0, n1, n2, n3, n4], _ =>
            rw [hx] at hall
            have g0 := (hall n0 (by simp)).1
            have g1 := (hall n1 (by simp)).1
            have g2 := (hall n2 (by simp)).1
            have g3 := (hall n3 (by simp)).1
            have g4 := (hall n4 (by simp)).1
            simp only [lensI, readO, pD, pC, pR, pQ, pS, manyS_len, sz, hx, List.cons.injEq, and_true]
            simp
            omega
        rw [bytesP, hlens]
        simp only [readO]
        have e8 : (pQ b).2.l = sysB (pS b).1 := by rw [← flat_sys]; exact h8.2.trans (by show flatB syB (pS b).1 ++ (pS b).2.l = _; rw [hl, List.append_nil])
        have e7 : (pR b).2.l = rlsB (pQ b).1 ++ (pQ b).2.l := by rw [← flat_rls]; exact h7.2
        have e6 : (pM b).2.l = rlsB (pR b).1 ++ (pR b).2.l := by rw [← flat_rls]; exact h6.2
        have e5 : (pC b).2.l = (pM b).1 ++ (pM b).2.l := h5.2
        have e4 : (pD b).2.l = wsB (pC b).1 ++ (pC b).2.l := by rw [← flat_words]; exact h4.2
        have e3 : (sizS b).2.l = wsB (pD b).1 ++ (pD b).2.l := by rw [← flat_words]; exact h3.2
        have e2 : (wordS ⟨b, none⟩).2.l = wsB (sizS b).1 ++ (sizS b).2.l := by rw [← flat_words]; exact h2'.2
        have e1 : b = w4 842225232 ++ (wordS ⟨b, none⟩).2.l := by rw [← hm]; exact h1'.2
        have w1 : wsB [842225232] = w4 842225232 := by simp [wsB]
        rw [w1]
        simp only [List.append_assoc]
        rw [← e8, ← e7, ← e6, ← e5, ← e4, ← e3, ← e2]
        exact e1.symm
theorem oread_fit {b : List Int} (hb : BtB b) (h : readE b = none) : OFit (readO b) := by
  obtain ⟨_, h2, hall, _⟩ := oread_parts hb h
  have b0 : BtB (wordS ⟨b, none⟩).2.l := wordS_takes.bt (s := ⟨b, none⟩) hb
  have b1 : BtB (sizS b).2.l := (manyS_takes wordS_takes 5).bt b0
  have b2 : BtB (pD b).2.l := (manyS_takes wordS_takes _).bt b1
  have b3 : BtB (pC b).2.l := (manyS_takes wordS_takes _).bt b2
  have h2 := of_decide_eq_false h2
  have hsl : (sizS b).1.length = 5 := manyS_len wordS 5 _
  refine ⟨manyS_all wordS_takes _ (fun s hs => wordS_bd hs) _ _ b1, manyS_all wordS_takes _ (fun s hs => wordS_bd hs) _ _ b2, takeS_bt b3, ?_⟩
  have hM : (pM b).1.length ≤ sz b 1 := by rcases takeS_len2 (sz b 1) (pC b).2 with h | h <;> (show (takeS _ _).1.length ≤ _) <;> rw [h] <;> simp
  simp only [readO, pD, pC, pR, pQ, pS, manyS_len]
  simp only [sz] at hM ⊢
  unfold maxLen
  omega
/-! ### forth -/
theorem manyS_cons {α : Type} (f : RS → α × RS) : ∀ n s, manyS f (n + 1) s = ((f s).1 :: (manyS f n (f s).2).1, (manyS f n (f s).2).2)
  | 0, s => rfl
  | n + 1, s => by
    have ih := manyS_cons f n s
    rw [manyS, ih]
    rfl
theorem takeS_app (a t : List Int) : takeS a.length ⟨a ++ t, none⟩ = (a, ⟨t, none⟩) := by
  unfold takeS
  rw [if_pos rfl, if_neg (by simp), List.take_left, List.drop_left]
theorem takeS_app' {a t : List Int} {n : Nat} (h : a.length = n) : takeS n ⟨a ++ t, none⟩ = (a, ⟨t, none⟩) := by subst h; exact takeS_app a t
theorem wordS_app {n : Int} (h : 0 ≤ n ∧ n < 4294967296) (t : List Int) : wordS ⟨w4 n ++ t, none⟩ = (n, ⟨t, none⟩) := by
  unfold wordS
  rw [takeS_app' (by rfl)]
  simp only [w4, leW, Prod.mk.injEq, and_true]
  omega
theorem wordS_app' (n : Int) (t : List Int) : wordS ⟨w4 n ++ t, none⟩ = (n % 4294967296, ⟨t, none⟩) := by
  unfold wordS
  rw [takeS_app' (by rfl)]
  simp only [w4, leW, Prod.mk.injEq, and_true]
  omega
theorem numS_app {n most : Int} (h : 0 ≤ n ∧ n ≤ most) (hm : most < 4294967296) (t : List Int) : numS most ⟨w4 n ++ t, none⟩ = (n, ⟨t, none⟩) := by
  unfold numS
  rw [wordS_app ⟨h.1, by omega⟩, if_neg (by simp only; omega)]
theorem manyS_app {α : Type} {f : RS → α × RS} {B : α → List Int} {p : α → Prop} (h : ∀ a t, p a → f ⟨B a ++ t, none⟩ = (a, ⟨t, none⟩)) : ∀ (l : List α) (t : List Int), (∀ a ∈ l, p a) → manyS f l.length ⟨flatB B l ++ t, none⟩ = (l, ⟨t, none⟩)
  | [], t, _ => rfl
  | a :: l, t, hp => by
    rw [List.length_cons, manyS_cons, flatB, List.append_assoc, h a _ (hp a (by simp)), manyS_app h l t (fun b hb => hp b (by simp [hb]))]
theorem manyS_app' {α : Type} {f : RS → α × RS} {B : α → List Int} {p : α → Prop} (h : ∀ a t, p a → f ⟨B a ++ t, none⟩ = (a, ⟨t, none⟩)) {l : List α} {n : Nat} (hn : l.length = n) (t : List Int) (hp : ∀ a ∈ l, p a) : manyS f n ⟨flatB B l ++ t, none⟩ = (l, ⟨t, none⟩) := by
  subst hn; exact manyS_app h l t hp
def RlOk (r : Rl) : Prop := (0 ≤ r.a ∧ r.a ≤ 2147483647) ∧ (0 ≤ r.k ∧ r.k ≤ 2147483647) ∧ (0 ≤ r.s ∧ r.s ≤ 2147483647) ∧ (-2147483648 ≤ r.d ∧ r.d ≤ 2147483647)
theorem relS_app (r : Rl) (t : List Int) (h : RlOk r) : relS ⟨wsB (rlI r) ++ t, none⟩ = (r, ⟨t, none⟩) := by
  obtain ⟨ha, hk, hs, hd⟩ := h
  simp only [rlI, wsB, List.append_nil, List.append_assoc, relS, relA]
  rw [numS_app ha (by omega), numS_app hk (by omega), numS_app hs (by omega), wordS_app']
  have : sgn (r.d % 4294967296) = r.d := by unfold sgn; split <;> omega
  rw [this]
def SyOk (s : Sy) : Prop := (0 ≤ s.i ∧ s.i ≤ 2147483647) ∧ (0 ≤ s.v ∧ s.v ≤ 2147483647) ∧ s.n.size ≤ 32
theorem symS_app (s : Sy) (t : List Int) (h : SyOk s) : symS ⟨syB s ++ t, none⟩ = (s, ⟨t, none⟩) := by
  obtain ⟨hi, hv, hn⟩ := h
  have hg : 0 ≤ bI s.g ∧ bI s.g ≤ 1 := by unfold bI; split <;> omega
  simp only [syB, syI, wsB, List.append_nil, List.append_assoc, symS, symT, relA]
  rw [numS_app hi (by omega), numS_app hv (by omega), numS_app hg (by omega), numS_app (by omega) (by omega), takeS_app' (by rw [strI_length]; simp)]
  rw [strO_strI]
  have : decide (bI s.g = 1) = s.g := by unfold bI; cases s.g <;> simp
  rw [this]
theorem rl_in {x : PO} {l : List Rl} {n : Int} {k : Nat} (h : inB x l k n = true) (hn : n ≤ 2048) (hs : x.S.length ≤ 256) : 0 ≤ (rlN l k).a ∧ (rlN l k).a ≤ 2147483647 ∧ 0 ≤ (rlN l k).s ∧ (rlN l k).s ≤ 2147483647 ∧ -2147483648 ≤ (rlN l k).d ∧ (rlN l k).d ≤ 2147483647 := by
  have := of_decide_eq_true h
  omega
theorem rl_get {l : List Rl} {k : Nat} (hk : k < l.length) : rlN l k = l[k] := by unfold rlN; rw [List.getD_eq_getElem?_getD, List.getElem?_eq_getElem hk]; rfl
theorem drels_ok {x : PO} (h : OkP x) : ∀ r ∈ x.R, RlOk r := by
  intro r hr
  have hm := many_of h
  obtain ⟨k, hk, he⟩ := List.getElem_of_mem hr
  have h1 := h.dat k hk
  unfold dataF at h1
  split at h1
  · cases h1
  · rename_i hc
    rw [not_or] at hc
    have h2 := rl_in (by simpa using hc.1) (by omega) (by omega)
    rw [rl_get hk, he] at h2 hc
    unfold RlOk
    have := hc.2
    omega
theorem crels_ok {x : PO} (h : OkP x) : ∀ r ∈ x.Q, RlOk r := by
  intro r hr
  have hm := many_of h
  obtain ⟨k, hk, he⟩ := List.getElem_of_mem hr
  have h1 := h.cod k hk
  unfold codeF at h1
  split at h1
  · cases h1
  · rename_i hc
    rw [not_or] at hc
    have h2 := rl_in (by simpa using hc.1) (by omega) (by omega)
    rw [rl_get hk, he] at h2 hc
    unfold RlOk
    have := hc.2
    omega
theorem syms_ok {x : PO} (h : OkP x) : ∀ s ∈ x.S, SyOk s := by
  intro s hs
  have hm := many_of h
  have hn := names_of h s hs
  obtain ⟨k, hk, he⟩ := List.getElem_of_mem hs
  have h1 := h.sym k hk
  have hsn : symN x k = s := by unfold symN; rw [List.getD_eq_getElem?_getD, List.getElem?_eq_getElem hk, he]; rfl
  unfold symF at h1
  rw [hsn] at h1
  split at h1
  · cases h1
  · split at h1
    · cases h1
    · split at h1
      · rename_i hst
        unfold standsB at hst
        split at hst
        · have := of_decide_eq_true hst; unfold SyOk; omega
        · split at hst
          · have := of_decide_eq_true hst; unfold SyOk; omega
          · split at hst
            · have := of_decide_eq_true hst; unfold SyOk; omega
            · cases hst
      · cases h1
theorem obytes_read {x : PO} (h : OkP x) (hf : OFit x) (t : List Int) : readO (bytesP x ++ t) = x ∧ readE (bytesP x ++ t) = if t = [] then none else some 1 := by
  have hm := many_of h
  obtain ⟨b, hb⟩ : ∃ b, bytesP x ++ t = b := ⟨_, rfl⟩
  rw [hb]
  have hw : ∀ (l : List Int) (n : Nat) (t : List Int), l.length = n → (∀ a ∈ l, 0 ≤ a ∧ a < 4294967296) → wordsS n ⟨wsB l ++ t, none⟩ = (l, ⟨t, none⟩) := fun l n t hn hl => by
    rw [← flat_words]; exact manyS_app' (fun a t ha => wordS_app ha t) hn t hl
  have e0 : b = w4 842225232 ++ (wsB (lensI x) ++ (wsB x.D ++ (wsB x.C ++ (x.M ++ (rlsB x.R ++ (rlsB x.Q ++ (sysB x.S ++ t))))))) := by
    rw [← hb, bytesP, show wsB [842225232] = w4 842225232 by simp [wsB]]
    simp only [List.append_assoc]
  have e1 : wordS ⟨b, none⟩ = (842225232, ⟨wsB (lensI x) ++ (wsB x.D ++ (wsB x.C ++ (x.M ++ (rlsB x.R ++ (rlsB x.Q ++ (sysB x.S ++ t)))))), none⟩) := by
    rw [e0]; exact wordS_app (by omega) _
  have e2 : sizS b = (lensI x, ⟨wsB x.D ++ (wsB x.C ++ (x.M ++ (rlsB x.R ++ (rlsB x.Q ++ (sysB x.S ++ t))))), none⟩) := by
    unfold sizS
    rw [e1]
    refine hw _ 5 _ rfl (fun a ha => ?_)
    simp only [lensI, List.mem_cons, List.not_mem_nil, or_false] at ha
    omega
  have z0 : sz b 0 = x.D.length := by unfold sz; rw [e2]; simp [lensI]
  have z1 : sz b 1 = x.C.length := by unfold sz; rw [e2]; simp [lensI]
  have z2 : sz b 2 = x.R.length := by unfold sz; rw [e2]; simp [lensI]
  have z3 : sz b 3 = x.Q.length := by unfold sz; rw [e2]; simp [lensI]
  have z4 : sz b 4 = x.S.length := by unfold sz; rw [e2]; simp [lensI]
  have e3 : pD b = (x.D, ⟨wsB x.C ++ (x.M ++ (rlsB x.R ++ (rlsB x.Q ++ (sysB x.S ++ t)))), none⟩) := by
    unfold pD; rw [e2, z0]; exact hw _ _ _ rfl hf.d
  have e4 : pC b = (x.C, ⟨x.M ++ (rlsB x.R ++ (rlsB x.Q ++ (sysB x.S ++ t))), none⟩) := by
    unfold pC; rw [e3, z1]; exact hw _ _ _ rfl hf.c
  have e5 : pM b = (x.M, ⟨rlsB x.R ++ (rlsB x.Q ++ (sysB x.S ++ t)), none⟩) := by
    unfold pM; rw [e4, z1]; exact takeS_app' h.len
  have e6 : pR b = (x.R, ⟨rlsB x.Q ++ (sysB x.S ++ t), none⟩) := by
    unfold pR; rw [e5, z2, ← flat_rls]; exact manyS_app (fun a t ha => relS_app a t ha) _ _ (drels_ok h)
  have e7 : pQ b = (x.Q, ⟨sysB x.S ++ t, none⟩) := by
    unfold pQ; rw [e6, z3, ← flat_rls x.Q]; exact manyS_app (fun a t ha => relS_app a t ha) _ _ (crels_ok h)
  have e8 : pS b = (x.S, ⟨t, none⟩) := by
    unfold pS; rw [e7, z4, ← flat_sys]; exact manyS_app (fun a t ha => symS_app a t ha) _ _ (syms_ok h)
  constructor
  · unfold readO; rw [e3, e4, e5, e6, e7, e8]
  · unfold readE
    rw [if_neg (by rw [e0]; simp only [List.length_append, wsB_length, lensI]; simp [w4]; omega), e1, if_neg (by simp), e2, if_neg (by
      have := h.many
      unfold manyB at this
      have := of_decide_eq_false this
      simp [tooM, lensI]
      omega), e8]
    rfl
theorem valid_none {x : PO} (h : OkP x) : validP x = none := by
  unfold validP
  rw [if_neg (by rw [h.many]; simp), if_neg (by simp [h.len]), scanF_none h.word, scanF_none h.sym, scanF_none h.dat, scanF_none h.cod, scanF_none h.unr]
/-- its bytes are it -/
theorem oread_whole {x : PO} (h : OkP x) (hf : OFit x) : readO (bytesP x) = x ∧ readF (bytesP x) = none := by
  have := obytes_read h hf []
  rw [List.append_nil, if_pos rfl] at this
  exact ⟨this.1, by unfold readF; rw [this.2]; simp only; rw [this.1]; exact valid_none h⟩
/-- longer ones are not -/
theorem oread_longer {x : PO} (h : OkP x) (hf : OFit x) (t : List Int) (ht : t ≠ []) : readF (bytesP x ++ t) = some (1, none) := by
  have := obytes_read h hf t
  rw [if_neg ht] at this
  unfold readF
  rw [this.2]
theorem oread_yes {b : List Int} (hb : BtB b) (h : readF b = none) : OkP (readO b) ∧ OFit (readO b) ∧ bytesP (readO b) = b := by
  unfold readF at h
  cases he : readE b with
  | some c => rw [he] at h; cases h
  | none =>
    rw [he] at h
    exact ⟨valid_ok h, oread_fit hb he, (oread_parts hb he).2.2.2⟩
/-- nor are shorter ones -/
theorem oread_cut {x : PO} (h : OkP x) (hf : OFit x) (hb : BtB (bytesP x)) (k : Nat) (hk : k < (bytesP x).length) : readF ((bytesP x).take k) ≠ none := by
  intro hc
  obtain ⟨h1, h2, h3⟩ := oread_yes (fun b hx => hb b (List.mem_of_mem_take hx)) hc
  have h4 := obytes_read h1 h2 ((bytesP x).drop k)
  rw [h3, List.take_append_drop, if_neg (by rw [List.drop_eq_nil_iff]; omega)] at h4
  have h5 := oread_whole h hf
  have h6 := (obytes_read h hf []).2
  rw [List.append_nil, if_pos rfl] at h6
  rw [h6] at h4
  cases h4.2
/-- other bytes are no such object -/
theorem oread_other {x : PO} {b : List Int} (hb : BtB b) (h : readF b = none) (hne : b ≠ bytesP x) : readO b ≠ x := by
  intro he
  obtain ⟨_, _, h3⟩ := oread_yes hb h
  rw [he] at h3
  exact hne h3.symm
/-- what may be wrong with bytes -/
theorem oread_code {b : List Int} {c : Nat} {p : Option Nat} (h : readF b = some (c, p)) : c = 0 ∨ c = 1 ∨ c = 2 ∨ c = 3 ∨ c = 4 ∨ c = 5 ∨ c = 6 ∨ c = 8 := by
  have one : ∀ (s : RS) (c : Nat), s.e = some c → True := fun _ _ _ => trivial
  unfold readF at h
  cases he : readE b with
  | none =>
    rw [he] at h
    have := code_of h
    omega
  | some d =>
    rw [he] at h
    obtain ⟨rfl, rfl⟩ : d = c ∧ none = p := by simpa using h
    have key : ∀ {α : Type} {f : RS → α × RS}, (∀ s c, (f s).2.e = some c → s.e = some c ∨ c = 0 ∨ c = 2) → ∀ n s c, (manyS f n s).2.e = some c → s.e = some c ∨ c = 0 ∨ c = 2 := by
      intro α f hf n
      induction n with
      | zero => intro s c h; exact .inl h
      | succ n ih =>
        intro s c h
        rcases hf _ c h with h1 | h1
        · exact ih s c h1
        · exact .inr h1
    have kt : ∀ n s c, (takeS n s).2.e = some c → s.e = some c ∨ c = 0 ∨ c = 2 := by
      intro n s c h
      unfold takeS at h
      split at h
      · split at h
        · right; left; simpa using h.symm
        · cases h
      · exact .inl h
    have kw : ∀ s c, (wordS s).2.e = some c → s.e = some c ∨ c = 0 ∨ c = 2 := fun s c h => kt 4 s c h
    have kn : ∀ m s c, (numS m s).2.e = some c → s.e = some c ∨ c = 0 ∨ c = 2 := by
      intro m s c h
      unfold numS at h
      split at h
      · right; right; simpa using h.symm
      · exact kw s c h
    have kr : ∀ s c, (relS s).2.e = some c → s.e = some c ∨ c = 0 ∨ c = 2 := by
      intro s c h
      rcases kw _ c h with h | h
      · rcases kn _ _ c h with h | h
        · rcases kn _ _ c h with h | h
          · exact kn _ _ c h
          · exact .inr h
        · exact .inr h
      · exact .inr h
    have ks : ∀ s c, (symS s).2.e = some c → s.e = some c ∨ c = 0 ∨ c = 2 := by
      intro s c h
      rcases kt _ _ c h with h | h
      · rcases kn _ _ c h with h | h
        · rcases kn _ _ c h with h | h
          · rcases kn _ _ c h with h | h
            · exact kn _ _ c h
            · exact .inr h
          · exact .inr h
        · exact .inr h
      · exact .inr h
    unfold readE at he
    split at he
    · simp at he; omega
    · split at he
      · simp at he; omega
      · split at he
        · simp at he; omega
        · unfold endE at he
          split at he
          · rename_i c' hc'
            obtain rfl : c' = d := by simpa using he
            have h1 := key ks _ _ _ hc'
            have h2 : (pQ b).2.e = some c' ∨ c' = 0 ∨ c' = 2 := h1
            rcases h2 with h2 | h2
            · have h3 : (pR b).2.e = some c' ∨ c' = 0 ∨ c' = 2 := key kr _ _ _ h2
              rcases h3 with h3 | h3
              · have h4 : (pM b).2.e = some c' ∨ c' = 0 ∨ c' = 2 := key kr _ _ _ h3
                rcases h4 with h4 | h4
                · have h5 : (pC b).2.e = some c' ∨ c' = 0 ∨ c' = 2 := kt _ _ _ h4
                  rcases h5 with h5 | h5
                  · have h6 : (pD b).2.e = some c' ∨ c' = 0 ∨ c' = 2 := key kw _ _ _ h5
                    rcases h6 with h6 | h6
                    · have h7 : (sizS b).2.e = some c' ∨ c' = 0 ∨ c' = 2 := key kw _ _ _ h6
                      rcases h7 with h7 | h7
                      · have h8 : (wordS ⟨b, none⟩).2.e = some c' ∨ c' = 0 ∨ c' = 2 := key kw _ _ _ h7
                        rcases h8 with h8 | h8
                        · rcases kw _ _ h8 with h9 | h9
                          · cases h9
                          · omega
                        · omega
                      · omega
                    · omega
                  · omega
                · omega
              · omega
            · omega
          · split at he
            · cases he
            · simp at he; omega
end Go.Proofs.YtbjijddpdefhpaaDoor

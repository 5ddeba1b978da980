/- What bytes are an object, as plain data: read word by word; back and forth. -/
import Derived.Test.YtgahbpfmiibpeaaGreatDoorZGObjA
import Derived.Test.YtgahbpfmiibpeaaGreatDoorZObj13
import Derived.Test.YtgahbpfmiibpeaaGreatDoorZGErr
import Derived.Test.YtgahbpfmiibpeaaGreatDoorZGMem
import Derived.Laws.BytesArg
import Derived.Test.YtgahbpfmiibpeaaGreatDoorZObjH
import Derived.Laws.Rows
import Derived.Test.YtgahbpfmiibpeaaGreatDoorZGByt
import Derived.Deep.RegionHeld3
import Derived.Laws.MakeOwn
namespace Go.Proofs.YtgahbpfmiibpeaaGreatDoor
/-- what is left, and what was wrong first -/
structure RS where
  l : List Int
  e : Option Nat
deriving DecidableEq
def takeS (n : Nat) (s : RS) : List Int × RS :=
  if s.e = none then (if s.l.length < n then ([], ⟨s.l, some 0⟩) else (s.l.take n, ⟨s.l.drop n, none⟩)) else ([], s)
def leW : List Int → Int
  | [] => 0
  | b :: l => b + 256 * leW l
def wordS (s : RS) : Int × RS := (leW (takeS 4 s).1, (takeS 4 s).2)
def numS (most : Int) (s : RS) : Int × RS := if most < (wordS s).1 then (0, ⟨(wordS s).2.l, some 2⟩) else wordS s
def manyS {α : Type} (f : RS → α × RS) : Nat → RS → List α × RS
  | 0, s => ([], s)
  | n + 1, s => ((manyS f n s).1 ++ [(f (manyS f n s).2).1], (f (manyS f n s).2).2)
abbrev wordsS (n : Nat) (s : RS) := manyS wordS n s
def sgn (w : Int) : Int := if w < 2147483648 then w else w - 4294967296
abbrev relA (s : RS) : Int × RS := numS 2147483647 s
def relS (s : RS) : Rl × RS :=
  (⟨(relA s).1, (relA (relA s).2).1, (relA (relA (relA s).2).2).1, sgn (wordS (relA (relA (relA s).2).2).2).1⟩, (wordS (relA (relA (relA s).2).2).2).2)
def strO (l : List Int) : ByteArray := ⟨(l.map fun b => UInt8.ofNat b.toNat).toArray⟩
def symT (s : RS) : Int × RS := numS 32 (numS 1 (relA (relA s).2).2).2
def symS (s : RS) : Sy × RS :=
  (⟨strO (takeS (symT s).1.toNat (symT s).2).1, (relA s).1, (relA (relA s).2).1, decide ((numS 1 (relA (relA s).2).2).1 = 1)⟩, (takeS (symT s).1.toNat (symT s).2).2)
abbrev BtB (l : List Int) : Prop := ∀ b ∈ l, 0 ≤ b ∧ b < 256
/-! ### an error stays -/
/-- f takes bytes from the front: where nothing is wrong behind it nothing was ahead, and what it took is what it says -/
structure Takes {α : Type} (f : RS → α × RS) (B : α → List Int) : Prop where
  suf : ∀ s, ∃ p, s.l = p ++ (f s).2.l
  ok : ∀ s, BtB s.l → (f s).2.e = none → s.e = none ∧ s.l = B (f s).1 ++ (f s).2.l
theorem Takes.bt {α : Type} {f : RS → α × RS} {B : α → List Int} (h : Takes f B) {s : RS} (hb : BtB s.l) : BtB (f s).2.l := by
  intro b hm
  obtain ⟨p, hp⟩ := h.suf s
  exact hb b (by rw [hp]; exact List.mem_append_right _ hm)
theorem takeS_takes (n : Nat) : Takes (takeS n) id := by
  refine ⟨fun s => ?_, fun s _ he => ?_⟩
  · unfold takeS
    split
    · split
      · exact ⟨[], rfl⟩
      · exact ⟨s.l.take n, (List.take_append_drop n s.l).symm⟩
    · exact ⟨[], rfl⟩
  · unfold takeS at he ⊢
    by_cases h : s.e = none
    · rw [if_pos h] at he ⊢
      by_cases hl : s.l.length < n
      · rw [if_pos hl] at he; cases he
      · rw [if_neg hl]
        exact ⟨h, (List.take_append_drop n s.l).symm⟩
    · rw [if_neg h] at he; exact absurd he h
theorem takeS_len {n : Nat} {s : RS} (he : (takeS n s).2.e = none) : (takeS n s).1.length = n := by
  unfold takeS at he ⊢
  by_cases h : s.e = none
  · rw [if_pos h] at he ⊢
    by_cases hl : s.l.length < n
    · rw [if_pos hl] at he; cases he
    · rw [if_neg hl, List.length_take]; omega
  · rw [if_neg h] at he; exact absurd he h
theorem takeS_bt {n : Nat} {s : RS} (hb : BtB s.l) : BtB (takeS n s).1 := by
  unfold takeS
  split
  · split
    · intro b hx; cases hx
    · exact fun b hx => hb b (List.mem_of_mem_take hx)
  · intro b hx; cases hx
theorem takeS_len2 (n : Nat) (s : RS) : (takeS n s).1 = [] ∨ (takeS n s).1.length = n := by
  unfold takeS
  split
  · split
    · exact .inl rfl
    · right; rw [List.length_take]; omega
  · exact .inl rfl
theorem leW_w4 {a b c d : Int} (ha : 0 ≤ a ∧ a < 256) (hb : 0 ≤ b ∧ b < 256) (hc : 0 ≤ c ∧ c < 256) (hd : 0 ≤ d ∧ d < 256) : w4 (leW [a, b, c, d]) = [a, b, c, d] := by
  simp only [w4, leW, List.cons.injEq, and_true]
  omega
theorem wordS_takes : Takes wordS w4 := by
  refine ⟨(takeS_takes 4).suf, fun s hb he => ?_⟩
  have h1 := (takeS_takes 4).ok s hb he
  have h2 := takeS_len he
  have hm := takeS_bt (n := 4) hb
  refine ⟨h1.1, ?_⟩
  have h3 : s.l = (takeS 4 s).1 ++ (takeS 4 s).2.l := h1.2
  show s.l = w4 (leW (takeS 4 s).1) ++ (takeS 4 s).2.l
  match hx : (takeS 4 s).1, h2 with
  | [a, b, c, d], _ =>
    rw [hx] at hm h3
    rw [leW_w4 (hm a (by simp)) (hm b (by simp)) (hm c (by simp)) (hm d (by simp))]
    exact h3
theorem wordS_bd {s : RS} (hb : BtB s.l) : 0 ≤ (wordS s).1 ∧ (wordS s).1 < 4294967296 := by
  have hm := takeS_bt (n := 4) hb
  show 0 ≤ leW (takeS 4 s).1 ∧ leW (takeS 4 s).1 < 4294967296
  rcases takeS_len2 4 s with h | h
  · rw [h]; simp [leW]
  · match hx : (takeS 4 s).1, h with
    | [a, b, c, d], _ =>
      rw [hx] at hm
      have h1 := hm a (by simp)
      have h2 := hm b (by simp)
      have h3 := hm c (by simp)
      have h4 := hm d (by simp)
      simp only [leW]
      omega
theorem numS_takes (most : Int) : Takes (numS most) w4 := by
  refine ⟨fun s => ?_, fun s hb he => ?_⟩
  · unfold numS
    split
    · exact wordS_takes.suf s
    · exact wordS_takes.suf s
  · unfold numS at he ⊢
    by_cases h : most < (wordS s).1
    · rw [if_pos h] at he; cases he
    · rw [if_neg h] at he ⊢; exact wordS_takes.ok s hb he
theorem numS_bd {most : Int} {s : RS} (hm : 0 ≤ most) (hb : BtB s.l) : 0 ≤ (numS most s).1 ∧ (numS most s).1 ≤ most := by
  unfold numS
  split
  · exact ⟨by simp, hm⟩
  · have := wordS_bd hb; omega
def flatB {α : Type} (B : α → List Int) : List α → List Int
  | [] => []
  | a :: l => B a ++ flatB B l
theorem flatB_append {α : Type} (B : α → List Int) : ∀ l k : List α, flatB B (l ++ k) = flatB B l ++ flatB B k
  | [], _ => rfl
  | a :: l, k => by rw [List.cons_append, flatB, flatB_append B l k, flatB, List.append_assoc]
theorem manyS_takes {α : Type} {f : RS → α × RS} {B : α → List Int} (h : Takes f B) : ∀ n, Takes (manyS f n) (flatB B)
  | 0 => ⟨fun s => ⟨[], rfl⟩, fun s _ he => ⟨he, by simp [manyS, flatB]⟩⟩
  | n + 1 => by
    have ih := manyS_takes h n
    refine ⟨fun s => ?_, fun s hb he => ?_⟩
    · obtain ⟨p, hp⟩ := ih.suf s
      obtain ⟨q, hq⟩ := h.suf (manyS f n s).2
      exact ⟨p ++ q, by rw [List.append_assoc]; exact hp.trans (by rw [hq]; rfl)⟩
    · have h2 := h.ok _ (ih.bt hb) he
      have h1 := ih.ok s hb h2.1
      refine ⟨h1.1, ?_⟩
      have e1 := h1.2
      rw [h2.2] at e1
      rw [e1]
      show _ = flatB B ((manyS f n s).1 ++ [(f (manyS f n s).2).1]) ++ (f (manyS f n s).2).2.l
      rw [flatB_append, List.append_assoc]
      simp [flatB]
theorem manyS_len {α : Type} (f : RS → α × RS) : ∀ n s, (manyS f n s).1.length = n
  | 0, _ => rfl
  | n + 1, s => by rw [manyS, List.length_append, manyS_len f n s]; rfl
theorem manyS_all {α : Type} {f : RS → α × RS} {B : α → List Int} (h : Takes f B) (p : α → Prop) (hp : ∀ s, BtB s.l → p (f s).1) : ∀ n s, BtB s.l → ∀ a ∈ (manyS f n s).1, p a
  | 0, _, _, a, ha => by simp [manyS] at ha
  | n + 1, s, hb, a, ha => by
    rw [manyS] at ha
    rcases List.mem_append.1 ha with ha | ha
    · exact manyS_all h p hp n s hb a ha
    · obtain rfl : a = _ := by simpa using ha
      exact hp _ ((manyS_takes h n).bt hb)
theorem flat_words : ∀ l, flatB w4 l = wsB l
  | [] => rfl
  | _ :: l => by rw [flatB, flat_words l, wsB]
theorem flat_rls : ∀ l, flatB (fun r => wsB (rlI r)) l = rlsB l
  | [] => rfl
  | _ :: l => by rw [flatB, flat_rls l, rlsB]
theorem flat_sys : ∀ l, flatB syB l = sysB l
  | [] => rfl
  | _ :: l => by rw [flatB, flat_sys l, sysB]
theorem w4_sgn {n : Int} (_h : 0 ≤ n ∧ n < 4294967296) : w4 (sgn n) = w4 n := by
  unfold sgn
  split
  · rfl
  · simp only [w4, List.cons.injEq, and_true]; omega
theorem relS_takes : Takes relS (fun r => wsB (rlI r)) := by
  refine ⟨fun s => ?_, fun s hb he => ?_⟩
  · obtain ⟨p, hp⟩ := (numS_takes 2147483647).suf s
    obtain ⟨q, hq⟩ := (numS_takes 2147483647).suf (relA s).2
    obtain ⟨r, hr⟩ := (numS_takes 2147483647).suf (relA (relA s).2).2
    obtain ⟨t, ht⟩ := wordS_takes.suf (relA (relA (relA s).2).2).2
    refine ⟨p ++ q ++ r ++ t, ?_⟩
    rw [hp, hq, hr, ht]
    simp [relS]
  · have b1 := (numS_takes 2147483647).bt hb
    have b2 := (numS_takes 2147483647).bt b1
    have b3 := (numS_takes 2147483647).bt b2
    have h4 := wordS_takes.ok _ b3 he
    have h3 := (numS_takes 2147483647).ok _ b2 h4.1
    have h2 := (numS_takes 2147483647).ok _ b1 h3.1
    have h1 := (numS_takes 2147483647).ok _ hb h2.1
    refine ⟨h1.1, ?_⟩
    simp only [relS, rlI, wsB, List.append_nil, w4_sgn (wordS_bd b3)]
    rw [List.append_assoc, List.append_assoc, List.append_assoc, ← h4.2, ← h3.2, ← h2.2]
    exact h1.2
theorem strI_strO {l : List Int} (h : BtB l) : strI (strO l) = l := by
  unfold strI strO
  simp only [List.map_map]
  conv => rhs; rw [← List.map_id l]
  refine List.map_congr_left fun b hb => ?_
  have := h b hb
  simp only [Function.comp, id]
  have h2 : (UInt8.ofNat b.toNat).toNat = b.toNat := by rw [UInt8.toNat_ofNat']; omega
  rw [h2]; omega
theorem strO_strI (s : ByteArray) : strO (strI s) = s := by
  unfold strI strO
  rw [List.map_map]
  have : s.data.toList.map ((fun b : Int => UInt8.ofNat b.toNat) ∘ fun b : UInt8 => (b.toNat : Int)) = s.data.toList := by
    conv => rhs; rw [← List.map_id s.data.toList]
    refine List.map_congr_left fun b _ => ?_
    simp
  rw [this]
theorem strO_size (l : List Int) : (strO l).size = l.length := by simp [strO, ByteArray.size]
theorem bI_dec {n : Int} (h : 0 ≤ n ∧ n ≤ 1) : bI (decide (n = 1)) = n := by
  unfold bI
  by_cases h1 : n = 1
  · rw [if_pos (by simp [h1]), h1]
  · rw [if_neg (by simp [h1])]; omega
theorem symS_takes : Takes symS syB := by
  refine ⟨fun s => ?_, fun s hb he => ?_⟩
  · obtain ⟨p, hp⟩ := (numS_takes 2147483647).suf s
    obtain ⟨q, hq⟩ := (numS_takes 2147483647).suf (relA s).2
    obtain ⟨r, hr⟩ := (numS_takes 1).suf (relA (relA s).2).2
    obtain ⟨t, ht⟩ := (numS_takes 32).suf (numS 1 (relA (relA s).2).2).2
    obtain ⟨u, hu⟩ := (takeS_takes (symT s).1.toNat).suf (symT s).2
    refine ⟨p ++ q ++ r ++ t ++ u, ?_⟩
    have ht' : (numS 1 (relA (relA s).2).2).2.l = t ++ (symT s).2.l := ht
    rw [hp, hq, hr, ht', hu]
    simp [symS]
  · have b1 := (numS_takes 2147483647).bt hb
    have b2 := (numS_takes 2147483647).bt b1
    have b3 := (numS_takes 1).bt b2
    have b4 : BtB (symT s).2.l := (numS_takes 32).bt b3
    have h5 := (takeS_takes _).ok _ b4 he
    have h4 := (numS_takes 32).ok _ b3 h5.1
    have h3 := (numS_takes 1).ok _ b2 h4.1
    have h2 := (numS_takes 2147483647).ok _ b1 h3.1
    have h1 := (numS_takes 2147483647).ok _ hb h2.1
    refine ⟨h1.1, ?_⟩
    have n3 := numS_bd (most := 1) (by omega) b2
    have n4 : 0 ≤ (symT s).1 ∧ _ := numS_bd (most := 32) (by omega) b3
    have bt := takeS_bt (n := (symT s).1.toNat) b4
    have hsz : ((strO (takeS (symT s).1.toNat (symT s).2).1).size : Int) = (symT s).1 := by rw [strO_size, takeS_len he]; omega
    simp only [symS, syB, syI, wsB, List.append_nil, strI_strO bt, hsz, bI_dec n3]
    have e5 : (symT s).2.l = (takeS (symT s).1.toNat (symT s).2).1 ++ (takeS (symT s).1.toNat (symT s).2).2.l := h5.2
    have e4 : (numS 1 (relA (relA s).2).2).2.l = w4 (symT s).1 ++ (symT s).2.l := h4.2
    rw [List.append_assoc, List.append_assoc, List.append_assoc, List.append_assoc, ← e5, ← e4, ← h3.2, ← h2.2]
    exact h1.2
/-! ### the whole -/
def sizS (b : List Int) : List Int × RS := wordsS 5 (wordS ⟨b, none⟩).2
def sz (b : List Int) (k : Nat) : Nat := ((sizS b).1.getD k 0).toNat
def pD (b : List Int) : List Int × RS := wordsS (sz b 0) (sizS b).2
def pC (b : List Int) : List Int × RS := wordsS (sz b 1) (pD b).2
def pM (b : List Int) : List Int × RS := takeS (sz b 1) (pC b).2
def pR (b : List Int) : List Rl × RS := manyS relS (sz b 2) (pM b).2
def pQ (b : List Int) : List Rl × RS := manyS relS (sz b 3) (pR b).2
def pS (b : List Int) : List Sy × RS := manyS symS (sz b 4) (pQ b).2
/-- the object that is read, whatever is wrong -/
def readO (b : List Int) : PO := ⟨(pD b).1, (pC b).1, (pM b).1, (pR b).1, (pQ b).1, (pS b).1⟩
def tooM (l : List Int) : Bool := decide (2048 < l.getD 0 0 ∨ 2048 < l.getD 1 0 ∨ 1024 < l.getD 2 0 ∨ 1024 < l.getD 3 0 ∨ 256 < l.getD 4 0)
/-- what is wrong with the rest -/
def endE (s : RS) : Option Nat := match s.e with
  | some c => some c
  | none => if s.l = [] then none else some 1
/-- what is wrong with bytes, but for what the object's own faults are -/
def readE (b : List Int) : Option Nat :=
  if b.length < 24 then some 0
  else if (wordS ⟨b, none⟩).1 ≠ 842225232 then some 1
  else if tooM (sizS b).1 = true then some 3
  else endE (pS b).2
def readF (b : List Int) : Fl := match readE b with
  | some c => some (c, none)
  | none => validP (readO b)
theorem endE_none {s : RS} (h : endE s = none) : s.e = none ∧ s.l = [] := by
  unfold endE at h
  split at h
  · cases h
  · rename_i he
    by_cases hl : s.l = []
    · exact ⟨he, hl⟩
    · rw [if_neg hl] at h; cases h
theorem oread_parts {b : List Int} (hb : BtB b) (h : readE b = none) :
    (wordS ⟨b, none⟩).1 = 842225232 ∧ tooM (sizS b).1 = false ∧ (∀ n ∈ (sizS b).1, 0 ≤ n ∧ n < 4294967296) ∧ bytesP (readO b) = b := by
  unfold readE at h
  by_cases h0 : b.length < 24
  · rw [if_pos h0] at h; cases h
  · rw [if_neg h0] at h
    by_cases h1 : (wordS ⟨b, none⟩).1 ≠ 842225232
    · rw [if_pos h1] at h; cases h
    · rw [if_neg h1] at h
      by_cases h2 : tooM (sizS b).1 = true
      · rw [if_pos h2] at h; cases h
      · rw [if_neg h2] at h
        obtain ⟨he, hl⟩ := endE_none h
        have T5 := manyS_takes wordS_takes 5
        have b0 : BtB (wordS ⟨b, none⟩).2.l := wordS_takes.bt (s := ⟨b, none⟩) hb
        have b1 : BtB (sizS b).2.l := T5.bt b0
        have b2 : BtB (pD b).2.l := (manyS_takes wordS_takes _).bt b1
        have b3 : BtB (pC b).2.l := (manyS_takes wordS_takes _).bt b2
        have b4 : BtB (pM b).2.l := (takeS_takes _).bt b3
        have b5 : BtB (pR b).2.l := (manyS_takes relS_takes _).bt b4
        have b6 : BtB (pQ b).2.l := (manyS_takes relS_takes _).bt b5
        have h8 := (manyS_takes symS_takes (sz b 4)).ok _ b6 he
        have h7 := (manyS_takes relS_takes (sz b 3)).ok _ b5 h8.1
        have h6 := (manyS_takes relS_takes (sz b 2)).ok _ b4 h7.1
        have h5 := (takeS_takes (sz b 1)).ok _ b3 h6.1
        have h4 := (manyS_takes wordS_takes (sz b 1)).ok _ b2 h5.1
        have h3 := (manyS_takes wordS_takes (sz b 0)).ok _ b1 h4.1
        have h2' := T5.ok _ b0 h3.1
        have h1' := wordS_takes.ok ⟨b, none⟩ hb h2'.1
        have hall : ∀ n ∈ (sizS b).1, 0 ≤ n ∧ n < 4294967296 := manyS_all wordS_takes _ (fun s hs => wordS_bd hs) 5 _ b0
        have hm : (wordS ⟨b, none⟩).1 = 842225232 := by omega
        refine ⟨hm, by simpa using h2, hall, ?_⟩
        have hsl : (sizS b).1.length = 5 := manyS_len wordS 5 _
        have hlens : lensI (readO b) = (sizS b).1 := by
          have hM : (pM b).1.length = sz b 1 := takeS_len h6.1
          match hx : (sizS b).1, hsl with
          | [n0, n1, n2, n3, n4], _ =>
            rw [hx] at hall
            have g0 := (hall n0 (by simp)).1
            have g1 := (hall n1 (by simp)).1
            have g2 := (hall n2 (by simp)).1
            have g3 := (hall n3 (by simp)).1
            have g4 := (hall n4 (by simp)).1
            simp only [lensI, readO, pD, pC, pR, pQ, pS, manyS_len, sz, hx, List.cons.injEq, and_true]
            simp
            omega
        rw [bytesP, hlens]
        simp only [readO]
        have e8 : (pQ b).2.l = sysB (pS b).1 := by rw [← flat_sys]; exact h8.2.trans (by show flatB syB (pS b).1 ++ (pS b).2.l = _; rw [hl, List.append_nil])
        have e7 : (pR b).2.l = rlsB (pQ b).1 ++ (pQ b).2.l := by rw [← flat_rls]; exact h7.2
        have e6 : (pM b).2.l = rlsB (pR b).1 ++ (pR b).2.l := by rw [← flat_rls]; exact h6.2
        have e5 : (pC b).2.l = (pM b).1 ++ (pM b).2.l := h5.2
        have e4 : (pD b).2.l = wsB (pC b).1 ++ (pC b).2.l := by rw [← flat_words]; exact h4.2
        have e3 : (sizS b).2.l = wsB (pD b).1 ++ (pD b).2.l := by rw [← flat_words]; exact h3.2
        have e2 : (wordS ⟨b, none⟩).2.l = wsB (sizS b).1 ++ (sizS b).2.l := by rw [← flat_words]; exact h2'.2
        have e1 : b = w4 842225232 ++ (wordS ⟨b, none⟩).2.l := by rw [← hm]; exact h1'.2
        have w1 : wsB [842225232] = w4 842225232 := by simp [wsB]
        rw [w1]
        simp only [List.append_assoc]
        rw [← e8, ← e7, ← e6, ← e5, ← e4, ← e3, ← e2]
        exact e1.symm
theorem oread_fit {b : List Int} (hb : BtB b) (h : readE b = none) : OFit (readO b) := by
  obtain ⟨_, h2, hall, _⟩ := oread_parts hb h
  have b0 : BtB (wordS ⟨b, none⟩).2.l := wordS_takes.bt (s := ⟨b, none⟩) hb
  have b1 : BtB (sizS b).2.l := (manyS_takes wordS_takes 5).bt b0
  have b2 : BtB (pD b).2.l := (manyS_takes wordS_takes _).bt b1
  have b3 : BtB (pC b).2.l := (manyS_takes wordS_takes _).bt b2
  have h2 := of_decide_eq_false h2
  have hsl : (sizS b).1.length = 5 := manyS_len wordS 5 _
  refine ⟨manyS_all wordS_takes _ (fun s hs => wordS_bd hs) _ _ b1, manyS_all wordS_takes _ (fun s hs => wordS_bd hs) _ _ b2, takeS_bt b3, ?_⟩
  have hM : (pM b).1.length ≤ sz b 1 := by rcases takeS_len2 (sz b 1) (pC b).2 with h | h <;> (show (takeS _ _).1.length ≤ _) <;> rw [h] <;> simp
  simp only [readO, pD, pC, pR, pQ, pS, manyS_len]
  simp only [sz] at hM ⊢
  unfold maxLen
  omega
/-! ### forth -/
theorem manyS_cons {α : Type} (f : RS → α × RS) : ∀ n s, manyS f (n + 1) s = ((f s).1 :: (manyS f n (f s).2).1, (manyS f n (f s).2).2)
  | 0, s => rfl
  | n + 1, s => by
    have ih := manyS_cons f n s
    rw [manyS, ih]
    rfl
theorem takeS_app (a t : List Int) : takeS a.length ⟨a ++ t, none⟩ = (a, ⟨t, none⟩) := by
  unfold takeS
  rw [if_pos rfl, if_neg (by simp), List.take_left, List.drop_left]
theorem takeS_app' {a t : List Int} {n : Nat} (h : a.length = n) : takeS n ⟨a ++ t, none⟩ = (a, ⟨t, none⟩) := by subst h; exact takeS_app a t
theorem wordS_app {n : Int} (h : 0 ≤ n ∧ n < 4294967296) (t : List Int) : wordS ⟨w4 n ++ t, none⟩ = (n, ⟨t, none⟩) := by
  unfold wordS
  rw [takeS_app' (by rfl)]
  simp only [w4, leW, Prod.mk.injEq, and_true]
  omega
theorem wordS_app' (n : Int) (t : List Int) : wordS ⟨w4 n ++ t, none⟩ = (n % 4294967296, ⟨t, none⟩) := by
  unfold wordS
  rw [takeS_app' (by rfl)]
  simp only [w4, leW, Prod.mk.injEq, and_true]
  omega
theorem numS_app {n most : Int} (h : 0 ≤ n ∧ n ≤ most) (hm : most < 4294967296) (t : List Int) : numS most ⟨w4 n ++ t, none⟩ = (n, ⟨t, none⟩) := by
  unfold numS
  rw [wordS_app ⟨h.1, by omega⟩, if_neg (by simp only; omega)]
theorem manyS_app {α : Type} {f : RS → α × RS} {B : α → List Int} {p : α → Prop} (h : ∀ a t, p a → f ⟨B a ++ t, none⟩ = (a, ⟨t, none⟩)) : ∀ (l : List α) (t : List Int), (∀ a ∈ l, p a) → manyS f l.length ⟨flatB B l ++ t, none⟩ = (l, ⟨t, none⟩)
  | [], t, _ => rfl
  | a :: l, t, hp => by
    rw [List.length_cons, manyS_cons, flatB, List.append_assoc, h a _ (hp a (by simp)), manyS_app h l t (fun b hb => hp b (by simp [hb]))]
theorem manyS_app' {α : Type} {f : RS → α × RS} {B : α → List Int} {p : α → Prop} (h : ∀ a t, p a → f ⟨B a ++ t, none⟩ = (a, ⟨t, none⟩)) {l : List α} {n : Nat} (hn : l.length = n) (t : List Int) (hp : ∀ a ∈ l, p a) : manyS f n ⟨flatB B l ++ t, none⟩ = (l, ⟨t, none⟩) := by
  subst hn; exact manyS_app h l t hp
def RlOk (r : Rl) : Prop := (0 ≤ r.a ∧ r.a ≤ 2147483647) ∧ (0 ≤ r.k ∧ r.k ≤ 2147483647) ∧ (0 ≤ r.s ∧ r.s ≤ 2147483647) ∧ (-2147483648 ≤ r.d ∧ r.d ≤ 2147483647)
theorem relS_app (r : Rl) (t : List Int) (h : RlOk r) : relS ⟨wsB (rlI r) ++ t, none⟩ = (r, ⟨t, none⟩) := by
  obtain ⟨ha, hk, hs, hd⟩ := h
  simp only [rlI, wsB, List.append_nil, List.append_assoc, relS, relA]
  rw [numS_app ha (by omega), numS_app hk (by omega), numS_app hs (by omega), wordS_app']
  have : sgn (r.d % 4294967296) = r.d := by unfold sgn; split <;> omega
  rw [this]
def SyOk (s : Sy) : Prop := (0 ≤ s.i ∧ s.i ≤ 2147483647) ∧ (0 ≤ s.v ∧ s.v ≤ 2147483647) ∧ s.n.size ≤ 32
theorem symS_app (s : Sy) (t : List Int) (h : SyOk s) : symS ⟨syB s ++ t, none⟩ = (s, ⟨t, none⟩) := by
  obtain ⟨hi, hv, hn⟩ := h
  have hg : 0 ≤ bI s.g ∧ bI s.g ≤ 1 := by unfold bI; split <;> omega
  simp only [syB, syI, wsB, List.append_nil, List.append_assoc, symS, symT, relA]
  rw [numS_app hi (by omega), numS_app hv (by omega), numS_app hg (by omega), numS_app (by omega) (by omega), takeS_app' (by rw [strI_length]; simp)]
  rw [strO_strI]
  have : decide (bI s.g = 1) = s.g := by unfold bI; cases s.g <;> simp
  rw [this]
theorem rl_in {x : PO} {l : List Rl} {n : Int} {k : Nat} (h : inB x l k n = true) (hn : n ≤ 2048) (hs : x.S.length ≤ 256) : 0 ≤ (rlN l k).a ∧ (rlN l k).a ≤ 2147483647 ∧ 0 ≤ (rlN l k).s ∧ (rlN l k).s ≤ 2147483647 ∧ -2147483648 ≤ (rlN l k).d ∧ (rlN l k).d ≤ 2147483647 := by
  have := of_decide_eq_true h
  omega
theorem rl_get {l : List Rl} {k : Nat} (hk : k < l.length) : rlN l k = l[k] := by unfold rlN; rw [List.getD_eq_getElem?_getD, List.getElem?_eq_getElem hk]; rfl
theorem drels_ok {x : PO} (h : OkP x) : ∀ r ∈ x.R, RlOk r := by
  intro r hr
  have hm := many_of h
  obtain ⟨k, hk, he⟩ := List.getElem_of_mem hr
  have h1 := h.dat k hk
  unfold dataF at h1
  split at h1
  · cases h1
  · rename_i hc
    rw [not_or] at hc
    have h2 := rl_in (by simpa using hc.1) (by omega) (by omega)
    rw [rl_get hk, he] at h2 hc
    unfold RlOk
    have := hc.2
    omega
theorem crels_ok {x : PO} (h : OkP x) : ∀ r ∈ x.Q, RlOk r := by
  intro r hr
  have hm := many_of h
  obtain ⟨k, hk, he⟩ := List.getElem_of_mem hr
  have h1 := h.cod k hk
  unfold codeF at h1
  split at h1
  · cases h1
  · rename_i hc
    rw [not_or] at hc
    have h2 := rl_in (by simpa using hc.1) (by omega) (by omega)
    rw [rl_get hk, he] at h2 hc
    unfold RlOk
    have := hc.2
    omega
theorem syms_ok {x : PO} (h : OkP x) : ∀ s ∈ x.S, SyOk s := by
  intro s hs
  have hm := many_of h
  have hn := names_of h s hs
  obtain ⟨k, hk, he⟩ := List.getElem_of_mem hs
  have h1 := h.sym k hk
  have hsn : symN x k = s := by unfold symN; rw [List.getD_eq_getElem?_getD, List.getElem?_eq_getElem hk, he]; rfl
  unfold symF at h1
  rw [hsn] at h1
  split at h1
  · cases h1
  · split at h1
    · cases h1
    · split at h1
      · rename_i hst
        unfold standsB at hst
        split at hst
        · have := of_decide_eq_true hst; unfold SyOk; omega
        · split at hst
          · have := of_decide_eq_true hst; unfold SyOk; omega
          · split at hst
            · have := of_decide_eq_true hst; unfold SyOk; omega
            · cases hst
      · cases h1
theorem obytes_read {x : PO} (h : OkP x) (hf : OFit x) (t : List Int) : readO (bytesP x ++ t) = x ∧ readE (bytesP x ++ t) = if t = [] then none else some 1 := by
  have hm := many_of h
  obtain ⟨b, hb⟩ : ∃ b, bytesP x ++ t = b := ⟨_, rfl⟩
  rw [hb]
  have hw : ∀ (l : List Int) (n : Nat) (t : List Int), l.length = n → (∀ a ∈ l, 0 ≤ a ∧ a < 4294967296) → wordsS n ⟨wsB l ++ t, none⟩ = (l, ⟨t, none⟩) := fun l n t hn hl => by
    rw [← flat_words]; exact manyS_app' (fun a t ha => wordS_app ha t) hn t hl
  have e0 : b = w4 842225232 ++ (wsB (lensI x) ++ (wsB x.D ++ (wsB x.C ++ (x.M ++ (rlsB x.R ++ (rlsB x.Q ++ (sysB x.S ++ t))))))) := by
    rw [← hb, bytesP, show wsB [842225232] = w4 842225232 by simp [wsB]]
    simp only [List.append_assoc]
  have e1 : wordS ⟨b, none⟩ = (842225232, ⟨wsB (lensI x) ++ (wsB x.D ++ (wsB x.C ++ (x.M ++ (rlsB x.R ++ (rlsB x.Q ++ (sysB x.S ++ t)))))), none⟩) := by
    rw [e0]; exact wordS_app (by omega) _
  have e2 : sizS b = (lensI x, ⟨wsB x.D ++ (wsB x.C ++ (x.M ++ (rlsB x.R ++ (rlsB x.Q ++ (sysB x.S ++ t))))), none⟩) := by
    unfold sizS
    rw [e1]
    refine hw _ 5 _ rfl (fun a ha => ?_)
    simp only [lensI, List.mem_cons, List.not_mem_nil, or_false] at ha
    omega
  have z0 : sz b 0 = x.D.length := by unfold sz; rw [e2]; simp [lensI]
  have z1 : sz b 1 = x.C.length := by unfold sz; rw [e2]; simp [lensI]
  have z2 : sz b 2 = x.R.length := by unfold sz; rw [e2]; simp [lensI]
  have z3 : sz b 3 = x.Q.length := by unfold sz; rw [e2]; simp [lensI]
  have z4 : sz b 4 = x.S.length := by unfold sz; rw [e2]; simp [lensI]
  have e3 : pD b = (x.D, ⟨wsB x.C ++ (x.M ++ (rlsB x.R ++ (rlsB x.Q ++ (sysB x.S ++ t)))), none⟩) := by
    unfold pD; rw [e2, z0]; exact hw _ _ _ rfl hf.d
  have e4 : pC b = (x.C, ⟨x.M ++ (rlsB x.R ++ (rlsB x.Q ++ (sysB x.S ++ t))), none⟩) := by
    unfold pC; rw [e3, z1]; exact hw _ _ _ rfl hf.c
  have e5 : pM b = (x.M, ⟨rlsB x.R ++ (rlsB x.Q ++ (sysB x.S ++ t)), none⟩) := by
    unfold pM; rw [e4, z1]; exact takeS_app' h.len
  have e6 : pR b = (x.R, ⟨rlsB x.Q ++ (sysB x.S ++ t), none⟩) := by
    unfold pR; rw [e5, z2, ← flat_rls]; exact manyS_app (fun a t ha => relS_app a t ha) _ _ (drels_ok h)
  have e7 : pQ b = (x.Q, ⟨sysB x.S ++ t, none⟩) := by
    unfold pQ; rw [e6, z3, ← flat_rls x.Q]; exact manyS_app (fun a t ha => relS_app a t ha) _ _ (crels_ok h)
  have e8 : pS b = (x.S, ⟨t, none⟩) := by
    unfold pS; rw [e7, z4, ← flat_sys]; exact manyS_app (fun a t ha => symS_app a t ha) _ _ (syms_ok h)
  constructor
  · unfold readO; rw [e3, e4, e5, e6, e7, e8]
  · unfold readE
    rw [if_neg (by rw [e0]; simp only [List.length_append, wsB_length, lensI]; simp [w4]; omega), e1, if_neg (by simp), e2, if_neg (by
      have := h.many
      unfold manyB at this
      have := of_decide_eq_false this
      simp [tooM, lensI]
      omega), e8]
    rfl
theorem valid_none {x : PO} (h : OkP x) : validP x = none := by
  unfold validP
  rw [if_neg (by rw [h.many]; simp), if_neg (by simp [h.len]), scanF_none h.word, scanF_none h.sym, scanF_none h.dat, scanF_none h.cod, scanF_none h.unr]
/-- its bytes are it -/
theorem oread_whole {x : PO} (h : OkP x) (hf : OFit x) : readO (bytesP x) = x ∧ readF (bytesP x) = none := by
  have := obytes_read h hf []
  rw [List.append_nil, if_pos rfl] at this
  exact ⟨this.1, by unfold readF; rw [this.2]; simp only; rw [this.1]; exact valid_none h⟩
/-- longer ones are not -/
theorem oread_longer {x : PO} (h : OkP x) (hf : OFit x) (t : List Int) (ht : t ≠ []) : readF (bytesP x ++ t) = some (1, none) := by
  have := obytes_read h hf t
  rw [if_neg ht] at this
  unfold readF
  rw [this.2]
theorem oread_yes {b : List Int} (hb : BtB b) (h : readF b = none) : OkP (readO b) ∧ OFit (readO b) ∧ bytesP (readO b) = b := by
  unfold readF at h
  cases he : readE b with
  | some c => rw [he] at h; cases h
  | none =>
    rw [he] at h
    exact ⟨valid_ok h, oread_fit hb he, (oread_parts hb he).2.2.2⟩
/-- nor are shorter ones -/
theorem oread_cut {x : PO} (h : OkP x) (hf : OFit x) (hb : BtB (bytesP x)) (k : Nat) (hk : k < (bytesP x).length) : readF ((bytesP x).take k) ≠ none := by
  intro hc
  obtain ⟨h1, h2, h3⟩ := oread_yes (fun b hx => hb b (List.mem_of_mem_take hx)) hc
  have h4 := obytes_read h1 h2 ((bytesP x).drop k)
  rw [h3, List.take_append_drop, if_neg (by rw [List.drop_eq_nil_iff]; omega)] at h4
  have h5 := oread_whole h hf
  have h6 := (obytes_read h hf []).2
  rw [List.append_nil, if_pos rfl] at h6
  rw [h6] at h4
  cases h4.2
/-- other bytes are no such object -/
theorem oread_other {x : PO} {b : List Int} (hb : BtB b) (h : readF b = none) (hne : b ≠ bytesP x) : readO b ≠ x := by
  intro he
  obtain ⟨_, _, h3⟩ := oread_yes hb h
  rw [he] at h3
  exact hne h3.symm
/-- what may be wrong with bytes -/
theorem oread_code {b : List Int} {c : Nat} {p : Option Nat} (h : readF b = some (c, p)) : c = 0 ∨ c = 1 ∨ c = 2 ∨ c = 3 ∨ c = 4 ∨ c = 5 ∨ c = 6 ∨ c = 8 := by
  have one : ∀ (s : RS) (c : Nat), s.e = some c → True := fun _ _ _ => trivial
  unfold readF at h
  cases he : readE b with
  | none =>
    rw [he] at h
    have := code_of h
    omega
  | some d =>
    rw [he] at h
    obtain ⟨rfl, rfl⟩ : d = c ∧ none = p := by simpa using h
    have key : ∀ {α : Type} {f : RS → α × RS}, (∀ s c, (f s).2.e = some c → s.e = some c ∨ c = 0 ∨ c = 2) → ∀ n s c, (manyS f n s).2.e = some c → s.e = some c ∨ c = 0 ∨ c = 2 := by
      intro α f hf n
      induction n with
      | zero => intro s c h; exact .inl h
      | succ n ih =>
        intro s c h
        rcases hf _ c h with h1 | h1
        · exact ih s c h1
        · exact .inr h1
    have kt : ∀ n s c, (takeS n s).2.e = some c → s.e = some c ∨ c = 0 ∨ c = 2 := by
      intro n s c h
      unfold takeS at h
      split at h
      · split at h
        · right; left; simpa using h.symm
        · cases h
      · exact .inl h
    have kw : ∀ s c, (wordS s).2.e = some c → s.e = some c ∨ c = 0 ∨ c = 2 := fun s c h => kt 4 s c h
    have kn : ∀ m s c, (numS m s).2.e = some c → s.e = some c ∨ c = 0 ∨ c = 2 := by
      intro m s c h
      unfold numS at h
      split at h
      · right; right; simpa using h.symm
      · exact kw s c h
    have kr : ∀ s c, (relS s).2.e = some c → s.e = some c ∨ c = 0 ∨ c = 2 := by
      intro s c h
      rcases kw _ c h with h | h
      · rcases kn _ _ c h with h | h
        · rcases kn _ _ c h with h | h
          · exact kn _ _ c h
          · exact .inr h
        · exact .inr h
      · exact .inr h
    have ks : ∀ s c, (symS s).2.e = some c → s.e = some c ∨ c = 0 ∨ c = 2 := by
      intro s c h
      rcases kt _ _ c h with h | h
      · rcases kn _ _ c h with h | h
        · rcases kn _ _ c h with h | h
          · rcases kn _ _ c h with h | h
            · exact kn _ _ c h
            · exact .inr h
          · exact .inr h
        · exact .inr h
      · exact .inr h
    unfold readE at he
    split at he
    · simp at he; omega
    · split at he
      · simp at he; omega
      · split at he
        · simp at he; omega
        · unfold endE at he
          split at he
          · rename_i c' hc'
            obtain rfl : c' = d := by simpa using he
            have h1 := key ks _ _ _ hc'
            have h2 : (pQ b).2.e = some c' ∨ c' = 0 ∨ c' = 2 := h1
            rcases h2 with h2 | h2
            · have h3 : (pR b).2.e = some c' ∨ c' = 0 ∨ c' = 2 := key kr _ _ _ h2
              rcases h3 with h3 | h3
              · have h4 : (pM b).2.e = some c' ∨ c' = 0 ∨ c' = 2 := key kr _ _ _ h3
                rcases h4 with h4 | h4
                · have h5 : (pC b).2.e = some c' ∨ c' = 0 ∨ c' = 2 := kt _ _ _ h4
                  rcases h5 with h5 | h5
                  · have h6 : (pD b).2.e = some c' ∨ c' = 0 ∨ c' = 2 := key kw _ _ _ h5
                    rcases h6 with h6 | h6
                    · have h7 : (sizS b).2.e = some c' ∨ c' = 0 ∨ c' = 2 := key kw _ _ _ h6
                      rcases h7 with h7 | h7
                      · have h8 : (wordS ⟨b, none⟩).2.e = some c' ∨ c' = 0 ∨ c' = 2 := key kw _ _ _ h7
                        rcases h8 with h8 | h8
                        · rcases kw _ _ h8 with h9 | h9
                          · cases h9
                          · omega
                        · omega
                      · omega
                    · omega
                  · omega
                · omega
              · omega
            · omega
          · split at he
            · cases he
            · simp at he; omega
end Go.Proofs.YtgahbpfmiibpeaaGreatDoor
/- A reader of bytes (package obj): take, word, number: contracts. -/
namespace Go.Proofs.YtgahbpfmiibpeaaGreatDoor
open Go.RowKit
theorem set_grown {w : World} {R : Nat} (k : Nat) (v : Value) : w.grownBy (w.setCell ⟨R, k, none⟩ v) (some R) := grown_setCell (grown_refl _ _) _ _
/-- where the errors lie that a reader tells -/
structure ErrR (w : World) (A : Nat → Addr) : Prop where
  c0 : w.cell? ⟨9, 0, none⟩ = some (errV (A 0))
  c1 : w.cell? ⟨6, 0, none⟩ = some (errV (A 1))
  c2 : w.cell? ⟨4, 0, none⟩ = some (errV (A 2))
  c3 : w.cell? ⟨1, 0, none⟩ = some (errV (A 3))
theorem ErrR.kept {w w1 : World} {A : Nat → Addr} {r : Option Nat} (h : ErrR w A) (hg : w.grownBy w1 r) (hr : ∀ k, r = some k → k ≠ 9 ∧ k ≠ 6 ∧ k ≠ 4 ∧ k ≠ 1) : ErrR w1 A := by
  have k : ∀ {g : Nat} {v : Value}, w.cell? ⟨g, 0, none⟩ = some v → some g ≠ r → w1.cell? ⟨g, 0, none⟩ = some v := fun hc hn => by
    rw [grown_cell hg (World.block_lt_of_cell? w _ hc) hn]; exact hc
  exact ⟨k h.c0 (fun e => (hr _ e.symm).1 rfl), k h.c1 (fun e => (hr _ e.symm).2.1 rfl), k h.c2 (fun e => (hr _ e.symm).2.2.1 rfl), k h.c3 (fun e => (hr _ e.symm).2.2.2 rfl)⟩
theorem ErrR.kept0 {w w1 : World} {A : Nat → Addr} (h : ErrR w A) (hg : w.grownBy w1 none) : ErrR w1 A := h.kept hg (by simp)
/-- R is none of the variables' blocks -/
def NoVar (R : Nat) : Prop := R ≠ 9 ∧ R ≠ 6 ∧ R ≠ 4 ∧ R ≠ 1
theorem noVar_of {w : World} {A : Nat → Addr} (h : ErrR w A) {R : Nat} (hR : w.heap.size ≤ R) : NoVar R := by
  have h0 := World.block_lt_of_cell? w _ h.c0
  have h1 := World.block_lt_of_cell? w _ h.c1
  have h2 := World.block_lt_of_cell? w _ h.c2
  have h3 := World.block_lt_of_cell? w _ h.c3
  simp only at h0 h1 h2 h3
  unfold NoVar
  omega
theorem Sents.errr {w : World} {A : Nat → Addr} (h : Sents w A) : ErrR w A := ⟨h.cell 0 _ rfl, h.cell 1 _ rfl, h.cell 2 _ rfl, h.cell 3 _ rfl⟩
theorem ErrR.keptR {w w1 : World} {A : Nat → Addr} {R : Nat} (h : ErrR w A) (hg : w.grownBy w1 (some R)) (hr : NoVar R) : ErrR w1 A := h.kept hg (fun k hk => by obtain rfl := Option.some.inj hk; exact hr)
/-- bytes taken: no block of the reader's -/
def Tk (w : World) (R b : Nat) (v : Value) (l : List Int) : Prop := (v = .slice none 0 0 ∧ l = []) ∨ ∃ o c, v = .slice (some ⟨b, o, none⟩) l.length c ∧ l.length ≤ c ∧ b < w.heap.size ∧ b ≠ R ∧ ∀ j x, l[j]? = some x → w.cell? ⟨b, o + j, none⟩ = some (.int .u8 x)
theorem Tk.sl {w : World} {R b : Nat} {v : Value} {l : List Int} (h : Tk w R b v l) : SlAt w .u8 v l := by
  rcases h with ⟨rfl, rfl⟩ | ⟨o, c, rfl, _, hb, _, hc⟩
  · exact .inl ⟨⟨_, _, rfl⟩, rfl⟩
  · exact .inr ⟨b, o, c, rfl, hb, hc⟩
theorem Tk.kept {w w1 : World} {R b : Nat} {v : Value} {l : List Int} {r : Option Nat} (h : Tk w R b v l) (hg : w.grownBy w1 r) (hr : some b ≠ r) : Tk w1 R b v l := by
  rcases h with h | ⟨o, c, rfl, hn, hb, hne, hc⟩
  · exact .inl h
  · exact .inr ⟨o, c, rfl, hn, Nat.lt_of_lt_of_le hb hg.size, hne, fun j x hx => by rw [grown_cell hg hb hr]; exact hc j x hx⟩
section
variable {w : World} {R : Nat} {A : Nat → Addr} {b o c : Nat} {s : RS}
end
theorem leW_or {lo : Nat} {x : Int} (k : Nat) (hk : k < 4) (hlo : lo < 256 ^ k) (h0 : 0 ≤ x) (h1 : x < 256) : bits BinOp.or IntKind.u32 (lo : Int) (x * 256 ^ k) = (lo : Int) + x * 256 ^ k := by
  obtain ⟨n, rfl⟩ := Int.eq_ofNat_of_zero_le h0
  have hn : n < 256 := by omega
  have hp : (256 ^ k : Nat) = 2 ^ (8 * k) := by rw [Nat.pow_mul]
  have hb : n * 256 ^ k < 4294967296 := by
    have h3 : n * 256 ^ k ≤ 255 * 256 ^ k := Nat.mul_le_mul_right _ (by omega)
    have h4 : 256 ^ k ≤ 256 ^ 3 := Nat.pow_le_pow_right (by omega) (by omega)
    omega
  have hl : lo < 4294967296 := by
    have h4 : 256 ^ k ≤ 256 ^ 3 := Nat.pow_le_pow_right (by omega) (by omega)
    omega
  have e : ((n : Int) * 256 ^ k) = ((n * 256 ^ k : Nat) : Int) := by rw [Int.natCast_mul, Int.natCast_pow]; rfl
  rw [e, u32_or_nat lo _ hl hb, Nat.or_comm, hp, Nat.mul_comm n, Nat.two_pow_add_eq_or_of_lt (by rw [← hp]; exact hlo) n |>.symm]
  omega
theorem leW_snoc : ∀ (l : List Int) (x : Int), leW (l ++ [x]) = leW l + 256 ^ l.length * x
  | [], x => by simp [leW]
  | a :: l, x => by
    rw [List.cons_append, leW, leW_snoc l x, leW, List.length_cons, Int.pow_succ]
    rw [Int.mul_add, Int.add_assoc]
    congr 2
    rw [← Int.mul_assoc, Int.mul_comm 256]
theorem word_or {q : Nat} {x : Int} (k : Nat) (hk : k < 4) (hq : q < 256 ^ k) (h0 : 0 ≤ x) (h1 : x < 256) :
    bits BinOp.or IntKind.u32 (q : Int) (x % 4294967296 * 2 ^ (8 * k) % 4294967296) = ((q + x.toNat * 256 ^ k : Nat) : Int) := by
  have e1 : x % 4294967296 = x := by omega
  have e2 : (2 : Int) ^ (8 * k) = 256 ^ k := by rw [Int.pow_mul]; rfl
  have e3 : x * 256 ^ k % 4294967296 = x * 256 ^ k := by
    obtain ⟨n, rfl⟩ := Int.eq_ofNat_of_zero_le h0
    have h3 : n * 256 ^ k ≤ 255 * 256 ^ k := Nat.mul_le_mul_right _ (by omega)
    have h4 : 256 ^ k ≤ 256 ^ 3 := Nat.pow_le_pow_right (by omega) (by omega)
    have e : ((n : Int) * 256 ^ k) = ((n * 256 ^ k : Nat) : Int) := by rw [Int.natCast_mul, Int.natCast_pow]; rfl
    rw [e]; omega
  rw [e1, e2, e3, leW_or k hk hq h0 h1, Int.natCast_add, Int.natCast_mul, Int.natCast_pow, Int.toNat_of_nonneg h0]
  rfl
section
variable {w : World} {R : Nat} {A : Nat → Addr} {b o c : Nat} {s : RS}
end
end Go.Proofs.YtgahbpfmiibpeaaGreatDoor
/- Lists that are read (package obj): words, relocations, symbols: contracts. (Made by gobju.py.) -/
namespace Go.Proofs.YtgahbpfmiibpeaaGreatDoor
open Go.RowKit
theorem grown_over {w0 w1 w2 : World} {r : Option Nat} {K : Nat} (h : w0.grownBy w1 r) (hg : w1.grownBy w2 (some K)) (hK : w0.heap.size ≤ K) : w0.grownBy w2 r :=
  ⟨hg.os.trans h.os, hg.tape.trans h.tape, hg.output.trans h.output, Nat.le_trans h.size hg.size, fun i hi hr => (hg.block i (Nat.lt_of_lt_of_le hi h.size) (fun e => by have := Option.some.inj e; omega)).trans (h.block i hi hr)⟩
theorem rlsC_set : ∀ (l : List Rl) (k j : Nat) (v : Value) (r r' : Rl), l[k]? = some r → j < 4 → (rlC r).set j v = rlC r' → (rlsC l).set (k * 4 + j) v = rlsC (l.set k r')
  | [], _, _, _, _, _, h, _, _ => by simp at h
  | x :: l, 0, j, v, r, r', h, hj, hr => by
    obtain rfl : x = r := by simpa using h
    rw [rlsC, List.set_append_left _ _ (by simpa [rlC] using hj), Nat.zero_mul, Nat.zero_add, hr]
    rfl
  | x :: l, k + 1, j, v, r, r', h, hj, hr => by
    rw [rlsC, List.set_append_right _ _ (by simp [rlC]; omega)]
    rw [show (k + 1) * 4 + j - (rlC x).length = k * 4 + j by simp [rlC]; omega, rlsC_set l k j v r r' (by simpa using h) hj hr]
    rfl
theorem sysC_set : ∀ (l : List Sy) (k j : Nat) (v : Value) (r r' : Sy), l[k]? = some r → j < 4 → (syC r).set j v = syC r' → (sysC l).set (k * 4 + j) v = sysC (l.set k r')
  | [], _, _, _, _, _, h, _, _ => by simp at h
  | x :: l, 0, j, v, r, r', h, hj, hr => by
    obtain rfl : x = r := by simpa using h
    rw [sysC, List.set_append_left _ _ (by simpa [syC] using hj), Nat.zero_mul, Nat.zero_add, hr]
    rfl
  | x :: l, k + 1, j, v, r, r', h, hj, hr => by
    rw [sysC, List.set_append_right _ _ (by simp [syC]; omega)]
    rw [show (k + 1) * 4 + j - (syC x).length = k * 4 + j by simp [syC]; omega, sysC_set l k j v r r' (by simpa using h) hj hr]
    rfl
section
variable {w0 w w1 : World} {K : Nat} {T : TypeId} {cs : List Value} {R : Nat} {A : Nat → Addr} {b o c : Nat} {s : RS}
end
/-- so many read, the others as they were made -/
def part {α : Type} (f : RS → α × RS) (z : α) (n k : Nat) (s : RS) : List α := (manyS f k s).1 ++ List.replicate (n - k) z
theorem part_zero {α : Type} (f : RS → α × RS) (z : α) (n : Nat) (s : RS) : part f z n 0 s = List.replicate n z := by simp [part, manyS]
theorem part_all {α : Type} (f : RS → α × RS) (z : α) (n : Nat) (s : RS) : part f z n n s = (manyS f n s).1 := by simp [part]
theorem part_get {α : Type} (f : RS → α × RS) (z : α) {n k : Nat} (s : RS) (h : k < n) : (part f z n k s)[k]? = some z := by
  unfold part
  rw [List.getElem?_append_right (by rw [manyS_len]; exact Nat.le_refl _), manyS_len, Nat.sub_self, List.getElem?_replicate, if_pos (by omega)]
theorem part_length {α : Type} (f : RS → α × RS) (z : α) {n k : Nat} (s : RS) (h : k ≤ n) : (part f z n k s).length = n := by
  unfold part; rw [List.length_append, manyS_len, List.length_replicate]; omega
theorem part_set {α : Type} (f : RS → α × RS) (z : α) {n k : Nat} (s : RS) (h : k < n) : (part f z n k s).set k (f (manyS f k s).2).1 = part f z n (k + 1) s := by
  unfold part
  rw [List.set_append_right _ _ (by rw [manyS_len]; exact Nat.le_refl _), manyS_len, Nat.sub_self]
  obtain ⟨d, hd⟩ : ∃ d, n - k = d + 1 := ⟨n - k - 1, by omega⟩
  rw [hd, show n - (k + 1) = d by omega, List.replicate_succ, List.set_cons_zero, manyS, List.append_assoc]
  rfl
theorem intsC_get {k : IntKind} {l : List Int} {j : Nat} {x : Int} (h : l[j]? = some x) : (l.map (Value.int k))[j]? = some (.int k x) := by rw [List.getElem?_map, h]; rfl
theorem made_u32 (n : Nat) : madeCells (Value.int .u32 0).cells (n * 1) = ((List.replicate n (0 : Int)).map (Value.int .u32)).toArray := by
  rw [show (Value.int .u32 0).cells = Array.replicate 1 (.int .u32 0) from rfl, toList_madeZero _ _ 1 (by omega), Nat.mul_one]
  simp
theorem made_four {z0 z1 z2 z3 : Value} {α : Type} (C : List α → List Value) (z : α) (hnil : C [] = []) (hcons : ∀ a l, C (a :: l) = [z0, z1, z2, z3] ++ C l ∨ a ≠ z) (n : Nat) : madeCells #[z0, z1, z2, z3] (n * 4) = (C (List.replicate n z)).toArray := by
  apply Array.ext'
  have key : ∀ n : Nat, (C (List.replicate n z)).length = n * 4 ∧ ∀ j, j < n * 4 → (C (List.replicate n z))[j]? = [z0, z1, z2, z3][j % 4]? := by
    intro n
    induction n with
    | zero => exact ⟨by simp [hnil], fun j hj => by omega⟩
    | succ n ih =>
      have hc : C (List.replicate (n + 1) z) = [z0, z1, z2, z3] ++ C (List.replicate n z) := by
        rw [List.replicate_succ]
        rcases hcons z (List.replicate n z) with h | h
        · exact h
        · exact absurd rfl h
      rw [hc]
      refine ⟨by simp [ih.1]; omega, fun j hj => ?_⟩
      by_cases h4 : j < 4
      · rw [List.getElem?_append_left (by simpa using h4), Nat.mod_eq_of_lt h4]
      · rw [List.getElem?_append_right (by simp; omega)]
        have := ih.2 (j - 4) (by omega)
        simp only [List.length_cons, List.length_nil]
        rw [show (0 + 1 + 1 + 1 + 1) = 4 from rfl, this]
        congr 1; omega
  apply List.ext_getElem?
  intro j
  by_cases hj : j < n * 4
  · rw [(key n).2 j hj]
    have hj' : j < (madeCells #[z0, z1, z2, z3] (n * 4)).toList.length := by simp [madeCells]; omega
    rw [List.getElem?_eq_getElem hj', List.getElem?_eq_getElem (by simp; omega)]
    have hm : j % 4 = 0 ∨ j % 4 = 1 ∨ j % 4 = 2 ∨ j % 4 = 3 := by omega
    simp only [madeCells, Array.getElem_toList, Array.getElem_map, Array.getElem_range]
    rcases hm with h | h | h | h <;> simp [h]
  · rw [List.getElem?_eq_none (by simp [madeCells]; omega), List.getElem?_eq_none (by rw [(key n).1]; omega)]
theorem made_rl (n : Nat) : madeCells (Value.agg #[.int .i64 0, .int .i64 0, .int .i64 0, .int .i64 0]).cells (n * 4) = (rlsC (List.replicate n rl0)).toArray :=
  made_four rlsC rl0 rfl (fun a l => by by_cases h : a = rl0; (left; subst h; rfl); exact .inr h) n
theorem made_sy (n : Nat) : madeCells (Value.agg #[.string ⟨#[]⟩, .int .i64 0, .int .i64 0, .bool false]).cells (n * 4) = (sysC (List.replicate n sy0)).toArray :=
  made_four sysC sy0 rfl (fun a l => by by_cases h : a = sy0; (left; subst h; rfl); exact .inr h) n
theorem wrap_sgn {x : Int} (h0 : 0 ≤ x) (h1 : x < 4294967296) : IntKind.i32.wrap x = sgn x := by
  rw [IntKind.wrap_i32]; unfold sgn; split <;> omega
end Go.Proofs.YtgahbpfmiibpeaaGreatDoor
/- An object that is read (package obj): a contract. (Made by gobjv.py.) -/
namespace Go.Proofs.YtgahbpfmiibpeaaGreatDoor
open Go.RowKit
theorem CsAt.keptO {w w1 : World} {v : Value} {n : Nat} {cs : List Value} {r : Option Nat} (h : CsAt w v n cs) (hg : w.grownBy w1 r) (hr : v.ownBlock = none ∨ v.ownBlock ≠ r) : CsAt w1 v n cs := by
  rcases h with h | ⟨b, o, c, rfl, hn, hb, hc⟩
  · exact .inl h
  · refine .inr ⟨b, o, c, rfl, hn, Nat.lt_of_lt_of_le hb hg.size, fun j x hx => ?_⟩
    rw [grown_cell hg hb (by simpa [Value.ownBlock] using hr)]
    exact hc j x hx
/-- in blocks from B on -/
def AbB (B : Nat) (v : Value) : Prop := ∀ g, v.ownBlock = some g → B ≤ g
theorem AbB.ne {B r : Nat} {v : Value} (h : AbB B v) (hr : r < B) : v.ownBlock = none ∨ v.ownBlock ≠ some r := .inr fun e => by have := h r e; omega
structure SlB (B : Nat) (w : World) (k : IntKind) (v : Value) (xs : List Int) : Prop where
  sl : SlAt w k v xs
  ab : AbB B v
structure CsB (B : Nat) (w : World) (v : Value) (n : Nat) (cs : List Value) : Prop where
  cs : CsAt w v n cs
  ab : AbB B v
theorem SlB.kept {B r : Nat} {w w1 : World} {k : IntKind} {v : Value} {xs : List Int} (h : SlB B w k v xs) (hg : w.grownBy w1 (some r)) (hr : r < B) : SlB B w1 k v xs := ⟨h.sl.kept hg (h.ab.ne hr), h.ab⟩
theorem CsB.kept {B r : Nat} {w w1 : World} {v : Value} {n : Nat} {cs : List Value} (h : CsB B w v n cs) (hg : w.grownBy w1 (some r)) (hr : r < B) : CsB B w1 v n cs := ⟨h.cs.keptO hg (h.ab.ne hr), h.ab⟩
theorem slb_of {B K m : Nat} {w : World} {k : IntKind} {t : TypeId} {xs : List Int} (h : RwAt w K t (xs.map (Value.int k)).toArray) (hK : B ≤ K) (hm : xs.length = m) : SlB B w k (.slice (some ⟨K, 0, none⟩) m m) xs := by
  subst hm
  exact ⟨SlAt.whole (c := xs.length) h.blk, fun g hg => (show K = g by simpa [Value.ownBlock] using hg) ▸ hK⟩
theorem csb_of {B K m : Nat} {w : World} {t : TypeId} {cs : List Value} (h : RwAt w K t cs.toArray) (hK : B ≤ K) : CsB B w (.slice (some ⟨K, 0, none⟩) m m) m cs := by
  refine ⟨.inr ⟨K, 0, m, rfl, Nat.le_refl _, h.lt, fun j u hu => ?_⟩, fun g hg => (show K = g by simpa [Value.ownBlock] using hg) ▸ hK⟩
  rw [Nat.zero_add]
  exact h.cell j (by simpa using hu)
structure OBn (w0 : World) (B S H G R b : Nat) : Prop where
  wR : R < w0.heap.size
  wb : b < w0.heap.size
  wS : w0.heap.size ≤ S
  wH : w0.heap.size ≤ H
  wG : w0.heap.size ≤ G
  SB : S < B
  HB : H < B
  GB : G < B
  SG : S ≠ G
  HG : H ≠ G
section
variable {w0 w w1 : World} {B S H G : Nat} {nn gc : Array Value} {R : Nat} {A : Nat → Addr} {b o c : Nat} {s : RS}
end
end Go.Proofs.YtgahbpfmiibpeaaGreatDoor
/- Bytes that are read (package obj): contracts. (Made by gobjw.py.) -/
namespace Go.Proofs.YtgahbpfmiibpeaaGreatDoor
open Go.RowKit
/-- a slice of these bytes -/
def BvAt (w : World) (v : Value) (l : List Int) : Prop := (∃ p c, v = .slice p 0 c ∧ l = []) ∨
  ∃ b o c, v = .slice (some ⟨b, o, none⟩) l.length c ∧ l.length ≤ c ∧ c ≤ 9223372036854775807 ∧ b < w.heap.size ∧ ∀ j x, l[j]? = some x → w.cell? ⟨b, o + j, none⟩ = some (.int .u8 x)
theorem BvAt.kept0 {w w1 : World} {v : Value} {l : List Int} (h : BvAt w v l) (hg : w.grownBy w1 none) : BvAt w1 v l := by
  rcases h with h | ⟨b, o, c, rfl, h1, h2, hb, hc⟩
  · exact .inl h
  · exact .inr ⟨b, o, c, rfl, h1, h2, Nat.lt_of_lt_of_le hb hg.size, fun j x hx => by rw [grown_cell hg hb (by simp)]; exact hc j x hx⟩
theorem BvAt.len {w : World} {v : Value} {l : List Int} (h : BvAt w v l) : ∃ p c, v = .slice p l.length c := by
  rcases h with ⟨p, c, rfl, rfl⟩ | ⟨b, o, c, rfl, _⟩
  · exact ⟨_, _, rfl⟩
  · exact ⟨_, _, rfl⟩
theorem set6_other_d {w : World} {G R k : Nat} {a b c d e f v : Value} (h : G ≠ R) (hc : w.drew.cell? ⟨G, k, none⟩ = some v) :
    ((((((w.setCell ⟨R, 0, none⟩ a).setCell ⟨R, 1, none⟩ b).setCell ⟨R, 2, none⟩ c).setCell ⟨R, 3, none⟩ d).setCell ⟨R, 4, none⟩ e).setCell ⟨R, 5, none⟩ f).drew.cell? ⟨G, k, none⟩ = some v := by
  have e : ∀ (W : World) (p : Addr), W.drew.cell? p = W.cell? p := fun _ _ => rfl
  rw [e] at hc ⊢
  exact set6_other h hc
/-- behind read: an object, or what is wrong -/
def ReadAt (w : World) (A : Nat → Addr) (l : List Int) (e : Ending) (w' : World) : Prop :=
  ∃ V ev, e = .returned (.tuple #[V.agg, ev]) ∧ w.grownBy w' none ∧ ev = evV A (readE l) ∧ (readE l = none → OAt w' V (readO l)) ∧ V.cells.all (·.oneCell') = true
theorem nil6_get {w : World} {H k : Nat} {v : Value} (h : RwAt w H 27 #[.slice none 0 0, .slice none 0 0, .slice none 0 0, .slice none 0 0, .slice none 0 0, .slice none 0 0]) (hc : w.cell? ⟨H, k, none⟩ = some v) : v = .slice none 0 0 := by
  rw [cell_of_row w H k _ _ _ h.blk] at hc
  match k, hc with
  | 0, hc => simpa using hc.symm
  | 1, hc => simpa using hc.symm
  | 2, hc => simpa using hc.symm
  | 3, hc => simpa using hc.symm
  | 4, hc => simpa using hc.symm
  | 5, hc => simpa using hc.symm
  | k + 6, hc => simp at hc
theorem slat_box {w w1 : World} {H : Nat} {k : IntKind} {v : Value} {xs : List Int} (h : SlAt w k v xs) (hH : RwAt w H 27 #[.slice none 0 0, .slice none 0 0, .slice none 0 0, .slice none 0 0, .slice none 0 0, .slice none 0 0]) (hg : w.grownBy w1 (some H)) : SlAt w1 k v xs := by
  rcases h with h | ⟨b, o, c, rfl, hb, hc⟩
  · exact .inl h
  · refine .inr ⟨b, o, c, rfl, Nat.lt_of_lt_of_le hb hg.size, fun j x hx => ?_⟩
    have h0 := hc j x hx
    have hne : b ≠ H := fun e => by subst e; have := nil6_get hH h0; cases this
    rw [grown_cell hg hb (by simpa using hne)]
    exact h0
theorem csat_box {w w1 : World} {H n : Nat} {v : Value} {cs : List Value} (h : CsAt w v n cs) (hH : RwAt w H 27 #[.slice none 0 0, .slice none 0 0, .slice none 0 0, .slice none 0 0, .slice none 0 0, .slice none 0 0]) (hs : ∀ u ∈ cs, u ≠ .slice none 0 0) (hg : w.grownBy w1 (some H)) : CsAt w1 v n cs := by
  rcases h with h | ⟨b, o, c, rfl, hn, hb, hc⟩
  · exact .inl h
  · refine .inr ⟨b, o, c, rfl, hn, Nat.lt_of_lt_of_le hb hg.size, fun j x hx => ?_⟩
    have h0 := hc j x hx
    have hne : b ≠ H := fun e => by subst e; exact hs x (List.mem_of_getElem? hx) (nil6_get hH h0)
    rw [grown_cell hg hb (by simpa using hne)]
    exact h0
theorem rls_ns : ∀ (l : List Rl), ∀ u ∈ rlsC l, u ≠ .slice none 0 0
  | [], u, hu => by simp [rlsC] at hu
  | r :: l, u, hu => by
    rw [rlsC, List.mem_append] at hu
    rcases hu with hu | hu
    · simp only [rlC, List.mem_cons, List.not_mem_nil, or_false] at hu
      rcases hu with rfl | rfl | rfl | rfl <;> simp
    · exact rls_ns l u hu
theorem sys_ns : ∀ (l : List Sy), ∀ u ∈ sysC l, u ≠ .slice none 0 0
  | [], u, hu => by simp [sysC] at hu
  | r :: l, u, hu => by
    rw [sysC, List.mem_append] at hu
    rcases hu with hu | hu
    · simp only [syC, List.mem_cons, List.not_mem_nil, or_false] at hu
      rcases hu with rfl | rfl | rfl | rfl <;> simp
    · exact sys_ns l u hu
theorem oat_box {w w1 : World} {H : Nat} {V : OV} {x : PO} (h : OAt w V x) (hH : RwAt w H 27 #[.slice none 0 0, .slice none 0 0, .slice none 0 0, .slice none 0 0, .slice none 0 0, .slice none 0 0]) (hg : w.grownBy w1 (some H)) : OAt w1 V x :=
  ⟨slat_box h.d hH hg, slat_box h.c hH hg, slat_box h.m hH hg, csat_box h.r hH (rls_ns _) hg, csat_box h.q hH (rls_ns _) hg, csat_box h.s hH (sys_ns _) hg⟩
theorem info_sizes : (Tryz.prog.info? 134).map (·.size) = some 5 := by kernel_rfl
theorem zero_sizes (w : World) : (zeroValue 134).run Tryz.prog w = .ok (.agg #[.int .i64 0, .int .i64 0, .int .i64 0, .int .i64 0, .int .i64 0]) w := by kernel_rfl
theorem manyS_bt {α : Type} {f : RS → α × RS} {B : α → List Int} (h : Takes f B) (n : Nat) {s : RS} (hb : BtB s.l) : BtB (manyS f n s).2.l := (manyS_takes h n).bt hb
theorem readE_long {l : List Int} (h : ¬ l.length < 24) : readE l = if (wordS ⟨l, none⟩).1 ≠ 842225232 then some 1 else if tooM (sizS l).1 = true then some 3 else endE (pS l).2 := by unfold readE; rw [if_neg h]
end Go.Proofs.YtgahbpfmiibpeaaGreatDoor
/- Read (package obj): a contract. -/
namespace Go.Proofs.YtgahbpfmiibpeaaGreatDoor
open Go.RowKit
/-- behind Read -/
def RdsAt (w : World) (A : Nat → Addr) (l : List Int) (e : Ending) (w' : World) : Prop :=
  ∃ V fv, e = .returned (.tuple #[V.agg, fv]) ∧ w.grownBy w' none ∧ FltAt A w' fv (readF l) ∧ (readF l = none → OAt w' V (readO l)) ∧ (readF l ≠ none → V = ov0)
theorem flt_box {A : Nat → Addr} {w w1 : World} {H : Nat} {v : Value} {y : Fl} (h : FltAt A w v y) (hH : RwAt w H 27 #[.slice none 0 0, .slice none 0 0, .slice none 0 0, .slice none 0 0, .slice none 0 0, .slice none 0 0]) (hg : w.grownBy w1 (some H)) : FltAt A w1 v y := by
  match y, h with
  | none, h => exact h
  | some (c, none), h => exact h
  | some (c, some p), ⟨B, hv, hb⟩ =>
    refine ⟨B, hv, hb.kept hg (fun e => ?_)⟩
    have e := Option.some.inj e
    have h1 := hb.blk
    have h2 := hH.blk
    rw [e, h2] at h1
    simp at h1
theorem row_grown (w : World) (H : Nat) (c : Array Value) : w.grownBy (w.setRow H c) (some H) := ⟨rfl, rfl, rfl, by simp [World.setRow], fun i _ hi => setRow_other w H i _ (fun e => hi (by rw [e]))⟩
theorem one_ov {V : OV} (h : V.cells.all (·.oneCell') = true) : (#[V.d, V.c, V.m, V.r, V.q, V.s] : Array Value).all (·.oneCell') = true := h
end Go.Proofs.YtgahbpfmiibpeaaGreatDoor
/- Bytes that came in; bytes copied one by one; one byte more (package facaderef): contracts. -/
namespace Go.Proofs.YtgahbpfmiibpeaaGreatDoor
open Go.RowKit Go.WideShapes Go.ChangeShapes
section
variable {H : Type} {enc : TypeId × Value → H} {W : World} {P : Program}
/-- a slice of bytes that came in -/
theorem bv_of {t e : TypeId} {base : Nat} {v : Value} {d : DataW H} {ps : List MemPlace} (ht : P.underlying t = some (.slice e)) (he : P.underlying e = some (.int .u8)) (hc : P.cellsOf e = 1)
    (hv : Value.okWide P W .any base t v) (h : DataW.Trod enc P W 0 (fun _ => true) true t v d ps) :
    ∃ xs : List Int, BvAt W v xs ∧ BtB xs := by
  obtain ⟨p, len, cap, rfl⟩ := okWide_slice ht hv
  obtain ⟨fuel, hf⟩ := h
  have hf : DataW.trod enc P W 0 (fun _ => true) true fuel t [.slice p len cap] = some (d, ps) := by simpa [Value.cells] using hf
  rcases open_ints ht he hc hf with ⟨hcs, hx⟩ | ⟨a, len', cap', zs, hcs, _, hl, hm, hz, hx, hcell, hw⟩
  · simp only [List.cons.injEq, Value.slice.injEq, and_true] at hcs
    obtain ⟨rfl, rfl, rfl⟩ := hcs
    exact ⟨[], .inl ⟨_, _, rfl, rfl⟩, fun x hx => by cases hx⟩
  · simp only [List.cons.injEq, Value.slice.injEq, and_true] at hcs
    obtain ⟨rfl, rfl, rfl⟩ := hcs
    simp only [if_true] at hz
    have hlen : (zs.take len).length = len := by simp; omega
    refine ⟨zs.take len, ?_, fun n hn => ?_⟩
    · by_cases h0 : len = 0
      · subst h0
        exact .inl ⟨_, _, rfl, by simp⟩
      · obtain ⟨b, off, spot⟩ := a
        have hspot : spot = none := by simpa [Addr.add] using World.cell?_spot (hcell 0 (by omega))
        subst hspot
        have h00 := hcell 0 (by omega)
        refine .inr ⟨b, off, cap, by rw [hlen], by rw [hlen]; exact hl, by unfold maxLen at hm; omega, World.block_lt_of_cell? W _ h00, fun j x hx => ?_⟩
        have hj : j < len := by have := (List.getElem?_eq_some_iff.1 hx).1; omega
        rw [List.getElem?_take, if_pos hj] at hx
        have := hcell j (by omega)
        rw [Addr.add_mid] at this
        rw [this]
        simp [List.getD, hx]
    · have := hw n (List.mem_of_mem_take hn)
      have h' := (Bool.and_eq_true _ _).mp this
      have h0 : 0 ≤ n := of_decide_eq_true h'.1
      have h1 : n ≤ 255 := of_decide_eq_true h'.2
      exact ⟨h0, by omega⟩
end
theorem BvAt.sl {w : World} {v : Value} {l : List Int} (h : BvAt w v l) : SlAt w .u8 v l := by
  rcases h with ⟨p, c, rfl, rfl⟩ | ⟨b, o, c, rfl, _, _, hb, hc⟩
  · exact .inl ⟨⟨_, _, rfl⟩, rfl⟩
  · exact .inr ⟨b, o, c, rfl, hb, hc⟩
theorem By.bv {B : Nat} {w : World} {v : Value} {bs : List Int} (h : By B w v bs) : BvAt w v bs := by
  have hs := SlAt.own h.own
  rcases h.own.2 with ⟨rfl, h0⟩ | ⟨g, cap, cur, rfl, hB, hblk, hnc, hcm, _, _⟩
  · obtain rfl := List.eq_nil_of_length_eq_zero h0
    exact .inl ⟨_, _, rfl, rfl⟩
  · rcases hs with ⟨⟨p, c, hv⟩, rfl⟩ | ⟨b, o, c, hv, hb, hc⟩
    · exact .inl ⟨_, _, hv, rfl⟩
    · simp only [Value.slice.injEq, Option.some.injEq, Addr.mk.injEq, and_true] at hv
      obtain ⟨⟨rfl, rfl⟩, _, rfl⟩ := hv
      exact .inr ⟨g, 0, cap, rfl, by simpa using hnc, by unfold maxLen at hcm; omega, hb, hc⟩
/-- the first k of them -/
theorem BvAt.cut {w : World} {b o c n : Nat} {l : List Int} (h : BvAt w (.slice (some ⟨b, o, none⟩) n c) l) {k : Nat} (hk : k ≤ l.length) : BvAt w (.slice (some ⟨b, o, none⟩) k c) (l.take k) := by
  have hlen : (l.take k).length = k := by simp; omega
  rcases h with ⟨p, c', hv, rfl⟩ | ⟨b', o', c', hv, h1, h2, hb, hc⟩
  · have : k = 0 := by simpa using hk
    subst this
    exact .inl ⟨_, _, rfl, by simp⟩
  · simp only [Value.slice.injEq, Option.some.injEq, Addr.mk.injEq, and_true] at hv
    obtain ⟨⟨rfl, rfl⟩, _, rfl⟩ := hv
    refine .inr ⟨b, o, c, by rw [hlen], by omega, h2, hb, fun j x hx => ?_⟩
    have hj : j < k := by have := (List.getElem?_eq_some_iff.1 hx).1; omega
    rw [List.getElem?_take, if_pos hj] at hx
    exact hc j x hx
structure RBy (w0 : World) (lv : Value) (xs : List Int) (v : Value) (k : Nat) (w : World) : Prop where
  by_ : By w0.heap.size w v (xs.take k)
  g : w0.grownBy w none
  sl : SlAt w .u8 lv xs
end Go.Proofs.YtgahbpfmiibpeaaGreatDoor

/- The document's own name and text of an instruction: contracts. -/
import Derived.Test.YtgahbpfmiibpeaaGreatDoorZGRef
import Derived.Test.YtgahbpfmiibpeaaGreatDoorZGTxt
namespace Go.Proofs.YtgahbpfmiibpeaaGreatDoor
open Go.RowKit

def lowA : Array Value := #[.string ⟨#[]⟩, .string ⟨#[110, 111, 112]⟩, .string ⟨#[109, 111, 118]⟩, .string ⟨#[97, 100, 100]⟩, .string ⟨#[115, 117, 98]⟩, .string ⟨#[97, 110, 100]⟩, .string ⟨#[111, 114]⟩, .string ⟨#[120, 111, 114]⟩, .string ⟨#[115, 104, 108]⟩, .string ⟨#[115, 104, 114]⟩, .string ⟨#[108, 116]⟩, .string ⟨#[101, 113]⟩, .string ⟨#[108, 100]⟩, .string ⟨#[115, 116]⟩, .string ⟨#[108, 105]⟩, .string ⟨#[108, 97]⟩, .string ⟨#[98, 114]⟩, .string ⟨#[98, 114, 122]⟩, .string ⟨#[98, 114, 110]⟩, .string ⟨#[106, 109, 112]⟩, .string ⟨#[106, 122]⟩, .string ⟨#[106, 110]⟩, .string ⟨#[99, 97, 108, 108]⟩, .string ⟨#[106, 114]⟩, .string ⟨#[109, 117, 108]⟩]
def highA : Array Value := #[.string ⟨#[104, 97, 108, 116]⟩, .string ⟨#[115, 116, 118]⟩, .string ⟨#[114, 116, 105]⟩, .string ⟨#[111, 117, 116]⟩, .string ⟨#[105, 110]⟩, .string ⟨#[98, 119, 114]⟩, .string ⟨#[98, 114, 100]⟩, .string ⟨#[116, 109, 114]⟩, .string ⟨#[103, 116, 109]⟩, .string ⟨#[115, 112, 116, 101]⟩, .string ⟨#[115, 121, 110, 99]⟩, .string ⟨#[103, 99, 115]⟩, .string ⟨#[103, 102, 97]⟩]
def lastA : Array Value := #[.string ⟨#[99, 108, 105]⟩, .string ⟨#[115, 116, 105]⟩, .string ⟨#[103, 115, 116]⟩, .string ⟨#[115, 115, 116]⟩]
theorem low_at : ∀ o, o < 25 → lowA[o]? = some (.string (nameB o)) := by
  intro o h
  match o, h with
  | 0, _ => rfl | 1, _ => rfl | 2, _ => rfl | 3, _ => rfl | 4, _ => rfl | 5, _ => rfl | 6, _ => rfl | 7, _ => rfl | 8, _ => rfl | 9, _ => rfl | 10, _ => rfl | 11, _ => rfl
  | 12, _ => rfl | 13, _ => rfl | 14, _ => rfl | 15, _ => rfl | 16, _ => rfl | 17, _ => rfl | 18, _ => rfl | 19, _ => rfl | 20, _ => rfl | 21, _ => rfl | 22, _ => rfl | 23, _ => rfl | 24, _ => rfl
  | n + 25, h => exact absurd h (by omega)
theorem high_at : ∀ o, o < 13 → highA[o]? = some (.string (nameB (o + 32))) := by
  intro o h
  match o, h with
  | 0, _ => rfl | 1, _ => rfl | 2, _ => rfl | 3, _ => rfl | 4, _ => rfl | 5, _ => rfl | 6, _ => rfl | 7, _ => rfl | 8, _ => rfl | 9, _ => rfl | 10, _ => rfl | 11, _ => rfl | 12, _ => rfl
  | n + 13, h => exact absurd h (by omega)
theorem last_at : ∀ o, o < 4 → lastA[o]? = some (.string (nameB (o + 64))) := by
  intro o h
  match o, h with
  | 0, _ => rfl | 1, _ => rfl | 2, _ => rfl | 3, _ => rfl
  | n + 4, h => exact absurd h (by omega)

set_option maxRecDepth 100000 in
set_option maxHeartbeats 4000000 in
theorem name_low (o : Nat) (h1 : 1 ≤ o) (h2 : o ≤ 24) (w : World) :
    Calls Tryz.prog 88 #[.int .i64 o] w fun e w' => e = .returned (.string (nameB o)) ∧ Below w.heap.size w w' := by
  have E := low_at o (by omega)
  unfold lowA at E
  have hk : clsI (o : Int) = 1 := by unfold clsI; rw [if_pos (by omega)]
  have i0 : (0 : Int) ≤ (o : Int) := by omega
  have i1 : (o : Int) < 25 := by omega
  go_enter Tryz.func88, Tryz.ntmps88
  go_wp2_with (go_at_call 34; refine (rclass_any _ _).mono ?_; rintro e w' ⟨rfl, rfl⟩)
  go_ret
  exact ⟨rfl, by go_grown⟩
set_option maxRecDepth 100000 in
set_option maxHeartbeats 4000000 in
theorem name_high (k : Nat) (h2 : k ≤ 12) (w : World) :
    Calls Tryz.prog 88 #[.int .i64 ((k + 32 : Nat) : Int)] w fun e w' => e = .returned (.string (nameB (k + 32))) ∧ Below w.heap.size w w' := by
  have E := high_at k (by omega)
  unfold highA at E
  have hk : clsI ((k + 32 : Nat) : Int) = 2 := by unfold clsI; rw [if_neg (by omega), if_pos (by omega)]
  have ei : ((k + 32 : Nat) : Int) - 32 = (k : Int) := by omega
  have i0 : (0 : Int) ≤ (k : Int) := by omega
  have i1 : (k : Int) < 13 := by omega
  obtain ⟨q, hq⟩ : ∃ q : Int, q = ((k + 32 : Nat) : Int) := ⟨_, rfl⟩
  rw [← hq] at hk ei ⊢
  have j0 : 32 ≤ q := by omega
  have j1 : q ≤ 44 := by omega
  clear hq
  go_enter Tryz.func88, Tryz.ntmps88
  go_wp2_with (go_at_call 34; refine (rclass_any _ _).mono ?_; rintro e w' ⟨rfl, rfl⟩)
  go_ret
  exact ⟨rfl, by go_grown⟩
set_option maxRecDepth 100000 in
set_option maxHeartbeats 4000000 in
theorem name_last (k : Nat) (h2 : k ≤ 3) (w : World) :
    Calls Tryz.prog 88 #[.int .i64 ((k + 64 : Nat) : Int)] w fun e w' => e = .returned (.string (nameB (k + 64))) ∧ Below w.heap.size w w' := by
  have E := last_at k (by omega)
  unfold lastA at E
  have hk : clsI ((k + 64 : Nat) : Int) = 3 := by unfold clsI; rw [if_neg (by omega), if_neg (by omega), if_pos (by omega)]
  have ei : ((k + 64 : Nat) : Int) - 64 = (k : Int) := by omega
  have i0 : (0 : Int) ≤ (k : Int) := by omega
  have i1 : (k : Int) < 4 := by omega
  obtain ⟨q, hq⟩ : ∃ q : Int, q = ((k + 64 : Nat) : Int) := ⟨_, rfl⟩
  rw [← hq] at hk ei ⊢
  have j0 : 64 ≤ q := by omega
  have j1 : q ≤ 67 := by omega
  clear hq
  go_enter Tryz.func88, Tryz.ntmps88
  go_wp2_with (go_at_call 34; refine (rclass_any _ _).mono ?_; rintro e w' ⟨rfl, rfl⟩)
  go_ret
  exact ⟨rfl, by go_grown⟩
set_option maxRecDepth 100000 in
set_option maxHeartbeats 4000000 in
theorem name_hc (w : World) :
    Calls Tryz.prog 88 #[.int .i64 96] w fun e w' => e = .returned (.string (nameB 96)) ∧ Below w.heap.size w w' := by
  have hk : clsI 96 = 4 := by decide
  go_enter Tryz.func88, Tryz.ntmps88
  go_wp2_with (go_at_call 34; refine (rclass_any _ _).mono ?_; rintro e w' ⟨rfl, rfl⟩)
  go_ret
  exact ⟨rfl, by go_grown⟩
theorem name_any (o : Nat) (h : clsI o ≠ 0) (w : World) :
    Calls Tryz.prog 88 #[.int .i64 o] w fun e w' => e = .returned (.string (nameB o)) ∧ Below w.heap.size w w' := by
  unfold clsI at h
  by_cases h1 : 1 ≤ (o : Int) ∧ (o : Int) ≤ 24
  · exact name_low o (by omega) (by omega) w
  · rw [if_neg h1] at h
    by_cases h2 : 32 ≤ (o : Int) ∧ (o : Int) ≤ 44
    · obtain ⟨k, rfl⟩ : ∃ k, o = k + 32 := ⟨o - 32, by omega⟩
      exact name_high k (by omega) w
    · rw [if_neg h2] at h
      by_cases h3 : 64 ≤ (o : Int) ∧ (o : Int) ≤ 67
      · obtain ⟨k, rfl⟩ : ∃ k, o = k + 64 := ⟨o - 64, by omega⟩
        exact name_last k (by omega) w
      · rw [if_neg h3] at h
        by_cases h4 : (o : Int) = 96
        · obtain rfl : o = 96 := by omega
          exact name_hc w
        · rw [if_neg h4] at h; exact absurd rfl h

theorem app_nil (x : ByteArray) : x ++ sB [] = x := by
  apply ByteArray.ext; simp [sB, ByteArray.data_append]
theorem app_assoc (x y z : ByteArray) : x ++ y ++ z = x ++ (y ++ z) := ByteArray.append_assoc

/-- which operands, which numbers -/
def shape (o : Nat) (x y z n t : Bool) (p q r : Int) : Prop := rA o = x ∧ rB o = y ∧ rC o = z ∧ rN o = n ∧ twoB o = t ∧ hasA o = p ∧ hasB o = q ∧ hasC o = r
theorem shapes_all : ∀ k : Fin 97, clsI (k.val : Int) ≠ 0 → (
    (rA (k.val : Int) = false ∧ rB (k.val : Int) = false ∧ rC (k.val : Int) = false ∧ rN (k.val : Int) = false ∧ hasA (k.val : Int) = 0 ∧ hasB (k.val : Int) = 0 ∧ hasC (k.val : Int) = 0) ∨
    (rA (k.val : Int) = true ∧ rB (k.val : Int) = false ∧ rC (k.val : Int) = false ∧ rN (k.val : Int) = false ∧ hasA (k.val : Int) = 1 ∧ hasB (k.val : Int) = 0 ∧ hasC (k.val : Int) = 0) ∨
    (rA (k.val : Int) = true ∧ rB (k.val : Int) = true ∧ rC (k.val : Int) = false ∧ rN (k.val : Int) = false ∧ hasA (k.val : Int) = 1 ∧ hasB (k.val : Int) = 1 ∧ hasC (k.val : Int) = 0) ∨
    (rA (k.val : Int) = true ∧ rB (k.val : Int) = true ∧ rC (k.val : Int) = true ∧ rN (k.val : Int) = false ∧ hasA (k.val : Int) = 1 ∧ hasB (k.val : Int) = 1 ∧ hasC (k.val : Int) = 1) ∨
    (rA (k.val : Int) = true ∧ rB (k.val : Int) = true ∧ rC (k.val : Int) = true ∧ rN (k.val : Int) = true ∧ hasA (k.val : Int) = 1 ∧ hasB (k.val : Int) = 1 ∧ hasC (k.val : Int) = 2) ∨
    (rA (k.val : Int) = false ∧ rB (k.val : Int) = false ∧ rC (k.val : Int) = true ∧ rN (k.val : Int) = true ∧ hasA (k.val : Int) = 0 ∧ hasB (k.val : Int) = 0 ∧ hasC (k.val : Int) = 2) ∨
    (rA (k.val : Int) = true ∧ rB (k.val : Int) = false ∧ rC (k.val : Int) = true ∧ rN (k.val : Int) = true ∧ hasA (k.val : Int) = 1 ∧ hasB (k.val : Int) = 0 ∧ hasC (k.val : Int) = 2)) := by
  decide +kernel

end Go.Proofs.YtgahbpfmiibpeaaGreatDoor
/- The document's own text of an instruction that may be: a contract. -/
namespace Go.Proofs.YtgahbpfmiibpeaaGreatDoor
open Go.RowKit

/-- the text, operand by operand, joined from the left -/
def joinS (s : ByteArray) (k : Int) (n : Nat) : ByteArray := if k = 1 then s ++ sB [32, 114] ++ decB n else if k = 2 then s ++ sB [32] ++ decB n else s
theorem join_eq (s : ByteArray) (k : Int) (n : Nat) : s ++ ktB k n = joinS s k n := by
  unfold ktB joinS
  split
  · exact (app_assoc _ _ _).symm
  · split
    · exact (app_assoc _ _ _).symm
    · exact app_nil s
theorem rtext_eq (o a b c i : Nat) {p q r : Int} {t : Bool} (hp : hasA o = p) (hq : hasB o = q) (hr : hasC o = r) (ht : twoB o = t) :
    textB o a b c i = if t = true then joinS (joinS (joinS (nameB o) p a) q b) r c ++ sB [32, 48, 120] ++ hexB i else joinS (joinS (joinS (nameB o) p a) q b) r c := by
  unfold textB
  rw [hp, hq, hr, ht, join_eq, join_eq, join_eq]
  cases t
  · rfl
  · exact (app_assoc _ _ _).symm

set_option maxRecDepth 100000 in
set_option maxHeartbeats 4000000 in
theorem rtext_any (o a b c i : Nat) (hi : i < 4294967296) (w : World) (hv : Vars w) (h : insB o a b c i = true) :
    Calls Tryz.prog 52 #[.agg #[.int .i64 o, .int .i64 a, .int .i64 b, .int .i64 c, .int .u32 i]] w fun e w' => e = .returned (.string (textB o a b c i)) ∧ Below w.heap.size w w' := by
  obtain ⟨⟨o1, o2⟩, ⟨a1, a2⟩, ⟨b1, b2⟩, ⟨c1, c2⟩⟩ := ins_bd h
  obtain ⟨hk, _, _, _, _⟩ := ins_parts h
  have ha : a ≤ 255 := by omega
  have hb : b ≤ 255 := by omega
  have hc : c ≤ 255 := by omega
  have s0 := name_size o
  have s1 := dec_size ha
  have s2 := dec_size hb
  have s3 := dec_size hc
  have s4 := hexB_size hi
  have hsh := shapes_all ⟨o, by omega⟩ hk
  simp only at hsh
  have hi5 : At5 (w.alloc (.cells #[.int .i64 o, .int .i64 a, .int .i64 b, .int .i64 c, .int .u32 i] 48)) w.heap.size (.int .i64 o) (.int .i64 a) (.int .i64 b) (.int .i64 c) (.int .u32 i) := At5.new _ _ _ _ _ _ _
  have hB5 : Below w.heap.size w (w.alloc (.cells #[.int .i64 o, .int .i64 a, .int .i64 b, .int .i64 c, .int .u32 i] 48)) := (Below.refl _ _).alloc (Nat.le_refl _) _
  have hV5 := hv.below hB5
  rcases hsh with ⟨q1, q2, q3, q4, q5, q6, q7⟩ | ⟨q1, q2, q3, q4, q5, q6, q7⟩ | ⟨q1, q2, q3, q4, q5, q6, q7⟩ | ⟨q1, q2, q3, q4, q5, q6, q7⟩ | ⟨q1, q2, q3, q4, q5, q6, q7⟩ | ⟨q1, q2, q3, q4, q5, q6, q7⟩ | ⟨q1, q2, q3, q4, q5, q6, q7⟩ <;> cases ht : twoB (o : Int)
  all_goals
    have HT := hid (rtext_eq o a b c i q5 q6 q7 ht)
    go_enter Tryz.func52, Tryz.ntmps52
    go_wp2_with (first | (go_at_call 87; refine (uses_any _ _).mono ?_; rintro e w' ⟨rfl, rfl⟩) | (go_at_call 57; refine (rtwo_any _ _).mono ?_; rintro e w' ⟨rfl, rfl⟩) | (go_at_call 88; refine (name_any _ hk _).mono ?_; rintro e w' ⟨rfl, hcb⟩; replace hi5 := hi5.below hcb; replace hV5 := hV5.below hcb; replace hB5 := Below.trans hB5 (hcb.mono hB5.size); clear hcb; obtain ⟨zi, i0, i1, i2, i3, i4⟩ := hi5; have hi5 := At5.mk zi i0 i1 i2 i3 i4) | (go_at_call 53; refine (itoa_any _ (by omega) _ hV5).mono ?_; rintro e w' ⟨rfl, hcb⟩; replace hi5 := hi5.below hcb; replace hV5 := hV5.below hcb; replace hB5 := Below.trans hB5 (hcb.mono hB5.size); clear hcb; obtain ⟨zi, i0, i1, i2, i3, i4⟩ := hi5; have hi5 := At5.mk zi i0 i1 i2 i3 i4) | (go_at_call 47; refine (fuint_any i hi _ hV5).mono ?_; rintro e w' ⟨rfl, hcb⟩; replace hB5 := Below.trans hB5 (hcb.mono hB5.size); clear hcb))
    go_ret
    refine ⟨ret_s ?_, hB5⟩
    rw [HT.out]
    first | rfl | (simp only [app_assoc]; rfl)
end Go.Proofs.YtgahbpfmiibpeaaGreatDoor

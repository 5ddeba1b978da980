/- The document's own text of an instruction that may be: a contract. -/
import Derived.Test.YtkmphiehfacddaaDoorRef3
namespace Go.Proofs.YtkmphiehfacddaaDoor
open Go.RowKit

/-- the text, operand by operand, joined from the left -/
def joinS (s : ByteArray) (k : Int) (n : Nat) : ByteArray := if k = 1 then s ++ sB [32, 114] ++ decB n else if k = 2 then s ++ sB [32] ++ decB n else s
theorem join_eq (s : ByteArray) (k : Int) (n : Nat) : s ++ ktB k n = joinS s k n := by
  unfold ktB joinS
  split
  · exact (app_assoc _ _ _).symm
  · split
    · exact (app_assoc _ _ _).symm
    · exact app_nil s
theorem rtext_eq (o a b c i : Nat) {p q r : Int} {t : Bool} (hp : hasA o = p) (hq : hasB o = q) (hr : hasC o = r) (ht : twoB o = t) :
    textB o a b c i = if t = true then joinS (joinS (joinS (nameB o) p a) q b) r c ++ sB [32, 48, 120] ++ hexB i else joinS (joinS (joinS (nameB o) p a) q b) r c := by
  unfold textB
  rw [hp, hq, hr, ht, join_eq, join_eq, join_eq]
  cases t
  · rfl
  · exact (app_assoc _ _ _).symm

set_option maxHeartbeats 4000000 in
theorem rtext_any (o a b c i : Nat) (hi : i < 4294967296) (w : World) (hv : Vars w) (h : insB o a b c i = true) :
    Calls Tryd.prog 21 #[.agg #[.int .i64 o, .int .i64 a, .int .i64 b, .int .i64 c, .int .u32 i]] w fun e w' => e = .returned (.string (textB o a b c i)) ∧ Below w.heap.size w w' := by
  obtain ⟨⟨o1, o2⟩, ⟨a1, a2⟩, ⟨b1, b2⟩, ⟨c1, c2⟩⟩ := ins_bd h
  obtain ⟨hk, _, _, _, _⟩ := ins_parts h
  have ha : a ≤ 255 := by omega
  have hb : b ≤ 255 := by omega
  have hc : c ≤ 255 := by omega
  have s0 := name_size o
  have s1 := dec_size ha
  have s2 := dec_size hb
  have s3 := dec_size hc
  have s4 := hexB_size hi
  have hsh := shapes_all ⟨o, by omega⟩ hk
  simp only at hsh
  have hi5 : At5 (w.alloc (.cells #[.int .i64 o, .int .i64 a, .int .i64 b, .int .i64 c, .int .u32 i] 24)) w.heap.size (.int .i64 o) (.int .i64 a) (.int .i64 b) (.int .i64 c) (.int .u32 i) := At5.new _ _ _ _ _ _ _
  have hB5 : Below w.heap.size w (w.alloc (.cells #[.int .i64 o, .int .i64 a, .int .i64 b, .int .i64 c, .int .u32 i] 24)) := (Below.refl _ _).alloc (Nat.le_refl _) _
  have hV5 := hv.below hB5
  rcases hsh with ⟨q1, q2, q3, q4, q5, q6, q7⟩ | ⟨q1, q2, q3, q4, q5, q6, q7⟩ | ⟨q1, q2, q3, q4, q5, q6, q7⟩ | ⟨q1, q2, q3, q4, q5, q6, q7⟩ | ⟨q1, q2, q3, q4, q5, q6, q7⟩ | ⟨q1, q2, q3, q4, q5, q6, q7⟩ | ⟨q1, q2, q3, q4, q5, q6, q7⟩ <;> cases ht : twoB (o : Int)
  all_goals
    have HT := hid (rtext_eq o a b c i q5 q6 q7 ht)
    go_enter Tryd.func21, Tryd.ntmps21
    go_wp2_with (first | (go_at_call 23; refine (uses_any _ _).mono ?_; rintro e w' ⟨rfl, rfl⟩) | (go_at_call 15; refine (rtwo_any _ _).mono ?_; rintro e w' ⟨rfl, rfl⟩) | (go_at_call 29; refine (name_any _ hk _).mono ?_; rintro e w' ⟨rfl, hcb⟩; replace hi5 := hi5.below hcb; replace hV5 := hV5.below hcb; replace hB5 := Below.trans hB5 (hcb.mono hB5.size); clear hcb; obtain ⟨zi, i0, i1, i2, i3, i4⟩ := hi5; have hi5 := At5.mk zi i0 i1 i2 i3 i4) | (go_at_call 30; refine (itoa_any _ (by omega) _ hV5).mono ?_; rintro e w' ⟨rfl, hcb⟩; replace hi5 := hi5.below hcb; replace hV5 := hV5.below hcb; replace hB5 := Below.trans hB5 (hcb.mono hB5.size); clear hcb; obtain ⟨zi, i0, i1, i2, i3, i4⟩ := hi5; have hi5 := At5.mk zi i0 i1 i2 i3 i4) | (go_at_call 28; refine (fuint_any i hi _ hV5).mono ?_; rintro e w' ⟨rfl, hcb⟩; replace hB5 := Below.trans hB5 (hcb.mono hB5.size); clear hcb))
    go_ret
    refine ⟨ret_s ?_, hB5⟩
    rw [HT.out]
    first | rfl | (simp only [app_assoc]; rfl)
end Go.Proofs.YtkmphiehfacddaaDoor

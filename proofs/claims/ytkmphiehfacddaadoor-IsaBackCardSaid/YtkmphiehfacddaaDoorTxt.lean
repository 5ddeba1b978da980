/- isa.Text of an instruction that may be: a contract. -/
import Derived.Test.YtkmphiehfacddaaDoorStr
namespace Go.Proofs.YtkmphiehfacddaaDoor
open Go.RowKit

/-- an instruction's text -/
def textB (o a b c i : Nat) : ByteArray :=
  let s := nameB o ++ ktB (hasA o) a ++ ktB (hasB o) b ++ ktB (hasC o) c
  if twoB o = true then s ++ (sB [32, 48, 120] ++ hexB i) else s
theorem text_two {o : Nat} (a b c i : Nat) (h : twoB o = true) : textB o a b c i = nameB o ++ ktB (hasA o) a ++ ktB (hasB o) b ++ ktB (hasC o) c ++ (sB [32, 48, 120] ++ hexB i) := by
  unfold textB; rw [if_pos h]
theorem text_one {o : Nat} (a b c i : Nat) (h : twoB o = false) : textB o a b c i = nameB o ++ ktB (hasA o) a ++ ktB (hasB o) b ++ ktB (hasC o) c := by
  unfold textB; rw [if_neg (by simp [h])]

set_option maxHeartbeats 4000000 in
theorem text_any (o a b c i : Nat) (hi : i < 4294967296) (w : World) (hv : Vars w) (h : insB o a b c i = true) :
    Calls Tryd.prog 20 #[.agg #[.int .i64 o, .int .i64 a, .int .i64 b, .int .i64 c, .int .u32 i]] w fun e w' => e = .returned (.string (textB o a b c i)) ∧ Below w.heap.size w w' := by
  obtain ⟨⟨o1, o2⟩, ⟨a1, a2⟩, ⟨b1, b2⟩, ⟨c1, c2⟩⟩ := ins_bd h
  have ho : o < 97 := by omega
  have ha : a ≤ 255 := by omega
  have hb : b ≤ 255 := by omega
  have hc : c ≤ 255 := by omega
  have s0 := name_size o
  have s1 := kt_size (hasA o) ha
  have s2 := kt_size (hasB o) hb
  have s3 := kt_size (hasC o) hc
  have s4 := hexB_size hi
  have oi0 : (0 : Int) ≤ (o : Int) := by omega
  have oi1 : (o : Int) < 97 := by omega
  go_enter Tryd.func20, Tryd.ntmps20
  go_wp2_with fail
  refine (mayBe_any _ _ _ _ _ _).mono ?_; rintro e wa ⟨rfl, hba⟩
  have di := (At5.new _ _ _ _ _ _ _).below hba
  have hB : Below w.heap.size w wa := (by refine Below.trans ?_ (hba.mono ?_) <;> go_grown)
  have hs := hB.size
  clear hba
  obtain ⟨zi, i0, i1, i2, i3, i4⟩ := di
  go_wp2_with fail
  refine (operands_any _ _).mono ?_; rintro e wb ⟨rfl, hbb⟩
  have di := (At5.mk zi i0 i1 i2 i3 i4).below hbb
  have hB2 : Below w.heap.size w wb := (by refine Below.trans ?_ (hbb.mono ?_) <;> go_grown)
  have hs2 := hB2.size
  clear hbb zi i0 i1 i2 i3 i4
  obtain ⟨zi, i0, i1, i2, i3, i4⟩ := di
  go_wp2_with fail
  have di := (At5.mk zi i0 i1 i2 i3 i4).alloc (.cells #[.int .i64 (hasA o), .int .i64 (hasB o), .int .i64 (hasC o)] 48)
  clear zi i0 i1 i2 i3 i4
  obtain ⟨zi, i0, i1, i2, i3, i4⟩ := di
  have hBe := hB2.alloc hs2 (.cells #[.int .i64 (hasA o), .int .i64 (hasB o), .int .i64 (hasC o)] 48)
  have hV := hv.below hBe
  have zh : wb.heap.size < (wb.alloc (.cells #[.int .i64 (hasA o), .int .i64 (hasB o), .int .i64 (hasC o)] 48)).heap.size := by simp
  have h0 : (wb.alloc (.cells #[.int .i64 (hasA o), .int .i64 (hasB o), .int .i64 (hasC o)] 48)).cell? ⟨wb.heap.size, 0, none⟩ = some (.int .i64 (hasA o)) := by simp
  have h1 : (wb.alloc (.cells #[.int .i64 (hasA o), .int .i64 (hasB o), .int .i64 (hasC o)] 48)).cell? ⟨wb.heap.size, 1, none⟩ = some (.int .i64 (hasB o)) := by simp
  have h2 : (wb.alloc (.cells #[.int .i64 (hasA o), .int .i64 (hasB o), .int .i64 (hasC o)] 48)).cell? ⟨wb.heap.size, 2, none⟩ = some (.int .i64 (hasC o)) := by simp
  have q1 : ∀ W, (Op.stringOp .add (nameB o) (ktB (hasA o) a)).run Tryd.prog W = .ok (.string (nameB o ++ ktB (hasA o) a)) W := fun W => run_string_add_sum W _ _ (by omega)
  have q2 : ∀ W, (Op.stringOp .add (nameB o ++ ktB (hasA o) a) (ktB (hasB o) b)).run Tryd.prog W = .ok (.string (nameB o ++ ktB (hasA o) a ++ ktB (hasB o) b)) W := fun W => run_string_add_sum W _ _ (by rw [ByteArray.size_append]; omega)
  have q3 : ∀ W, (Op.stringOp .add (nameB o ++ ktB (hasA o) a ++ ktB (hasB o) b) (ktB (hasC o) c)).run Tryd.prog W = .ok (.string (nameB o ++ ktB (hasA o) a ++ ktB (hasB o) b ++ ktB (hasC o) c)) W := fun W => run_string_add_sum W _ _ (by rw [ByteArray.size_append, ByteArray.size_append]; omega)
  go_region_held3 (fun W => w.heap.size < W.heap.size ∧ W.cell? ⟨w.heap.size, 0, none⟩ = some (.int .i64 o) ∧ W.cell? ⟨w.heap.size, 1, none⟩ = some (.int .i64 a) ∧ W.cell? ⟨w.heap.size, 2, none⟩ = some (.int .i64 b) ∧ W.cell? ⟨w.heap.size, 3, none⟩ = some (.int .i64 c) ∧ W.cell? ⟨w.heap.size, 4, none⟩ = some (.int .u32 i) ∧ wb.heap.size < W.heap.size ∧ W.cell? ⟨wb.heap.size, 0, none⟩ = some (.int .i64 (hasA o)) ∧ W.cell? ⟨wb.heap.size, 1, none⟩ = some (.int .i64 (hasB o)) ∧ W.cell? ⟨wb.heap.size, 2, none⟩ = some (.int .i64 (hasC o)) ∧ Vars W ∧ W.cell? ⟨0, o, none⟩ = some (.string (nameB o)) ∧ Below w.heap.size w W) (first | (exact ⟨zi, i0, i1, i2, i3, i4, zh, h0, h1, h2, hV.below (below_drewN (Below.refl _ _) 1), hV.names o ho, Below.drew hBe⟩) | (go_split_ands; (repeat' apply And.intro) <;> first | (refine Eq.trans (hcb.cell ?_) ?_ <;> assumption) | (exact Nat.lt_of_lt_of_le (by assumption) hcb.size) | (exact Vars.below (by assumption) hcb) | (refine Eq.trans (hcb.cell ?_) ?_; exact World.block_lt_of_cell? _ _ (by assumption); assumption) | (refine Below.trans (by assumption) (hcb.mono ?_); exact Below.size (by assumption)))) (first | (go_at_call 27; go_split_ands; refine (ktext_any _ _ (by omega) _ (by assumption)).mono ?_; rintro e w' ⟨rfl, hcb⟩))
  go_split_ands
  cases ht : twoB (o : Int)
  · have H := hid (text_one a b c i ht)
    go_wp2_with (go_at_call 25; refine (askt_any _ _).mono ?_; rintro e w' ⟨rfl, rfl⟩)
    go_ret
    exact ⟨ret_s H.out.symm, by go_grown⟩
  · have H := hid (text_two a b c i ht)
    go_wp2_with (first | (go_at_call 25; refine (askt_any _ _).mono ?_; rintro e w' ⟨rfl, rfl⟩) | (go_at_call 28; refine (fuint_any i hi _ (Vars.below (by assumption) (by go_grown))).mono ?_; rintro e w' ⟨rfl, hcb⟩))
    go_ret
    refine ⟨ret_s H.out.symm, Below.trans ?_ (hcb.mono ?_)⟩ <;> go_grown
end Go.Proofs.YtkmphiehfacddaaDoor

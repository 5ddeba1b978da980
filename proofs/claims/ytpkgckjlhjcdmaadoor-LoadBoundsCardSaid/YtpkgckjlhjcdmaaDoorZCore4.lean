/- core's fetch and Fetch: contracts. (Made by a program.) -/
import Derived.Test.YtpkgckjlhjcdmaaDoorZCore3
import Derived.Test.YtpkgckjlhjcdmaaDoorZGIsaA
import Derived.Deep.RegionWith
namespace Go.Proofs.YtpkgckjlhjcdmaaDoor
open Go.RowKit
/-- stops that are written out -/
structure Builds (t : TypeId) : Prop where
  s1 : ∀ (k ad : Int) (w : World), (Instr.build t #[(0, .int .i64 k), (1, .int .u32 ad)]).run Tryd.prog w = .ok (.agg (spC k ad 0 0 0 0 0 0)) w
  s0 : ∀ (k : Int) (w : World), (Instr.build t #[(0, .int .i64 k)]).run Tryd.prog w = .ok (.agg (spC k 0 0 0 0 0 0 0)) w
theorem build_ins (w : World) : (Instr.build 36 #[]).run Tryd.prog w = .ok (.agg (inC 0 0 0 0 0)) w := by kernel_rfl
section
variable {ops : Array Oper} {rest : List Oper} {o : Oper} {A : Act} {w : World} {Q : Exit → Act → World → Prop}
theorem wpList_build_ins (hgd : o.guard = none) (ho : o.op = .build 36 #[]) (h : wpList Tryd.prog ops Q rest (A.put o.dst (.agg (inC 0 0 0 0 0))) w) : wpList Tryd.prog ops Q (o :: rest) A w := by
  refine wpList_plain hgd fun K hK => ?_
  unfold Oper.wp
  simp [execOp, ho, build_ins w, Result.andThen]
  exact hK _ _ h
theorem wpList_build_s1 {t : TypeId} (hb : Builds t) (hgd : o.guard = none) (k : Int) (x : Operand) (ho : o.op = .build t #[(0, .const (.int .i64 k)), (1, x)]) {ad : Int} (hx : A.eval x = .int .u32 ad) (h : wpList Tryd.prog ops Q rest (A.put o.dst (.agg (spC k ad 0 0 0 0 0 0))) w) : wpList Tryd.prog ops Q (o :: rest) A w := by
  refine wpList_plain hgd fun K hK => ?_
  unfold Oper.wp
  have e : A.eval (.const (.int .i64 k)) = .int .i64 k := rfl
  simp [execOp, ho, hx, e, hb.s1 k ad w, Result.andThen]
  exact hK _ _ h
theorem wpList_build_s0 {t : TypeId} (hb : Builds t) (hgd : o.guard = none) (k : Int) (ho : o.op = .build t #[(0, .const (.int .i64 k))]) (h : wpList Tryd.prog ops Q rest (A.put o.dst (.agg (spC k 0 0 0 0 0 0 0))) w) : wpList Tryd.prog ops Q (o :: rest) A w := by
  refine wpList_plain hgd fun K hK => ?_
  unfold Oper.wp
  have e : A.eval (.const (.int .i64 k)) = .int .i64 k := rfl
  simp [execOp, ho, e, hb.s0 k w, Result.andThen]
  exact hK _ _ h
end
theorem wantImm_zero (op : Int) : wantImm op 0 = 0 := by unfold wantImm; split <;> rfl
theorem of_bad (x imm : Int) (w : World) (x0 : 0 ≤ x) (x1 : x < 4294967296) (hi : imm = 0) (h : okW x = false) :
    Calls Tryd.prog 113 #[.int .u32 x, .int .u32 imm] w fun e w' => e = .returned (.tuple #[.agg (inC 0 0 0 0 0), .bool false]) ∧ w.grownBy w' none := by
  subst hi
  exact (of_no x 0 w x0 x1 (by rw [wantImm_zero]; exact h)).mono fun e w' ⟨he, hb⟩ => ⟨he, below_is_grown hb⟩
theorem of_one1 (x : Int) (w : World) (x0 : 0 ≤ x) (x1 : x < 4294967296) (h : okW x = true) :
    Calls Tryd.prog 113 #[.int .u32 x, .int .u32 0] w fun e w' => e = .returned (.tuple #[.agg (inC (x / 16777216) (x / 65536 % 256) (x / 256 % 256) (x % 256) 0), .bool true]) ∧ w.grownBy w' none := by
  have := of_yes x 0 w x0 x1 (by rw [wantImm_zero]; exact h)
  rw [wantImm_zero] at this
  exact this.mono fun e w' ⟨he, hb⟩ => ⟨he, below_is_grown hb⟩
theorem of_two2 (x im : Int) (w : World) (x0 : 0 ≤ x) (x1 : x < 4294967296) (h : okW x = true) (ht : twoB (x / 16777216) = true) :
    Calls Tryd.prog 113 #[.int .u32 x, .int .u32 im] w fun e w' => e = .returned (.tuple #[.agg (inC (x / 16777216) (x / 65536 % 256) (x / 256 % 256) (x % 256) im), .bool true]) ∧ w.grownBy w' none := by
  have := of_yes x im w x0 x1 (by rw [wantImm_yes ht]; exact ins_imm h ht im)
  rw [wantImm_yes ht] at this
  exact this.mono fun e w' ⟨he, hb⟩ => ⟨he, below_is_grown hb⟩
section
variable {m b n c : Nat} {xs : List Int} {W : World}
end
end Go.Proofs.YtpkgckjlhjcdmaaDoor

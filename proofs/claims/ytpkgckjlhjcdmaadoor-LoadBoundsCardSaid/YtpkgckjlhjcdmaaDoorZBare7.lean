/- bare's privileged: contracts. (Made by a program.) -/
import Derived.Test.YtpkgckjlhjcdmaaDoorZGBareA
import Derived.Test.YtpkgckjlhjcdmaaDoorZBare4
import Derived.Test.YtpkgckjlhjcdmaaDoorZBare5
import Derived.Test.YtpkgckjlhjcdmaaDoorZBare6
import Derived.Test.YtpkgckjlhjcdmaaDoorZOrder
namespace Go.Proofs.YtpkgckjlhjcdmaaDoor
open Go.RowKit
theorem GAt.sPcX {w : World} {p : Nat} {t : TypeId} {h : Value} {x : Cp} {tl : List Value} (g : GAt w p t h x tl) (v : Int) : GAt (w.setCell ⟨p, 17, none⟩ (.int .u32 v)) p t h ⟨x.l, v, x.ie, x.eie, x.epc, x.tv, x.ca, x.ad⟩ tl := by
  obtain ⟨l, pc, ie, eie, epc, tv, ca, ad⟩ := x
  exact g.sPc v
theorem MachAt.advT {w : World} {B p m bm d n cap : Nat} {q : Int} {M : Mc} {vs vw : Value} (h : MachAt w B p m bm d n cap q M vs vw) (ln : Int) : MTurned w B p m bm d n cap q vs vw (advP M ln) (w.setCell ⟨p, 17, none⟩ (.int .u32 ((M.c.pc + ln) % 4294967296))) vs vw :=
  h.ownT (now' := M.now) (ov' := M.ov) (h.g.sPcX _) (lv_cell w p 17 _)
theorem RwAt.mt {w w1 w2 : World} {B p m bm d n cap : Nat} {q : Int} {M M' : Mc} {vs vw vs' vw' : Value} {b : Nat} {t : TypeId} {cs : Array Value} (hr : RwAt w1 b t cs) (h : MachAt w B p m bm d n cap q M vs vw) (hb : w.heap.size ≤ b) (ht : MTurned w1 B p m bm d n cap q vs vw M' w2 vs' vw') : RwAt w2 b t cs :=
  hr.keptL ht.lv (fun hi => by have := h.lt b hi; omega)
theorem wpStill_load_rng {ops : Array Oper} {rest : List Oper} {o : Oper} {a : Act} {w : World} {Q : Act → Prop} (hgd : o.guard = none) (t : TypeId) (p : Operand) (ho : o.op = .load t p) {g k : Nat} (hx : a.eval p = .pointer (some ⟨g, k, none⟩)) {cs : List Value} (hg : w.rangeAt g k cs) {d : TypeDesc}
    (hd : d.isRow = true) (hu : Tryd.prog.underlying t = some d) (hi : (Tryd.prog.info? t).map (·.size) = some cs.length) (h : wpStill Tryd.prog ops w Q rest (a.put o.dst (.agg cs.toArray))) : wpStill Tryd.prog ops w Q (o :: rest) a :=
  wpStill_yields hgd (by
    have := run_loadAt_mid (P := Tryd.prog) w g k t cs d hg hu hd hi
    unfold execOp
    simp only [ho, hx, this, Sem.run_bind, Sem.run_pure, Result.andThen_ok]) h
theorem hasA_is (op : Int) : hasA op = 0 ∨ hasA op = 1 := by unfold hasA; split; exact .inr rfl; exact .inl rfl
theorem hasB_is (op : Int) : hasB op = 0 ∨ hasB op = 1 := by unfold hasB; split; exact .inr rfl; exact .inl rfl
theorem alw_reg {k n : Int} (hk : k = 0 ∨ k = 1) (h : alwB k n = true) : 0 ≤ n ∧ n < 16 := by
  unfold alwB at h
  rcases hk with rfl | rfl
  · simp at h; omega
  · simpa using h
theorem ins_ab {op a b c im : Int} (h : insB op a b c im = true) : (0 ≤ a ∧ a < 16) ∧ 0 ≤ b ∧ b < 16 := by
  obtain ⟨_, h1, h2, _⟩ := ins_parts h
  exact ⟨alw_reg (hasA_is op) h1, alw_reg (hasB_is op) h2⟩
section
variable {l : List Int} {pc : Int} {ie eie : Bool} {epc tv cc cd : Int}
theorem prcP_len (hl : Regs l) (now op a : Int) : (prcP now ⟨l, pc, ie, eie, epc, tv, cc, cd⟩ op a).l.length = 16 := by
  unfold prcP setR
  repeat' split
  all_goals first | exact hl.len | (show (List.set _ _ _).length = 16; rw [List.length_set]; exact hl.len)
theorem devL_len {x : DvS} (hl : Regs l) (now op a b : Int) : (devL now x l op a b).length = 16 := by
  unfold devL
  repeat' split
  all_goals first | exact hl.len | (rw [List.length_set]; exact hl.len)
end
section
variable {w : World} {B p m bm d n cap : Nat} {q : Int} {xs : List Int} {l : List Int} {pc : Int} {ie eie : Bool} {epc tv cc cd : Int} {dv : DvS} {now : Int} {ov : Bool} {ws : List (Int × Int)} {vs vw : Value}
end
end Go.Proofs.YtpkgckjlhjcdmaaDoor

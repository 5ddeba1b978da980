/- Devices and the document's own, side by side: new ones; their timers; what a call of either leaves of both. -/
import Derived.Test.YtpkgckjlhjcdmaaDoorZGDev
namespace Go.Proofs.YtpkgckjlhjcdmaaDoor
open Go.RowKit
def zeroR : Array Value := #[.slice none 0 0, .slice none 0 0, .int .u32 0, .int .u32 0, .int .u32 0, .int .u32 0, .int .u32 0, .int .u32 0, .int .u32 0, .int .u32 0, .int .u32 0, .int .u32 0, .int .u32 0, .int .u32 0, .int .u32 0, .int .u32 0, .int .u32 0, .int .u32 0, .int .i64 0, .bool false]
theorem zero_ref (w : World) : (zeroValue 180).run Tryd.prog w = .ok (.agg zeroR) w := by kernel_rfl
theorem zeroR_is : RIs zeroR zeroS.S false 0 (.slice none 0 0) (.slice none 0 0) where
  size := rfl
  c0 := rfl
  c1 := rfl
  sec := by
    intro k y hy
    have hk : k < 16 := (List.getElem?_eq_some_iff.1 hy).1
    rw [zeroS_get k hk] at hy
    obtain rfl := Option.some.inj hy
    rcases (by omega : k = 0 ∨ k = 1 ∨ k = 2 ∨ k = 3 ∨ k = 4 ∨ k = 5 ∨ k = 6 ∨ k = 7 ∨ k = 8 ∨ k = 9 ∨ k = 10 ∨ k = 11 ∨ k = 12 ∨ k = 13 ∨ k = 14 ∨ k = 15) with rfl | rfl | rfl | rfl | rfl | rfl | rfl | rfl | rfl | rfl | rfl | rfl | rfl | rfl | rfl | rfl <;> rfl
  s16 := rfl
  ct := rfl
  con := rfl
theorem ref_zero (w : World) {B : Nat} (hB : B ≤ w.heap.size) : RDAt (w.alloc (.cells zeroR 180)) B w.heap.size [] zeroS.S [] false 0 (.slice none 0 0) (.slice none 0 0) :=
  ⟨⟨zeroR, heap_alloc_new _ _, zeroR_is⟩, World.ownsRow_nil _ _ _ _, World.ownsRow_nil _ _ _ _, hB⟩
/-- the timer and the document's timer -/
structure TRel (x : DvS) (on : Bool) (T : Int) : Prop where
  on_ : on = decide (0 < x.af)
  time : 0 < x.af → T = x.fr + x.af
  f0 : 0 ≤ x.fr
  f1 : x.fr ≤ 1125899906842624
  a0 : 0 ≤ x.af
  a1 : x.af ≤ 4294967295
theorem TRel.due {x : DvS} {on : Bool} {T : Int} (h : TRel x on T) (now : Int) : (on && decide (T ≤ now)) = dueB x.fr x.af now := by
  rw [h.on_]
  unfold dueB
  have := h.a0
  have := h.f0
  by_cases h0 : 0 < x.af
  · rw [h.time h0]
    simp only [h0, decide_true, Bool.true_and]
    apply decide_eq_decide.2
    omega
  · simp only [h0, decide_false, Bool.false_and]
    symm
    rw [decide_eq_false_iff_not]
    omega
theorem Apart.rmine {w : World} {b : Nat} {vw vs vw' vs' : Value} {R : List Nat} (h : Apart (rfoot b vw vs) R) (m1 : Mine w vw vw') (m2 : Mine w vs vs') (hR : ∀ i ∈ R, i < w.heap.size) : Apart (rfoot b vw' vs') R := by
  intro i hi hi2
  rcases mem_rfoot.1 hi with rfl | hi | hi
  · exact h _ (mem_rfoot.2 (.inl rfl)) hi2
  · rcases m1 with hm | hm
    · exact h i (mem_rfoot.2 (.inr (.inl (hm.symm.trans hi)))) hi2
    · have := hm i hi; have := hR i hi2; omega
  · rcases m2 with hm | hm
    · exact h i (mem_rfoot.2 (.inr (.inr (hm.symm.trans hi)))) hi2
    · have := hm i hi; have := hR i hi2; omega
/-- devices at d, the document's at b, apart; all of it lies at B and above -/
structure DR (B : Nat) (w : World) (d b : Nat) (x : DvS) (Q S : List Int) (sn : List Sn) (on : Bool) (T : Int) (vd vw vs : Value) : Prop where
  dev : DevAt w B d x vd
  ref : RDAt w B b Q S sn on T vw vs
  ap : Apart (foot d vd) (rfoot b vw vs)
section
variable {B : Nat} {w w1 : World} {d b : Nat} {x x1 : DvS} {Q S Q1 S1 : List Int} {sn sn1 : List Sn} {on on1 : Bool} {T T1 : Int} {vd vw vs vd1 vw1 vs1 : Value}
theorem DR.dturn (h : DR B w d b x Q S sn on T vd vw vs) (ht : Turned w B d vd x1 w1 vd1) : DR B w1 d b x1 Q S sn on T vd1 vw vs :=
  ⟨ht.at_, h.ref.keptL ht.lv h.ap.symm, h.ap.mine ht.mine h.ref.foot_lt⟩
theorem DR.rturn (h : DR B w d b x Q S sn on T vd vw vs) (ht : RTurned w B b vw vs Q1 S1 sn1 on1 T1 w1 vw1 vs1) : DR B w1 d b x Q1 S1 sn1 on1 T1 vd vw1 vs1 :=
  ⟨h.dev.keptL ht.lv h.ap, ht.at_, (h.ap.symm.rmine ht.m1 ht.m2 h.dev.foot_lt).symm⟩
theorem DR.kept0 (h : DR B w d b x Q S sn on T vd vw vs) (hg : w.grownBy w1 none) : DR B w1 d b x Q S sn on T vd vw vs := ⟨h.dev.kept0 hg, h.ref.kept0 hg, h.ap⟩
theorem DR.dold {w0 : World} (h : DR w0.heap.size w d b x Q S sn on T vd vw vs) (h0 : w0.grownBy w none) (ht : Turned w w0.heap.size d vd x1 w1 vd1) : w0.grownBy w1 none := turned_old h0 h.dev ht
theorem DR.rold {w0 : World} (h : DR w0.heap.size w d b x Q S sn on T vd vw vs) (h0 : w0.grownBy w none) (ht : RTurned w w0.heap.size b vw vs Q1 S1 sn1 on1 T1 w1 vw1 vs1) : w0.grownBy w1 none := rturned_old h0 h.ref ht
end
theorem dr_zero (w : World) : DR w.heap.size ((w.alloc (.cells zeroD 176)).alloc (.cells zeroR 180)) w.heap.size (w.heap.size + 1) zeroS [] zeroS.S [] false 0 (.slice none 0 0) (.slice none 0 0) (.slice none 0 0) := by
  have hsz : (w.alloc (.cells zeroD 176)).heap.size = w.heap.size + 1 := by simp
  refine ⟨(dev_zero w (Nat.le_refl _)).kept0 (World.grownBy_alloc _ _ _), ?_, ?_⟩
  · have := ref_zero (w.alloc (.cells zeroD 176)) (B := w.heap.size) (by omega)
    rw [hsz] at this
    exact this
  · intro i hi hi2
    simp [foot, rfoot, Value.ownBlock] at hi hi2
    omega
end Go.Proofs.YtpkgckjlhjcdmaaDoor

/- Bytes that are read (package obj): contracts. (Made by gobjw.py.) -/
import Derived.Test.YtbjijddpdefhpaaDoorZObjV
import Derived.Test.YtbjijddpdefhpaaDoorZObj18
import Derived.Deep.RegionHeld3
namespace Go.Proofs.YtbjijddpdefhpaaDoor
open Go.RowKit
/-- a slice of these bytes -/
def BvAt (w : World) (v : Value) (l : List Int) : Prop := (∃ p c, v = .slice p 0 c ∧ l = []) ∨
  ∃ b o c, v = .slice (some ⟨b, o, none⟩) l.length c ∧ l.length ≤ c ∧ c ≤ 9223372036854775807 ∧ b < w.heap.size ∧ ∀ j x, l[j]? = some x → w.cell? ⟨b, o + j, none⟩ = some (.int .u8 x)
theorem BvAt.kept0 {w w1 : World} {v : Value} {l : List Int} (h : BvAt w v l) (hg : w.grownBy w1 none) : BvAt w1 v l := by
  rcases h with h | ⟨b, o, c, rfl, h1, h2, hb, hc⟩
  · exact .inl h
  · exact .inr ⟨b, o, c, rfl, h1, h2, Nat.lt_of_lt_of_le hb hg.size, fun j x hx => by rw [grown_cell hg hb (by simp)]; exact hc j x hx⟩
theorem BvAt.len {w : World} {v : Value} {l : List Int} (h : BvAt w v l) : ∃ p c, v = .slice p l.length c := by
  rcases h with ⟨p, c, rfl, rfl⟩ | ⟨b, o, c, rfl, _⟩
  · exact ⟨_, _, rfl⟩
  · exact ⟨_, _, rfl⟩
theorem set6_other_d {w : World} {G R k : Nat} {a b c d e f v : Value} (h : G ≠ R) (hc : w.drew.cell? ⟨G, k, none⟩ = some v) :
    ((((((w.setCell ⟨R, 0, none⟩ a).setCell ⟨R, 1, none⟩ b).setCell ⟨R, 2, none⟩ c).setCell ⟨R, 3, none⟩ d).setCell ⟨R, 4, none⟩ e).setCell ⟨R, 5, none⟩ f).drew.cell? ⟨G, k, none⟩ = some v := by
  have e : ∀ (W : World) (p : Addr), W.drew.cell? p = W.cell? p := fun _ _ => rfl
  rw [e] at hc ⊢
  exact set6_other h hc
/-- behind read: an object, or what is wrong -/
def ReadAt (w : World) (A : Nat → Addr) (l : List Int) (e : Ending) (w' : World) : Prop :=
  ∃ V ev, e = .returned (.tuple #[V.agg, ev]) ∧ w.grownBy w' none ∧ ev = evV A (readE l) ∧ (readE l = none → OAt w' V (readO l)) ∧ V.cells.all (·.oneCell') = true
theorem nil6_get {w : World} {H k : Nat} {v : Value} (h : RwAt w H 37 #[.slice none 0 0, .slice none 0 0, .slice none 0 0, .slice none 0 0, .slice none 0 0, .slice none 0 0]) (hc : w.cell? ⟨H, k, none⟩ = some v) : v = .slice none 0 0 := by
  rw [cell_of_row w H k _ _ _ h.blk] at hc
  match k, hc with
  | 0, hc => simpa using hc.symm
  | 1, hc => simpa using hc.symm
  | 2, hc => simpa using hc.symm
  | 3, hc => simpa using hc.symm
  | 4, hc => simpa using hc.symm
  | 5, hc => simpa using hc.symm
  | k + 6, hc => simp at hc
theorem slat_box {w w1 : World} {H : Nat} {k : IntKind} {v : Value} {xs : List Int} (h : SlAt w k v xs) (hH : RwAt w H 37 #[.slice none 0 0, .slice none 0 0, .slice none 0 0, .slice none 0 0, .slice none 0 0, .slice none 0 0]) (hg : w.grownBy w1 (some H)) : SlAt w1 k v xs := by
  rcases h with h | ⟨b, o, c, rfl, hb, hc⟩
  · exact .inl h
  · refine .inr ⟨b, o, c, rfl, Nat.lt_of_lt_of_le hb hg.size, fun j x hx => ?_⟩
    have h0 := hc j x hx
    have hne : b ≠ H := fun e => by subst e; have := nil6_get hH h0; cases this
    rw [grown_cell hg hb (by simpa using hne)]
    exact h0
theorem csat_box {w w1 : World} {H n : Nat} {v : Value} {cs : List Value} (h : CsAt w v n cs) (hH : RwAt w H 37 #[.slice none 0 0, .slice none 0 0, .slice none 0 0, .slice none 0 0, .slice none 0 0, .slice none 0 0]) (hs : ∀ u ∈ cs, u ≠ .slice none 0 0) (hg : w.grownBy w1 (some H)) : CsAt w1 v n cs := by
  rcases h with h | ⟨b, o, c, rfl, hn, hb, hc⟩
  · exact .inl h
  · refine .inr ⟨b, o, c, rfl, hn, Nat.lt_of_lt_of_le hb hg.size, fun j x hx => ?_⟩
    have h0 := hc j x hx
    have hne : b ≠ H := fun e => by subst e; exact hs x (List.mem_of_getElem? hx) (nil6_get hH h0)
    rw [grown_cell hg hb (by simpa using hne)]
    exact h0
theorem rls_ns : ∀ (l : List Rl), ∀ u ∈ rlsC l, u ≠ .slice none 0 0
  | [], u, hu => by simp [rlsC] at hu
  | r :: l, u, hu => by
    rw [rlsC, List.mem_append] at hu
    rcases hu with hu | hu
    · simp only [rlC, List.mem_cons, List.not_mem_nil, or_false] at hu
      rcases hu with rfl | rfl | rfl | rfl <;> simp
    · exact rls_ns l u hu
theorem sys_ns : ∀ (l : List Sy), ∀ u ∈ sysC l, u ≠ .slice none 0 0
  | [], u, hu => by simp [sysC] at hu
  | r :: l, u, hu => by
    rw [sysC, List.mem_append] at hu
    rcases hu with hu | hu
    · simp only [syC, List.mem_cons, List.not_mem_nil, or_false] at hu
      rcases hu with rfl | rfl | rfl | rfl <;> simp
    · exact sys_ns l u hu
theorem oat_box {w w1 : World} {H : Nat} {V : OV} {x : PO} (h : OAt w V x) (hH : RwAt w H 37 #[.slice none 0 0, .slice none 0 0, .slice none 0 0, .slice none 0 0, .slice none 0 0, .slice none 0 0]) (hg : w.grownBy w1 (some H)) : OAt w1 V x :=
  ⟨slat_box h.d hH hg, slat_box h.c hH hg, slat_box h.m hH hg, csat_box h.r hH (rls_ns _) hg, csat_box h.q hH (rls_ns _) hg, csat_box h.s hH (sys_ns _) hg⟩
theorem info_sizes : (Tryd.prog.info? 80).map (·.size) = some 5 := by kernel_rfl
theorem zero_sizes (w : World) : (zeroValue 80).run Tryd.prog w = .ok (.agg #[.int .i64 0, .int .i64 0, .int .i64 0, .int .i64 0, .int .i64 0]) w := by kernel_rfl
theorem manyS_bt {α : Type} {f : RS → α × RS} {B : α → List Int} (h : Takes f B) (n : Nat) {s : RS} (hb : BtB s.l) : BtB (manyS f n s).2.l := (manyS_takes h n).bt hb
theorem readE_long {l : List Int} (h : ¬ l.length < 24) : readE l = if (wordS ⟨l, none⟩).1 ≠ 842225232 then some 1 else if tooM (sizS l).1 = true then some 3 else endE (pS l).2 := by unfold readE; rw [if_neg h]
end Go.Proofs.YtbjijddpdefhpaaDoor

/- Bytes that are read (package obj): contracts. (Made by gobjw.py.) -/
import Derived.Test.YtfkecmcnhmlnoaaDoorZObjV
import Derived.Test.YtfkecmcnhmlnoaaDoorZObj18
import Derived.Deep.RegionHeld3
namespace Go.Proofs.YtfkecmcnhmlnoaaDoor
open Go.RowKit
/-- a slice of these bytes -/
def BvAt (w : World) (v : Value) (l : List Int) : Prop := (∃ p c, v = .slice p 0 c ∧ l = []) ∨
  ∃ b o c, v = .slice (some ⟨b, o, none⟩) l.length c ∧ l.length ≤ c ∧ c ≤ 9223372036854775807 ∧ b < w.heap.size ∧ ∀ j x, l[j]? = some x → w.cell? ⟨b, o + j, none⟩ = some (.int .u8 x)
theorem BvAt.kept0 {w w1 : World} {v : Value} {l : List Int} (h : BvAt w v l) (hg : w.grownBy w1 none) : BvAt w1 v l := by
  rcases h with h | ⟨b, o, c, rfl, h1, h2, hb, hc⟩
  · exact .inl h
  · exact .inr ⟨b, o, c, rfl, h1, h2, Nat.lt_of_lt_of_le hb hg.size, fun j x hx => by rw [grown_cell hg hb (by simp)]; exact hc j x hx⟩
theorem BvAt.len {w : World} {v : Value} {l : List Int} (h : BvAt w v l) : ∃ p c, v = .slice p l.length c := by
  rcases h with ⟨p, c, rfl, rfl⟩ | ⟨b, o, c, rfl, _⟩
  · exact ⟨_, _, rfl⟩
  · exact ⟨_, _, rfl⟩
theorem set6_other_d {w : World} {G R k : Nat} {a b c d e f v : Value} (h : G ≠ R) (hc : w.drew.cell? ⟨G, k, none⟩ = some v) :
    ((((((w.setCell ⟨R, 0, none⟩ a).setCell ⟨R, 1, none⟩ b).setCell ⟨R, 2, none⟩ c).setCell ⟨R, 3, none⟩ d).setCell ⟨R, 4, none⟩ e).setCell ⟨R, 5, none⟩ f).drew.cell? ⟨G, k, none⟩ = some v := by
  have e : ∀ (W : World) (p : Addr), W.drew.cell? p = W.cell? p := fun _ _ => rfl
  rw [e] at hc ⊢
  exact set6_other h hc
/-- behind read: an object, or what is wrong -/
def ReadAt (w : World) (A : Nat → Addr) (l : List Int) (e : Ending) (w' : World) : Prop :=
  ∃ V ev, e = .returned (.tuple #[V.agg, ev]) ∧ w.grownBy w' none ∧ ev = evV A (readE l) ∧ (readE l = none → OAt w' V (readO l)) ∧ V.cells.all (·.oneCell') = true
theorem nil6_get {w : World} {H k : Nat} {v : Value} (h : RwAt w H 29 #[.slice none 0 0, .slice none 0 0, .slice none 0 0, .slice none 0 0, .slice none 0 0, .slice none 0 0]) (hc : w.cell? ⟨H, k, none⟩ = some v) : v = .slice none 0 0 := by
  rw [cell_of_row w H k _ _ _ h.blk] at hc
  match k, hc with
  | 0, hc => simpa using hc.symm
  | 1, hc => simpa using hc.symm
  | 2, hc => simpa using hc.symm
  | 3, hc => simpa using hc.symm
  | 4, hc => simpa using hc.symm
  | 5, hc => simpa using hc.symm
  | k + 6, hc => simp at hc
theorem slat_box {w w1 : World} {H : Nat} {k : IntKind} {v : Value} {xs : List Int} (h : SlAt w k v xs) (hH : RwAt w H 29 #[.slice none 0 0, .slice none 0 0, .slice none 0 0, .slice none 0 0, .slice none 0 0, .slice none 0 0]) (hg : w.grownBy w1 (some H)) : SlAt w1 k v xs := by
  rcases h with h | ⟨b, o, c, rfl, hb, hc⟩
  · exact .inl h
  · refine .inr ⟨b, o, c, rfl, Nat.lt_of_lt_of_le hb hg.size, fun j x hx => ?_⟩
    have h0 := hc j x hx
    have hne : b ≠ H := fun e => by subst e; have := nil6_get hH h0; cases this
    rw [grown_cell hg hb (by simpa using hne)]
    exact h0
theorem csat_box {w w1 : World} {H n : Nat} {v : Value} {cs : List Value} (h : CsAt w v n cs) (hH : RwAt w H 29 #[.slice none 0 0, .slice none 0 0, .slice none 0 0, .slice none 0 0, .slice none 0 0, .slice none 0 0]) (hs : ∀ u ∈ cs, u ≠ .slice none 0 0) (hg : w.grownBy w1 (some H)) : CsAt w1 v n cs := by
  rcases h with h | ⟨b, o, c, rfl, hn, hb, hc⟩
  · exact .inl h
  · refine .inr ⟨b, o, c, rfl, hn, Nat.lt_of_lt_of_le hb hg.size, fun j x hx => ?_⟩
    have h0 := hc j x hx
    have hne : b ≠ H := fun e => by subst e; exact hs x (List.mem_of_getElem? hx) (nil6_get hH h0)
    rw [grown_cell hg hb (by simpa using hne)]
    exact h0
theorem rls_ns : ∀ (l : List Rl), ∀ u ∈ rlsC l, u ≠ .slice none 0 0
  | [], u, hu => by simp [rlsC] at hu
  | r :: l, u, hu => by
    rw [rlsC, List.mem_append] at hu
    rcases hu with hu | hu
    · simp only [rlC, List.mem_cons, List.not_mem_nil, or_false] at hu
      rcases hu with rfl | rfl | rfl | rfl <;> simp
    · exact rls_ns l u hu
theorem sys_ns : ∀ (l : List Sy), ∀ u ∈ sysC l, u ≠ .slice none 0 0
  | [], u, hu => by simp [sysC] at hu
  | r :: l, u, hu => by
    rw [sysC, List.mem_append] at hu
    rcases hu with hu | hu
    · simp only [syC, List.mem_cons, List.not_mem_nil, or_false] at hu
      rcases hu with rfl | rfl | rfl | rfl <;> simp
    · exact sys_ns l u hu
theorem oat_box {w w1 : World} {H : Nat} {V : OV} {x : PO} (h : OAt w V x) (hH : RwAt w H 29 #[.slice none 0 0, .slice none 0 0, .slice none 0 0, .slice none 0 0, .slice none 0 0, .slice none 0 0]) (hg : w.grownBy w1 (some H)) : OAt w1 V x :=
  ⟨slat_box h.d hH hg, slat_box h.c hH hg, slat_box h.m hH hg, csat_box h.r hH (rls_ns _) hg, csat_box h.q hH (rls_ns _) hg, csat_box h.s hH (sys_ns _) hg⟩
theorem info_sizes : (Tryd.prog.info? 68).map (·.size) = some 5 := by kernel_rfl
theorem zero_sizes (w : World) : (zeroValue 68).run Tryd.prog w = .ok (.agg #[.int .i64 0, .int .i64 0, .int .i64 0, .int .i64 0, .int .i64 0]) w := by kernel_rfl
set_option maxRecDepth 100000 in
set_option maxHeartbeats 8000000 in
theorem read_short {w : World} {A : Nat → Addr} (hE : ErrR w A) {bv : Value} {l : List Int} (hb : BvAt w bv l) (hs : l.length < 24) : Calls Tryd.prog 43 #[bv] w (ReadAt w A l) := by
  obtain ⟨p, c, rfl⟩ := hb.len
  have Hz := zero_obj
  have HR : Hid (readE l = some 0) := hid (by unfold readE; rw [if_pos hs])
  have hlt : (l.length : Int) < 24 := by omega
  have hal := World.grownBy_alloc w (.cells #[.slice none 0 0, .slice none 0 0, .slice none 0 0, .slice none 0 0, .slice none 0 0, .slice none 0 0] 29) none
  have HEx0 := hid (hE.kept0 hal)
  have HG := hid hal
  have HH := hid (RwAt.new w 29 #[.slice none 0 0, .slice none 0 0, .slice none 0 0, .slice none 0 0, .slice none 0 0, .slice none 0 0])
  have HHn := hid (noVar_of hE (Nat.le_refl w.heap.size))
  have HHw : Hid (w.heap.size ≤ w.heap.size) := hid (Nat.le_refl _)
  obtain ⟨H, hH⟩ : ∃ H, w.heap.size = H := ⟨_, rfl⟩
  rw [hH] at HH HHn
  have HHw : Hid (w.heap.size ≤ H) := hid (Nat.le_of_eq hH)
  clear hE hb hs hal
  go_enter Tryd.func43, Tryd.ntmps43
  go_upto_region 1 with (fail)
  clear hH
  generalize w.alloc (.cells #[.slice none 0 0, .slice none 0 0, .slice none 0 0, .slice none 0 0, .slice none 0 0, .slice none 0 0] 29) = w1 at HEx0 HG HH ⊢
  have HEx := hid (HEx0.out.kept0 (grown_drew (grown_refl w1 none)))
  go_upto_region 2 with (fail)
  have hgd := grown_drew (grown_refl w1 none)
  have ce : w1.drew.cell? ⟨6, 0, none⟩ = some (.iface 154 (.pointer (some (A 0)))) := HEx.out.c0
  have HNE : Hid ((6 : Nat) ≠ H) := hid (fun e => HHn.out.1 e.symm)
  have y0 := HH.out.cell 0 (v := .slice none 0 0) rfl
  have y1 := HH.out.cell 1 (v := .slice none 0 0) rfl
  have y2 := HH.out.cell 2 (v := .slice none 0 0) rfl
  have y3 := HH.out.cell 3 (v := .slice none 0 0) rfl
  have y4 := HH.out.cell 4 (v := .slice none 0 0) rfl
  have y5 := HH.out.cell 5 (v := .slice none 0 0) rfl
  have yf := fun j => HH.out.free j
  clear hgd
  go_region_held3 (fun W => W.cell? ⟨6, 0, none⟩ = some (.iface 154 (.pointer (some (A 0)))))
    (first | (with_reducible exact ce) | (with_reducible (apply set6_other HNE.out; assumption)) | (with_reducible (apply set6_other_d HNE.out; assumption))) (fail)
  clear y0 y1 y2 y3 y4 y5 yf ce
  go_wp2
  have HF : RwAt (((((((w1.setCell ⟨H, 0, none⟩ (.slice none 0 0)).setCell ⟨H, 1, none⟩ (.slice none 0 0)).setCell ⟨H, 2, none⟩ (.slice none 0 0)).setCell ⟨H, 3, none⟩ (.slice none 0 0)).setCell ⟨H, 4, none⟩ (.slice none 0 0)).setCell ⟨H, 5, none⟩ (.slice none 0 0)).drew) H 29 #[.slice none 0 0, .slice none 0 0, .slice none 0 0, .slice none 0 0, .slice none 0 0, .slice none 0 0] := by
    have := (((((((HH.out.set 0 (.slice none 0 0)).set 1 (.slice none 0 0)).set 2 (.slice none 0 0)).set 3 (.slice none 0 0)).set 4 (.slice none 0 0)).set 5 (.slice none 0 0)).kept0 (grown_drew (grown_refl _ none)))
    simpa using this
  have hs : w.grownBy (((((((w1.setCell ⟨H, 0, none⟩ (.slice none 0 0)).setCell ⟨H, 1, none⟩ (.slice none 0 0)).setCell ⟨H, 2, none⟩ (.slice none 0 0)).setCell ⟨H, 3, none⟩ (.slice none 0 0)).setCell ⟨H, 4, none⟩ (.slice none 0 0)).setCell ⟨H, 5, none⟩ (.slice none 0 0)).drew) none := grown_new' (grown_drew (grown_setCell (grown_setCell (grown_setCell (grown_setCell (grown_setCell (grown_setCell (grown_none HG.out) _ _) _ _) _ _) _ _) _ _) _ _)) (fun k hk => by obtain rfl := Option.some.inj hk; exact HHw.out)
  generalize ((((((w1.setCell ⟨H, 0, none⟩ (.slice none 0 0)).setCell ⟨H, 1, none⟩ (.slice none 0 0)).setCell ⟨H, 2, none⟩ (.slice none 0 0)).setCell ⟨H, 3, none⟩ (.slice none 0 0)).setCell ⟨H, 4, none⟩ (.slice none 0 0)).setCell ⟨H, 5, none⟩ (.slice none 0 0)).drew = wF at HF hs ⊢
  have r0 := HF.cell 0 rfl
  have r1 := HF.cell 1 rfl
  have r2 := HF.cell 2 rfl
  have r3 := HF.cell 3 rfl
  have r4 := HF.cell 4 rfl
  have r5 := HF.cell 5 rfl
  refine bodyPost_ret (v := .tuple #[.agg #[.slice none 0 0, .slice none 0 0, .slice none 0 0, .slice none 0 0, .slice none 0 0, .slice none 0 0], .iface 154 (.pointer (some (A 0)))]) (by simp [results, Tryd.results43, go_sem, r0, r1, r2, r3, r4, r5]) rfl ?_
  have hre : readE l = some 0 := HR.out
  exact ⟨ov0, _, rfl, hs, (by rw [hre]; rfl), fun e => (by rw [hre] at e; cases e), by simp [ov0, OV.cells, Value.oneCell']⟩
theorem manyS_bt {α : Type} {f : RS → α × RS} {B : α → List Int} (h : Takes f B) (n : Nat) {s : RS} (hb : BtB s.l) : BtB (manyS f n s).2.l := (manyS_takes h n).bt hb
theorem readE_long {l : List Int} (h : ¬ l.length < 24) : readE l = if (wordS ⟨l, none⟩).1 ≠ 842225232 then some 1 else if tooM (sizS l).1 = true then some 3 else endE (pS l).2 := by unfold readE; rw [if_neg h]
set_option maxRecDepth 100000 in
set_option maxHeartbeats 8000000 in
theorem read_long {w : World} {A : Nat → Addr} (hE : ErrR w A) {b o c : Nat} {l : List Int} (hc : l.length ≤ c) (hcm : c ≤ 9223372036854775807) (hl : l.length ≤ 1099511627776) (hblt : b < w.heap.size) (hcell : ∀ j x, l[j]? = some x → w.cell? ⟨b, o + j, none⟩ = some (.int .u8 x)) (hb : BtB l) (hs : ¬ l.length < 24) :
    Calls Tryd.prog 43 #[.slice (some ⟨b, o, none⟩) l.length c] w (ReadAt w A l) := by
  have Hz := zero_obj
  have Hz5 := zero_sizes
  have HRE := hid (readE_long hs)
  have hlt : ¬ (l.length : Int) < 24 := by omega
  have al1 := World.grownBy_alloc w (.cells #[.slice none 0 0, .slice none 0 0, .slice none 0 0, .slice none 0 0, .slice none 0 0, .slice none 0 0] 29) none
  have al2 := World.grownBy_alloc (w.alloc (.cells #[.slice none 0 0, .slice none 0 0, .slice none 0 0, .slice none 0 0, .slice none 0 0, .slice none 0 0] 29)) (.cells #[.slice (some ⟨b, o, none⟩) l.length c, .nilIface] 109) none
  have HEx2 := hid ((hE.kept0 al1).kept0 al2)
  have HG2 := hid (grown_trans al1 al2)
  have HH2 := hid ((RwAt.new w 29 #[.slice none 0 0, .slice none 0 0, .slice none 0 0, .slice none 0 0, .slice none 0 0, .slice none 0 0]).kept0 al2)
  have HHn := hid (noVar_of hE (Nat.le_refl w.heap.size))
  have HRn := hid (noVar_of hE (show w.heap.size ≤ w.heap.size + 1 by omega))
  have HRd : Hid (RdAt ((w.alloc (.cells #[.slice none 0 0, .slice none 0 0, .slice none 0 0, .slice none 0 0, .slice none 0 0, .slice none 0 0] 29)).alloc (.cells #[.slice (some ⟨b, o, none⟩) l.length c, .nilIface] 109)) (w.heap.size + 1) A b o c ⟨l, none⟩) := hid
    ⟨RwAt.new2 w _ _ _, hc, hcm, hl, by simp; omega, by omega, fun j x hx => by
      rw [grown_cell (grown_trans al1 al2) (by simpa using hblt) (by simp)]; exact hcell j x hx⟩
  have HB := hid hb
  obtain ⟨H, hH⟩ : ∃ H, w.heap.size = H := ⟨_, rfl⟩
  rw [hH] at HH2 HHn HRd HRn
  have HHw : Hid (w.heap.size ≤ H) := hid (Nat.le_of_eq hH)
  have HbH : Hid (b < H) := hid (by omega)
  obtain ⟨R, hR⟩ : ∃ R, H + 1 = R := ⟨_, rfl⟩
  rw [hR] at HRd HRn
  have HRw : Hid (w.heap.size ≤ R ∧ R ≠ H) := hid (by omega)
  clear hE hc hcm hl hblt hcell hb hs al1 al2
  go_enter Tryd.func43, Tryd.ntmps43
  go_upto_region 4 with (fail)
  clear hH hR
  generalize (w.alloc (.cells #[.slice none 0 0, .slice none 0 0, .slice none 0 0, .slice none 0 0, .slice none 0 0, .slice none 0 0] 29)).alloc (.cells #[.slice (some ⟨b, o, none⟩) l.length c, .nilIface] 109) = w2 at HEx2 HG2 HH2 HRd ⊢
  go_wp2_with fail
  obtain ⟨⟨x, s1⟩, hw1⟩ : ∃ p, wordS ⟨l, none⟩ = p := ⟨_, rfl⟩
  have HB1 : Hid (BtB s1.l) := hid (by have := wordS_takes.bt (s := ⟨l, none⟩) HB.out; rwa [hw1] at this)
  refine (word_of HRd.out HEx2.out HB.out hw1).mono ?_
  rintro e w3 ⟨o3, c3, rfl, hr, hg⟩
  have HRd3 := hid hr
  have HEx3 := hid (HEx2.out.keptR hg HRn.out)
  have HH3 := hid (HH2.out.kept hg (fun e => HRw.out.2 (Option.some.inj e).symm))
  have HG3 : Hid (w.grownBy w3 none) := hid (grown_new' (grown_trans (grown_none HG2.out) hg) (fun k hk => by obtain rfl := Option.some.inj hk; exact HRw.out.1))
  have hre := HRE.out
  rw [hw1] at hre
  have HW1 := hid hw1
  clear hr hg HRd HEx2 HH2 HG2 HRE hw1
  by_cases hx : x = 842225232
  rotate_left
  · have hx2 : (x != 842225232) = true := by simpa using hx
    rw [if_pos hx] at hre
    have HRE1 := hid hre
    have HEx := hid (HEx3.out.kept0 (grown_drew (grown_refl w3 none)))
    clear hre hx
    go_upto_region 5 with (fail)
    have hgd := grown_drew (grown_refl w3 none)
    have ce : w3.drew.cell? ⟨4, 0, none⟩ = some (.iface 154 (.pointer (some (A 1)))) := HEx.out.c1
    have HNE : Hid ((4 : Nat) ≠ H) := hid (fun e => HHn.out.2.1 e.symm)
    have y0 := HH3.out.cell 0 (v := .slice none 0 0) rfl
    have y1 := HH3.out.cell 1 (v := .slice none 0 0) rfl
    have y2 := HH3.out.cell 2 (v := .slice none 0 0) rfl
    have y3 := HH3.out.cell 3 (v := .slice none 0 0) rfl
    have y4 := HH3.out.cell 4 (v := .slice none 0 0) rfl
    have y5 := HH3.out.cell 5 (v := .slice none 0 0) rfl
    have yf := fun j => HH3.out.free j
    clear hgd
    go_region_held3 (fun W => W.cell? ⟨4, 0, none⟩ = some (.iface 154 (.pointer (some (A 1)))))
      (first | (with_reducible exact ce) | (with_reducible (apply set6_other HNE.out; assumption)) | (with_reducible (apply set6_other_d HNE.out; assumption))) (fail)
    clear y0 y1 y2 y3 y4 y5 yf ce
    go_wp2
    have HF : RwAt (((((((w3.setCell ⟨H, 0, none⟩ (.slice none 0 0)).setCell ⟨H, 1, none⟩ (.slice none 0 0)).setCell ⟨H, 2, none⟩ (.slice none 0 0)).setCell ⟨H, 3, none⟩ (.slice none 0 0)).setCell ⟨H, 4, none⟩ (.slice none 0 0)).setCell ⟨H, 5, none⟩ (.slice none 0 0)).drew) H 29 #[.slice none 0 0, .slice none 0 0, .slice none 0 0, .slice none 0 0, .slice none 0 0, .slice none 0 0] := by
      have := (((((((HH3.out.set 0 (.slice none 0 0)).set 1 (.slice none 0 0)).set 2 (.slice none 0 0)).set 3 (.slice none 0 0)).set 4 (.slice none 0 0)).set 5 (.slice none 0 0)).kept0 (grown_drew (grown_refl _ none)))
      simpa using this
    have hs : w.grownBy (((((((w3.setCell ⟨H, 0, none⟩ (.slice none 0 0)).setCell ⟨H, 1, none⟩ (.slice none 0 0)).setCell ⟨H, 2, none⟩ (.slice none 0 0)).setCell ⟨H, 3, none⟩ (.slice none 0 0)).setCell ⟨H, 4, none⟩ (.slice none 0 0)).setCell ⟨H, 5, none⟩ (.slice none 0 0)).drew) none := grown_new' (grown_drew (grown_setCell (grown_setCell (grown_setCell (grown_setCell (grown_setCell (grown_setCell (grown_none HG3.out) _ _) _ _) _ _) _ _) _ _) _ _)) (fun k hk => by obtain rfl := Option.some.inj hk; exact HHw.out)
    generalize ((((((w3.setCell ⟨H, 0, none⟩ (.slice none 0 0)).setCell ⟨H, 1, none⟩ (.slice none 0 0)).setCell ⟨H, 2, none⟩ (.slice none 0 0)).setCell ⟨H, 3, none⟩ (.slice none 0 0)).setCell ⟨H, 4, none⟩ (.slice none 0 0)).setCell ⟨H, 5, none⟩ (.slice none 0 0)).drew = wF at HF hs ⊢
    have r0 := HF.cell 0 rfl
    have r1 := HF.cell 1 rfl
    have r2 := HF.cell 2 rfl
    have r3 := HF.cell 3 rfl
    have r4 := HF.cell 4 rfl
    have r5 := HF.cell 5 rfl
    refine bodyPost_ret (v := .tuple #[.agg #[.slice none 0 0, .slice none 0 0, .slice none 0 0, .slice none 0 0, .slice none 0 0, .slice none 0 0], .iface 154 (.pointer (some (A 1)))]) (by simp [results, Tryd.results43, go_sem, r0, r1, r2, r3, r4, r5]) rfl ?_
    have hre : readE l = some 1 := HRE1.out
    exact ⟨ov0, _, rfl, hs, (by rw [hre]; rfl), fun e => (by rw [hre] at e; cases e), by simp [ov0, OV.cells, Value.oneCell']⟩
  subst hx
  rw [if_neg (by simp)] at hre
  have HRE1 := hid hre
  clear hre
  have hal := World.grownBy_alloc w3 (.cells #[.int .i64 0, .int .i64 0, .int .i64 0, .int .i64 0, .int .i64 0] 68) none
  have HL0 : Hid (∃ o' c', LR w3 (w3.alloc (.cells #[.int .i64 0, .int .i64 0, .int .i64 0, .int .i64 0, .int .i64 0] 68)) w3.heap.size 68 ((part wordS (0 : Int) 5 0 s1).map (Value.int .i64)) R A b o' c' (manyS wordS 0 s1).2) := hid ⟨o3, c3, by
    rw [part_zero]
    exact ⟨RwAt.new w3 _ _, HRd3.out.kept0 hal, grown_none hal, Nat.le_refl _, HRd3.out.box.lt, HRd3.out.lt⟩⟩
  obtain ⟨N, hN⟩ : ∃ N, w3.heap.size = N := ⟨_, rfl⟩
  have HNw : Hid (w3.heap.size = N) := hid hN
  rw [hN] at HL0
  go_upto_region 7 with (fail)
  clear hN hal Hz5
  generalize w3.alloc (.cells #[.int .i64 0, .int .i64 0, .int .i64 0, .int .i64 0, .int .i64 0] 68) = w4 at HL0 ⊢
  go_wp2
  go_loopw [6, 21] (fun _ i wr => ∃ k : Nat, k ≤ 5 ∧ i = .int .i64 k ∧ Hid (∃ o' c', LR w3 wr N 68 ((part wordS (0 : Int) 5 k s1).map (Value.int .i64)) R A b o' c' (manyS wordS k s1).2)) (fun _ i _ => 5 - (intOf i).toNat)
  case atStart => exact ⟨0, Nat.zero_le _, rfl, HL0⟩
  case round =>
    obtain ⟨k, hk, rfl, HLk⟩ := hrel
    have k0 : (0 : Int) ≤ (k : Int) := by omega
    by_cases hlt5 : k < 5
    · have kn : (k : Int) < 5 := by omega
      obtain ⟨o1, c1, hl⟩ := HLk.out
      have H0 := hid hl
      have Hlt := hid hlt5
      clear hl HLk hlt5
      have Hbt := hid ((manyS_takes wordS_takes k).bt HB1.out)
      have Hx := hid (part_get wordS (0 : Int) s1 Hlt.out)
      go_wp2_with fail
      refine (word_any H0.out.rd (H0.out.err HEx3.out HRn.out) Hbt.out).mono ?_
      rintro e w5 ⟨o5, c5, rfl, hr, hg⟩
      have H1 := hid (H0.out.call hr hg)
      clear hr hg
      have e0 := H1.out.cell (intsC_get Hx.out)
      have z0 := H1.out.row.free k
      have hbd := wordS_bd Hbt.out
      have HZ := hid (H1.out.set k (.int .i64 (wordS (manyS wordS k s1).2).1) (cs' := (part wordS (0 : Int) 5 (k + 1) s1).map (Value.int .i64)) (by rw [← part_set wordS (0 : Int) s1 Hlt.out, List.map_set]))
      obtain ⟨x, hx⟩ : ∃ x, (wordS (manyS wordS k s1).2).1 = x := ⟨_, rfl⟩
      rw [hx] at HZ hbd ⊢
      clear hx
      have hw : IntKind.i64.wrap x = x := wrap_i64_id (by omega) (by omega)
      clear hbd
      go_wp2
      go_roundw
      case rel => exact ⟨k + 1, by have := Hlt.out; omega, by go_num, hid ⟨_, _, HZ.out⟩⟩
      case measure => simp [intOf]; have := Hlt.out; omega
    obtain rfl : k = 5 := by omega
    obtain ⟨o6, c6, hl6⟩ := HLk.out
    rw [part_all] at hl6
    have hsz : manyS wordS 5 s1 = sizS l := by unfold sizS; rw [HW1.out]
    rw [hsz] at hl6
    have hall : ∀ n ∈ (sizS l).1, 0 ≤ n ∧ n < 4294967296 := by rw [← hsz]; exact manyS_all wordS_takes _ (fun s hs => wordS_bd hs) 5 _ HB1.out
    have hsl : (sizS l).1.length = 5 := by rw [← hsz]; exact manyS_len wordS 5 _
    have hB6 : BtB (sizS l).2.l := by rw [← hsz]; exact (manyS_takes wordS_takes 5).bt HB1.out
    obtain ⟨n0, n1, n2, n3, n4, hn⟩ : ∃ n0 n1 n2 n3 n4 : Nat, (sizS l).1 = [(n0 : Int), n1, n2, n3, n4] := by
      match hx : (sizS l).1, hsl with
      | [a0, a1, a2, a3, a4], _ =>
        rw [hx] at hall
        have g0 := (hall a0 (by simp)).1
        have g1 := (hall a1 (by simp)).1
        have g2 := (hall a2 (by simp)).1
        have g3 := (hall a3 (by simp)).1
        have g4 := (hall a4 (by simp)).1
        exact ⟨a0.toNat, a1.toNat, a2.toNat, a3.toNat, a4.toNat, by simp; omega⟩
    have q0 : sz l 0 = n0 := by unfold sz; rw [hn]; simp
    have q1 : sz l 1 = n1 := by unfold sz; rw [hn]; simp
    have q2 : sz l 2 = n2 := by unfold sz; rw [hn]; simp
    have q3 : sz l 3 = n3 := by unfold sz; rw [hn]; simp
    have q4 : sz l 4 = n4 := by unfold sz; rw [hn]; simp
    rw [hn] at hl6
    have HL6 := hid hl6
    have HG6 : Hid (w.grownBy wr none) := hid (grown_new' (grown_trans (grown_none HG3.out) hl6.g) (fun k hk => by obtain rfl := Option.some.inj hk; exact HRw.out.1))
    have HH6 := hid (HH3.out.kept hl6.g (fun e => HRw.out.2 (Option.some.inj e).symm))
    have HEx6 := hid (HEx3.out.keptR hl6.g HRn.out)
    have HQ := hid (And.intro q0 (And.intro q1 (And.intro q2 (And.intro q3 q4))))
    have HB6 := hid hB6
    have hre := HRE1.out
    have htm : tooM (sizS l).1 = decide (2048 < (n0 : Int) ∨ 2048 < (n1 : Int) ∨ 1024 < (n2 : Int) ∨ 1024 < (n3 : Int) ∨ 256 < (n4 : Int)) := by unfold tooM; rw [hn]; rfl
    rw [htm] at hre
    have HSZ : Hid (RwAt wr N 68 #[.int .i64 n0, .int .i64 n1, .int .i64 n2, .int .i64 n3, .int .i64 n4]) := hid hl6.row
    clear hl6 hall hsl hB6 hn q0 q1 q2 q3 q4 hsz htm HRE1 HLk HL0 hk k0 HB1 HW1 HH3 HG3 HEx3 HRd3
    go_wp2_with (first
      | (refine wpList_load_rw rfl 68 _ rfl rfl HSZ.out rfl Tryd.underlying68 info_sizes ?_)
      | fail)
    cases hm : decide (2048 < (n0 : Int) ∨ 2048 < (n1 : Int) ∨ 1024 < (n2 : Int) ∨ 1024 < (n3 : Int) ∨ 256 < (n4 : Int))
    rotate_left
    · rw [hm, if_pos rfl] at hre
      have HRE2 := hid hre
      refine (many_any n0 n1 n2 n3 n4 wr true hm).mono ?_
      rintro e w7 ⟨rfl, hg⟩
      have HH7 := hid (HH6.out.kept0 hg)
      have HG7 := hid (grown_trans HG6.out hg)
      have HEx := hid ((HEx6.out.kept0 hg).kept0 (grown_drew (grown_refl w7 none)))
      clear hg hre hm
      go_upto_region 13 with (fail)
      have hgd := grown_drew (grown_refl w7 none)
      have ce : w7.drew.cell? ⟨0, 0, none⟩ = some (.iface 154 (.pointer (some (A 3)))) := HEx.out.c3
      have HNE : Hid ((0 : Nat) ≠ H) := hid (fun e => HHn.out.2.2.2 e.symm)
      have y0 := HH7.out.cell 0 (v := .slice none 0 0) rfl
      have y1 := HH7.out.cell 1 (v := .slice none 0 0) rfl
      have y2 := HH7.out.cell 2 (v := .slice none 0 0) rfl
      have y3 := HH7.out.cell 3 (v := .slice none 0 0) rfl
      have y4 := HH7.out.cell 4 (v := .slice none 0 0) rfl
      have y5 := HH7.out.cell 5 (v := .slice none 0 0) rfl
      have yf := fun j => HH7.out.free j
      clear hgd
      go_region_held3 (fun W => W.cell? ⟨0, 0, none⟩ = some (.iface 154 (.pointer (some (A 3)))))
        (first | (with_reducible exact ce) | (with_reducible (apply set6_other HNE.out; assumption)) | (with_reducible (apply set6_other_d HNE.out; assumption))) (fail)
      clear y0 y1 y2 y3 y4 y5 yf ce
      go_wp2
      have HF : RwAt (((((((w7.setCell ⟨H, 0, none⟩ (.slice none 0 0)).setCell ⟨H, 1, none⟩ (.slice none 0 0)).setCell ⟨H, 2, none⟩ (.slice none 0 0)).setCell ⟨H, 3, none⟩ (.slice none 0 0)).setCell ⟨H, 4, none⟩ (.slice none 0 0)).setCell ⟨H, 5, none⟩ (.slice none 0 0)).drew) H 29 #[.slice none 0 0, .slice none 0 0, .slice none 0 0, .slice none 0 0, .slice none 0 0, .slice none 0 0] := by
        have := (((((((HH7.out.set 0 (.slice none 0 0)).set 1 (.slice none 0 0)).set 2 (.slice none 0 0)).set 3 (.slice none 0 0)).set 4 (.slice none 0 0)).set 5 (.slice none 0 0)).kept0 (grown_drew (grown_refl _ none)))
        simpa using this
      have hs : w.grownBy (((((((w7.setCell ⟨H, 0, none⟩ (.slice none 0 0)).setCell ⟨H, 1, none⟩ (.slice none 0 0)).setCell ⟨H, 2, none⟩ (.slice none 0 0)).setCell ⟨H, 3, none⟩ (.slice none 0 0)).setCell ⟨H, 4, none⟩ (.slice none 0 0)).setCell ⟨H, 5, none⟩ (.slice none 0 0)).drew) none := grown_new' (grown_drew (grown_setCell (grown_setCell (grown_setCell (grown_setCell (grown_setCell (grown_setCell (grown_none HG7.out) _ _) _ _) _ _) _ _) _ _) _ _)) (fun k hk => by obtain rfl := Option.some.inj hk; exact HHw.out)
      generalize ((((((w7.setCell ⟨H, 0, none⟩ (.slice none 0 0)).setCell ⟨H, 1, none⟩ (.slice none 0 0)).setCell ⟨H, 2, none⟩ (.slice none 0 0)).setCell ⟨H, 3, none⟩ (.slice none 0 0)).setCell ⟨H, 4, none⟩ (.slice none 0 0)).setCell ⟨H, 5, none⟩ (.slice none 0 0)).drew = wF at HF hs ⊢
      have r0 := HF.cell 0 rfl
      have r1 := HF.cell 1 rfl
      have r2 := HF.cell 2 rfl
      have r3 := HF.cell 3 rfl
      have r4 := HF.cell 4 rfl
      have r5 := HF.cell 5 rfl
      refine bodyPost_ret (v := .tuple #[.agg #[.slice none 0 0, .slice none 0 0, .slice none 0 0, .slice none 0 0, .slice none 0 0, .slice none 0 0], .iface 154 (.pointer (some (A 3)))]) (by simp [results, Tryd.results43, go_sem, r0, r1, r2, r3, r4, r5]) rfl ?_
      have hre : readE l = some 3 := HRE2.out
      exact ⟨ov0, _, rfl, hs, (by rw [hre]; rfl), fun e => (by rw [hre] at e; cases e), by simp [ov0, OV.cells, Value.oneCell']⟩
    rw [hm, if_neg (by simp)] at hre
    have HRE2 := hid hre
    have hlim := of_decide_eq_false hm
    have HLim : Hid (n0 ≤ 2048 ∧ n1 ≤ 2048 ∧ n2 ≤ 2048 ∧ n3 ≤ 2048 ∧ n4 ≤ 2048) := hid (by omega)
    refine (many_any n0 n1 n2 n3 n4 wr false hm).mono ?_
    rintro e w7 ⟨rfl, hg⟩
    have HH7 := hid (HH6.out.kept0 hg)
    have HG7 := hid (grown_trans HG6.out hg)
    have HEx7 := hid (HEx6.out.kept0 hg)
    have HRd7 := hid (HL6.out.rd.kept0 hg)
    have HSZ7 := hid (HSZ.out.kept0 hg)
    clear hg hre hm hlim HH6 HG6 HEx6 HL6 HSZ
    go_wp2_with (first
      | (refine wpList_load_rw rfl 68 _ rfl rfl HSZ7.out rfl Tryd.underlying68 info_sizes ?_)
      | fail)
    refine (object_any HRd7.out HEx7.out HRn.out HB6.out n0 n1 n2 n3 n4 HLim.out (pD l) (pC l) (pM l) (pR l) (pQ l) (pS l) (by unfold pD; rw [HQ.out.1]) (by unfold pC; rw [HQ.out.2.1]) (by unfold pM; rw [HQ.out.2.1]) (by unfold pR; rw [HQ.out.2.2.1]) (by unfold pQ; rw [HQ.out.2.2.2.1]) (by unfold pS; rw [HQ.out.2.2.2.2])).mono ?_
    rintro e w8 ⟨⟨vd, vc, vm, vr, vq, vs⟩, o8, c8, rfl, hoa, hrd, hg⟩
    obtain ⟨pd', cd', hvd⟩ := hoa.d.len'
    obtain ⟨pc', cc', hvc⟩ := hoa.c.len'
    obtain ⟨pm', cm', hvm⟩ := hoa.m.len'
    obtain ⟨pr', cr', hvr⟩ := hoa.r.len
    obtain ⟨pq', cq', hvq⟩ := hoa.q.len
    obtain ⟨ps', cs', hvs⟩ := hoa.s.len
    simp only at hvd hvc hvm hvr hvq hvs
    subst hvd; subst hvc; subst hvm; subst hvr; subst hvq; subst hvs
    obtain ⟨ld, hld⟩ : ∃ n, (pD l).1.length = n := ⟨_, rfl⟩
    obtain ⟨lc, hlc⟩ : ∃ n, (pC l).1.length = n := ⟨_, rfl⟩
    obtain ⟨lm, hlm⟩ : ∃ n, (pM l).1.length = n := ⟨_, rfl⟩
    obtain ⟨lr, hlr⟩ : ∃ n, (pR l).1.length = n := ⟨_, rfl⟩
    obtain ⟨lq, hlq⟩ : ∃ n, (pQ l).1.length = n := ⟨_, rfl⟩
    obtain ⟨ls, hls⟩ : ∃ n, (pS l).1.length = n := ⟨_, rfl⟩
    rw [hld, hlc, hlm, hlr, hlq, hls] at hoa ⊢
    clear hld hlc hlm hlr hlq hls
    have hal := World.grownBy_alloc w8 (.cells #[.slice pd' ld cd', .slice pc' lc cc', .slice pm' lm cm', .slice pr' lr cr', .slice pq' lq cq', .slice ps' ls cs'] 29) none
    have HOA := hid (hoa.kept0 hal)
    have HRd9 := hid (hrd.kept0 hal)
    have HH9 := hid ((HH7.out.kept hg (fun e => HRw.out.2 (Option.some.inj e).symm)).kept0 hal)
    have HG9 : Hid (w.grownBy (w8.alloc (.cells #[.slice pd' ld cd', .slice pc' lc cc', .slice pm' lm cm', .slice pr' lr cr', .slice pq' lq cq', .slice ps' ls cs'] 29)) none) := hid (grown_new' (grown_trans (grown_trans (grown_none HG7.out) hg) (grown_none hal)) (fun k hk => by obtain rfl := Option.some.inj hk; exact HRw.out.1))
    have HEx9 := hid ((HEx7.out.keptR hg HRn.out).kept0 hal)
    have HGo := hid (RwAt.new w8 29 #[.slice pd' ld cd', .slice pc' lc cc', .slice pm' lm cm', .slice pr' lr cr', .slice pq' lq cq', .slice ps' ls cs'])
    have hHlt := HH7.out.lt
    have hRlt := HRd7.out.box.lt
    have hsz8 := hg.size
    obtain ⟨G, hG⟩ : ∃ G, w8.heap.size = G := ⟨_, rfl⟩
    have HGne : Hid (G ≠ H ∧ R ≠ H) := hid ⟨by omega, HRw.out.2⟩
    rw [hG] at HGo
    clear hoa hrd hg hal HH7 HG7 HEx7 HRd7 HSZ7 hHlt hRlt hsz8
    go_upto_region 15 with (fail)
    clear hG Hz
    generalize w8.alloc (.cells #[.slice pd' ld cd', .slice pc' lc cc', .slice pm' lm cm', .slice pr' lr cr', .slice pq' lq cq', .slice ps' ls cs'] 29) = w9 at HOA HRd9 HH9 HG9 HEx9 HGo ⊢
    obtain ⟨⟨sl, se⟩, hps⟩ : ∃ p, (pS l).2 = p := ⟨_, rfl⟩
    rw [hps] at HRd9
    have hre := HRE2.out
    rw [hps] at hre
    clear hps HRE2
    have HE0 := hid (HRd9.out.box.cell 0 (v := .slice (some ⟨b, o8, none⟩) sl.length c8) rfl)
    have HE1 := hid (HRd9.out.box.cell 1 (v := evV A se) rfl)
    cases se with
    | some ec =>
      have hre2 : readE l = some ec := hre
      have HRE3 := hid hre2
      have e1 : w9.cell? ⟨R, 1, none⟩ = some (.iface 154 (.pointer (some (A ec)))) := HE1.out
      have e0 := HE0.out
      have hn1 := fun W => run_err_nil (A ec) W
      unfold errV at hn1
      clear hre hre2
      go_upto_region 17 with (fail)
      clear e0 hn1
      have g0 : w9.drew.cell? ⟨G, 0, none⟩ = some (.slice pd' ld cd') := HGo.out.cell 0 rfl
      have g1 : w9.drew.cell? ⟨G, 1, none⟩ = some (.slice pc' lc cc') := HGo.out.cell 1 rfl
      have g2 : w9.drew.cell? ⟨G, 2, none⟩ = some (.slice pm' lm cm') := HGo.out.cell 2 rfl
      have g3 : w9.drew.cell? ⟨G, 3, none⟩ = some (.slice pr' lr cr') := HGo.out.cell 3 rfl
      have g4 : w9.drew.cell? ⟨G, 4, none⟩ = some (.slice pq' lq cq') := HGo.out.cell 4 rfl
      have g5 : w9.drew.cell? ⟨G, 5, none⟩ = some (.slice ps' ls cs') := HGo.out.cell 5 rfl
      have er : w9.drew.cell? ⟨R, 1, none⟩ = some (.iface 154 (.pointer (some (A ec)))) := e1
      have y0 := HH9.out.cell 0 (v := .slice none 0 0) rfl
      have y1 := HH9.out.cell 1 (v := .slice none 0 0) rfl
      have y2 := HH9.out.cell 2 (v := .slice none 0 0) rfl
      have y3 := HH9.out.cell 3 (v := .slice none 0 0) rfl
      have y4 := HH9.out.cell 4 (v := .slice none 0 0) rfl
      have y5 := HH9.out.cell 5 (v := .slice none 0 0) rfl
      have yf := fun j => HH9.out.free j
      go_region_held3 (fun W => W.cell? ⟨G, 0, none⟩ = some (.slice pd' ld cd') ∧ W.cell? ⟨G, 1, none⟩ = some (.slice pc' lc cc') ∧ W.cell? ⟨G, 2, none⟩ = some (.slice pm' lm cm') ∧ W.cell? ⟨G, 3, none⟩ = some (.slice pr' lr cr') ∧ W.cell? ⟨G, 4, none⟩ = some (.slice pq' lq cq') ∧ W.cell? ⟨G, 5, none⟩ = some (.slice ps' ls cs') ∧ W.cell? ⟨R, 1, none⟩ = some (.iface 154 (.pointer (some (A ec)))))
        (first | (with_reducible exact ⟨g0, g1, g2, g3, g4, g5, er⟩) | (refine ⟨?_, ?_, ?_, ?_, ?_, ?_, ?_⟩ <;> first | (with_reducible (apply set6_other HGne.out.1; assumption)) | (with_reducible (apply set6_other_d HGne.out.1; assumption)) | (with_reducible (apply set6_other HGne.out.2; assumption)) | (with_reducible (apply set6_other_d HGne.out.2; assumption)))) (fail)
      go_split_ands
      clear y0 y1 y2 y3 y4 y5 yf g0 g1 g2 g3 g4 g5 er
      go_wp2
      have HF : RwAt (((((((w9.setCell ⟨H, 0, none⟩ (.slice pd' ld cd')).setCell ⟨H, 1, none⟩ (.slice pc' lc cc')).setCell ⟨H, 2, none⟩ (.slice pm' lm cm')).setCell ⟨H, 3, none⟩ (.slice pr' lr cr')).setCell ⟨H, 4, none⟩ (.slice pq' lq cq')).setCell ⟨H, 5, none⟩ (.slice ps' ls cs')).drew) H 29 #[.slice pd' ld cd', .slice pc' lc cc', .slice pm' lm cm', .slice pr' lr cr', .slice pq' lq cq', .slice ps' ls cs'] := by
        have := (((((((HH9.out.set 0 (.slice pd' ld cd')).set 1 (.slice pc' lc cc')).set 2 (.slice pm' lm cm')).set 3 (.slice pr' lr cr')).set 4 (.slice pq' lq cq')).set 5 (.slice ps' ls cs')).kept0 (grown_drew (grown_refl _ none)))
        simpa using this
      have hs0 : w9.grownBy (((((((w9.setCell ⟨H, 0, none⟩ (.slice pd' ld cd')).setCell ⟨H, 1, none⟩ (.slice pc' lc cc')).setCell ⟨H, 2, none⟩ (.slice pm' lm cm')).setCell ⟨H, 3, none⟩ (.slice pr' lr cr')).setCell ⟨H, 4, none⟩ (.slice pq' lq cq')).setCell ⟨H, 5, none⟩ (.slice ps' ls cs')).drew) (some H) := grown_drew (grown_setCell (grown_setCell (grown_setCell (grown_setCell (grown_setCell (grown_setCell (grown_refl _ _) _ _) _ _) _ _) _ _) _ _) _ _)
      have hs : w.grownBy (((((((w9.setCell ⟨H, 0, none⟩ (.slice pd' ld cd')).setCell ⟨H, 1, none⟩ (.slice pc' lc cc')).setCell ⟨H, 2, none⟩ (.slice pm' lm cm')).setCell ⟨H, 3, none⟩ (.slice pr' lr cr')).setCell ⟨H, 4, none⟩ (.slice pq' lq cq')).setCell ⟨H, 5, none⟩ (.slice ps' ls cs')).drew) none := grown_new' (grown_trans (grown_none HG9.out) hs0) (fun k hk => by obtain rfl := Option.some.inj hk; exact HHw.out)
      have hoF : OAt (((((((w9.setCell ⟨H, 0, none⟩ (.slice pd' ld cd')).setCell ⟨H, 1, none⟩ (.slice pc' lc cc')).setCell ⟨H, 2, none⟩ (.slice pm' lm cm')).setCell ⟨H, 3, none⟩ (.slice pr' lr cr')).setCell ⟨H, 4, none⟩ (.slice pq' lq cq')).setCell ⟨H, 5, none⟩ (.slice ps' ls cs')).drew) ⟨.slice pd' ld cd', .slice pc' lc cc', .slice pm' lm cm', .slice pr' lr cr', .slice pq' lq cq', .slice ps' ls cs'⟩ (readO l) := oat_box HOA.out HH9.out hs0
      clear hs0
      generalize ((((((w9.setCell ⟨H, 0, none⟩ (.slice pd' ld cd')).setCell ⟨H, 1, none⟩ (.slice pc' lc cc')).setCell ⟨H, 2, none⟩ (.slice pm' lm cm')).setCell ⟨H, 3, none⟩ (.slice pr' lr cr')).setCell ⟨H, 4, none⟩ (.slice pq' lq cq')).setCell ⟨H, 5, none⟩ (.slice ps' ls cs')).drew = wF at HF hs hoF ⊢
      have r0 := HF.cell 0 rfl
      have r1 := HF.cell 1 rfl
      have r2 := HF.cell 2 rfl
      have r3 := HF.cell 3 rfl
      have r4 := HF.cell 4 rfl
      have r5 := HF.cell 5 rfl
      refine bodyPost_ret (v := .tuple #[.agg #[.slice pd' ld cd', .slice pc' lc cc', .slice pm' lm cm', .slice pr' lr cr', .slice pq' lq cq', .slice ps' ls cs'], .iface 154 (.pointer (some (A ec)))]) (by simp [results, Tryd.results43, go_sem, r0, r1, r2, r3, r4, r5]) rfl ?_
      exact ⟨⟨.slice pd' ld cd', .slice pc' lc cc', .slice pm' lm cm', .slice pr' lr cr', .slice pq' lq cq', .slice ps' ls cs'⟩, _, rfl, hs, (by rw [HRE3.out]; rfl), fun e => (by rw [HRE3.out] at e; cases e), by simp [OV.cells, Value.oneCell']⟩
    | none =>
      have e1 : w9.cell? ⟨R, 1, none⟩ = some .nilIface := HE1.out
      by_cases hsl : sl = []
      · subst hsl
        have hre2 : readE l = none := hre
        have HRE3 := hid hre2
        have e0 : w9.cell? ⟨R, 0, none⟩ = some (.slice (some ⟨b, o8, none⟩) 0 c8) := HE0.out
        clear hre hre2
        go_upto_region 17 with (fail)
        clear e0
        have g0 : w9.drew.cell? ⟨G, 0, none⟩ = some (.slice pd' ld cd') := HGo.out.cell 0 rfl
        have g1 : w9.drew.cell? ⟨G, 1, none⟩ = some (.slice pc' lc cc') := HGo.out.cell 1 rfl
        have g2 : w9.drew.cell? ⟨G, 2, none⟩ = some (.slice pm' lm cm') := HGo.out.cell 2 rfl
        have g3 : w9.drew.cell? ⟨G, 3, none⟩ = some (.slice pr' lr cr') := HGo.out.cell 3 rfl
        have g4 : w9.drew.cell? ⟨G, 4, none⟩ = some (.slice pq' lq cq') := HGo.out.cell 4 rfl
        have g5 : w9.drew.cell? ⟨G, 5, none⟩ = some (.slice ps' ls cs') := HGo.out.cell 5 rfl
        have er : w9.drew.cell? ⟨R, 1, none⟩ = some (.nilIface) := e1
        have y0 := HH9.out.cell 0 (v := .slice none 0 0) rfl
        have y1 := HH9.out.cell 1 (v := .slice none 0 0) rfl
        have y2 := HH9.out.cell 2 (v := .slice none 0 0) rfl
        have y3 := HH9.out.cell 3 (v := .slice none 0 0) rfl
        have y4 := HH9.out.cell 4 (v := .slice none 0 0) rfl
        have y5 := HH9.out.cell 5 (v := .slice none 0 0) rfl
        have yf := fun j => HH9.out.free j
        go_region_held3 (fun W => W.cell? ⟨G, 0, none⟩ = some (.slice pd' ld cd') ∧ W.cell? ⟨G, 1, none⟩ = some (.slice pc' lc cc') ∧ W.cell? ⟨G, 2, none⟩ = some (.slice pm' lm cm') ∧ W.cell? ⟨G, 3, none⟩ = some (.slice pr' lr cr') ∧ W.cell? ⟨G, 4, none⟩ = some (.slice pq' lq cq') ∧ W.cell? ⟨G, 5, none⟩ = some (.slice ps' ls cs') ∧ W.cell? ⟨R, 1, none⟩ = some (.nilIface))
          (first | (with_reducible exact ⟨g0, g1, g2, g3, g4, g5, er⟩) | (refine ⟨?_, ?_, ?_, ?_, ?_, ?_, ?_⟩ <;> first | (with_reducible (apply set6_other HGne.out.1; assumption)) | (with_reducible (apply set6_other_d HGne.out.1; assumption)) | (with_reducible (apply set6_other HGne.out.2; assumption)) | (with_reducible (apply set6_other_d HGne.out.2; assumption)))) (fail)
        go_split_ands
        clear y0 y1 y2 y3 y4 y5 yf g0 g1 g2 g3 g4 g5 er
        go_wp2
        have HF : RwAt (((((((w9.setCell ⟨H, 0, none⟩ (.slice pd' ld cd')).setCell ⟨H, 1, none⟩ (.slice pc' lc cc')).setCell ⟨H, 2, none⟩ (.slice pm' lm cm')).setCell ⟨H, 3, none⟩ (.slice pr' lr cr')).setCell ⟨H, 4, none⟩ (.slice pq' lq cq')).setCell ⟨H, 5, none⟩ (.slice ps' ls cs')).drew) H 29 #[.slice pd' ld cd', .slice pc' lc cc', .slice pm' lm cm', .slice pr' lr cr', .slice pq' lq cq', .slice ps' ls cs'] := by
          have := (((((((HH9.out.set 0 (.slice pd' ld cd')).set 1 (.slice pc' lc cc')).set 2 (.slice pm' lm cm')).set 3 (.slice pr' lr cr')).set 4 (.slice pq' lq cq')).set 5 (.slice ps' ls cs')).kept0 (grown_drew (grown_refl _ none)))
          simpa using this
        have hs0 : w9.grownBy (((((((w9.setCell ⟨H, 0, none⟩ (.slice pd' ld cd')).setCell ⟨H, 1, none⟩ (.slice pc' lc cc')).setCell ⟨H, 2, none⟩ (.slice pm' lm cm')).setCell ⟨H, 3, none⟩ (.slice pr' lr cr')).setCell ⟨H, 4, none⟩ (.slice pq' lq cq')).setCell ⟨H, 5, none⟩ (.slice ps' ls cs')).drew) (some H) := grown_drew (grown_setCell (grown_setCell (grown_setCell (grown_setCell (grown_setCell (grown_setCell (grown_refl _ _) _ _) _ _) _ _) _ _) _ _) _ _)
        have hs : w.grownBy (((((((w9.setCell ⟨H, 0, none⟩ (.slice pd' ld cd')).setCell ⟨H, 1, none⟩ (.slice pc' lc cc')).setCell ⟨H, 2, none⟩ (.slice pm' lm cm')).setCell ⟨H, 3, none⟩ (.slice pr' lr cr')).setCell ⟨H, 4, none⟩ (.slice pq' lq cq')).setCell ⟨H, 5, none⟩ (.slice ps' ls cs')).drew) none := grown_new' (grown_trans (grown_none HG9.out) hs0) (fun k hk => by obtain rfl := Option.some.inj hk; exact HHw.out)
        have hoF : OAt (((((((w9.setCell ⟨H, 0, none⟩ (.slice pd' ld cd')).setCell ⟨H, 1, none⟩ (.slice pc' lc cc')).setCell ⟨H, 2, none⟩ (.slice pm' lm cm')).setCell ⟨H, 3, none⟩ (.slice pr' lr cr')).setCell ⟨H, 4, none⟩ (.slice pq' lq cq')).setCell ⟨H, 5, none⟩ (.slice ps' ls cs')).drew) ⟨.slice pd' ld cd', .slice pc' lc cc', .slice pm' lm cm', .slice pr' lr cr', .slice pq' lq cq', .slice ps' ls cs'⟩ (readO l) := oat_box HOA.out HH9.out hs0
        clear hs0
        generalize ((((((w9.setCell ⟨H, 0, none⟩ (.slice pd' ld cd')).setCell ⟨H, 1, none⟩ (.slice pc' lc cc')).setCell ⟨H, 2, none⟩ (.slice pm' lm cm')).setCell ⟨H, 3, none⟩ (.slice pr' lr cr')).setCell ⟨H, 4, none⟩ (.slice pq' lq cq')).setCell ⟨H, 5, none⟩ (.slice ps' ls cs')).drew = wF at HF hs hoF ⊢
        have r0 := HF.cell 0 rfl
        have r1 := HF.cell 1 rfl
        have r2 := HF.cell 2 rfl
        have r3 := HF.cell 3 rfl
        have r4 := HF.cell 4 rfl
        have r5 := HF.cell 5 rfl
        refine bodyPost_ret (v := .tuple #[.agg #[.slice pd' ld cd', .slice pc' lc cc', .slice pm' lm cm', .slice pr' lr cr', .slice pq' lq cq', .slice ps' ls cs'], .nilIface]) (by simp [results, Tryd.results43, go_sem, r0, r1, r2, r3, r4, r5]) rfl ?_
        exact ⟨⟨.slice pd' ld cd', .slice pc' lc cc', .slice pm' lm cm', .slice pr' lr cr', .slice pq' lq cq', .slice ps' ls cs'⟩, _, rfl, hs, (by rw [HRE3.out]; rfl), fun _ => hoF, by simp [OV.cells, Value.oneCell']⟩
      · have hre2 : readE l = some 1 := by rw [hre]; simp [endE, hsl]
        have HRE3 := hid hre2
        have hpos : (sl.length : Int) > 0 := by
          have : 0 < sl.length := List.length_pos_iff.2 hsl
          omega
        have e0 := HE0.out
        have eg := HEx9.out.c1
        unfold errV at eg
        have z1 := HRd9.out.box.free 1
        have hgs : w9.grownBy (w9.setCell ⟨R, 1, none⟩ (.iface 154 (.pointer (some (A 1))))) (some R) := grown_setCell (grown_refl _ _) _ _
        have HH10 := hid (HH9.out.other R 1 (.iface 154 (.pointer (some (A 1)))) HGne.out.2.symm)
        have HG10 : Hid (w.grownBy (w9.setCell ⟨R, 1, none⟩ (.iface 154 (.pointer (some (A 1))))) none) := hid (grown_new' (grown_trans (grown_none HG9.out) hgs) (fun k hk => by obtain rfl := Option.some.inj hk; exact HRw.out.1))
        have hGR : G ≠ R := fun e => by
          have h1 := HGo.out.blk
          have h2 := HRd9.out.box.blk
          rw [e, h2] at h1
          simp at h1
        have HGo10 := hid (HGo.out.other R 1 (.iface 154 (.pointer (some (A 1)))) hGR)
        have HR10 := hid (HRd9.out.box.set 1 (.iface 154 (.pointer (some (A 1)))))
        clear hre hre2 hsl hgs hGR
        go_upto_region 17 with (fail)
        clear e0 e1 eg z1 hpos
        generalize w9.setCell ⟨R, 1, none⟩ (.iface 154 (.pointer (some (A 1)))) = w10 at HH10 HG10 HGo10 HR10 ⊢
        have e1 : w10.cell? ⟨R, 1, none⟩ = some (.iface 154 (.pointer (some (A 1)))) := HR10.out.cell 1 rfl
        have g0 : w10.drew.cell? ⟨G, 0, none⟩ = some (.slice pd' ld cd') := HGo10.out.cell 0 rfl
        have g1 : w10.drew.cell? ⟨G, 1, none⟩ = some (.slice pc' lc cc') := HGo10.out.cell 1 rfl
        have g2 : w10.drew.cell? ⟨G, 2, none⟩ = some (.slice pm' lm cm') := HGo10.out.cell 2 rfl
        have g3 : w10.drew.cell? ⟨G, 3, none⟩ = some (.slice pr' lr cr') := HGo10.out.cell 3 rfl
        have g4 : w10.drew.cell? ⟨G, 4, none⟩ = some (.slice pq' lq cq') := HGo10.out.cell 4 rfl
        have g5 : w10.drew.cell? ⟨G, 5, none⟩ = some (.slice ps' ls cs') := HGo10.out.cell 5 rfl
        have er : w10.drew.cell? ⟨R, 1, none⟩ = some (.iface 154 (.pointer (some (A 1)))) := e1
        have y0 := HH10.out.cell 0 (v := .slice none 0 0) rfl
        have y1 := HH10.out.cell 1 (v := .slice none 0 0) rfl
        have y2 := HH10.out.cell 2 (v := .slice none 0 0) rfl
        have y3 := HH10.out.cell 3 (v := .slice none 0 0) rfl
        have y4 := HH10.out.cell 4 (v := .slice none 0 0) rfl
        have y5 := HH10.out.cell 5 (v := .slice none 0 0) rfl
        have yf := fun j => HH10.out.free j
        go_region_held3 (fun W => W.cell? ⟨G, 0, none⟩ = some (.slice pd' ld cd') ∧ W.cell? ⟨G, 1, none⟩ = some (.slice pc' lc cc') ∧ W.cell? ⟨G, 2, none⟩ = some (.slice pm' lm cm') ∧ W.cell? ⟨G, 3, none⟩ = some (.slice pr' lr cr') ∧ W.cell? ⟨G, 4, none⟩ = some (.slice pq' lq cq') ∧ W.cell? ⟨G, 5, none⟩ = some (.slice ps' ls cs') ∧ W.cell? ⟨R, 1, none⟩ = some (.iface 154 (.pointer (some (A 1)))))
          (first | (with_reducible exact ⟨g0, g1, g2, g3, g4, g5, er⟩) | (refine ⟨?_, ?_, ?_, ?_, ?_, ?_, ?_⟩ <;> first | (with_reducible (apply set6_other HGne.out.1; assumption)) | (with_reducible (apply set6_other_d HGne.out.1; assumption)) | (with_reducible (apply set6_other HGne.out.2; assumption)) | (with_reducible (apply set6_other_d HGne.out.2; assumption)))) (fail)
        go_split_ands
        clear y0 y1 y2 y3 y4 y5 yf g0 g1 g2 g3 g4 g5 er
        go_wp2
        have HF : RwAt (((((((w10.setCell ⟨H, 0, none⟩ (.slice pd' ld cd')).setCell ⟨H, 1, none⟩ (.slice pc' lc cc')).setCell ⟨H, 2, none⟩ (.slice pm' lm cm')).setCell ⟨H, 3, none⟩ (.slice pr' lr cr')).setCell ⟨H, 4, none⟩ (.slice pq' lq cq')).setCell ⟨H, 5, none⟩ (.slice ps' ls cs')).drew) H 29 #[.slice pd' ld cd', .slice pc' lc cc', .slice pm' lm cm', .slice pr' lr cr', .slice pq' lq cq', .slice ps' ls cs'] := by
          have := (((((((HH10.out.set 0 (.slice pd' ld cd')).set 1 (.slice pc' lc cc')).set 2 (.slice pm' lm cm')).set 3 (.slice pr' lr cr')).set 4 (.slice pq' lq cq')).set 5 (.slice ps' ls cs')).kept0 (grown_drew (grown_refl _ none)))
          simpa using this
        have hs0 : w10.grownBy (((((((w10.setCell ⟨H, 0, none⟩ (.slice pd' ld cd')).setCell ⟨H, 1, none⟩ (.slice pc' lc cc')).setCell ⟨H, 2, none⟩ (.slice pm' lm cm')).setCell ⟨H, 3, none⟩ (.slice pr' lr cr')).setCell ⟨H, 4, none⟩ (.slice pq' lq cq')).setCell ⟨H, 5, none⟩ (.slice ps' ls cs')).drew) (some H) := grown_drew (grown_setCell (grown_setCell (grown_setCell (grown_setCell (grown_setCell (grown_setCell (grown_refl _ _) _ _) _ _) _ _) _ _) _ _) _ _)
        have hs : w.grownBy (((((((w10.setCell ⟨H, 0, none⟩ (.slice pd' ld cd')).setCell ⟨H, 1, none⟩ (.slice pc' lc cc')).setCell ⟨H, 2, none⟩ (.slice pm' lm cm')).setCell ⟨H, 3, none⟩ (.slice pr' lr cr')).setCell ⟨H, 4, none⟩ (.slice pq' lq cq')).setCell ⟨H, 5, none⟩ (.slice ps' ls cs')).drew) none := grown_new' (grown_trans (grown_none HG10.out) hs0) (fun k hk => by obtain rfl := Option.some.inj hk; exact HHw.out)
        clear hs0
        generalize ((((((w10.setCell ⟨H, 0, none⟩ (.slice pd' ld cd')).setCell ⟨H, 1, none⟩ (.slice pc' lc cc')).setCell ⟨H, 2, none⟩ (.slice pm' lm cm')).setCell ⟨H, 3, none⟩ (.slice pr' lr cr')).setCell ⟨H, 4, none⟩ (.slice pq' lq cq')).setCell ⟨H, 5, none⟩ (.slice ps' ls cs')).drew = wF at HF hs ⊢
        have r0 := HF.cell 0 rfl
        have r1 := HF.cell 1 rfl
        have r2 := HF.cell 2 rfl
        have r3 := HF.cell 3 rfl
        have r4 := HF.cell 4 rfl
        have r5 := HF.cell 5 rfl
        refine bodyPost_ret (v := .tuple #[.agg #[.slice pd' ld cd', .slice pc' lc cc', .slice pm' lm cm', .slice pr' lr cr', .slice pq' lq cq', .slice ps' ls cs'], .iface 154 (.pointer (some (A 1)))]) (by simp [results, Tryd.results43, go_sem, r0, r1, r2, r3, r4, r5]) rfl ?_
        exact ⟨⟨.slice pd' ld cd', .slice pc' lc cc', .slice pm' lm cm', .slice pr' lr cr', .slice pq' lq cq', .slice ps' ls cs'⟩, _, rfl, hs, (by rw [HRE3.out]; rfl), fun e => (by rw [HRE3.out] at e; cases e), by simp [OV.cells, Value.oneCell']⟩
end Go.Proofs.YtfkecmcnhmlnoaaDoor

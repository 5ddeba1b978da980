/- The document's Rewrite (facaderef9): relocations copied; the object that it makes, and the places beside it. -/
import Derived.Test.YtgahbpfmiibpeaaDoorZGRwD
import Derived.Test.YtgahbpfmiibpeaaDoorZObjN
namespace Go.Proofs.YtgahbpfmiibpeaaDoor
open Go.RowKit
structure RRo (w0 : World) (lv : Value) (xs : List Rl) (v : Value) (k : Nat) (w : World) : Prop where
  by_ : w.ownsRow w0.heap.size 79 4 v (xs.take k).length (rlsC (xs.take k))
  g : w0.grownBy w none
  sl : RlAt w lv xs
set_option maxRecDepth 100000 in
set_option maxHeartbeats 2000000 in
theorem rrelocs_any {w : World} {lv : Value} {xs : List Rl} (hl : RlAt w lv xs) (hn : xs.length ≤ 1000000) :
    Calls Tryd.prog 34 #[lv] w fun e w' => ∃ v, e = .returned v ∧ w'.ownsRow w.heap.size 79 4 v xs.length (rlsC xs) ∧ w.grownBy w' none := by
  obtain ⟨p, c, rfl⟩ := hl.len
  obtain ⟨i, hi, hz0, hz1, hz2⟩ := info_reloc
  obtain ⟨w1, hmk, how, hgr⟩ := run_make_own (P := Tryd.prog) w w.heap.size 24 79 i _ 4 Tryd.underlying24 hi hz0 hz1 .i64 .i64 xs.length (by rw [hz2]; omega) (by unfold maxLen; omega) (Nat.le_refl _)
  have Hi := hid hi
  have Hz0 := hid hz0
  have Hz1 := hid hz1
  have Hz2 := hid hz2
  have HSl := hid hl
  have HA : Hid (RRo w (.slice p xs.length c) xs (.slice (some ⟨w.heap.size, 0, none⟩) 0 xs.length) 0 w1) := hid ⟨by simpa [rlsC] using how, hgr, hl.kept0 hgr⟩
  have Hn := hid hn
  have nl : (xs.length : Int) ≤ 9223372036854775807 := by omega
  clear hl hn hi hz0 hz1 hz2 how hgr
  go_enter Tryd.func34, Tryd.ntmps34
  go_wp2
  clear hmk
  go_loopw [3, 4] (fun b i wr => ∃ k : Nat, k ≤ xs.length ∧ i = .int .i64 k ∧ Hid (RRo w (.slice p xs.length c) xs b k wr)) (fun _ i _ => xs.length - (intOf i).toNat)
  case atStart => exact ⟨0, Nat.zero_le _, rfl, HA⟩
  case round =>
    obtain ⟨k, hk, rfl, HR⟩ := hrel
    have k0 : (0 : Int) ≤ (k : Int) := by omega
    by_cases hlt : k < xs.length
    · have kn : (k : Int) < (xs.length : Int) := by omega
      obtain ⟨⟨xa, xk, xs', xd⟩, hx⟩ : ∃ x, xs[k]? = some x := ⟨_, List.getElem?_eq_getElem hlt⟩
      obtain ⟨b, o, c', hv, -, hb, hc⟩ := HR.out.sl.at_ (by omega)
      obtain ⟨rfl, rfl⟩ : p = some ⟨b, o, none⟩ ∧ c = c' := by simpa using hv
      have ex0 : wr.cell? ⟨b, o + k * 4, none⟩ = some (.int .i64 xa) := hc (k * 4 + 0) _ (by rw [rlsC_get xs k 0 _ hx (by decide)]; rfl)
      have ex1 : wr.cell? ⟨b, o + k * 4 + 1, none⟩ = some (.int .i64 xk) := hc (k * 4 + 1) _ (by rw [rlsC_get xs k 1 _ hx (by decide)]; rfl)
      have ex2 : wr.cell? ⟨b, o + k * 4 + 2, none⟩ = some (.int .i64 xs') := hc (k * 4 + 2) _ (by rw [rlsC_get xs k 2 _ hx (by decide)]; rfl)
      have ex3 : wr.cell? ⟨b, o + k * 4 + 3, none⟩ = some (.int .i64 xd) := hc (k * 4 + 3) _ (by rw [rlsC_get xs k 3 _ hx (by decide)]; rfl)
      have Hx := hid hx
      have Hlt := hid hlt
      clear hc hv hx hlt
      have HB := hid (own_keep0 HR.out.by_ (World.grownBy_alloc wr (.cells #[.int .i64 xa, .int .i64 xk, .int .i64 xs', .int .i64 xd] 79) none))
      obtain ⟨L, HL⟩ : ∃ L, Hid ((xs.take k).length = L) := ⟨_, hid rfl⟩
      have HLn : Hid (L + 1 ≤ 1000000) := hid (by
        have h1 := HL.out
        have h2 := Hn.out
        have h3 := Hlt.out
        rw [List.length_take] at h1
        omega)
      have HBo := hid HB.out
      rw [HL.out] at HBo
      have Hnews : Hid (∀ j u, [Value.int .i64 xa, .int .i64 xk, .int .i64 xs', .int .i64 xd][j]? = some u → (wr.alloc (.cells #[.int .i64 xa, .int .i64 xk, .int .i64 xs', .int .i64 xd] 79)).cell? ((⟨wr.heap.size, 0, none⟩ : Addr).add j) = some u) := hid (World.news_of_block (heap_alloc_new wr _))
      go_wp2_with (first
        | (refine wpList_append_lies _ rfl _ _ 24 rfl w.heap.size 79 i _ 4 32 Tryd.underlying24 Hi.out Hz0.out Hz1.out Hz2.out rfl (by decide) _ L _ rfl HBo.out ⟨wr.heap.size, 0, none⟩ 1 1 _ rfl rfl Hnews.out (by simp [Value.oneCell']) (by decide) (by have := HLn.out; unfold maxLen; omega) (by have := HLn.out; omega) (Nat.le_trans HR.out.g.size (by simp)) _ rfl ?_; intro g cap w2 hown hgrow hat hlt2; have HO := hid hown; have HG := hid hgrow; have HT := hid hat; clear hown hgrow hat)
        | fail)
      go_roundw
      case rel =>
        refine ⟨k + 1, by omega, by go_num, hid ?_⟩
        have hww : xs.take (k + 1) = xs.take k ++ [⟨xa, xk, xs', xd⟩] := by rw [List.take_add_one, Hx.out]; rfl
        have hL := HL.out
        have hgw : w.grownBy w2 none := grown_new' (grown_trans (grown_none HR.out.g) (grown_trans (World.grownBy_alloc wr _ _) HG.out)) (fun j hj => (HR.out.by_.lt j hj).1)
        refine ⟨?_, hgw, ?_⟩
        · rw [hww, List.length_append, hL, rlsC_append]
          exact HO.out
        · exact HSl.out.kept0 hgw
      case measure => simp [intOf]; have := Hlt.out; omega
    · obtain rfl : k = xs.length := by omega
      clear hlt
      go_wp2
      go_ret
      have h1 := HR.out.by_
      rw [List.take_length] at h1
      exact ⟨_, rfl, h1, HR.out.g⟩

/-- an object of the function's own in the box X, and a row of places beside it; all of it newer than B -/
structure R9 (B w : World) (X : Nat) (V : OV) (x : PO) (v : Value) (l : List Int) : Prop where
  ob : OBx B w X [] V x
  pl : w.ownsRow B.heap.size 3 1 v l.length (l.map (Value.int .i64))
  ap : ∀ u ∈ [V.d, V.c, V.m, V.r, V.q, V.s], Ap v u
  nx : v.ownBlock ≠ some X
section
variable {B w w5 : World} {X : Nat} {V : OV} {x : PO} {v : Value} {l : List Int}
theorem R9.kept0 (h : R9 B w X V x v l) (hg : w.grownBy w5 none) : R9 B w5 X V x v l := ⟨h.ob.kept0 hg, own_keep0 h.pl hg, h.ap, h.nx⟩
theorem R9.g (h : R9 B w X V x v l) : B.grownBy w none := h.ob.base_le
/-- the places grow -/
theorem R9.addP (h : R9 B w X V x v l) {g cap : Nat} (p : Int) (hg : w.grownBy w5 v.ownBlock) (hm : v.ownBlock = some g ∨ g = w.heap.size)
    (ho : w5.ownsRow B.heap.size 3 1 (.slice (some ⟨g, 0, none⟩) (l.length + 1) cap) (l.length + 1) (l.map (Value.int .i64) ++ [.int .i64 p])) :
    R9 B w5 X V x (.slice (some ⟨g, 0, none⟩) (l.length + 1) cap) (l ++ [p]) := by
  have k : ∀ u ∈ [V.d, V.c, V.m, V.r, V.q, V.s], u.ownBlock = none ∨ u.ownBlock ≠ v.ownBlock := fun u hu => by
    rcases h.ap u hu with e | e
    · rw [e]
      cases hu2 : u.ownBlock with
      | none => exact .inl rfl
      | some j => exact .inr (by simp)
    · exact .inr (fun e2 => e e2.symm)
  have lt : ∀ u ∈ [V.d, V.c, V.m, V.r, V.q, V.s], ∀ j, u.ownBlock = some j → j < w.heap.size := fun u hu j hj => by
    simp only [List.mem_cons, List.not_mem_nil, or_false] at hu
    rcases hu with rfl | rfl | rfl | rfl | rfl | rfl
    · exact (h.ob.own.d.lt j hj).2
    · exact (h.ob.own.c.lt j hj).2
    · exact (h.ob.own.m.lt j hj).2
    · exact (h.ob.own.r.lt j hj).2
    · exact (h.ob.own.q.lt j hj).2
    · exact (h.ob.own.s.lt j hj).2
  have hB : ∀ j, v.ownBlock = some j → B.heap.size ≤ j := fun j hj => (h.pl.lt j hj).1
  have hx := h.ob.g1.lt
  refine ⟨⟨h.ob.below.grown hg h.ob.le hB, h.ob.g1.kept hg (fun e => h.nx e.symm), ⟨h.ob.own.d.kept hg (k _ (by simp)), h.ob.own.c.kept hg (k _ (by simp)), h.ob.own.m.kept hg (k _ (by simp)), h.ob.own.r.kept hg (k _ (by simp)), h.ob.own.q.kept hg (k _ (by simp)), h.ob.own.s.kept hg (k _ (by simp)), h.ob.own.ap⟩, h.ob.ge1, h.ob.ne, fun T hT => by cases hT⟩, ?_, fun u hu => ?_, ?_⟩
  · rw [List.length_append, List.map_append]; exact ho
  · cases hu2 : u.ownBlock with
    | none => exact .inr (by rw [hu2]; simp [Value.ownBlock])
    | some j =>
      right
      rw [hu2]
      rcases hm with e | e
      · intro e2
        have e3 : g = j := Option.some.inj e2
        rcases h.ap u hu with f | f
        · rw [f] at e; cases e
        · exact f (by rw [e, e3, hu2])
      · intro e2
        have e3 : g = j := Option.some.inj e2
        have := lt u hu j hu2
        omega
  · rcases hm with e | e
    · intro e2
      exact h.nx (e.trans e2)
    · intro e2
      have e3 : g = X := Option.some.inj e2
      omega
/-- a part of the object grows: what is known of the places -/
theorem R9.part (h : R9 B w X V x v l) {V2 : OV} {x2 : PO} {w6 : World} {r : Option Nat} {g i : Nat} {sv : Value} (hg : w.grownBy w5 r) (hr : ∃ u ∈ [V.d, V.c, V.m, V.r, V.q, V.s], u.ownBlock = r) (hw6 : w6 = w5.setCell ⟨X, i, none⟩ sv) (hs : sv.ownBlock = some g) (hm : r = some g ∨ g = w.heap.size)
    (ho : OBx B w6 X [] V2 x2) (hV : ∀ u ∈ [V2.d, V2.c, V2.m, V2.r, V2.q, V2.s], u = sv ∨ u ∈ [V.d, V.c, V.m, V.r, V.q, V.s]) : R9 B w6 X V2 x2 v l := by
  subst hw6
  obtain ⟨u0, hu0, hur⟩ := hr
  have a0 := h.ap u0 hu0
  unfold Ap at a0
  rw [hur] at a0
  have hgs : w5.grownBy (w5.setCell ⟨X, i, none⟩ sv) (some X) := grown_setCell (grown_refl _ _) _ _
  refine ⟨ho, (h.pl.kept hg a0).kept hgs (.inr h.nx), fun u hu => ?_, h.nx⟩
  rcases hV u hu with rfl | hu
  · unfold Ap
    cases hv : v.ownBlock with
    | none => exact .inl rfl
    | some j =>
      right
      rw [hs]
      rcases hm with e | e
      · intro e2
        rcases a0 with f | f
        · rw [hv] at f; cases f
        · exact f (by rw [hv, e2, e])
      · intro e2
        have e3 : j = g := Option.some.inj e2
        have := (h.pl.lt j hv).2
        omega
  · exact h.ap u hu
end
end Go.Proofs.YtgahbpfmiibpeaaDoor

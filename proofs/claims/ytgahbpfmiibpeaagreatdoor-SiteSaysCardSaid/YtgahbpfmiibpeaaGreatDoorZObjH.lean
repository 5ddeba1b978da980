/- Copies of lists; a copy of an object (package obj): contracts. (Made by gobjh.py.) -/
import Derived.Test.YtgahbpfmiibpeaaGreatDoorZObjG
import Derived.Laws.MakeOwn
import Derived.Lib.SliceRun
import Derived.Deep.RegionHeld3
namespace Go.Proofs.YtgahbpfmiibpeaaGreatDoor
open Go.RowKit
/-- behind a copy: a row of the call's own with these cells -/
def CpAt (w : World) (t : TypeId) (size n : Nat) (cs : List Value) (e : Ending) (w' : World) : Prop :=
  ∃ v, e = .returned v ∧ w'.ownsRow w.heap.size t size v n cs ∧ w.grownBy w' none
theorem info_u8 : ∃ i : TypeInfo, Tryz.prog.info? 5 = some i ∧ i.zero = some (.int .u8 0) ∧ i.size = 1 ∧ i.bytes = 1 := info_parts (P := Tryz.prog) (e := 5) (z := .int .u8 0) (size := 1) (bytes := 1) (by kernel_rfl)
theorem info_u32 : ∃ i : TypeInfo, Tryz.prog.info? 46 = some i ∧ i.zero = some (.int .u32 0) ∧ i.size = 1 ∧ i.bytes = 4 := info_parts (P := Tryz.prog) (e := 46) (z := .int .u32 0) (size := 1) (bytes := 4) (by kernel_rfl)
theorem info_reloc : ∃ i : TypeInfo, Tryz.prog.info? 90 = some i ∧ i.zero = some (.agg #[.int .i64 0, .int .i64 0, .int .i64 0, .int .i64 0]) ∧ i.size = 4 ∧ i.bytes = 32 := info_parts (P := Tryz.prog) (e := 90) (z := .agg #[.int .i64 0, .int .i64 0, .int .i64 0, .int .i64 0]) (size := 4) (bytes := 32) (by kernel_rfl)
theorem info_symb : ∃ i : TypeInfo, Tryz.prog.info? 88 = some i ∧ i.zero = some (.agg #[.string ⟨#[]⟩, .int .i64 0, .int .i64 0, .bool false]) ∧ i.size = 4 ∧ i.bytes = 40 := info_parts (P := Tryz.prog) (e := 88) (z := .agg #[.string ⟨#[]⟩, .int .i64 0, .int .i64 0, .bool false]) (size := 4) (bytes := 40) (by kernel_rfl)
theorem ints_one (k : IntKind) (xs : List Int) : ∀ v ∈ xs.map (Value.int k), v.oneCell' = true := by
  intro v hv
  obtain ⟨x, _, rfl⟩ := List.mem_map.1 hv
  rfl

set_option maxHeartbeats 1000000 in
theorem clone_u32 {w : World} {v : Value} {l : List Int} (h : SlAt w .u32 v l) (hl : l.length ≤ 1000000) :
    Calls Tryz.prog 130 #[v] w (CpAt w 46 1 l.length (l.map (Value.int .u32))) := by
  have hnil := @Lib.run_eql_slice_nil Tryz.prog
  have key : ∀ (a : Addr) (c : Nat), v = .slice (some a) l.length c → (∀ j u, (l.map (Value.int .u32))[j]? = some u → w.cell? (a.add j) = some u) → Calls Tryz.prog 130 #[v] w (CpAt w 46 1 l.length (l.map (Value.int .u32))) := by
    intro a c hv hcl
    subst hv
    obtain ⟨i, hi, hz0, hz1, hz2⟩ := info_u32
    have Hi := hid hi
    have Hz0 := hid hz0
    have Hz1 := hid hz1
    have Hz2 := hid hz2
    have Hnew : Hid (∀ j u, (l.map (Value.int .u32))[j]? = some u → (w.alloc (.cells #[] 46)).cell? (a.add j) = some u) := hid (by
      intro j u hu
      have := hcl j u hu
      rw [World.cell?_alloc_lt _ _ _ (World.block_lt_of_cell? w _ this)]
      exact this)
    have Hl : Hid ((l.map (Value.int .u32)).length = l.length * 1) := hid (by simp)
    have H1 : Hid (∀ v ∈ (l.map (Value.int .u32)), v.oneCell' = true) := hid (ints_one _ _)
    have Hown : Hid ((w.alloc (.cells #[] 46)).ownsRow w.heap.size 46 1 (.slice (some ⟨w.heap.size, 0, none⟩) 0 0) 0 []) :=
      hid (World.ownsRow_lit w #[] 0 (Nat.le_refl _) (by unfold maxLen; omega) rfl)
    have Hb : Hid ((0 + l.length) * 4 ≤ 140737488355328) := hid (by omega)
    have Hx : Hid (0 + l.length ≤ maxLen) := hid (by unfold maxLen; omega)
    clear hi hz0 hz1 hz2 hcl hl h
    go_enter Tryz.func130, Tryz.ntmps130
    go_wp2_with (refine wpList_append_own _ rfl _ _ 22 rfl w.heap.size 46 i _ 1 4 Tryz.underlying22 Hi.out Hz0.out Hz1.out Hz2.out rfl (by decide) (.slice (some ⟨w.heap.size, 0, none⟩) 0 0) 0 [] rfl Hown.out a l.length c (l.map (Value.int .u32)) rfl Hl.out Hnew.out H1.out Hx.out Hb.out (by simp) ?_; intro v' w2 hown2 hgrow2 _; have HO := hid hown2; have HG := hid hgrow2; clear hown2 hgrow2)
    go_ret
    refine ⟨v', rfl, ?_, ?_⟩
    · have := HO.out; rwa [Nat.zero_add, List.nil_append] at this
    · exact grown_new' (grown_trans (World.grownBy_alloc _ _ _) HG.out) (fun k hk => by simp [Value.ownBlock] at hk; omega)
  rcases h with ⟨⟨p, c, rfl⟩, rfl⟩ | ⟨b, o, c, rfl, _, hc⟩
  · cases p with
    | none =>
      clear hl key
      go_enter Tryz.func130, Tryz.ntmps130
      go_wp2
      go_ret
      exact ⟨_, rfl, World.ownsRow_nil _ _ _ _, grown_refl _ _⟩
    | some a => exact key a c rfl (by simp)
  · exact key ⟨b, o, none⟩ c rfl (fun j u hu => by
      rw [List.getElem?_map, Option.map_eq_some_iff] at hu
      obtain ⟨z, hz, rfl⟩ := hu
      rw [Addr.add_mid]
      exact hc j z hz)

set_option maxHeartbeats 1000000 in
theorem clone_u8 {w : World} {v : Value} {l : List Int} (h : SlAt w .u8 v l) (hl : l.length ≤ 1000000) :
    Calls Tryz.prog 131 #[v] w (CpAt w 5 1 l.length (l.map (Value.int .u8))) := by
  have hnil := @Lib.run_eql_slice_nil Tryz.prog
  have key : ∀ (a : Addr) (c : Nat), v = .slice (some a) l.length c → (∀ j u, (l.map (Value.int .u8))[j]? = some u → w.cell? (a.add j) = some u) → Calls Tryz.prog 131 #[v] w (CpAt w 5 1 l.length (l.map (Value.int .u8))) := by
    intro a c hv hcl
    subst hv
    obtain ⟨i, hi, hz0, hz1, hz2⟩ := info_u8
    have Hi := hid hi
    have Hz0 := hid hz0
    have Hz1 := hid hz1
    have Hz2 := hid hz2
    have Hnew : Hid (∀ j u, (l.map (Value.int .u8))[j]? = some u → (w.alloc (.cells #[] 5)).cell? (a.add j) = some u) := hid (by
      intro j u hu
      have := hcl j u hu
      rw [World.cell?_alloc_lt _ _ _ (World.block_lt_of_cell? w _ this)]
      exact this)
    have Hl : Hid ((l.map (Value.int .u8)).length = l.length * 1) := hid (by simp)
    have H1 : Hid (∀ v ∈ (l.map (Value.int .u8)), v.oneCell' = true) := hid (ints_one _ _)
    have Hown : Hid ((w.alloc (.cells #[] 5)).ownsRow w.heap.size 5 1 (.slice (some ⟨w.heap.size, 0, none⟩) 0 0) 0 []) :=
      hid (World.ownsRow_lit w #[] 0 (Nat.le_refl _) (by unfold maxLen; omega) rfl)
    have Hb : Hid ((0 + l.length) * 1 ≤ 140737488355328) := hid (by omega)
    have Hx : Hid (0 + l.length ≤ maxLen) := hid (by unfold maxLen; omega)
    clear hi hz0 hz1 hz2 hcl hl h
    go_enter Tryz.func131, Tryz.ntmps131
    go_wp2_with (refine wpList_append_own _ rfl _ _ 23 rfl w.heap.size 5 i _ 1 1 Tryz.underlying23 Hi.out Hz0.out Hz1.out Hz2.out rfl (by decide) (.slice (some ⟨w.heap.size, 0, none⟩) 0 0) 0 [] rfl Hown.out a l.length c (l.map (Value.int .u8)) rfl Hl.out Hnew.out H1.out Hx.out Hb.out (by simp) ?_; intro v' w2 hown2 hgrow2 _; have HO := hid hown2; have HG := hid hgrow2; clear hown2 hgrow2)
    go_ret
    refine ⟨v', rfl, ?_, ?_⟩
    · have := HO.out; rwa [Nat.zero_add, List.nil_append] at this
    · exact grown_new' (grown_trans (World.grownBy_alloc _ _ _) HG.out) (fun k hk => by simp [Value.ownBlock] at hk; omega)
  rcases h with ⟨⟨p, c, rfl⟩, rfl⟩ | ⟨b, o, c, rfl, _, hc⟩
  · cases p with
    | none =>
      clear hl key
      go_enter Tryz.func131, Tryz.ntmps131
      go_wp2
      go_ret
      exact ⟨_, rfl, World.ownsRow_nil _ _ _ _, grown_refl _ _⟩
    | some a => exact key a c rfl (by simp)
  · exact key ⟨b, o, none⟩ c rfl (fun j u hu => by
      rw [List.getElem?_map, Option.map_eq_some_iff] at hu
      obtain ⟨z, hz, rfl⟩ := hu
      rw [Addr.add_mid]
      exact hc j z hz)

set_option maxHeartbeats 1000000 in
theorem clone_rl {w : World} {v : Value} {l : List Rl} (h : CsAt w v l.length (rlsC l)) (hl : l.length ≤ 1000000) :
    Calls Tryz.prog 132 #[v] w (CpAt w 90 4 l.length (rlsC l)) := by
  have hnil := @Lib.run_eql_slice_nil Tryz.prog
  have key : ∀ (a : Addr) (c : Nat), v = .slice (some a) l.length c → (∀ j u, (rlsC l)[j]? = some u → w.cell? (a.add j) = some u) → Calls Tryz.prog 132 #[v] w (CpAt w 90 4 l.length (rlsC l)) := by
    intro a c hv hcl
    subst hv
    obtain ⟨i, hi, hz0, hz1, hz2⟩ := info_reloc
    have Hi := hid hi
    have Hz0 := hid hz0
    have Hz1 := hid hz1
    have Hz2 := hid hz2
    have Hnew : Hid (∀ j u, (rlsC l)[j]? = some u → (w.alloc (.cells #[] 90)).cell? (a.add j) = some u) := hid (by
      intro j u hu
      have := hcl j u hu
      rw [World.cell?_alloc_lt _ _ _ (World.block_lt_of_cell? w _ this)]
      exact this)
    have Hl : Hid ((rlsC l).length = l.length * 4) := hid (rlsC_length l)
    have H1 : Hid (∀ v ∈ (rlsC l), v.oneCell' = true) := hid (rlsC_one l)
    have Hown : Hid ((w.alloc (.cells #[] 90)).ownsRow w.heap.size 90 4 (.slice (some ⟨w.heap.size, 0, none⟩) 0 0) 0 []) :=
      hid (World.ownsRow_lit w #[] 0 (Nat.le_refl _) (by unfold maxLen; omega) rfl)
    have Hb : Hid ((0 + l.length) * 32 ≤ 140737488355328) := hid (by omega)
    have Hx : Hid (0 + l.length ≤ maxLen) := hid (by unfold maxLen; omega)
    clear hi hz0 hz1 hz2 hcl hl h
    go_enter Tryz.func132, Tryz.ntmps132
    go_wp2_with (refine wpList_append_own _ rfl _ _ 24 rfl w.heap.size 90 i _ 4 32 Tryz.underlying24 Hi.out Hz0.out Hz1.out Hz2.out rfl (by decide) (.slice (some ⟨w.heap.size, 0, none⟩) 0 0) 0 [] rfl Hown.out a l.length c (rlsC l) rfl Hl.out Hnew.out H1.out Hx.out Hb.out (by simp) ?_; intro v' w2 hown2 hgrow2 _; have HO := hid hown2; have HG := hid hgrow2; clear hown2 hgrow2)
    go_ret
    refine ⟨v', rfl, ?_, ?_⟩
    · have := HO.out; rwa [Nat.zero_add, List.nil_append] at this
    · exact grown_new' (grown_trans (World.grownBy_alloc _ _ _) HG.out) (fun k hk => by simp [Value.ownBlock] at hk; omega)
  rcases h with ⟨⟨p, c, rfl⟩, h0, hcs⟩ | ⟨b, o, c, rfl, _, _, hc⟩
  · obtain rfl := List.eq_nil_of_length_eq_zero h0
    cases p with
    | none =>
      clear hl key
      go_enter Tryz.func132, Tryz.ntmps132
      go_wp2
      go_ret
      exact ⟨_, rfl, World.ownsRow_nil _ _ _ _, grown_refl _ _⟩
    | some a => exact key a c rfl (by simp [rlsC])
  · exact key ⟨b, o, none⟩ c rfl (fun j u hu => by
      rw [Addr.add_mid]
      exact hc j u hu)

set_option maxHeartbeats 1000000 in
theorem clone_sy {w : World} {v : Value} {l : List Sy} (h : CsAt w v l.length (sysC l)) (hl : l.length ≤ 1000000) :
    Calls Tryz.prog 133 #[v] w (CpAt w 88 4 l.length (sysC l)) := by
  have hnil := @Lib.run_eql_slice_nil Tryz.prog
  have key : ∀ (a : Addr) (c : Nat), v = .slice (some a) l.length c → (∀ j u, (sysC l)[j]? = some u → w.cell? (a.add j) = some u) → Calls Tryz.prog 133 #[v] w (CpAt w 88 4 l.length (sysC l)) := by
    intro a c hv hcl
    subst hv
    obtain ⟨i, hi, hz0, hz1, hz2⟩ := info_symb
    have Hi := hid hi
    have Hz0 := hid hz0
    have Hz1 := hid hz1
    have Hz2 := hid hz2
    have Hnew : Hid (∀ j u, (sysC l)[j]? = some u → (w.alloc (.cells #[] 88)).cell? (a.add j) = some u) := hid (by
      intro j u hu
      have := hcl j u hu
      rw [World.cell?_alloc_lt _ _ _ (World.block_lt_of_cell? w _ this)]
      exact this)
    have Hl : Hid ((sysC l).length = l.length * 4) := hid (sysC_length l)
    have H1 : Hid (∀ v ∈ (sysC l), v.oneCell' = true) := hid (sysC_one l)
    have Hown : Hid ((w.alloc (.cells #[] 88)).ownsRow w.heap.size 88 4 (.slice (some ⟨w.heap.size, 0, none⟩) 0 0) 0 []) :=
      hid (World.ownsRow_lit w #[] 0 (Nat.le_refl _) (by unfold maxLen; omega) rfl)
    have Hb : Hid ((0 + l.length) * 40 ≤ 140737488355328) := hid (by omega)
    have Hx : Hid (0 + l.length ≤ maxLen) := hid (by unfold maxLen; omega)
    clear hi hz0 hz1 hz2 hcl hl h
    go_enter Tryz.func133, Tryz.ntmps133
    go_wp2_with (refine wpList_append_own _ rfl _ _ 25 rfl w.heap.size 88 i _ 4 40 Tryz.underlying25 Hi.out Hz0.out Hz1.out Hz2.out rfl (by decide) (.slice (some ⟨w.heap.size, 0, none⟩) 0 0) 0 [] rfl Hown.out a l.length c (sysC l) rfl Hl.out Hnew.out H1.out Hx.out Hb.out (by simp) ?_; intro v' w2 hown2 hgrow2 _; have HO := hid hown2; have HG := hid hgrow2; clear hown2 hgrow2)
    go_ret
    refine ⟨v', rfl, ?_, ?_⟩
    · have := HO.out; rwa [Nat.zero_add, List.nil_append] at this
    · exact grown_new' (grown_trans (World.grownBy_alloc _ _ _) HG.out) (fun k hk => by simp [Value.ownBlock] at hk; omega)
  rcases h with ⟨⟨p, c, rfl⟩, h0, hcs⟩ | ⟨b, o, c, rfl, _, _, hc⟩
  · obtain rfl := List.eq_nil_of_length_eq_zero h0
    cases p with
    | none =>
      clear hl key
      go_enter Tryz.func133, Tryz.ntmps133
      go_wp2
      go_ret
      exact ⟨_, rfl, World.ownsRow_nil _ _ _ _, grown_refl _ _⟩
    | some a => exact key a c rfl (by simp [sysC])
  · exact key ⟨b, o, none⟩ c rfl (fun j u hu => by
      rw [Addr.add_mid]
      exact hc j u hu)

/-! ### an object copied -/
/-- an object's box, and what is known beside it -/
structure Bo (w0 w : World) (G : Nat) (V : OV) (x : PO) : Prop where
  box : RwAt w G 27 #[V.d, V.c, V.m, V.r, V.q, V.s]
  o : OAt w V x
  g : w0.grownBy w none
section
variable {w0 w w1 : World} {G : Nat} {V : OV} {x : PO}
theorem Bo.kept0 (h : Bo w0 w G V x) (hg : w.grownBy w1 none) : Bo w0 w1 G V x := ⟨h.box.kept0 hg, h.o.kept0 hg, grown_trans h.g hg⟩
theorem Bo.alloc (h : Bo w0 w G V x) (o : Obj) : Bo w0 (w.alloc o) G V x := h.kept0 (World.grownBy_alloc _ _ _)
theorem Bo.new (h : OAt w V x) : Bo w (w.alloc (.cells #[V.d, V.c, V.m, V.r, V.q, V.s] 27)) w.heap.size V x :=
  ⟨RwAt.new w _ _, h.kept0 (World.grownBy_alloc _ _ _), World.grownBy_alloc _ _ _⟩
end
def Ap (u v : Value) : Prop := u.ownBlock = none ∨ u.ownBlock ≠ v.ownBlock
/-- an object of the call's own: six rows, none of them another -/
structure OwnO (B : Nat) (w : World) (V : OV) (x : PO) : Prop where
  d : w.ownsRow B 46 1 V.d x.D.length (x.D.map (Value.int .u32))
  c : w.ownsRow B 46 1 V.c x.C.length (x.C.map (Value.int .u32))
  m : w.ownsRow B 5 1 V.m x.M.length (x.M.map (Value.int .u8))
  r : w.ownsRow B 90 4 V.r x.R.length (rlsC x.R)
  q : w.ownsRow B 90 4 V.q x.Q.length (rlsC x.Q)
  s : w.ownsRow B 88 4 V.s x.S.length (sysC x.S)
  ap : [V.d, V.c, V.m, V.r, V.q, V.s].Pairwise Ap
theorem OwnO.at_ {B : Nat} {w : World} {V : OV} {x : PO} (h : OwnO B w V x) : OAt w V x := ⟨SlAt.own h.d, SlAt.own h.c, SlAt.own h.m, CsAt.own h.r, CsAt.own h.q, CsAt.own h.s⟩
theorem OwnO.kept0 {B : Nat} {w w1 : World} {V : OV} {x : PO} (h : OwnO B w V x) (hg : w.grownBy w1 none) : OwnO B w1 V x :=
  ⟨h.d.kept hg (by cases V.d.ownBlock <;> simp), h.c.kept hg (by cases V.c.ownBlock <;> simp), h.m.kept hg (by cases V.m.ownBlock <;> simp), h.r.kept hg (by cases V.r.ownBlock <;> simp), h.q.kept hg (by cases V.q.ownBlock <;> simp), h.s.kept hg (by cases V.s.ownBlock <;> simp), h.ap⟩
theorem zero_obj (w : World) : (zeroValue 27).run Tryz.prog w = .ok (.agg #[.slice none 0 0, .slice none 0 0, .slice none 0 0, .slice none 0 0, .slice none 0 0, .slice none 0 0]) w := by kernel_rfl
theorem set6_other {w : World} {G R k : Nat} {a b c d e f v : Value} (h : G ≠ R) (hc : w.cell? ⟨G, k, none⟩ = some v) :
    ((((((w.setCell ⟨R, 0, none⟩ a).setCell ⟨R, 1, none⟩ b).setCell ⟨R, 2, none⟩ c).setCell ⟨R, 3, none⟩ d).setCell ⟨R, 4, none⟩ e).setCell ⟨R, 5, none⟩ f).cell? ⟨G, k, none⟩ = some v :=
  (World.cell?_of_block (by rw [heap_setCell_other _ _ _ _ h, heap_setCell_other _ _ _ _ h, heap_setCell_other _ _ _ _ h, heap_setCell_other _ _ _ _ h, heap_setCell_other _ _ _ _ h, heap_setCell_other _ _ _ _ h])).trans hc
/-- behind Clone -/
def OCl (w : World) (x : PO) (e : Ending) (w' : World) : Prop := ∃ V', e = .returned V'.agg ∧ OwnO w.heap.size w' V' x ∧ w.grownBy w' none
theorem own_slice {w : World} {B size n : Nat} {t : TypeId} {v : Value} {cs : List Value} (h : w.ownsRow B t size v n cs) : ∃ p c, v = .slice p n c := by
  rcases h.2 with ⟨rfl, h0⟩ | ⟨g, cap, cur, rfl, _⟩
  · subst h0; exact ⟨_, _, rfl⟩
  · exact ⟨_, _, rfl⟩
theorem own_apart {w : World} {B B' size n size' n' : Nat} {t t' : TypeId} {v v' : Value} {cs cs' : List Value} {w' : World} (h : w.ownsRow B t size v n cs) (h' : w'.ownsRow B' t' size' v' n' cs') (hB : w.heap.size ≤ B') : Ap v v' := by
  unfold Ap
  cases hv : v.ownBlock with
  | none => exact .inl rfl
  | some g =>
    right
    intro e
    have h1 := (h.lt g hv).2
    have h2 := (h'.lt g e.symm).1
    omega

set_option maxRecDepth 100000 in
set_option maxHeartbeats 8000000 in
theorem oclone_any {w : World} {V : OV} {x : PO} (h : OAt w V x) (hl : x.D.length ≤ 1000000 ∧ x.C.length ≤ 1000000 ∧ x.M.length ≤ 1000000 ∧ x.R.length ≤ 1000000 ∧ x.Q.length ≤ 1000000 ∧ x.S.length ≤ 1000000) :
    Calls Tryz.prog 98 #[V.agg] w (OCl w x) := by
  obtain ⟨d, c, m, r, q, s⟩ := V
  have Hz := zero_obj
  have HL := hid hl
  have HA := hid ((Bo.new h).alloc (.cells #[.slice none 0 0, .slice none 0 0, .slice none 0 0, .slice none 0 0, .slice none 0 0, .slice none 0 0] 27))
  have HRA := hid (RwAt.new2 w (.cells #[d, c, m, r, q, s] 27) 27 #[.slice none 0 0, .slice none 0 0, .slice none 0 0, .slice none 0 0, .slice none 0 0, .slice none 0 0])
  clear h hl
  go_enter Tryz.func98, Tryz.ntmps98
  go_upto_region 1 with (fail)
  obtain ⟨G, hG⟩ : ∃ G, w.heap.size = G := ⟨_, rfl⟩
  rw [hG] at HA HRA ⊢
  generalize (w.alloc (.cells #[d, c, m, r, q, s] 27)).alloc (.cells #[.slice none 0 0, .slice none 0 0, .slice none 0 0, .slice none 0 0, .slice none 0 0, .slice none 0 0] 27) = w1 at HA HRA ⊢
  obtain ⟨R, hR⟩ : ∃ R, G + 1 = R := ⟨_, rfl⟩
  rw [hR] at HRA ⊢
  have HGR := hid (And.intro hG hR)
  have HNE : Hid (G ≠ R) := hid (by omega)
  clear hG hR
  have H0 := hid (HA.out.kept0 (grown_drew (grown_refl w1 none)))
  have HR0 := hid (HRA.out.kept0 (grown_drew (grown_refl w1 none)))
  have H0x := hid H0.out
  have HR0x := hid HR0.out
  clear HA HRA
  have k00 := H0.out.box.cell 0 (v := d) rfl
  have k01 := H0.out.box.cell 1 (v := c) rfl
  have k02 := H0.out.box.cell 2 (v := m) rfl
  have k03 := H0.out.box.cell 3 (v := r) rfl
  have k04 := H0.out.box.cell 4 (v := q) rfl
  have k05 := H0.out.box.cell 5 (v := s) rfl
  go_region_held3 (fun W => W.cell? ⟨G, 0, none⟩ = some d ∧ W.cell? ⟨G, 1, none⟩ = some c ∧ W.cell? ⟨G, 2, none⟩ = some m ∧ W.cell? ⟨G, 3, none⟩ = some r ∧ W.cell? ⟨G, 4, none⟩ = some q ∧ W.cell? ⟨G, 5, none⟩ = some s)
    (first | (with_reducible exact ⟨k00, k01, k02, k03, k04, k05⟩) | (with_reducible exact ⟨k10, k11, k12, k13, k14, k15⟩) | (with_reducible exact ⟨k20, k21, k22, k23, k24, k25⟩) | (with_reducible exact ⟨k30, k31, k32, k33, k34, k35⟩) | (with_reducible exact ⟨k40, k41, k42, k43, k44, k45⟩) | (with_reducible exact ⟨k50, k51, k52, k53, k54, k55⟩) | (with_reducible exact ⟨k60, k61, k62, k63, k64, k65⟩) | (refine ⟨?_, ?_, ?_, ?_, ?_, ?_⟩ <;> (apply set6_other HNE.out; with_reducible assumption)))
    (first
      | (go_at_call 130; refine (clone_u32 H0.out.o.d HL.out.1).mono ?_; rintro e w2 ⟨v0, rfl, ho, hg⟩; obtain ⟨p0, c0, rfl⟩ := own_slice ho; have HO0 := hid ho; have HG0 := hid hg; have H1 := hid (H0.out.kept0 hg); have HR1 := hid (HR0.out.kept0 hg); clear ho hg H0 HR0; have k10 := H1.out.box.cell 0 (v := d) rfl; have k11 := H1.out.box.cell 1 (v := c) rfl; have k12 := H1.out.box.cell 2 (v := m) rfl; have k13 := H1.out.box.cell 3 (v := r) rfl; have k14 := H1.out.box.cell 4 (v := q) rfl; have k15 := H1.out.box.cell 5 (v := s) rfl)
      | (go_at_call 130; refine (clone_u32 H1.out.o.c HL.out.2.1).mono ?_; rintro e w3 ⟨v1, rfl, ho, hg⟩; obtain ⟨p1, c1, rfl⟩ := own_slice ho; have HO1 := hid ho; have HG1 := hid hg; have H2 := hid (H1.out.kept0 hg); have HR2 := hid (HR1.out.kept0 hg); clear ho hg H1 HR1; have k20 := H2.out.box.cell 0 (v := d) rfl; have k21 := H2.out.box.cell 1 (v := c) rfl; have k22 := H2.out.box.cell 2 (v := m) rfl; have k23 := H2.out.box.cell 3 (v := r) rfl; have k24 := H2.out.box.cell 4 (v := q) rfl; have k25 := H2.out.box.cell 5 (v := s) rfl)
      | (go_at_call 131; refine (clone_u8 H2.out.o.m HL.out.2.2.1).mono ?_; rintro e w4 ⟨v2, rfl, ho, hg⟩; obtain ⟨p2, c2, rfl⟩ := own_slice ho; have HO2 := hid ho; have HG2 := hid hg; have H3 := hid (H2.out.kept0 hg); have HR3 := hid (HR2.out.kept0 hg); clear ho hg H2 HR2; have k30 := H3.out.box.cell 0 (v := d) rfl; have k31 := H3.out.box.cell 1 (v := c) rfl; have k32 := H3.out.box.cell 2 (v := m) rfl; have k33 := H3.out.box.cell 3 (v := r) rfl; have k34 := H3.out.box.cell 4 (v := q) rfl; have k35 := H3.out.box.cell 5 (v := s) rfl)
      | (go_at_call 132; refine (clone_rl H3.out.o.r HL.out.2.2.2.1).mono ?_; rintro e w5 ⟨v3, rfl, ho, hg⟩; obtain ⟨p3, c3, rfl⟩ := own_slice ho; have HO3 := hid ho; have HG3 := hid hg; have H4 := hid (H3.out.kept0 hg); have HR4 := hid (HR3.out.kept0 hg); clear ho hg H3 HR3; have k40 := H4.out.box.cell 0 (v := d) rfl; have k41 := H4.out.box.cell 1 (v := c) rfl; have k42 := H4.out.box.cell 2 (v := m) rfl; have k43 := H4.out.box.cell 3 (v := r) rfl; have k44 := H4.out.box.cell 4 (v := q) rfl; have k45 := H4.out.box.cell 5 (v := s) rfl)
      | (go_at_call 132; refine (clone_rl H4.out.o.q HL.out.2.2.2.2.1).mono ?_; rintro e w6 ⟨v4, rfl, ho, hg⟩; obtain ⟨p4, c4, rfl⟩ := own_slice ho; have HO4 := hid ho; have HG4 := hid hg; have H5 := hid (H4.out.kept0 hg); have HR5 := hid (HR4.out.kept0 hg); clear ho hg H4 HR4; have k50 := H5.out.box.cell 0 (v := d) rfl; have k51 := H5.out.box.cell 1 (v := c) rfl; have k52 := H5.out.box.cell 2 (v := m) rfl; have k53 := H5.out.box.cell 3 (v := r) rfl; have k54 := H5.out.box.cell 4 (v := q) rfl; have k55 := H5.out.box.cell 5 (v := s) rfl)
      | (go_at_call 133; refine (clone_sy H5.out.o.s HL.out.2.2.2.2.2).mono ?_; rintro e w7 ⟨v5, rfl, ho, hg⟩; obtain ⟨p5, c5, rfl⟩ := own_slice ho; have HO5 := hid ho; have HG5 := hid hg; have H6 := hid (H5.out.kept0 hg); have HR6 := hid (HR5.out.kept0 hg); clear ho hg H5 HR5; have k60 := H6.out.box.cell 0 (v := d) rfl; have k61 := H6.out.box.cell 1 (v := c) rfl; have k62 := H6.out.box.cell 2 (v := m) rfl; have k63 := H6.out.box.cell 3 (v := r) rfl; have k64 := H6.out.box.cell 4 (v := q) rfl; have k65 := H6.out.box.cell 5 (v := s) rfl; have n0 := HR6.out.cell 0 (v := .slice none 0 0) rfl; have n1 := HR6.out.cell 1 (v := .slice none 0 0) rfl; have n2 := HR6.out.cell 2 (v := .slice none 0 0) rfl; have n3 := HR6.out.cell 3 (v := .slice none 0 0) rfl; have n4 := HR6.out.cell 4 (v := .slice none 0 0) rfl; have n5 := HR6.out.cell 5 (v := .slice none 0 0) rfl; have nf := fun j => HR6.out.free j))
  go_split_ands
  go_wp2
  have HF : RwAt ((((((w7.setCell ⟨R, 0, none⟩ (.slice p0 x.D.length c0)).setCell ⟨R, 1, none⟩ (.slice p1 x.C.length c1)).setCell ⟨R, 2, none⟩ (.slice p2 x.M.length c2)).setCell ⟨R, 3, none⟩ (.slice p3 x.R.length c3)).setCell ⟨R, 4, none⟩ (.slice p4 x.Q.length c4)).setCell ⟨R, 5, none⟩ (.slice p5 x.S.length c5)) R 27 #[.slice p0 x.D.length c0, .slice p1 x.C.length c1, .slice p2 x.M.length c2, .slice p3 x.R.length c3, .slice p4 x.Q.length c4, .slice p5 x.S.length c5] := by
    have := (((((HR6.out.set 0 (.slice p0 x.D.length c0)).set 1 (.slice p1 x.C.length c1)).set 2 (.slice p2 x.M.length c2)).set 3 (.slice p3 x.R.length c3)).set 4 (.slice p4 x.Q.length c4)).set 5 (.slice p5 x.S.length c5)
    simpa using this
  have hs : w7.grownBy ((((((w7.setCell ⟨R, 0, none⟩ (.slice p0 x.D.length c0)).setCell ⟨R, 1, none⟩ (.slice p1 x.C.length c1)).setCell ⟨R, 2, none⟩ (.slice p2 x.M.length c2)).setCell ⟨R, 3, none⟩ (.slice p3 x.R.length c3)).setCell ⟨R, 4, none⟩ (.slice p4 x.Q.length c4)).setCell ⟨R, 5, none⟩ (.slice p5 x.S.length c5)) (some R) :=
    grown_setCell (grown_setCell (grown_setCell (grown_setCell (grown_setCell (grown_setCell (grown_refl w7 _) _ _) _ _) _ _) _ _) _ _) _ _
  generalize ((((((w7.setCell ⟨R, 0, none⟩ (.slice p0 x.D.length c0)).setCell ⟨R, 1, none⟩ (.slice p1 x.C.length c1)).setCell ⟨R, 2, none⟩ (.slice p2 x.M.length c2)).setCell ⟨R, 3, none⟩ (.slice p3 x.R.length c3)).setCell ⟨R, 4, none⟩ (.slice p4 x.Q.length c4)).setCell ⟨R, 5, none⟩ (.slice p5 x.S.length c5)) = wF at HF hs ⊢
  have r0 := HF.cell 0 rfl
  have r1 := HF.cell 1 rfl
  have r2 := HF.cell 2 rfl
  have r3 := HF.cell 3 rfl
  have r4 := HF.cell 4 rfl
  have r5 := HF.cell 5 rfl
  have z0 := HF.free 0
  have z1 := HF.free 1
  have z2 := HF.free 2
  have z3 := HF.free 3
  have z4 := HF.free 4
  have z5 := HF.free 5
  refine bodyPost_ret (v := .agg #[.slice p0 x.D.length c0, .slice p1 x.C.length c1, .slice p2 x.M.length c2, .slice p3 x.R.length c3, .slice p4 x.Q.length c4, .slice p5 x.S.length c5]) (by simp [results, Tryz.results98, go_sem, r0, r1, r2, r3, r4, r5]) rfl ?_
  clear r0 r1 r2 r3 r4 r5 z0 z1 z2 z3 z4 z5 HF
  have hR := HR6.out.lt
  have hg1 := HR0x.out.lt
  have hG := HGR.out
  have s0 := HG0.out.size
  have s1 := HG1.out.size
  have s2 := HG2.out.size
  have s3 := HG3.out.size
  have s4 := HG4.out.size
  have s5 := HG5.out.size
  have o0 := (own_base (HO0.out.kept (grown_trans HG1.out (grown_trans HG2.out (grown_trans HG3.out (grown_trans HG4.out (grown_trans HG5.out (grown_refl w7 none)))))) (Classical.em _)) (show w.heap.size ≤ _ by omega)).kept hs (Classical.byContradiction fun hc => by
    rw [not_or] at hc
    have e := Classical.not_not.1 hc.2
    have := (HO0.out.lt R e).1
    omega)
  have o1 := (own_base (HO1.out.kept (grown_trans HG2.out (grown_trans HG3.out (grown_trans HG4.out (grown_trans HG5.out (grown_refl w7 none))))) (Classical.em _)) (show w.heap.size ≤ _ by omega)).kept hs (Classical.byContradiction fun hc => by
    rw [not_or] at hc
    have e := Classical.not_not.1 hc.2
    have := (HO1.out.lt R e).1
    omega)
  have o2 := (own_base (HO2.out.kept (grown_trans HG3.out (grown_trans HG4.out (grown_trans HG5.out (grown_refl w7 none)))) (Classical.em _)) (show w.heap.size ≤ _ by omega)).kept hs (Classical.byContradiction fun hc => by
    rw [not_or] at hc
    have e := Classical.not_not.1 hc.2
    have := (HO2.out.lt R e).1
    omega)
  have o3 := (own_base (HO3.out.kept (grown_trans HG4.out (grown_trans HG5.out (grown_refl w7 none))) (Classical.em _)) (show w.heap.size ≤ _ by omega)).kept hs (Classical.byContradiction fun hc => by
    rw [not_or] at hc
    have e := Classical.not_not.1 hc.2
    have := (HO3.out.lt R e).1
    omega)
  have o4 := (own_base (HO4.out.kept (grown_trans HG5.out (grown_refl w7 none)) (Classical.em _)) (show w.heap.size ≤ _ by omega)).kept hs (Classical.byContradiction fun hc => by
    rw [not_or] at hc
    have e := Classical.not_not.1 hc.2
    have := (HO4.out.lt R e).1
    omega)
  have o5 := (own_base (HO5.out.kept (grown_refl w7 none) (Classical.em _)) (show w.heap.size ≤ _ by omega)).kept hs (Classical.byContradiction fun hc => by
    rw [not_or] at hc
    have e := Classical.not_not.1 hc.2
    have := (HO5.out.lt R e).1
    omega)
  have a01 := own_apart HO0.out HO1.out (by omega)
  have a02 := own_apart HO0.out HO2.out (by omega)
  have a03 := own_apart HO0.out HO3.out (by omega)
  have a04 := own_apart HO0.out HO4.out (by omega)
  have a05 := own_apart HO0.out HO5.out (by omega)
  have a12 := own_apart HO1.out HO2.out (by omega)
  have a13 := own_apart HO1.out HO3.out (by omega)
  have a14 := own_apart HO1.out HO4.out (by omega)
  have a15 := own_apart HO1.out HO5.out (by omega)
  have a23 := own_apart HO2.out HO3.out (by omega)
  have a24 := own_apart HO2.out HO4.out (by omega)
  have a25 := own_apart HO2.out HO5.out (by omega)
  have a34 := own_apart HO3.out HO4.out (by omega)
  have a35 := own_apart HO3.out HO5.out (by omega)
  have a45 := own_apart HO4.out HO5.out (by omega)
  refine ⟨⟨_, _, _, _, _, _⟩, rfl, ⟨o0, o1, o2, o3, o4, o5, ?_⟩, ?_⟩
  · simp only [List.pairwise_cons, List.mem_cons, List.not_mem_nil, or_false, forall_eq_or_imp, forall_eq, List.Pairwise.nil, and_true, false_implies, implies_true]
    refine ⟨⟨a01, a02, a03, a04, a05⟩, ⟨a12, a13, a14, a15⟩, ⟨a23, a24, a25⟩, ⟨a34, a35⟩, a45⟩
  · exact grown_new' (grown_trans (grown_none (grown_trans H0x.out.g (grown_trans HG0.out (grown_trans HG1.out (grown_trans HG2.out (grown_trans HG3.out (grown_trans HG4.out (grown_trans HG5.out (grown_refl w7 none))))))))) hs) (fun k hk => by obtain rfl := Option.some.inj hk; omega)
end Go.Proofs.YtgahbpfmiibpeaaGreatDoor

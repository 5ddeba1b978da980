/- The document's own devices (facaderef1.Dev): what is known of them. -/
import Derived.Test.YtajminajdcpgnaaDev7
namespace Go.Proofs.Ytajminajdcpgnaa
open Go.RowKit
theorem one_at (W : World) (v : Value) (t : TypeId) : ∀ j u, [v][j]? = some u → (W.alloc (.cells #[v] t)).cell? ((⟨W.heap.size, 0, none⟩ : Addr).add j) = some u :=
  World.news_of_block (cs := #[v]) (heap_alloc_new W _)
theorem own_ne_blk {w : World} {B : Nat} {e : TypeId} {size : Nat} {v : Value} {n : Nat} {l : List Value} (h : w.ownsRow B e size v n l) {b : Nat} {cur : Array Value} {t : TypeId} {fr : Nat × Nat} (hb : w.heap[b]? = some (.cells cur t fr)) (hne : t ≠ e) : v.ownBlock ≠ some b := by
  rcases h.2 with ⟨rfl, _⟩ | ⟨g, cap, cu, rfl, _, hg, _⟩
  · simp [Value.ownBlock]
  · intro e
    obtain rfl : g = b := by simpa [Value.ownBlock] using e
    rw [hb] at hg
    simp at hg
    exact hne hg.2.1
theorem own_ne_own {w : World} {B B' : Nat} {e e' : TypeId} {size size' : Nat} {v v' : Value} {n n' : Nat} {l l' : List Value} (h : w.ownsRow B e size v n l) (h' : w.ownsRow B' e' size' v' n' l') (hne : e' ≠ e) : ∀ g, v'.ownBlock = some g → v.ownBlock ≠ some g := by
  intro g hg
  rcases h'.2 with ⟨rfl, _⟩ | ⟨g', cap, cu, rfl, _, hg', _⟩
  · simp [Value.ownBlock] at hg
  · obtain rfl : g' = g := by simpa [Value.ownBlock] using hg
    exact own_ne_blk h hg' hne
theorem own_form {w : World} {B : Nat} {e : TypeId} {size : Nat} {v : Value} {n : Nat} {l : List Value} (h : w.ownsRow B e size v n l) : ∃ p c, v = .slice p n c := by
  rcases h.2 with ⟨rfl, rfl⟩ | ⟨g, cap, cu, rfl, _⟩
  · exact ⟨_, _, rfl⟩
  · exact ⟨_, _, rfl⟩
structure RIs (cur : Array Value) (S : List Int) (on : Bool) (T : Int) (vw vs : Value) : Prop where
  size : cur.size = 20
  c0 : cur[0]? = some vw
  c1 : cur[1]? = some vs
  sec : ∀ (k : Nat) (y : Int), S[k]? = some y → cur[2 + k]? = some (.int .u32 y)
  s16 : S.length = 16
  ct : cur[18]? = some (.int .i64 T)
  con : cur[19]? = some (.bool on)
section
variable {cur : Array Value} {S : List Int} {on : Bool} {T : Int} {vw vs : Value}
theorem RIs.wait (h : RIs cur S on T vw vs) (u : Value) : RIs (cur.setIfInBounds 0 u) S on T u vs := by
  have hs := h.size
  refine ⟨by simp [hs], set_eq _ (by omega), ?_, ?_, h.s16, ?_, ?_⟩
  · rw [set_ne _ (by omega)]; exact h.c1
  · intro j z hz; rw [set_ne _ (by omega)]; exact h.sec j z hz
  · rw [set_ne _ (by omega)]; exact h.ct
  · rw [set_ne _ (by omega)]; exact h.con
theorem RIs.show (h : RIs cur S on T vw vs) (u : Value) : RIs (cur.setIfInBounds 1 u) S on T vw u := by
  have hs := h.size
  refine ⟨by simp [hs], ?_, set_eq _ (by omega), ?_, h.s16, ?_, ?_⟩
  · rw [set_ne _ (by omega)]; exact h.c0
  · intro j z hz; rw [set_ne _ (by omega)]; exact h.sec j z hz
  · rw [set_ne _ (by omega)]; exact h.ct
  · rw [set_ne _ (by omega)]; exact h.con
theorem RIs.put (h : RIs cur S on T vw vs) {k : Nat} (hk : k < 16) (y : Int) : RIs (cur.setIfInBounds (2 + k) (.int .u32 y)) (S.set k y) on T vw vs := by
  have hs := h.size
  refine ⟨by simp [hs], ?_, ?_, ?_, by simpa using h.s16, ?_, ?_⟩
  · rw [set_ne _ (by omega)]; exact h.c0
  · rw [set_ne _ (by omega)]; exact h.c1
  · intro j z hz
    rw [List.getElem?_set] at hz
    by_cases e : k = j
    · subst e
      rw [if_pos rfl, if_pos (by rw [h.s16]; exact hk)] at hz
      rw [set_eq _ (by omega), Option.some.inj hz]
    · rw [if_neg e] at hz
      rw [set_ne _ (by omega)]; exact h.sec j z hz
  · rw [set_ne _ (by omega)]; exact h.ct
  · rw [set_ne _ (by omega)]; exact h.con
theorem RIs.onoff (h : RIs cur S on T vw vs) (b : Bool) : RIs (cur.setIfInBounds 19 (.bool b)) S b T vw vs := by
  have hs := h.size
  have h16 := h.s16
  refine ⟨by simp [hs], ?_, ?_, ?_, h.s16, ?_, set_eq _ (by omega)⟩
  · rw [set_ne _ (by omega)]; exact h.c0
  · rw [set_ne _ (by omega)]; exact h.c1
  · intro j z hz
    have hj : j < S.length := (List.getElem?_eq_some_iff.1 hz).1
    rw [set_ne _ (by omega)]; exact h.sec j z hz
  · rw [set_ne _ (by omega)]; exact h.ct
theorem RIs.time (h : RIs cur S on T vw vs) (t : Int) : RIs (cur.setIfInBounds 18 (.int .i64 t)) S on t vw vs := by
  have hs := h.size
  have h16 := h.s16
  refine ⟨by simp [hs], ?_, ?_, ?_, h.s16, set_eq _ (by omega), ?_⟩
  · rw [set_ne _ (by omega)]; exact h.c0
  · rw [set_ne _ (by omega)]; exact h.c1
  · intro j z hz
    have hj : j < S.length := (List.getElem?_eq_some_iff.1 hz).1
    rw [set_ne _ (by omega)]; exact h.sec j z hz
  · rw [set_ne _ (by omega)]; exact h.con
end
/-- the document's devices at block b; vw: what waits, vs: what is seen -/
structure RDAt (w : World) (B b : Nat) (Q S : List Int) (sn : List Sn) (on : Bool) (T : Int) (vw vs : Value) : Prop where
  hb : ∃ cur, w.heap[b]? = some (.cells cur 42 (0, 0)) ∧ RIs cur S on T vw vs
  ow : w.ownsRow B 22 1 vw Q.length (Q.map (Value.int .u32))
  os : w.ownsRow B 72 3 vs sn.length (snCells sn)
  ge : B ≤ b
def rfoot (b : Nat) (vw vs : Value) : List Nat := b :: (vw.ownBlock.toList ++ vs.ownBlock.toList)
theorem mem_rfoot {b i : Nat} {vw vs : Value} : i ∈ rfoot b vw vs ↔ i = b ∨ vw.ownBlock = some i ∨ vs.ownBlock = some i := by
  unfold rfoot
  rw [List.mem_cons, List.mem_append, Option.mem_toList, Option.mem_toList]
/-- behind a call that writes the document's devices -/
structure RTurned (w : World) (B b : Nat) (vw vs : Value) (Q S : List Int) (sn : List Sn) (on : Bool) (T : Int) (w' : World) (vw' vs' : Value) : Prop where
  at_ : RDAt w' B b Q S sn on T vw' vs'
  lv : Lv w w' (rfoot b vw vs)
  m1 : Mine w vw vw'
  m2 : Mine w vs vs'
section
variable {w w1 W w' w2 : World} {B b : Nat} {Q S : List Int} {sn : List Sn} {on : Bool} {T : Int} {vw vs : Value} {R : List Nat}
theorem RDAt.lt (h : RDAt w B b Q S sn on T vw vs) : b < w.heap.size := by
  obtain ⟨cur, hb, _⟩ := h.hb
  exact (Array.getElem?_eq_some_iff.1 hb).1
theorem RDAt.foot_lt (h : RDAt w B b Q S sn on T vw vs) : ∀ i ∈ rfoot b vw vs, i < w.heap.size := by
  intro i hi
  rcases mem_rfoot.1 hi with rfl | hi | hi
  · exact h.lt
  · exact (h.ow.lt i hi).2
  · exact (h.os.lt i hi).2
theorem RDAt.foot_ge (h : RDAt w B b Q S sn on T vw vs) : ∀ i ∈ rfoot b vw vs, B ≤ i := by
  intro i hi
  rcases mem_rfoot.1 hi with rfl | hi | hi
  · exact h.ge
  · exact (h.ow.lt i hi).1
  · exact (h.os.lt i hi).1
theorem RDAt.ne_w (h : RDAt w B b Q S sn on T vw vs) : vw.ownBlock ≠ some b := by
  obtain ⟨cur, hb, _⟩ := h.hb
  exact own_ne_blk h.ow hb (by decide)
theorem RDAt.ne_s (h : RDAt w B b Q S sn on T vw vs) : vs.ownBlock ≠ some b := by
  obtain ⟨cur, hb, _⟩ := h.hb
  exact own_ne_blk h.os hb (by decide)
theorem RDAt.ne_ws (h : RDAt w B b Q S sn on T vw vs) : ∀ g, vw.ownBlock = some g → vs.ownBlock ≠ some g := own_ne_own h.os h.ow (by decide)
theorem RDAt.keptL (h : RDAt w B b Q S sn on T vw vs) (hg : Lv w w1 R) (hr : ∀ i ∈ rfoot b vw vs, i ∉ R) : RDAt w1 B b Q S sn on T vw vs := by
  obtain ⟨cur, hb, hi⟩ := h.hb
  exact ⟨⟨cur, (hg.block b h.lt (hr b (mem_rfoot.2 (.inl rfl)))).trans hb, hi⟩, own_keptL h.ow hg (fun g hgv => hr g (mem_rfoot.2 (.inr (.inl hgv)))), own_keptL h.os hg (fun g hgv => hr g (mem_rfoot.2 (.inr (.inr hgv)))), h.ge⟩
theorem RDAt.kept0 (h : RDAt w B b Q S sn on T vw vs) (hg : w.grownBy w1 none) : RDAt w1 B b Q S sn on T vw vs := h.keptL (Lv.of_none hg []) (by simp)
theorem RDAt.q (h : RDAt w B b Q S sn on T vw vs) : ∃ p c, vw = .slice p Q.length c := own_form h.ow
theorem RDAt.sees (h : RDAt w B b Q S sn on T vw vs) : SnAt w vs sn := SnAt.own h.os
/-- where the block alone was written -/
theorem RDAt.re (h : RDAt w B b Q S sn on T vw vs) (hg : Lv w w' [b]) {cur' : Array Value} {S' : List Int} {on' : Bool} {T' : Int} (hb : w'.heap[b]? = some (.cells cur' 42 (0, 0))) (hi : RIs cur' S' on' T' vw vs) : RTurned w B b vw vs Q S' sn on' T' w' vw vs :=
  ⟨⟨⟨cur', hb, hi⟩, own_keptL h.ow hg (fun g hgv e => h.ne_w (by rw [hgv]; simp at e; rw [e])), own_keptL h.os hg (fun g hgv e => h.ne_s (by rw [hgv]; simp at e; rw [e])), h.ge⟩,
    hg.mono (fun i hi => mem_rfoot.2 (.inl (by simpa using hi))), .inl rfl, .inl rfl⟩
theorem RTurned.trans {w3 : World} {vw1 vs1 vw2 vs2 : Value} {Q1 S1 Q2 S2 : List Int} {sn1 sn2 : List Sn} {on1 on2 : Bool} {T1 T2 : Int} (h : RTurned w B b vw vs Q1 S1 sn1 on1 T1 w1 vw1 vs1) (k : RTurned w1 B b vw1 vs1 Q2 S2 sn2 on2 T2 w3 vw2 vs2) : RTurned w B b vw vs Q2 S2 sn2 on2 T2 w3 vw2 vs2 := by
  refine ⟨k.at_, ⟨k.lv.os.trans h.lv.os, k.lv.tape.trans h.lv.tape, k.lv.output.trans h.lv.output, Nat.le_trans h.lv.size k.lv.size, fun i hi hr => (k.lv.block i (Nat.lt_of_lt_of_le hi h.lv.size) ?_).trans (h.lv.block i hi hr)⟩, ?_, ?_⟩
  · intro e
    rcases mem_rfoot.1 e with rfl | e | e
    · exact hr (mem_rfoot.2 (.inl rfl))
    · rcases h.m1 with m | m
      · exact hr (mem_rfoot.2 (.inr (.inl (m.symm.trans e))))
      · have := m i e; omega
    · rcases h.m2 with m | m
      · exact hr (mem_rfoot.2 (.inr (.inr (m.symm.trans e))))
      · have := m i e; omega
  · rcases k.m1 with m | m
    · rcases h.m1 with m' | m'
      · exact .inl (m.trans m')
      · exact .inr (fun g hg => m' g (m.symm.trans hg))
    · exact .inr (fun g hg => Nat.le_trans h.lv.size (m g hg))
  · rcases k.m2 with m | m
    · rcases h.m2 with m' | m'
      · exact .inl (m.trans m')
      · exact .inr (fun g hg => m' g (m.symm.trans hg))
    · exact .inr (fun g hg => Nat.le_trans h.lv.size (m g hg))
theorem RTurned.base {vw1 vs1 : Value} {Q1 S1 : List Int} {sn1 : List Sn} {on1 : Bool} {T1 : Int} (h : RTurned w B b vw vs Q1 S1 sn1 on1 T1 w1 vw1 vs1) (hB : B ≤ w.heap.size) : B ≤ w1.heap.size := Nat.le_trans hB h.lv.size
theorem RTurned.none (h : RDAt w B b Q S sn on T vw vs) (hg : w.grownBy w1 none) : RTurned w B b vw vs Q S sn on T w1 vw vs := ⟨h.kept0 hg, Lv.of_none hg _, .inl rfl, .inl rfl⟩
theorem rturned_old {w0 : World} {vw1 vs1 : Value} {Q1 S1 : List Int} {sn1 : List Sn} {on1 : Bool} {T1 : Int} (h0 : w0.grownBy w none) (h : RDAt w w0.heap.size b Q S sn on T vw vs) (ht : RTurned w w0.heap.size b vw vs Q1 S1 sn1 on1 T1 w' vw1 vs1) : w0.grownBy w' none :=
  Lv.after h0 ht.lv h.foot_ge
/-- behind an append to a row of its own the block stands -/
theorem RDAt.across (h : RDAt w B b Q S sn on T vw vs) {v : Value} (hv : v.ownBlock ≠ some b) (hL : Lv w W []) (hg : W.grownBy w' v.ownBlock) : w'.heap[b]? = w.heap[b]? :=
  (hg.block b (Nat.lt_of_lt_of_le h.lt hL.size) (fun e => hv e.symm)).trans (hL.block b h.lt (by simp))
theorem mine_at {v : Value} {g n cap : Nat} (hL : Lv w W []) (hat : v.ownBlock = some g ∨ g = W.heap.size) : Mine w v (.slice (some ⟨g, 0, none⟩) n cap) := by
  rcases hat with e | e
  · left; rw [e]; rfl
  · right
    intro k hk
    obtain rfl : g = k := by simpa [Value.ownBlock] using hk
    rw [e]; exact hL.size
/-- what waits was appended to, and laid into its field -/
theorem RDAt.keyed (h : RDAt w B b Q S sn on T vw vs) (hL : Lv w W []) (hg : W.grownBy w' vw.ownBlock) {g cap : Nat} (key : Int)
    (hown : w'.ownsRow B 22 1 (.slice (some ⟨g, 0, none⟩) (Q.length + 1) cap) (Q.length + 1) (Q.map (Value.int .u32) ++ [.int .u32 key]))
    (hat : vw.ownBlock = some g ∨ g = W.heap.size) (h2 : w2 = w'.setCell ⟨b, 0, none⟩ (.slice (some ⟨g, 0, none⟩) (Q.length + 1) cap)) : RTurned w B b vw vs (Q ++ [key]) S sn on T w2 (.slice (some ⟨g, 0, none⟩) (Q.length + 1) cap) vs := by
  obtain ⟨cur, hb, hi⟩ := h.hb
  have hb' := (h.across h.ne_w hL hg).trans hb
  have hgd : g ≠ b := by
    rcases hat with e | e
    · intro e2; subst e2; exact h.ne_w e
    · have := h.lt; have := hL.size; omega
  have hL1 : Lv w w' vw.ownBlock.toList := (hL.mono (by simp)).trans (Lv.of_row hg)
  have hL3 : Lv w w2 (b :: vw.ownBlock.toList) := by rw [h2]; exact (hL1.mono (by simp +contextual)).set (by simp) _ _
  have hs : Lv w' w2 [b] := by rw [h2]; exact (Lv.refl _ _).set (by simp) _ _
  refine ⟨⟨⟨_, by rw [h2]; exact heap_setCell_same _ _ _ _ _ _ hb', hi.wait _⟩, ?_, ?_, h.ge⟩, hL3.mono (fun i hi => ?_), mine_at hL hat, .inl rfl⟩
  · have := own_keptL hown hs (by intro k hk; simp [Value.ownBlock] at hk; subst hk; simpa using hgd)
    simpa using this
  · refine own_keptL (own_keptL h.os hL1 (fun k hk e => ?_)) hs (fun k hk e => h.ne_s (by rw [hk]; simp at e; rw [e]))
    rw [Option.mem_toList] at e
    exact h.ne_ws k e hk
  · rw [List.mem_cons, Option.mem_toList] at hi
    exact mem_rfoot.2 (hi.imp id .inl)
/-- what is seen was appended to, and laid into its field -/
theorem RDAt.showed (h : RDAt w B b Q S sn on T vw vs) (hL : Lv w W []) (hg : W.grownBy w' vs.ownBlock) {g cap : Nat} (s : Sn)
    (hown : w'.ownsRow B 72 3 (.slice (some ⟨g, 0, none⟩) (sn.length + 1) cap) (sn.length + 1) (snCells sn ++ [.int .i64 s.1, .int .u32 s.2.1, .int .u32 s.2.2]))
    (hat : vs.ownBlock = some g ∨ g = W.heap.size) (h2 : w2 = w'.setCell ⟨b, 1, none⟩ (.slice (some ⟨g, 0, none⟩) (sn.length + 1) cap)) : RTurned w B b vw vs Q S (sn ++ [s]) on T w2 vw (.slice (some ⟨g, 0, none⟩) (sn.length + 1) cap) := by
  obtain ⟨cur, hb, hi⟩ := h.hb
  have hb' := (h.across h.ne_s hL hg).trans hb
  have hgd : g ≠ b := by
    rcases hat with e | e
    · intro e2; subst e2; exact h.ne_s e
    · have := h.lt; have := hL.size; omega
  have hL1 : Lv w w' vs.ownBlock.toList := (hL.mono (by simp)).trans (Lv.of_row hg)
  have hL3 : Lv w w2 (b :: vs.ownBlock.toList) := by rw [h2]; exact (hL1.mono (by simp +contextual)).set (by simp) _ _
  have hs : Lv w' w2 [b] := by rw [h2]; exact (Lv.refl _ _).set (by simp) _ _
  refine ⟨⟨⟨_, by rw [h2]; exact heap_setCell_same _ _ _ _ _ _ hb', hi.show _⟩, ?_, ?_, h.ge⟩, hL3.mono (fun i hi => ?_), .inl rfl, mine_at hL hat⟩
  · refine own_keptL (own_keptL h.ow hL1 (fun k hk e => ?_)) hs (fun k hk e => h.ne_w (by rw [hk]; simp at e; rw [e]))
    rw [Option.mem_toList] at e
    exact h.ne_ws k hk e
  · have := own_keptL hown hs (by intro k hk; simp [Value.ownBlock] at hk; subst hk; simpa using hgd)
    simpa [snCells_append, snCells] using this
  · rw [List.mem_cons, Option.mem_toList] at hi
    exact mem_rfoot.2 (hi.imp id .inr)
end
end Go.Proofs.Ytajminajdcpgnaa

/- Keys that wait (package dev): contracts. -/
import Derived.Test.YtpkgckjlhjcdmaaDoorZGAluA
import Derived.WalkKit
import Derived.WalkSpells
import Derived.WalkLawsBesides
import Derived.Handy
import Derived.RegionTactic
import Derived.Deep.QuietTactic
import Derived.BigQuiet
import Derived.IntWalk
import Derived.Outline
import Derived.Deep.RegionLaw
import Derived.LoopTactic
import Derived.StillTailTactics
import Derived.Deep.WholeRow
namespace Go.Proofs.YtpkgckjlhjcdmaaDoor
open Go.RowKit
section
variable {w : World} {B d : Nat} {x : DvS} {v : Value}
/-- behind a call that writes devices: they read so now; nothing else was written -/
structure Turned (w : World) (B d : Nat) (v : Value) (x' : DvS) (w' : World) (v' : Value) : Prop where
  at_ : DevAt w' B d x' v'
  lv : Lv w w' (foot d v)
  mine : Mine w v v'
theorem DevAt.re {w' : World} (h : DevAt w B d x v) (hg : Lv w w' [d]) {cur' : Array Value} {f' : Nat} {x' : DvS} (hb : w'.heap[d]? = some (.cells cur' 176 (0, 0))) (hi : DevIs cur' f' x' v) (hsn : x'.sn = x.sn) : DevAt w' B d x' v :=
  ⟨⟨cur', f', hb, hi⟩, by rw [hsn]; exact own_keptL h.own hg (fun g hgv e => h.own_ne (by rw [hgv]; simp at e; rw [e])), h.ge⟩
theorem Turned.of (_h : DevAt w B d x v) {w' : World} {x' : DvS} (ha : DevAt w' B d x' v) (hg : Lv w w' [d]) : Turned w B d v x' w' v :=
  ⟨ha, hg.mono (fun i hi => mem_foot.2 (.inl (by simpa using hi))), .inl rfl⟩
/-! ### the calls of devices on keys -/
end
end Go.Proofs.YtpkgckjlhjcdmaaDoor
/- Sectors and the timer (package dev): contracts. -/
namespace Go.Proofs.YtpkgckjlhjcdmaaDoor
open Go.RowKit
section
variable {w : World} {B d : Nat} {x : DvS} {v : Value}
end
/-- whether a timer has come -/
def dueB (fr af now : Int) : Bool := decide (af ≠ 0 ∧ fr ≤ now ∧ af ≤ now - fr)
end Go.Proofs.YtpkgckjlhjcdmaaDoor
/- What is shown (package dev): contracts. -/
namespace Go.Proofs.YtpkgckjlhjcdmaaDoor
open Go.RowKit
section
variable {w : World} {B d : Nat} {x : DvS} {v : Value}
theorem seen_info : ∃ i, Tryd.prog.info? 282 = some i ∧ i.zero = some (.agg #[.int .i64 0, .int .u32 0, .int .u32 0]) ∧ i.size = 3 ∧ i.bytes = 16 := by
  obtain ⟨i, hi, hz0, hz1, hz2⟩ := info_parts (P := Tryd.prog) (e := 282) (z := .agg #[.int .i64 0, .int .u32 0, .int .u32 0]) (size := 3) (bytes := 16) (by kernel_rfl)
  exact ⟨i, hi, hz0, hz1, hz2⟩
theorem DevAt.across (h : DevAt w B d x v) {W w' : World} (hL : Lv w W []) (hg : W.grownBy w' v.ownBlock) : w'.heap[d]? = w.heap[d]? :=
  (hg.block d (Nat.lt_of_lt_of_le h.lt hL.size) (fun e => h.own_ne e.symm)).trans (hL.block d h.lt (by simp))
/-- devices whose list of what is seen was appended to, and laid into its field -/
theorem DevAt.showed (h : DevAt w B d x v) {W w' w2 : World} (hL : Lv w W []) (hg : W.grownBy w' v.ownBlock) {g cap : Nat} (s : Sn) (_hB : B ≤ w.heap.size)
    (hown : w'.ownsRow B 282 3 (.slice (some ⟨g, 0, none⟩) (x.sn.length + 1) cap) (x.sn.length + 1) (snCells x.sn ++ [.int .i64 s.1, .int .u32 s.2.1, .int .u32 s.2.2]))
    (hat : v.ownBlock = some g ∨ g = W.heap.size) (h2 : w2 = w'.setCell ⟨d, 84, none⟩ (.slice (some ⟨g, 0, none⟩) (x.sn.length + 1) cap)) : Turned w B d v { x with sn := x.sn ++ [s] } w2 (.slice (some ⟨g, 0, none⟩) (x.sn.length + 1) cap) := by
  obtain ⟨cur, f, hb, hi⟩ := h.hd
  have hb' := (h.across hL hg).trans hb
  have hgd : g ≠ d := by
    rcases hat with e | e
    · intro e2; subst e2; exact h.own_ne e
    · have := h.lt; have := hL.size; omega
  have hL2 : Lv w w' (foot d v) := (hL.mono (by simp)).trans ((Lv.of_row hg).mono (fun i hi => mem_foot.2 (.inr (by rwa [Option.mem_toList] at hi))))
  have hL3 : Lv w w2 (foot d v) := by rw [h2]; exact hL2.set (mem_foot.2 (.inl rfl)) _ _
  refine ⟨⟨⟨_, f, by rw [h2]; exact heap_setCell_same _ _ _ _ _ _ hb', hi.show rfl _⟩, ?_, h.ge⟩, hL3, ?_⟩
  · have := own_keptL hown (R := [d]) (w1 := w2) (by rw [h2]; exact (Lv.refl _ _).set (by simp) _ _) (by intro k hk; simp [Value.ownBlock] at hk; subst hk; simpa using hgd)
    simpa [snCells_append, snCells] using this
  · rcases hat with e | e
    · left; rw [e]; rfl
    · right
      intro k hk
      obtain rfl : g = k := by simpa [Value.ownBlock] using hk
      rw [e]; exact hL.size
end
end Go.Proofs.YtpkgckjlhjcdmaaDoor
/- What is shown, put, ended; a copy of what is seen (package dev): contracts. -/
namespace Go.Proofs.YtpkgckjlhjcdmaaDoor
open Go.RowKit
section
variable {w w1 w2 : World} {B d : Nat} {x x1 x2 : DvS} {v v1 v2 : Value}
theorem Turned.trans (h : Turned w B d v x1 w1 v1) (k : Turned w1 B d v1 x2 w2 v2) : Turned w B d v x2 w2 v2 := by
  refine ⟨k.at_, ?_, ?_⟩
  · refine ⟨k.lv.os.trans h.lv.os, k.lv.tape.trans h.lv.tape, k.lv.output.trans h.lv.output, Nat.le_trans h.lv.size k.lv.size, fun i hi hr => (k.lv.block i (Nat.lt_of_lt_of_le hi h.lv.size) ?_).trans (h.lv.block i hi hr)⟩
    intro e
    rcases mem_foot.1 e with rfl | e
    · exact hr (mem_foot.2 (.inl rfl))
    · rcases h.mine with m | m
      · exact hr (mem_foot.2 (.inr (m.symm.trans e)))
      · have := m i e; omega
  · rcases k.mine with m | m
    · rcases h.mine with m' | m'
      · exact .inl (m.trans m')
      · exact .inr (fun g hg => m' g (m.symm.trans hg))
    · exact .inr (fun g hg => Nat.le_trans h.lv.size (m g hg))
/-- nothing is turned -/
theorem Turned.none (h : DevAt w B d x v) (hg : w.grownBy w1 none) : Turned w B d v x w1 v := ⟨h.kept0 hg, Lv.of_none hg _, .inl rfl⟩
theorem Turned.base (h : Turned w B d v x1 w1 v1) (hB : B ≤ w.heap.size) : B ≤ w1.heap.size := Nat.le_trans hB h.lv.size
/-- behind a call that shows -/
def Shown (w : World) (B d : Nat) (v : Value) (x' : DvS) (e : Ending) (w' : World) : Prop := e = .returned (.tuple #[]) ∧ ∃ v', Turned w B d v x' w' v'
/-- what an end shows -/
def endS (k n : Int) : List Sn := if k = 3 then [(3, 0, n)] else if k = 4 then [(4, n, 0)] else []
end
/-! ### a copy of what is seen -/
def CopiedAt (w : World) (l : List Sn) (e : Ending) (w' : World) : Prop :=
  ∃ v, e = .returned v ∧ w'.ownsRow w.heap.size 282 3 v l.length (snCells l) ∧ w.grownBy w' none
section
variable {w : World} {B d : Nat} {x : DvS} {v : Value}
end
end Go.Proofs.YtpkgckjlhjcdmaaDoor
/- New devices, a copy of devices (package dev); lists of what is seen compared: contracts. -/
namespace Go.Proofs.YtpkgckjlhjcdmaaDoor
open Go.RowKit
/-! ### new devices -/
def zeroD : Array Value := #[.int .u32 0, .int .u32 0, .int .u32 0, .int .u32 0, .int .u32 0, .int .u32 0, .int .u32 0, .int .u32 0, .int .u32 0, .int .u32 0, .int .u32 0, .int .u32 0, .int .u32 0, .int .u32 0, .int .u32 0, .int .u32 0, .int .u32 0, .int .u32 0, .int .u32 0, .int .u32 0, .int .u32 0, .int .u32 0, .int .u32 0, .int .u32 0, .int .u32 0, .int .u32 0, .int .u32 0, .int .u32 0, .int .u32 0, .int .u32 0, .int .u32 0, .int .u32 0, .int .u32 0, .int .u32 0, .int .u32 0, .int .u32 0, .int .u32 0, .int .u32 0, .int .u32 0, .int .u32 0, .int .u32 0, .int .u32 0, .int .u32 0, .int .u32 0, .int .u32 0, .int .u32 0, .int .u32 0, .int .u32 0, .int .u32 0, .int .u32 0, .int .u32 0, .int .u32 0, .int .u32 0, .int .u32 0, .int .u32 0, .int .u32 0, .int .u32 0, .int .u32 0, .int .u32 0, .int .u32 0, .int .u32 0, .int .u32 0, .int .u32 0, .int .u32 0, .int .i64 0, .int .i64 0, .int .u32 0, .int .u32 0, .int .u32 0, .int .u32 0, .int .u32 0, .int .u32 0, .int .u32 0, .int .u32 0, .int .u32 0, .int .u32 0, .int .u32 0, .int .u32 0, .int .u32 0, .int .u32 0, .int .u32 0, .int .u32 0, .int .i64 0, .int .u32 0, .slice none 0 0]
def zeroS : DvS := ⟨[], [0, 0, 0, 0, 0, 0, 0, 0, 0, 0, 0, 0, 0, 0, 0, 0], 0, 0, []⟩
theorem zeroS_get (k : Nat) (hk : k < 16) : zeroS.S[k]? = some 0 := by
  rcases (by omega : k = 0 ∨ k = 1 ∨ k = 2 ∨ k = 3 ∨ k = 4 ∨ k = 5 ∨ k = 6 ∨ k = 7 ∨ k = 8 ∨ k = 9 ∨ k = 10 ∨ k = 11 ∨ k = 12 ∨ k = 13 ∨ k = 14 ∨ k = 15) with rfl | rfl | rfl | rfl | rfl | rfl | rfl | rfl | rfl | rfl | rfl | rfl | rfl | rfl | rfl | rfl <;> rfl
theorem zero_is : DevIs zeroD 0 zeroS (.slice none 0 0) where
  size := rfl
  one := by
    have : zeroD.all (·.oneCell') = true := by kernel_rfl
    intro k u hu
    exact (Array.all_eq_true_iff_forall_mem.1 this) u (Array.mem_of_getElem? hu)
  f64 := by decide
  first := rfl
  ring := by intro j y hy; simp [zeroS] at hy
  count := rfl
  q64 := by decide
  sec := by
    intro k y hy
    have hk : k < 16 := (List.getElem?_eq_some_iff.1 hy).1
    rw [zeroS_get k hk] at hy
    obtain rfl := Option.some.inj hy
    rcases (by omega : k = 0 ∨ k = 1 ∨ k = 2 ∨ k = 3 ∨ k = 4 ∨ k = 5 ∨ k = 6 ∨ k = 7 ∨ k = 8 ∨ k = 9 ∨ k = 10 ∨ k = 11 ∨ k = 12 ∨ k = 13 ∨ k = 14 ∨ k = 15) with rfl | rfl | rfl | rfl | rfl | rfl | rfl | rfl | rfl | rfl | rfl | rfl | rfl | rfl | rfl | rfl <;> rfl
  s16 := rfl
  frm := rfl
  aft := rfl
  seen := rfl
theorem dev_zero (w : World) {B : Nat} (hB : B ≤ w.heap.size) : DevAt (w.alloc (.cells zeroD 176)) B w.heap.size zeroS (.slice none 0 0) :=
  ⟨⟨zeroD, 0, heap_alloc_new _ _, zero_is⟩, World.ownsRow_nil _ _ _ _, hB⟩
theorem zero_dev (w : World) : (zeroValue 176).run Tryd.prog w = .ok (.agg zeroD) w := by kernel_rfl
/-! ### a copy -/
theorem dev_info : (Tryd.prog.info? 176).map (·.size) = some 85 := by kernel_rfl
def DClonedAt (w : World) (x : DvS) (e : Ending) (w' : World) : Prop :=
  ∃ c u, e = .returned (.pointer (some ⟨c, 0, none⟩)) ∧ DevAt w' w.heap.size c x u ∧ w.grownBy w' none
end Go.Proofs.YtpkgckjlhjcdmaaDoor
/- The document's own comparison of what is seen: contracts. -/
namespace Go.Proofs.YtpkgckjlhjcdmaaDoor
open Go.RowKit
/-- the cells of one that is seen -/
theorem sn_cells {w wr : World} {b : Nat} {l : List Sn} {k : Nat} {s : Sn} (hb : b < w.heap.size) (hc : ∀ j u, (snCells l)[j]? = some u → w.cell? ⟨b, j, none⟩ = some u) (hg : w.grownBy wr none) (hs : l[k]? = some s) :
    wr.cell? ⟨b, k * 3, none⟩ = some (.int .i64 s.1) ∧ wr.cell? ⟨b, k * 3 + 1, none⟩ = some (.int .u32 s.2.1) ∧ wr.cell? ⟨b, k * 3 + 2, none⟩ = some (.int .u32 s.2.2) := by
  obtain ⟨h1, h2, h3⟩ := snCells_get l k s hs
  exact ⟨(grown_cell (p := ⟨b, k * 3, none⟩) hg hb (by simp)).trans (hc _ _ h1), (grown_cell (p := ⟨b, k * 3 + 1, none⟩) hg hb (by simp)).trans (hc _ _ h2), (grown_cell (p := ⟨b, k * 3 + 2, none⟩) hg hb (by simp)).trans (hc _ _ h3)⟩
end Go.Proofs.YtpkgckjlhjcdmaaDoor
/- The chapter's examples (facadelaw5.first): a contract. -/
namespace Go.Proofs.YtpkgckjlhjcdmaaDoor
open Go.RowKit
/-- a new list of what is seen shares nothing with what was there -/
theorem new_apart {w w1 : World} {B n : Nat} {e : TypeId} {size : Nat} {u : Value} {l : List Value} {R : List Nat} (h : w1.ownsRow B e size u n l) (hB : w.heap.size ≤ B) (hR : ∀ i ∈ R, i < w.heap.size) : ∀ g, u.ownBlock = some g → g ∉ R := by
  intro g hg hi
  have := (h.lt g hg).1
  have := hR g hi
  omega
theorem turned_old {w0 w w' : World} {d : Nat} {v v' : Value} {x x' : DvS} (h0 : w0.grownBy w none) (h : DevAt w w0.heap.size d x v) (ht : Turned w w0.heap.size d v x' w' v') : w0.grownBy w' none :=
  Lv.after h0 ht.lv h.foot_ge
/-- a list of what is seen, apart from devices -/
structure SnOf (w : World) (u : Value) (l : List Sn) (d : Nat) (v : Value) : Prop where
  at_ : SnAt w u l
  apart : l ≠ [] → ∀ g, u.ownBlock = some g → g ∉ foot d v
theorem SnOf.new {w w1 : World} {B d : Nat} {e : TypeId} {u v : Value} {x : DvS} {l : List Sn} (hD : DevAt w B d x v) (h : w1.ownsRow w.heap.size e 3 u l.length (snCells l)) : SnOf w1 u l d v :=
  ⟨SnAt.own h, fun _ => new_apart h (Nat.le_refl _) hD.foot_lt⟩
theorem SnOf.kept0 {w w1 : World} {d : Nat} {u v : Value} {l : List Sn} (h : SnOf w u l d v) (hg : w.grownBy w1 none) : SnOf w1 u l d v := ⟨h.at_.kept0 hg, h.apart⟩
theorem SnOf.turned {w w1 : World} {B d : Nat} {u v v1 : Value} {x1 : DvS} {l : List Sn} (h : SnOf w u l d v) (ht : Turned w B d v x1 w1 v1) : SnOf w1 u l d v1 := by
  rcases h.at_ with h1 | ⟨b, c, rfl, hb, hc⟩
  · refine ⟨.inl h1, fun hn => absurd h1.2 hn⟩
  · by_cases hl : l = []
    · subst hl
      exact ⟨.inl ⟨⟨_, _, rfl⟩, rfl⟩, fun hn => absurd rfl hn⟩
    · have ha := h.apart hl
      refine ⟨h.at_.keptL ht.lv ha, fun _ g hg hi => ?_⟩
      have hgb : g = b := by simp [Value.ownBlock] at hg; exact hg.symm
      subst hgb
      rcases mem_foot.1 hi with rfl | hi
      · exact ha _ rfl (mem_foot.2 (.inl rfl))
      · rcases ht.mine with m | m
        · exact ha _ rfl (mem_foot.2 (.inr (m.symm.trans hi)))
        · have := m g hi; omega
end Go.Proofs.YtpkgckjlhjcdmaaDoor
/- The document's own devices (facaderef1.Dev): what is known of them. -/
namespace Go.Proofs.YtpkgckjlhjcdmaaDoor
open Go.RowKit
theorem one_at (W : World) (v : Value) (t : TypeId) : ∀ j u, [v][j]? = some u → (W.alloc (.cells #[v] t)).cell? ((⟨W.heap.size, 0, none⟩ : Addr).add j) = some u :=
  World.news_of_block (cs := #[v]) (heap_alloc_new W _)
theorem own_ne_blk {w : World} {B : Nat} {e : TypeId} {size : Nat} {v : Value} {n : Nat} {l : List Value} (h : w.ownsRow B e size v n l) {b : Nat} {cur : Array Value} {t : TypeId} {fr : Nat × Nat} (hb : w.heap[b]? = some (.cells cur t fr)) (hne : t ≠ e) : v.ownBlock ≠ some b := by
  rcases h.2 with ⟨rfl, _⟩ | ⟨g, cap, cu, rfl, _, hg, _⟩
  · simp [Value.ownBlock]
  · intro e
    obtain rfl : g = b := by simpa [Value.ownBlock] using e
    rw [hb] at hg
    simp at hg
    exact hne hg.2.1
theorem own_ne_own {w : World} {B B' : Nat} {e e' : TypeId} {size size' : Nat} {v v' : Value} {n n' : Nat} {l l' : List Value} (h : w.ownsRow B e size v n l) (h' : w.ownsRow B' e' size' v' n' l') (hne : e' ≠ e) : ∀ g, v'.ownBlock = some g → v.ownBlock ≠ some g := by
  intro g hg
  rcases h'.2 with ⟨rfl, _⟩ | ⟨g', cap, cu, rfl, _, hg', _⟩
  · simp [Value.ownBlock] at hg
  · obtain rfl : g' = g := by simpa [Value.ownBlock] using hg
    exact own_ne_blk h hg' hne
theorem own_form {w : World} {B : Nat} {e : TypeId} {size : Nat} {v : Value} {n : Nat} {l : List Value} (h : w.ownsRow B e size v n l) : ∃ p c, v = .slice p n c := by
  rcases h.2 with ⟨rfl, rfl⟩ | ⟨g, cap, cu, rfl, _⟩
  · exact ⟨_, _, rfl⟩
  · exact ⟨_, _, rfl⟩
structure RIs (cur : Array Value) (S : List Int) (on : Bool) (T : Int) (vw vs : Value) : Prop where
  size : cur.size = 20
  c0 : cur[0]? = some vw
  c1 : cur[1]? = some vs
  sec : ∀ (k : Nat) (y : Int), S[k]? = some y → cur[2 + k]? = some (.int .u32 y)
  s16 : S.length = 16
  ct : cur[18]? = some (.int .i64 T)
  con : cur[19]? = some (.bool on)
section
variable {cur : Array Value} {S : List Int} {on : Bool} {T : Int} {vw vs : Value}
theorem RIs.wait (h : RIs cur S on T vw vs) (u : Value) : RIs (cur.setIfInBounds 0 u) S on T u vs := by
  have hs := h.size
  refine ⟨by simp [hs], set_eq _ (by omega), ?_, ?_, h.s16, ?_, ?_⟩
  · rw [set_ne _ (by omega)]; exact h.c1
  · intro j z hz; rw [set_ne _ (by omega)]; exact h.sec j z hz
  · rw [set_ne _ (by omega)]; exact h.ct
  · rw [set_ne _ (by omega)]; exact h.con
theorem RIs.show (h : RIs cur S on T vw vs) (u : Value) : RIs (cur.setIfInBounds 1 u) S on T vw u := by
  have hs := h.size
  refine ⟨by simp [hs], ?_, set_eq _ (by omega), ?_, h.s16, ?_, ?_⟩
  · rw [set_ne _ (by omega)]; exact h.c0
  · intro j z hz; rw [set_ne _ (by omega)]; exact h.sec j z hz
  · rw [set_ne _ (by omega)]; exact h.ct
  · rw [set_ne _ (by omega)]; exact h.con
theorem RIs.put (h : RIs cur S on T vw vs) {k : Nat} (hk : k < 16) (y : Int) : RIs (cur.setIfInBounds (2 + k) (.int .u32 y)) (S.set k y) on T vw vs := by
  have hs := h.size
  refine ⟨by simp [hs], ?_, ?_, ?_, by simpa using h.s16, ?_, ?_⟩
  · rw [set_ne _ (by omega)]; exact h.c0
  · rw [set_ne _ (by omega)]; exact h.c1
  · intro j z hz
    rw [List.getElem?_set] at hz
    by_cases e : k = j
    · subst e
      rw [if_pos rfl, if_pos (by rw [h.s16]; exact hk)] at hz
      rw [set_eq _ (by omega), Option.some.inj hz]
    · rw [if_neg e] at hz
      rw [set_ne _ (by omega)]; exact h.sec j z hz
  · rw [set_ne _ (by omega)]; exact h.ct
  · rw [set_ne _ (by omega)]; exact h.con
theorem RIs.onoff (h : RIs cur S on T vw vs) (b : Bool) : RIs (cur.setIfInBounds 19 (.bool b)) S b T vw vs := by
  have hs := h.size
  have h16 := h.s16
  refine ⟨by simp [hs], ?_, ?_, ?_, h.s16, ?_, set_eq _ (by omega)⟩
  · rw [set_ne _ (by omega)]; exact h.c0
  · rw [set_ne _ (by omega)]; exact h.c1
  · intro j z hz
    have hj : j < S.length := (List.getElem?_eq_some_iff.1 hz).1
    rw [set_ne _ (by omega)]; exact h.sec j z hz
  · rw [set_ne _ (by omega)]; exact h.ct
theorem RIs.time (h : RIs cur S on T vw vs) (t : Int) : RIs (cur.setIfInBounds 18 (.int .i64 t)) S on t vw vs := by
  have hs := h.size
  have h16 := h.s16
  refine ⟨by simp [hs], ?_, ?_, ?_, h.s16, set_eq _ (by omega), ?_⟩
  · rw [set_ne _ (by omega)]; exact h.c0
  · rw [set_ne _ (by omega)]; exact h.c1
  · intro j z hz
    have hj : j < S.length := (List.getElem?_eq_some_iff.1 hz).1
    rw [set_ne _ (by omega)]; exact h.sec j z hz
  · rw [set_ne _ (by omega)]; exact h.con
end
/-- the document's devices at block b; vw: what waits, vs: what is seen -/
structure RDAt (w : World) (B b : Nat) (Q S : List Int) (sn : List Sn) (on : Bool) (T : Int) (vw vs : Value) : Prop where
  hb : ∃ cur, w.heap[b]? = some (.cells cur 180 (0, 0)) ∧ RIs cur S on T vw vs
  ow : w.ownsRow B 25 1 vw Q.length (Q.map (Value.int .u32))
  os : w.ownsRow B 282 3 vs sn.length (snCells sn)
  ge : B ≤ b
def rfoot (b : Nat) (vw vs : Value) : List Nat := b :: (vw.ownBlock.toList ++ vs.ownBlock.toList)
theorem mem_rfoot {b i : Nat} {vw vs : Value} : i ∈ rfoot b vw vs ↔ i = b ∨ vw.ownBlock = some i ∨ vs.ownBlock = some i := by
  unfold rfoot
  rw [List.mem_cons, List.mem_append, Option.mem_toList, Option.mem_toList]
/-- behind a call that writes the document's devices -/
structure RTurned (w : World) (B b : Nat) (vw vs : Value) (Q S : List Int) (sn : List Sn) (on : Bool) (T : Int) (w' : World) (vw' vs' : Value) : Prop where
  at_ : RDAt w' B b Q S sn on T vw' vs'
  lv : Lv w w' (rfoot b vw vs)
  m1 : Mine w vw vw'
  m2 : Mine w vs vs'
section
variable {w w1 W w' w2 : World} {B b : Nat} {Q S : List Int} {sn : List Sn} {on : Bool} {T : Int} {vw vs : Value} {R : List Nat}
theorem RDAt.lt (h : RDAt w B b Q S sn on T vw vs) : b < w.heap.size := by
  obtain ⟨cur, hb, _⟩ := h.hb
  exact (Array.getElem?_eq_some_iff.1 hb).1
theorem RDAt.foot_lt (h : RDAt w B b Q S sn on T vw vs) : ∀ i ∈ rfoot b vw vs, i < w.heap.size := by
  intro i hi
  rcases mem_rfoot.1 hi with rfl | hi | hi
  · exact h.lt
  · exact (h.ow.lt i hi).2
  · exact (h.os.lt i hi).2
theorem RDAt.foot_ge (h : RDAt w B b Q S sn on T vw vs) : ∀ i ∈ rfoot b vw vs, B ≤ i := by
  intro i hi
  rcases mem_rfoot.1 hi with rfl | hi | hi
  · exact h.ge
  · exact (h.ow.lt i hi).1
  · exact (h.os.lt i hi).1
theorem RDAt.ne_w (h : RDAt w B b Q S sn on T vw vs) : vw.ownBlock ≠ some b := by
  obtain ⟨cur, hb, _⟩ := h.hb
  exact own_ne_blk h.ow hb (by decide)
theorem RDAt.ne_s (h : RDAt w B b Q S sn on T vw vs) : vs.ownBlock ≠ some b := by
  obtain ⟨cur, hb, _⟩ := h.hb
  exact own_ne_blk h.os hb (by decide)
theorem RDAt.ne_ws (h : RDAt w B b Q S sn on T vw vs) : ∀ g, vw.ownBlock = some g → vs.ownBlock ≠ some g := own_ne_own h.os h.ow (by decide)
theorem RDAt.keptL (h : RDAt w B b Q S sn on T vw vs) (hg : Lv w w1 R) (hr : ∀ i ∈ rfoot b vw vs, i ∉ R) : RDAt w1 B b Q S sn on T vw vs := by
  obtain ⟨cur, hb, hi⟩ := h.hb
  exact ⟨⟨cur, (hg.block b h.lt (hr b (mem_rfoot.2 (.inl rfl)))).trans hb, hi⟩, own_keptL h.ow hg (fun g hgv => hr g (mem_rfoot.2 (.inr (.inl hgv)))), own_keptL h.os hg (fun g hgv => hr g (mem_rfoot.2 (.inr (.inr hgv)))), h.ge⟩
theorem RDAt.kept0 (h : RDAt w B b Q S sn on T vw vs) (hg : w.grownBy w1 none) : RDAt w1 B b Q S sn on T vw vs := h.keptL (Lv.of_none hg []) (by simp)
theorem RDAt.q (h : RDAt w B b Q S sn on T vw vs) : ∃ p c, vw = .slice p Q.length c := own_form h.ow
theorem RDAt.sees (h : RDAt w B b Q S sn on T vw vs) : SnAt w vs sn := SnAt.own h.os
/-- where the block alone was written -/
theorem RDAt.re (h : RDAt w B b Q S sn on T vw vs) (hg : Lv w w' [b]) {cur' : Array Value} {S' : List Int} {on' : Bool} {T' : Int} (hb : w'.heap[b]? = some (.cells cur' 180 (0, 0))) (hi : RIs cur' S' on' T' vw vs) : RTurned w B b vw vs Q S' sn on' T' w' vw vs :=
  ⟨⟨⟨cur', hb, hi⟩, own_keptL h.ow hg (fun g hgv e => h.ne_w (by rw [hgv]; simp at e; rw [e])), own_keptL h.os hg (fun g hgv e => h.ne_s (by rw [hgv]; simp at e; rw [e])), h.ge⟩,
    hg.mono (fun i hi => mem_rfoot.2 (.inl (by simpa using hi))), .inl rfl, .inl rfl⟩
theorem RTurned.trans {w3 : World} {vw1 vs1 vw2 vs2 : Value} {Q1 S1 Q2 S2 : List Int} {sn1 sn2 : List Sn} {on1 on2 : Bool} {T1 T2 : Int} (h : RTurned w B b vw vs Q1 S1 sn1 on1 T1 w1 vw1 vs1) (k : RTurned w1 B b vw1 vs1 Q2 S2 sn2 on2 T2 w3 vw2 vs2) : RTurned w B b vw vs Q2 S2 sn2 on2 T2 w3 vw2 vs2 := by
  refine ⟨k.at_, ⟨k.lv.os.trans h.lv.os, k.lv.tape.trans h.lv.tape, k.lv.output.trans h.lv.output, Nat.le_trans h.lv.size k.lv.size, fun i hi hr => (k.lv.block i (Nat.lt_of_lt_of_le hi h.lv.size) ?_).trans (h.lv.block i hi hr)⟩, ?_, ?_⟩
  · intro e
    rcases mem_rfoot.1 e with rfl | e | e
    · exact hr (mem_rfoot.2 (.inl rfl))
    · rcases h.m1 with m | m
      · exact hr (mem_rfoot.2 (.inr (.inl (m.symm.trans e))))
      · have := m i e; omega
    · rcases h.m2 with m | m
      · exact hr (mem_rfoot.2 (.inr (.inr (m.symm.trans e))))
      · have := m i e; omega
  · rcases k.m1 with m | m
    · rcases h.m1 with m' | m'
      · exact .inl (m.trans m')
      · exact .inr (fun g hg => m' g (m.symm.trans hg))
    · exact .inr (fun g hg => Nat.le_trans h.lv.size (m g hg))
  · rcases k.m2 with m | m
    · rcases h.m2 with m' | m'
      · exact .inl (m.trans m')
      · exact .inr (fun g hg => m' g (m.symm.trans hg))
    · exact .inr (fun g hg => Nat.le_trans h.lv.size (m g hg))
theorem RTurned.base {vw1 vs1 : Value} {Q1 S1 : List Int} {sn1 : List Sn} {on1 : Bool} {T1 : Int} (h : RTurned w B b vw vs Q1 S1 sn1 on1 T1 w1 vw1 vs1) (hB : B ≤ w.heap.size) : B ≤ w1.heap.size := Nat.le_trans hB h.lv.size
theorem RTurned.none (h : RDAt w B b Q S sn on T vw vs) (hg : w.grownBy w1 none) : RTurned w B b vw vs Q S sn on T w1 vw vs := ⟨h.kept0 hg, Lv.of_none hg _, .inl rfl, .inl rfl⟩
theorem rturned_old {w0 : World} {vw1 vs1 : Value} {Q1 S1 : List Int} {sn1 : List Sn} {on1 : Bool} {T1 : Int} (h0 : w0.grownBy w none) (h : RDAt w w0.heap.size b Q S sn on T vw vs) (ht : RTurned w w0.heap.size b vw vs Q1 S1 sn1 on1 T1 w' vw1 vs1) : w0.grownBy w' none :=
  Lv.after h0 ht.lv h.foot_ge
/-- behind an append to a row of its own the block stands -/
theorem RDAt.across (h : RDAt w B b Q S sn on T vw vs) {v : Value} (hv : v.ownBlock ≠ some b) (hL : Lv w W []) (hg : W.grownBy w' v.ownBlock) : w'.heap[b]? = w.heap[b]? :=
  (hg.block b (Nat.lt_of_lt_of_le h.lt hL.size) (fun e => hv e.symm)).trans (hL.block b h.lt (by simp))
theorem mine_at {v : Value} {g n cap : Nat} (hL : Lv w W []) (hat : v.ownBlock = some g ∨ g = W.heap.size) : Mine w v (.slice (some ⟨g, 0, none⟩) n cap) := by
  rcases hat with e | e
  · left; rw [e]; rfl
  · right
    intro k hk
    obtain rfl : g = k := by simpa [Value.ownBlock] using hk
    rw [e]; exact hL.size
/-- what waits was appended to, and laid into its field -/
theorem RDAt.keyed (h : RDAt w B b Q S sn on T vw vs) (hL : Lv w W []) (hg : W.grownBy w' vw.ownBlock) {g cap : Nat} (key : Int)
    (hown : w'.ownsRow B 25 1 (.slice (some ⟨g, 0, none⟩) (Q.length + 1) cap) (Q.length + 1) (Q.map (Value.int .u32) ++ [.int .u32 key]))
    (hat : vw.ownBlock = some g ∨ g = W.heap.size) (h2 : w2 = w'.setCell ⟨b, 0, none⟩ (.slice (some ⟨g, 0, none⟩) (Q.length + 1) cap)) : RTurned w B b vw vs (Q ++ [key]) S sn on T w2 (.slice (some ⟨g, 0, none⟩) (Q.length + 1) cap) vs := by
  obtain ⟨cur, hb, hi⟩ := h.hb
  have hb' := (h.across h.ne_w hL hg).trans hb
  have hgd : g ≠ b := by
    rcases hat with e | e
    · intro e2; subst e2; exact h.ne_w e
    · have := h.lt; have := hL.size; omega
  have hL1 : Lv w w' vw.ownBlock.toList := (hL.mono (by simp)).trans (Lv.of_row hg)
  have hL3 : Lv w w2 (b :: vw.ownBlock.toList) := by rw [h2]; exact (hL1.mono (by simp +contextual)).set (by simp) _ _
  have hs : Lv w' w2 [b] := by rw [h2]; exact (Lv.refl _ _).set (by simp) _ _
  refine ⟨⟨⟨_, by rw [h2]; exact heap_setCell_same _ _ _ _ _ _ hb', hi.wait _⟩, ?_, ?_, h.ge⟩, hL3.mono (fun i hi => ?_), mine_at hL hat, .inl rfl⟩
  · have := own_keptL hown hs (by intro k hk; simp [Value.ownBlock] at hk; subst hk; simpa using hgd)
    simpa using this
  · refine own_keptL (own_keptL h.os hL1 (fun k hk e => ?_)) hs (fun k hk e => h.ne_s (by rw [hk]; simp at e; rw [e]))
    rw [Option.mem_toList] at e
    exact h.ne_ws k e hk
  · rw [List.mem_cons, Option.mem_toList] at hi
    exact mem_rfoot.2 (hi.imp id .inl)
/-- what is seen was appended to, and laid into its field -/
theorem RDAt.showed (h : RDAt w B b Q S sn on T vw vs) (hL : Lv w W []) (hg : W.grownBy w' vs.ownBlock) {g cap : Nat} (s : Sn)
    (hown : w'.ownsRow B 282 3 (.slice (some ⟨g, 0, none⟩) (sn.length + 1) cap) (sn.length + 1) (snCells sn ++ [.int .i64 s.1, .int .u32 s.2.1, .int .u32 s.2.2]))
    (hat : vs.ownBlock = some g ∨ g = W.heap.size) (h2 : w2 = w'.setCell ⟨b, 1, none⟩ (.slice (some ⟨g, 0, none⟩) (sn.length + 1) cap)) : RTurned w B b vw vs Q S (sn ++ [s]) on T w2 vw (.slice (some ⟨g, 0, none⟩) (sn.length + 1) cap) := by
  obtain ⟨cur, hb, hi⟩ := h.hb
  have hb' := (h.across h.ne_s hL hg).trans hb
  have hgd : g ≠ b := by
    rcases hat with e | e
    · intro e2; subst e2; exact h.ne_s e
    · have := h.lt; have := hL.size; omega
  have hL1 : Lv w w' vs.ownBlock.toList := (hL.mono (by simp)).trans (Lv.of_row hg)
  have hL3 : Lv w w2 (b :: vs.ownBlock.toList) := by rw [h2]; exact (hL1.mono (by simp +contextual)).set (by simp) _ _
  have hs : Lv w' w2 [b] := by rw [h2]; exact (Lv.refl _ _).set (by simp) _ _
  refine ⟨⟨⟨_, by rw [h2]; exact heap_setCell_same _ _ _ _ _ _ hb', hi.show _⟩, ?_, ?_, h.ge⟩, hL3.mono (fun i hi => ?_), .inl rfl, mine_at hL hat⟩
  · refine own_keptL (own_keptL h.ow hL1 (fun k hk e => ?_)) hs (fun k hk e => h.ne_w (by rw [hk]; simp at e; rw [e]))
    rw [Option.mem_toList] at e
    exact h.ne_ws k hk e
  · have := own_keptL hown hs (by intro k hk; simp [Value.ownBlock] at hk; subst hk; simpa using hgd)
    simpa [snCells_append, snCells] using this
  · rw [List.mem_cons, Option.mem_toList] at hi
    exact mem_rfoot.2 (hi.imp id .inr)
end
end Go.Proofs.YtpkgckjlhjcdmaaDoor
/- The document's own devices (facaderef1.Dev): contracts. -/
namespace Go.Proofs.YtpkgckjlhjcdmaaDoor
open Go.RowKit
theorem u32_info : ∃ i, Tryd.prog.info? 25 = some i ∧ i.zero = some (.int .u32 0) ∧ i.size = 1 ∧ i.bytes = 4 := by
  obtain ⟨i, hi, hz0, hz1, hz2⟩ := info_parts (P := Tryd.prog) (e := 25) (z := .int .u32 0) (size := 1) (bytes := 4) (by kernel_rfl)
  exact ⟨i, hi, hz0, hz1, hz2⟩
/-! ### a copy of words -/
def WordsOwn (w : World) (ls : List Int) (e : Ending) (w' : World) : Prop := ∃ v, e = .returned v ∧ w'.ownsRow w.heap.size 25 1 v ls.length (ls.map (Value.int .u32)) ∧ w.grownBy w' none
structure WORel (w : World) (ls : List Int) (v : Value) (k : Nat) (wr : World) : Prop where
  own : wr.ownsRow w.heap.size 25 1 v k ((ls.take k).map (Value.int .u32))
  grown : w.grownBy wr none
set_option maxHeartbeats 1000000 in
theorem words_own {w : World} {v : Value} {ls : List Int} (h : SlAt w .u32 v ls) (hN : ls.length ≤ 1048576) :
    Calls Tryd.prog 49 #[v] w (WordsOwn w ls) := by
  obtain ⟨i, hi, hz0, hz1, hz2⟩ := u32_info
  obtain ⟨N, hl⟩ : ∃ N, ls.length = N := ⟨_, rfl⟩
  obtain ⟨p, c, rfl⟩ : ∃ p c, v = .slice p N c := by
    rcases h with ⟨⟨p, c, rfl⟩, rfl⟩ | ⟨b, o, c, rfl, _⟩
    · exact ⟨p, c, by rw [← hl]; rfl⟩
    · exact ⟨_, c, by rw [hl]⟩
  rw [hl] at hN
  have hmk : ∃ C, Hid (C.size = N * 1) ∧ (Instr.makeSlice 26 (.int .i64 0) (.int .i64 N)).run Tryd.prog w = .ok (.slice (some ⟨w.heap.size, 0, none⟩) 0 N) (w.alloc (.cells C 25)) := by
    have := run_make (P := Tryd.prog) w 26 25 i _ Tryd.underlying26 hi hz0 .i64 .i64 0 N (by omega) (by omega) (by rw [hz2]; omega) (by omega)
    rw [hz1] at this
    simp only [Int.toNat_natCast, Int.toNat_zero] at this
    exact ⟨_, hid (size_madeCells _ _), this⟩
  obtain ⟨C, HC, hmk⟩ := hmk
  have Hi := hid hi
  have Hz0 := hid hz0
  have Hz1 := hid hz1
  have Hz2 := hid hz2
  have HS := hid h
  have Hl := hid hl
  clear hi hz0 hz1 hz2 h hl
  go_enter Tryd.func49, Tryd.ntmps49
  go_wp2
  go_loopw [3, 4] (fun v i wr => ∃ k : Nat, k ≤ N ∧ i = .int .i64 k ∧ Hid (WORel w ls v k wr)) (fun _ i _ => N - (intOf i).toNat)
  case atStart => exact ⟨0, Nat.zero_le _, rfl, hid ⟨by simpa using World.ownsRow_made w C N (Nat.le_refl _) (by unfold maxLen; omega) HC.out, World.grownBy_alloc _ _ _⟩⟩
  case round =>
    obtain ⟨k, hk, rfl, HR⟩ := hrel
    by_cases hlt : k < N
    · rcases HS.out with ⟨_, h0⟩ | ⟨b, o, c', he, hb, hc⟩
      · have := Hl.out; rw [h0] at this; simp at this; omega
      · have hp : p = some ⟨b, o, none⟩ := by injection he
        obtain ⟨x, Hx⟩ : ∃ x, Hid (ls[k]? = some x) := ⟨_, hid (List.getElem?_eq_getElem (by rw [Hl.out]; exact hlt))⟩
        have hcx := (grown_cell (p := ⟨b, o + k, none⟩) HR.out.grown hb (by simp)).trans (hc k x Hx.out)
        have hk0 : (0 : Int) ≤ (k : Int) := by omega
        have hk1 : (k : Int) < (N : Int) := by omega
        have Hown := hid (own_keptL HR.out.own (Lv.of_none (World.grownBy_alloc wr (.cells #[.int .u32 x] 25) none) []) (by simp))
        have Hnew := hid (one_at wr (.int .u32 x) 25)
        have H63 : Hid (k + 1 ≤ maxLen) := hid (by unfold maxLen; omega)
        have Hby : Hid ((k + 1) * 4 ≤ 140737488355328) := hid (by omega)
        have Hba : Hid (w.heap.size ≤ (wr.alloc (.cells #[.int .u32 x] 25)).heap.size) := hid (by have := HR.out.grown.size; simp; omega)
        clear he hc
        subst hp
        go_wp2_with (refine wpList_append_own _ rfl _ _ 26 rfl w.heap.size 25 i _ 1 4 Tryd.underlying26 Hi.out Hz0.out Hz1.out Hz2.out rfl (by decide) _ _ _ rfl Hown.out ⟨wr.heap.size, 0, none⟩ 1 1 [.int .u32 x] rfl rfl Hnew.out (by simp [Value.oneCell']) H63.out Hby.out Hba.out ?_; intro v' w2 hown2 hgrow2 _; have HO := hid hown2; have HG := hid hgrow2; clear hown2 hgrow2)
        go_roundw
        case rel =>
          refine ⟨k + 1, by omega, by go_num, hid ⟨?_, ?_⟩⟩
          · rw [List.take_add_one, Hx.out, List.map_append]; exact HO.out
          · exact grown_new' (grown_trans (grown_none (grown_alloc HR.out.grown _)) HG.out) (fun g hg => (HR.out.own.lt g hg).1)
        case measure => simp [intOf]; omega
    · have hge : (N : Int) ≤ (k : Int) := by omega
      go_wp2
      go_ret
      obtain rfl : k = N := by omega
      have := HR.out.own
      rw [List.take_of_length_le (by rw [Hl.out]; omega)] at this
      exact ⟨_, rfl, by rw [Hl.out]; exact this, HR.out.grown⟩
/-! ### the calls -/
section
variable {w : World} {B b : Nat} {Q S : List Int} {sn : List Sn} {on : Bool} {T : Int} {vw vs : Value}
/-- behind a call that writes what waits -/
def Waited (w : World) (B b : Nat) (vw vs : Value) (Q S : List Int) (sn : List Sn) (on : Bool) (T : Int) (v : Value) (e : Ending) (w' : World) : Prop :=
  e = .returned v ∧ ∃ vw', RTurned w B b vw vs Q S sn on T w' vw' vs
/-- behind a call that writes what is seen -/
def RShown (w : World) (B b : Nat) (vw vs : Value) (Q S : List Int) (sn : List Sn) (on : Bool) (T : Int) (e : Ending) (w' : World) : Prop :=
  e = .returned (.tuple #[]) ∧ ∃ vs', RTurned w B b vw vs Q S sn on T w' vw vs'
/-- what waits was copied, and laid into its field -/
theorem RDAt.waited (h : RDAt w B b Q S sn on T vw vs) {w3 : World} {u : Value} {r : List Int} (hg : w.grownBy w3 none) (hown : w3.ownsRow w.heap.size 25 1 u r.length (r.map (Value.int .u32))) (hB : B ≤ w.heap.size) :
    RTurned w B b vw vs r S sn on T (w3.setCell ⟨b, 0, none⟩ u) u vs := by
  obtain ⟨cur, hb, hi⟩ := h.hb
  have hb' := (hg.block b h.lt (by simp)).trans hb
  have hs : Lv w3 (w3.setCell ⟨b, 0, none⟩ u) [b] := (Lv.refl _ _).set (by simp) _ _
  refine ⟨⟨⟨_, heap_setCell_same _ _ _ _ _ _ hb', hi.wait _⟩, ?_, ?_, h.ge⟩, ?_, .inr (fun g hg' => (hown.lt g hg').1), .inl rfl⟩
  · refine own_base (own_keptL hown hs (fun g hg' e => ?_)) hB
    have := (hown.lt g hg').1
    have := h.lt
    simp at e
    omega
  · exact own_keptL (own_keptL h.os (Lv.of_none hg []) (by simp)) hs (fun k hk e => h.ne_s (by rw [hk]; simp at e; rw [e]))
  · exact ((Lv.of_none hg _).trans hs).mono (fun i hi => mem_rfoot.2 (.inl (by simpa using hi)))
/-- it is told that the timer was heard -/
theorem RDAt.off (h : RDAt w B b Q S sn on T vw vs) : RTurned w B b vw vs Q S sn false T (w.setCell ⟨b, 19, none⟩ (.bool false)) vw vs := by
  obtain ⟨cur, hb, hi⟩ := h.hb
  exact h.re ((Lv.refl w [b]).set (by simp) _ _) (heap_setCell_same _ _ _ _ _ _ hb) (hi.onoff _)
end
end Go.Proofs.YtpkgckjlhjcdmaaDoor

/- Package frames and the document's, told the same. (Made by gofr9.py.) -/
import Derived.Test.YtcfagdmaephkdaaDoorYFr4
import Derived.Test.YtcfagdmaephkdaaDoorYFr7
import Derived.Deep.RegionHeld3
import Derived.Deep.Cut
import Derived.Test.YtcfagdmaephkdaaDoorYBase
import Derived.Deep.Slices
import Derived.ChangeArms
import Derived.Carry
import Derived.ChangeSlices
import Derived.WideKeyArgs
import Derived.Lib.SmallJoins
import Derived.OpenShut
namespace Go.Proofs.YtcfagdmaephkdaaDoor
open Go.RowKit
/-- the package's frames and the document's, side by side -/
structure DQ (W : World) (A : Nat → Addr) (w : World) (m b n c mx bx cx : Nat) (L X : List Fm) (K : Int) : Prop where
  fq : FQ W A w m b n c L K
  fd : FdAt w mx bx n cx X
  gx : W.heap.size ≤ bx
  n1 : m ≠ bx
  n2 : b ≠ bx
  n3 : mx ≠ b
section
variable {W w w1 : World} {A : Nat → Addr} {m b n c mx bx cx : Nat} {L X : List Fm} {K : Int}
theorem DQ.kept0 (h : DQ W A w m b n c mx bx cx L X K) (hg : w.grownBy w1 none) : DQ W A w1 m b n c mx bx cx L X K :=
  { h with fq := h.fq.kept0 hg, fd := h.fd.kept0 hg }
/-- but for two blocks all is as it was -/
def Two (w w1 : World) (b bx : Nat) : Prop := ∀ i, i < w.heap.size → i ≠ b → i ≠ bx → w1.heap[i]? = w.heap[i]?
theorem FrAt.two {T U : TypeId} {m' b' n' c' : Nat} {O : List Fm} (h : FrAt w T U m' b' n' c' O) (hT : Two w w1 b bx) (h1 : m' ≠ b) (h2 : m' ≠ bx) (h3 : b' ≠ b) (h4 : b' ≠ bx) : FrAt w1 T U m' b' n' c' O := by
  have hb := hT b' h.blt h3 h4
  obtain ⟨hl, ho⟩ := h.own
  refine { h with hm := (hT m' h.mlt h1 h2).trans h.hm, own := ⟨hl, ?_⟩ }
  rcases ho with ho | ⟨g, cap, cur, e, hg0, hg, hr⟩
  · exact .inl ho
  · have e2 : g = b' := by
      simp only [Value.slice.injEq, Option.some.injEq, Addr.mk.injEq, and_true] at e
      exact e.1.symm
    subst e2
    exact .inr ⟨g, cap, cur, e, hg0, hb.trans hg, hr⟩
theorem isD (h : DQ W A w m b n c mx bx cx L X K) (E : Option Nat) (hE : ∀ k, E = some k → k < 16) :
    Calls Tryd.prog 9 #[errO A E, .int .i64 (codO E)] w fun e w' => e = .returned (.bool true) ∧ DQ W A w' m b n c mx bx cx L X K ∧ w.grownBy w' none := by
  refine (is_errO h.fq.ss E hE (codO E) true (by simp)).mono ?_
  rintro e w' ⟨rfl, hg⟩
  exact ⟨rfl, h.kept0 hg, hg⟩
theorem alloc_d (h : DQ W A w m b n c mx bx cx L X K) (hs : Sents W A) (who : Int) (E : Option Nat) (k : Nat) (L' : List Fm) (hE : allocF L who = (E, k, L')) :
    Calls Tryd.prog 18 #[.pointer (some ⟨m, 0, none⟩), .int .i64 who] w fun e w' => e = .returned (.tuple #[.int .i64 k, errO A E]) ∧ DQ W A w' m b n c mx bx cx L' X K ∧ w.grownBy w' (some b) := by
  have hc := alloc_fr h.fq.fr h.fq.ss h.fq.ok who
  have ok := allocF_ok h.fq.ok who h.fq.k0
  rw [hE] at hc ok
  refine hc.mono ?_
  rintro e w' ⟨rfl, hF, hg⟩
  exact ⟨rfl, { h with fq := h.fq.step hs hF hg ok h.fq.k0 h.fq.k1, fd := h.fd.kept hg (by simpa using h.n3) (by simpa using h.n2.symm) }, hg⟩
theorem ralloc_d (h : DQ W A w m b n c mx bx cx L X K) (hs : Sents W A) (who : Int) (E : Option Nat) (k : Nat) (L' : List Fm) (hE : allocF X who = (E, k, L')) :
    Calls Tryd.prog 31 #[.pointer (some ⟨mx, 0, none⟩), .int .i64 who] w fun e w' => e = .returned (.tuple #[.int .i64 k, .int .i64 (codO E)]) ∧ DQ W A w' m b n c mx bx cx L L' K ∧ w.grownBy w' (some bx) := by
  have hc := ralloc_rf h.fd who
  rw [hE] at hc
  refine hc.mono ?_
  rintro e w' ⟨rfl, hF, hg⟩
  have hg2 : W.grownBy w' none := grown_new' (grown_trans (grown_none h.fq.gr) hg) (fun k hk => by obtain rfl := Option.some.inj hk; exact h.gx)
  exact ⟨rfl, { h with fq := { h.fq with fr := h.fq.fr.kept hg (by simpa using h.n1) (by simpa using h.n2), gr := hg2, ss := hs.kept0 hg2 }, fd := hF }, hg⟩
theorem free_d (h : DQ W A w m b n c mx bx cx L X K) (hs : Sents W A) (i who : Int) (E : Option Nat) (L' : List Fm) (hE : freeF L i who = (E, L')) :
    Calls Tryd.prog 22 #[.pointer (some ⟨m, 0, none⟩), .int .i64 i, .int .i64 who] w fun e w' => e = .returned (errO A E) ∧ DQ W A w' m b n c mx bx cx L' X K ∧ w.grownBy w' (some b) := by
  have hc := free_fr h.fq.fr h.fq.ss h.fq.ok (by have := h.fq.k1; omega) i who
  have ok := freeF_ok h.fq.ok i who h.fq.k0
  rw [hE] at hc ok
  refine hc.mono ?_
  rintro e w' ⟨rfl, hF, hg⟩
  exact ⟨rfl, { h with fq := h.fq.step hs hF hg ok h.fq.k0 h.fq.k1, fd := h.fd.kept hg (by simpa using h.n3) (by simpa using h.n2.symm) }, hg⟩
theorem rfree_d (h : DQ W A w m b n c mx bx cx L X K) (hs : Sents W A) {K' : Int} (hX : FsOk K' X) (hK : K' ≤ 1000) (i who : Int) (i0 : -9223372036854775808 ≤ i) (E : Option Nat) (L' : List Fm) (hE : freeF X i who = (E, L')) :
    Calls Tryd.prog 32 #[.pointer (some ⟨mx, 0, none⟩), .int .i64 i, .int .i64 who] w fun e w' => e = .returned (.int .i64 (codO E)) ∧ DQ W A w' m b n c mx bx cx L L' K ∧ w.grownBy w' (some bx) := by
  have hc := rfree_rf h.fd hX (by omega) i who i0
  rw [hE] at hc
  refine hc.mono ?_
  rintro e w' ⟨rfl, hF, hg⟩
  have hg2 : W.grownBy w' none := grown_new' (grown_trans (grown_none h.fq.gr) hg) (fun k hk => by obtain rfl := Option.some.inj hk; exact h.gx)
  exact ⟨rfl, { h with fq := { h.fq with fr := h.fq.fr.kept hg (by simpa using h.n1) (by simpa using h.n2), gr := hg2, ss := hs.kept0 hg2 }, fd := hF }, hg⟩
theorem freeF_e (L : List Fm) (i who : Int) : ∀ k, (freeF L i who).1 = some k → k < 16 := by
  unfold freeF
  (repeat' split) <;> (intro k hk; first | (cases hk; decide) | cases hk)
theorem make_d (h : DQ W A w m b n c mx bx cx L X K) (hs : Sents W A) (i who kind : Int) (E : Option Nat) (L' : List Fm) (hE : makeF L i who kind = (E, L')) :
    Calls Tryd.prog 21 #[.pointer (some ⟨m, 0, none⟩), .int .i64 i, .int .i64 who, .int .i64 kind] w fun e w' => e = .returned (errO A E) ∧ DQ W A w' m b n c mx bx cx L' X K ∧ w.grownBy w' (some b) := by
  have hc := make_fr h.fq.fr h.fq.ss h.fq.ok (by have := h.fq.k1; omega) i who kind
  have ok := makeF_ok h.fq.ok i who kind
  rw [hE] at hc ok
  refine hc.mono ?_
  rintro e w' ⟨rfl, hF, hg⟩
  exact ⟨rfl, { h with fq := h.fq.step hs hF hg ok h.fq.k0 h.fq.k1, fd := h.fd.kept hg (by simpa using h.n3) (by simpa using h.n2.symm) }, hg⟩
theorem rmake_d (h : DQ W A w m b n c mx bx cx L X K) (hs : Sents W A) {K' : Int} (hX : FsOk K' X) (hK : K' ≤ 1000) (i who kind : Int) (i0 : -9223372036854775808 ≤ i) (E : Option Nat) (L' : List Fm) (hE : makeF X i who kind = (E, L')) :
    Calls Tryd.prog 33 #[.pointer (some ⟨mx, 0, none⟩), .int .i64 i, .int .i64 who, .int .i64 kind] w fun e w' => e = .returned (.int .i64 (codO E)) ∧ DQ W A w' m b n c mx bx cx L L' K ∧ w.grownBy w' (some bx) := by
  have hc := rmake_rf h.fd hX (by omega) i who kind i0
  rw [hE] at hc
  refine hc.mono ?_
  rintro e w' ⟨rfl, hF, hg⟩
  have hg2 : W.grownBy w' none := grown_new' (grown_trans (grown_none h.fq.gr) hg) (fun k hk => by obtain rfl := Option.some.inj hk; exact h.gx)
  exact ⟨rfl, { h with fq := { h.fq with fr := h.fq.fr.kept hg (by simpa using h.n1) (by simpa using h.n2), gr := hg2, ss := hs.kept0 hg2 }, fd := hF }, hg⟩
theorem makeF_e (L : List Fm) (i who kind : Int) : ∀ k, (makeF L i who kind).1 = some k → k < 16 := by
  unfold makeF
  (repeat' split) <;> (intro k hk; first | (cases hk; decide) | cases hk)
theorem plain_d (h : DQ W A w m b n c mx bx cx L X K) (hs : Sents W A) (i who : Int) (E : Option Nat) (L' : List Fm) (hE : plainF L i who = (E, L')) :
    Calls Tryd.prog 23 #[.pointer (some ⟨m, 0, none⟩), .int .i64 i, .int .i64 who] w fun e w' => e = .returned (errO A E) ∧ DQ W A w' m b n c mx bx cx L' X K ∧ w.grownBy w' (some b) := by
  have hc := plain_fr h.fq.fr h.fq.ss h.fq.ok (by have := h.fq.k1; omega) i who
  have ok := plainF_ok h.fq.ok i who
  rw [hE] at hc ok
  refine hc.mono ?_
  rintro e w' ⟨rfl, hF, hg⟩
  exact ⟨rfl, { h with fq := h.fq.step hs hF hg ok h.fq.k0 h.fq.k1, fd := h.fd.kept hg (by simpa using h.n3) (by simpa using h.n2.symm) }, hg⟩
theorem rplain_d (h : DQ W A w m b n c mx bx cx L X K) (hs : Sents W A) {K' : Int} (hX : FsOk K' X) (hK : K' ≤ 1000) (i who : Int) (i0 : -9223372036854775808 ≤ i) (E : Option Nat) (L' : List Fm) (hE : plainF X i who = (E, L')) :
    Calls Tryd.prog 34 #[.pointer (some ⟨mx, 0, none⟩), .int .i64 i, .int .i64 who] w fun e w' => e = .returned (.int .i64 (codO E)) ∧ DQ W A w' m b n c mx bx cx L L' K ∧ w.grownBy w' (some bx) := by
  have hc := rplain_rf h.fd hX (by omega) i who i0
  rw [hE] at hc
  refine hc.mono ?_
  rintro e w' ⟨rfl, hF, hg⟩
  have hg2 : W.grownBy w' none := grown_new' (grown_trans (grown_none h.fq.gr) hg) (fun k hk => by obtain rfl := Option.some.inj hk; exact h.gx)
  exact ⟨rfl, { h with fq := { h.fq with fr := h.fq.fr.kept hg (by simpa using h.n1) (by simpa using h.n2), gr := hg2, ss := hs.kept0 hg2 }, fd := hF }, hg⟩
theorem plainF_e (L : List Fm) (i who : Int) : ∀ k, (plainF L i who).1 = some k → k < 16 := by
  unfold plainF
  (repeat' split) <;> (intro k hk; first | (cases hk; decide) | cases hk)
theorem write_d (h : DQ W A w m b n c mx bx cx L X K) (hs : Sents W A) (hk : K < 1000) (i : Int) (E : Option Nat) (L' : List Fm) (hE : writeF L i = (E, L')) :
    Calls Tryd.prog 19 #[.pointer (some ⟨m, 0, none⟩), .int .i64 i] w fun e w' => e = .returned (errO A E) ∧ DQ W A w' m b n c mx bx cx L' X (K + 1) ∧ w.grownBy w' (some b) := by
  have hc := write_fr h.fq.fr h.fq.ss h.fq.ok (by have := h.fq.k1; omega) i
  have ok := writeF_ok h.fq.ok i
  rw [hE] at hc ok
  refine hc.mono ?_
  rintro e w' ⟨rfl, hF, hg⟩
  exact ⟨rfl, { h with fq := h.fq.step hs hF hg ok (by have := h.fq.k0; omega) (by omega), fd := h.fd.kept hg (by simpa using h.n3) (by simpa using h.n2.symm) }, hg⟩
theorem rwrite_d (h : DQ W A w m b n c mx bx cx L X K) (hs : Sents W A) {K' : Int} (hX : FsOk K' X) (hK : K' ≤ 1000) (i : Int) (E : Option Nat) (L' : List Fm) (hE : writeF X i = (E, L')) :
    Calls Tryd.prog 35 #[.pointer (some ⟨mx, 0, none⟩), .int .i64 i] w fun e w' => e = .returned (.int .i64 (codO E)) ∧ DQ W A w' m b n c mx bx cx L L' K ∧ w.grownBy w' (some bx) := by
  have hc := rwrite_rf h.fd hX (by omega) i
  rw [hE] at hc
  refine hc.mono ?_
  rintro e w' ⟨rfl, hF, hg⟩
  have hg2 : W.grownBy w' none := grown_new' (grown_trans (grown_none h.fq.gr) hg) (fun k hk => by obtain rfl := Option.some.inj hk; exact h.gx)
  exact ⟨rfl, { h with fq := { h.fq with fr := h.fq.fr.kept hg (by simpa using h.n1) (by simpa using h.n2), gr := hg2, ss := hs.kept0 hg2 }, fd := hF }, hg⟩
theorem writeF_e (L : List Fm) (i : Int) : ∀ k, (writeF L i).1 = some k → k < 16 := by
  unfold writeF
  (repeat' split) <;> (intro k hk; first | (cases hk; decide) | cases hk)
theorem unwrite_d (h : DQ W A w m b n c mx bx cx L X K) (hs : Sents W A) (i : Int) (E : Option Nat) (L' : List Fm) (hE : unwriteF L i = (E, L')) :
    Calls Tryd.prog 25 #[.pointer (some ⟨m, 0, none⟩), .int .i64 i] w fun e w' => e = .returned (errO A E) ∧ DQ W A w' m b n c mx bx cx L' X K ∧ w.grownBy w' (some b) := by
  have hc := unwrite_fr h.fq.fr h.fq.ss h.fq.ok (by have := h.fq.k1; omega) i
  have ok := unwriteF_ok h.fq.ok i
  rw [hE] at hc ok
  refine hc.mono ?_
  rintro e w' ⟨rfl, hF, hg⟩
  exact ⟨rfl, { h with fq := h.fq.step hs hF hg ok h.fq.k0 h.fq.k1, fd := h.fd.kept hg (by simpa using h.n3) (by simpa using h.n2.symm) }, hg⟩
theorem runwrite_d (h : DQ W A w m b n c mx bx cx L X K) (hs : Sents W A) {K' : Int} (hX : FsOk K' X) (hK : K' ≤ 1000) (i : Int) (E : Option Nat) (L' : List Fm) (hE : unwriteF X i = (E, L')) :
    Calls Tryd.prog 36 #[.pointer (some ⟨mx, 0, none⟩), .int .i64 i] w fun e w' => e = .returned (.int .i64 (codO E)) ∧ DQ W A w' m b n c mx bx cx L L' K ∧ w.grownBy w' (some bx) := by
  have hc := runwrite_rf h.fd hX (by omega) i
  rw [hE] at hc
  refine hc.mono ?_
  rintro e w' ⟨rfl, hF, hg⟩
  have hg2 : W.grownBy w' none := grown_new' (grown_trans (grown_none h.fq.gr) hg) (fun k hk => by obtain rfl := Option.some.inj hk; exact h.gx)
  exact ⟨rfl, { h with fq := { h.fq with fr := h.fq.fr.kept hg (by simpa using h.n1) (by simpa using h.n2), gr := hg2, ss := hs.kept0 hg2 }, fd := hF }, hg⟩
theorem unwriteF_e (L : List Fm) (i : Int) : ∀ k, (unwriteF L i).1 = some k → k < 16 := by
  unfold unwriteF
  (repeat' split) <;> (intro k hk; first | (cases hk; decide) | cases hk)
theorem use_d (h : DQ W A w m b n c mx bx cx L X K) (hs : Sents W A) (hk : K < 1000) (i : Int) (E : Option Nat) (L' : List Fm) (hE : useF L i = (E, L')) :
    Calls Tryd.prog 20 #[.pointer (some ⟨m, 0, none⟩), .int .i64 i] w fun e w' => e = .returned (errO A E) ∧ DQ W A w' m b n c mx bx cx L' X (K + 1) ∧ w.grownBy w' (some b) := by
  have hc := use_fr h.fq.fr h.fq.ss h.fq.ok (by have := h.fq.k1; omega) i
  have ok := useF_ok h.fq.ok i
  rw [hE] at hc ok
  refine hc.mono ?_
  rintro e w' ⟨rfl, hF, hg⟩
  exact ⟨rfl, { h with fq := h.fq.step hs hF hg ok (by have := h.fq.k0; omega) (by omega), fd := h.fd.kept hg (by simpa using h.n3) (by simpa using h.n2.symm) }, hg⟩
theorem ruse_d (h : DQ W A w m b n c mx bx cx L X K) (hs : Sents W A) {K' : Int} (hX : FsOk K' X) (hK : K' ≤ 1000) (i : Int) (E : Option Nat) (L' : List Fm) (hE : useF X i = (E, L')) :
    Calls Tryd.prog 37 #[.pointer (some ⟨mx, 0, none⟩), .int .i64 i] w fun e w' => e = .returned (.int .i64 (codO E)) ∧ DQ W A w' m b n c mx bx cx L L' K ∧ w.grownBy w' (some bx) := by
  have hc := ruse_rf h.fd hX (by omega) i
  rw [hE] at hc
  refine hc.mono ?_
  rintro e w' ⟨rfl, hF, hg⟩
  have hg2 : W.grownBy w' none := grown_new' (grown_trans (grown_none h.fq.gr) hg) (fun k hk => by obtain rfl := Option.some.inj hk; exact h.gx)
  exact ⟨rfl, { h with fq := { h.fq with fr := h.fq.fr.kept hg (by simpa using h.n1) (by simpa using h.n2), gr := hg2, ss := hs.kept0 hg2 }, fd := hF }, hg⟩
theorem useF_e (L : List Fm) (i : Int) : ∀ k, (useF L i).1 = some k → k < 16 := by
  unfold useF
  (repeat' split) <;> (intro k hk; first | (cases hk; decide) | cases hk)
theorem unuse_d (h : DQ W A w m b n c mx bx cx L X K) (hs : Sents W A) (i : Int) (E : Option Nat) (L' : List Fm) (hE : unuseF L i = (E, L')) :
    Calls Tryd.prog 24 #[.pointer (some ⟨m, 0, none⟩), .int .i64 i] w fun e w' => e = .returned (errO A E) ∧ DQ W A w' m b n c mx bx cx L' X K ∧ w.grownBy w' (some b) := by
  have hc := unuse_fr h.fq.fr h.fq.ss h.fq.ok (by have := h.fq.k1; omega) i
  have ok := unuseF_ok h.fq.ok i
  rw [hE] at hc ok
  refine hc.mono ?_
  rintro e w' ⟨rfl, hF, hg⟩
  exact ⟨rfl, { h with fq := h.fq.step hs hF hg ok h.fq.k0 h.fq.k1, fd := h.fd.kept hg (by simpa using h.n3) (by simpa using h.n2.symm) }, hg⟩
theorem runuse_d (h : DQ W A w m b n c mx bx cx L X K) (hs : Sents W A) {K' : Int} (hX : FsOk K' X) (hK : K' ≤ 1000) (i : Int) (E : Option Nat) (L' : List Fm) (hE : unuseF X i = (E, L')) :
    Calls Tryd.prog 38 #[.pointer (some ⟨mx, 0, none⟩), .int .i64 i] w fun e w' => e = .returned (.int .i64 (codO E)) ∧ DQ W A w' m b n c mx bx cx L L' K ∧ w.grownBy w' (some bx) := by
  have hc := runuse_rf h.fd hX (by omega) i
  rw [hE] at hc
  refine hc.mono ?_
  rintro e w' ⟨rfl, hF, hg⟩
  have hg2 : W.grownBy w' none := grown_new' (grown_trans (grown_none h.fq.gr) hg) (fun k hk => by obtain rfl := Option.some.inj hk; exact h.gx)
  exact ⟨rfl, { h with fq := { h.fq with fr := h.fq.fr.kept hg (by simpa using h.n1) (by simpa using h.n2), gr := hg2, ss := hs.kept0 hg2 }, fd := hF }, hg⟩
theorem unuseF_e (L : List Fm) (i : Int) : ∀ k, (unuseF L i).1 = some k → k < 16 := by
  unfold unuseF
  (repeat' split) <;> (intro k hk; first | (cases hk; decide) | cases hk)
theorem allocF_e (L : List Fm) (who : Int) : ∀ k, (allocF L who).1 = some k → k < 16 := by
  unfold allocF
  (repeat' split) <;> (intro k hk; first | (cases hk; decide) | cases hk)
theorem two_of {w2 w3 w4 : World} {p q : Option Nat} (h1 : w.grownBy w1 none) (h2 : w1.grownBy w2 p) (h3 : w2.grownBy w3 q) (h4 : w3.grownBy w4 none) (hp : p = some b ∨ p = some bx) (hq : q = some b ∨ q = some bx) : Two w w4 b bx := fun i hi hb hx => by
  have a1 : i < w1.heap.size := Nat.lt_of_lt_of_le hi h1.size
  have a2 : i < w2.heap.size := Nat.lt_of_lt_of_le a1 h2.size
  have a3 : i < w3.heap.size := Nat.lt_of_lt_of_le a2 h3.size
  have e1 := h1.block i hi (by simp)
  have e2 := h2.block i a1 (by rcases hp with rfl | rfl <;> simp [hb, hx])
  have e3 := h3.block i a2 (by rcases hq with rfl | rfl <;> simp [hb, hx])
  have e4 := h4.block i a3 (by simp)
  exact e4.trans (e3.trans (e2.trans e1))
end
/-- what a thing makes of the frames -/
def doL (L : List Fm) (kind a b c : Int) : List Fm :=
  if kind = 1 then (allocF L a).2.2 else if kind = 2 then (freeF L a b).2 else if kind = 3 then (makeF L a b c).2 else if kind = 4 then (plainF L a b).2 else
  if kind = 5 then (writeF L a).2 else if kind = 6 then (unwriteF L a).2 else if kind = 7 then (useF L a).2 else (unuseF L a).2
/-- what 'does' is asked for -/
def DoesAt (W : World) (A : Nat → Addr) (w : World) (m b n c mx bx cx : Nat) (L' : List Fm) (K : Int) (e : Ending) (w' : World) : Prop :=
  e = .returned (.bool true) ∧ DQ W A w' m b n c mx bx cx L' L' (K + 1) ∧ Two w w' b bx
theorem DQ.up {W : World} {A : Nat → Addr} {w : World} {m b n c mx bx cx : Nat} {L X : List Fm} {K K' : Int} (h : DQ W A w m b n c mx bx cx L X K) (hK : K ≤ K') (h1 : K' ≤ 1000) : DQ W A w m b n c mx bx cx L X K' :=
  { h with fq := h.fq.up hK h1 }
set_option maxRecDepth 100000 in
set_option maxHeartbeats 8000000 in
theorem does_free {W : World} {A : Nat → Addr} {w : World} {m b n c mx bx cx : Nat} {L : List Fm} {K : Int} (h : DQ W A w m b n c mx bx cx L L K) (hs : Sents W A) (hK : K < 1000) (a b' c' : Int) (a0 : -9223372036854775808 ≤ a) :
    Calls Tryd.prog 13 #[.pointer (some ⟨m, 0, none⟩), .pointer (some ⟨mx, 0, none⟩), .agg #[.int .i64 2, .int .i64 a, .int .i64 b', .int .i64 c']] w (DoesAt W A w m b n c mx bx cx (doL L 2 a b' c') K) := by
  have HS := hid hs
  have HK := hid hK
  have Hok := hid h.fq.ok
  have edo : doL L 2 a b' c' = (freeF L a b').2 := by unfold doL; simp
  rw [edo]
  clear edo
  have HE := hid (freeF_e L a b')
  obtain ⟨E, L', hE⟩ : ∃ E L', freeF L a b' = (E, L') := ⟨_, _, rfl⟩
  have HEq := hid hE
  rw [hE] at HE ⊢
  clear hE
  simp only at HE ⊢
  obtain ⟨B, hB⟩ : ∃ B, w.heap.size = B := ⟨_, rfl⟩
  have HB := hid hB
  have al := World.grownBy_alloc w (.cells #[.int .i64 2, .int .i64 a, .int .i64 b', .int .i64 c'] 37) none
  have Hal := hid al
  have HD := hid (h.kept0 al)
  have hblk := heap_alloc_last w (.cells #[.int .i64 2, .int .i64 a, .int .i64 b', .int .i64 c'] 37)
  have HBb : Hid (some B ≠ some b ∧ some B ≠ some bx) := hid (by have := h.fq.fr.blt; have := h.fd.blt; simp; omega)
  rw [hB] at hblk
  have Hblk := hid hblk
  clear h hs hK al hblk hB
  go_enter Tryd.func13, Tryd.ntmps13
  try rw [HB.out]
  go_upto_region 7 with (fail)
  try rw [HB.out]
  generalize w.alloc (.cells #[.int .i64 2, .int .i64 a, .int .i64 b', .int .i64 c'] 37) = W0 at HD Hal Hblk ⊢
  have e1 : W0.cell? ⟨B, 1, none⟩ = some (.int .i64 a) := by rw [cell_of_row W0 _ _ _ _ _ Hblk.out]; rfl
  have e2 : W0.cell? ⟨B, 2, none⟩ = some (.int .i64 b') := by rw [cell_of_row W0 _ _ _ _ _ Hblk.out]; rfl
  have hlt0 : B < W0.heap.size := (Array.getElem?_eq_some_iff.1 Hblk.out).1
  have HD0 := hid (HD.out.kept0 (grown_drew (grown_refl W0 none)))
  have hB1 := HBb.out.1
  have hB2 := HBb.out.2
  have hB3 : (some B : Option Nat) ≠ none := by simp
  clear HD Hblk
  go_region_held3 (fun W => W.cell? ⟨B, 1, none⟩ = some (.int .i64 a) ∧ W.cell? ⟨B, 2, none⟩ = some (.int .i64 b') ∧ B < W.heap.size)
    (first | (exact ⟨e1, e2, hlt0⟩) | (go_split_ands; exact ⟨(grown_cell hcb (by assumption) hB1).trans (by assumption), (grown_cell hcb (by assumption) hB1).trans (by assumption), Nat.lt_of_lt_of_le (by assumption) hcb.size⟩) | (go_split_ands; exact ⟨(grown_cell hcb (by assumption) hB2).trans (by assumption), (grown_cell hcb (by assumption) hB2).trans (by assumption), Nat.lt_of_lt_of_le (by assumption) hcb.size⟩) | (go_split_ands; exact ⟨(grown_cell hcb (by assumption) hB3).trans (by assumption), (grown_cell hcb (by assumption) hB3).trans (by assumption), Nat.lt_of_lt_of_le (by assumption) hcb.size⟩))
    (first
      | (go_at_call 22; refine (free_d hXD HS.out a b' E L' HEq.out).mono ?_; rintro e wl ⟨rfl, hLXD, hLXg⟩; have hcb := hLXg)
      | (go_at_call 32; refine (rfree_d hLD HS.out Hok.out (Int.le_of_lt HK.out) a b' a0 E L' HEq.out).mono ?_; rintro e wx ⟨rfl, hLXD, hLXg⟩; have hcb := hLXg)
      | (go_at_call 22; refine (free_d HD0.out HS.out a b' E L' HEq.out).mono ?_; rintro e wl ⟨rfl, hLD, hLg⟩; have hcb := hLg)
      | (go_at_call 32; refine (rfree_d HD0.out HS.out Hok.out (Int.le_of_lt HK.out) a b' a0 E L' HEq.out).mono ?_; rintro e wx ⟨rfl, hXD, hXg⟩; have hcb := hXg)
      | (go_at_call 9; refine (isD hLXD E HE.out).mono ?_; rintro e wi ⟨rfl, hID, hIg⟩; have hcb := hIg))
  all_goals
    go_split_ands
    go_wp2
    go_ret
    have hg0 : w.grownBy W0.drew none := grown_drew Hal.out
    first
      | exact ⟨rfl, (hID.up (by omega) (by have := HK.out; omega)), two_of hg0 hLg hLXg hIg (.inl rfl) (.inr rfl)⟩
      | exact ⟨rfl, (hID.up (by omega) (by have := HK.out; omega)), two_of hg0 hXg hLXg hIg (.inr rfl) (.inl rfl)⟩
set_option maxRecDepth 100000 in
set_option maxHeartbeats 8000000 in
theorem does_make {W : World} {A : Nat → Addr} {w : World} {m b n c mx bx cx : Nat} {L : List Fm} {K : Int} (h : DQ W A w m b n c mx bx cx L L K) (hs : Sents W A) (hK : K < 1000) (a b' c' : Int) (a0 : -9223372036854775808 ≤ a) :
    Calls Tryd.prog 13 #[.pointer (some ⟨m, 0, none⟩), .pointer (some ⟨mx, 0, none⟩), .agg #[.int .i64 3, .int .i64 a, .int .i64 b', .int .i64 c']] w (DoesAt W A w m b n c mx bx cx (doL L 3 a b' c') K) := by
  have HS := hid hs
  have HK := hid hK
  have Hok := hid h.fq.ok
  have edo : doL L 3 a b' c' = (makeF L a b' c').2 := by unfold doL; simp
  rw [edo]
  clear edo
  have HE := hid (makeF_e L a b' c')
  obtain ⟨E, L', hE⟩ : ∃ E L', makeF L a b' c' = (E, L') := ⟨_, _, rfl⟩
  have HEq := hid hE
  rw [hE] at HE ⊢
  clear hE
  simp only at HE ⊢
  obtain ⟨B, hB⟩ : ∃ B, w.heap.size = B := ⟨_, rfl⟩
  have HB := hid hB
  have al := World.grownBy_alloc w (.cells #[.int .i64 3, .int .i64 a, .int .i64 b', .int .i64 c'] 37) none
  have Hal := hid al
  have HD := hid (h.kept0 al)
  have hblk := heap_alloc_last w (.cells #[.int .i64 3, .int .i64 a, .int .i64 b', .int .i64 c'] 37)
  have HBb : Hid (some B ≠ some b ∧ some B ≠ some bx) := hid (by have := h.fq.fr.blt; have := h.fd.blt; simp; omega)
  rw [hB] at hblk
  have Hblk := hid hblk
  clear h hs hK al hblk hB
  go_enter Tryd.func13, Tryd.ntmps13
  try rw [HB.out]
  go_upto_region 9 with (fail)
  try rw [HB.out]
  generalize w.alloc (.cells #[.int .i64 3, .int .i64 a, .int .i64 b', .int .i64 c'] 37) = W0 at HD Hal Hblk ⊢
  have e1 : W0.cell? ⟨B, 1, none⟩ = some (.int .i64 a) := by rw [cell_of_row W0 _ _ _ _ _ Hblk.out]; rfl
  have e2 : W0.cell? ⟨B, 2, none⟩ = some (.int .i64 b') := by rw [cell_of_row W0 _ _ _ _ _ Hblk.out]; rfl
  have e3 : W0.cell? ⟨B, 3, none⟩ = some (.int .i64 c') := by rw [cell_of_row W0 _ _ _ _ _ Hblk.out]; rfl
  have hlt0 : B < W0.heap.size := (Array.getElem?_eq_some_iff.1 Hblk.out).1
  have HD0 := hid (HD.out.kept0 (grown_drew (grown_refl W0 none)))
  have hB1 := HBb.out.1
  have hB2 := HBb.out.2
  have hB3 : (some B : Option Nat) ≠ none := by simp
  clear HD Hblk
  go_region_held3 (fun W => W.cell? ⟨B, 1, none⟩ = some (.int .i64 a) ∧ W.cell? ⟨B, 2, none⟩ = some (.int .i64 b') ∧ W.cell? ⟨B, 3, none⟩ = some (.int .i64 c') ∧ B < W.heap.size)
    (first | (exact ⟨e1, e2, e3, hlt0⟩) | (go_split_ands; exact ⟨(grown_cell hcb (by assumption) hB1).trans (by assumption), (grown_cell hcb (by assumption) hB1).trans (by assumption), (grown_cell hcb (by assumption) hB1).trans (by assumption), Nat.lt_of_lt_of_le (by assumption) hcb.size⟩) | (go_split_ands; exact ⟨(grown_cell hcb (by assumption) hB2).trans (by assumption), (grown_cell hcb (by assumption) hB2).trans (by assumption), (grown_cell hcb (by assumption) hB2).trans (by assumption), Nat.lt_of_lt_of_le (by assumption) hcb.size⟩) | (go_split_ands; exact ⟨(grown_cell hcb (by assumption) hB3).trans (by assumption), (grown_cell hcb (by assumption) hB3).trans (by assumption), (grown_cell hcb (by assumption) hB3).trans (by assumption), Nat.lt_of_lt_of_le (by assumption) hcb.size⟩))
    (first
      | (go_at_call 21; refine (make_d hXD HS.out a b' c' E L' HEq.out).mono ?_; rintro e wl ⟨rfl, hLXD, hLXg⟩; have hcb := hLXg)
      | (go_at_call 33; refine (rmake_d hLD HS.out Hok.out (Int.le_of_lt HK.out) a b' c' a0 E L' HEq.out).mono ?_; rintro e wx ⟨rfl, hLXD, hLXg⟩; have hcb := hLXg)
      | (go_at_call 21; refine (make_d HD0.out HS.out a b' c' E L' HEq.out).mono ?_; rintro e wl ⟨rfl, hLD, hLg⟩; have hcb := hLg)
      | (go_at_call 33; refine (rmake_d HD0.out HS.out Hok.out (Int.le_of_lt HK.out) a b' c' a0 E L' HEq.out).mono ?_; rintro e wx ⟨rfl, hXD, hXg⟩; have hcb := hXg)
      | (go_at_call 9; refine (isD hLXD E HE.out).mono ?_; rintro e wi ⟨rfl, hID, hIg⟩; have hcb := hIg))
  all_goals
    go_split_ands
    go_wp2
    go_ret
    have hg0 : w.grownBy W0.drew none := grown_drew Hal.out
    first
      | exact ⟨rfl, (hID.up (by omega) (by have := HK.out; omega)), two_of hg0 hLg hLXg hIg (.inl rfl) (.inr rfl)⟩
      | exact ⟨rfl, (hID.up (by omega) (by have := HK.out; omega)), two_of hg0 hXg hLXg hIg (.inr rfl) (.inl rfl)⟩
set_option maxRecDepth 100000 in
set_option maxHeartbeats 8000000 in
theorem does_plain {W : World} {A : Nat → Addr} {w : World} {m b n c mx bx cx : Nat} {L : List Fm} {K : Int} (h : DQ W A w m b n c mx bx cx L L K) (hs : Sents W A) (hK : K < 1000) (a b' c' : Int) (a0 : -9223372036854775808 ≤ a) :
    Calls Tryd.prog 13 #[.pointer (some ⟨m, 0, none⟩), .pointer (some ⟨mx, 0, none⟩), .agg #[.int .i64 4, .int .i64 a, .int .i64 b', .int .i64 c']] w (DoesAt W A w m b n c mx bx cx (doL L 4 a b' c') K) := by
  have HS := hid hs
  have HK := hid hK
  have Hok := hid h.fq.ok
  have edo : doL L 4 a b' c' = (plainF L a b').2 := by unfold doL; simp
  rw [edo]
  clear edo
  have HE := hid (plainF_e L a b')
  obtain ⟨E, L', hE⟩ : ∃ E L', plainF L a b' = (E, L') := ⟨_, _, rfl⟩
  have HEq := hid hE
  rw [hE] at HE ⊢
  clear hE
  simp only at HE ⊢
  obtain ⟨B, hB⟩ : ∃ B, w.heap.size = B := ⟨_, rfl⟩
  have HB := hid hB
  have al := World.grownBy_alloc w (.cells #[.int .i64 4, .int .i64 a, .int .i64 b', .int .i64 c'] 37) none
  have Hal := hid al
  have HD := hid (h.kept0 al)
  have hblk := heap_alloc_last w (.cells #[.int .i64 4, .int .i64 a, .int .i64 b', .int .i64 c'] 37)
  have HBb : Hid (some B ≠ some b ∧ some B ≠ some bx) := hid (by have := h.fq.fr.blt; have := h.fd.blt; simp; omega)
  rw [hB] at hblk
  have Hblk := hid hblk
  clear h hs hK al hblk hB
  go_enter Tryd.func13, Tryd.ntmps13
  try rw [HB.out]
  go_upto_region 11 with (fail)
  try rw [HB.out]
  generalize w.alloc (.cells #[.int .i64 4, .int .i64 a, .int .i64 b', .int .i64 c'] 37) = W0 at HD Hal Hblk ⊢
  have e1 : W0.cell? ⟨B, 1, none⟩ = some (.int .i64 a) := by rw [cell_of_row W0 _ _ _ _ _ Hblk.out]; rfl
  have e2 : W0.cell? ⟨B, 2, none⟩ = some (.int .i64 b') := by rw [cell_of_row W0 _ _ _ _ _ Hblk.out]; rfl
  have hlt0 : B < W0.heap.size := (Array.getElem?_eq_some_iff.1 Hblk.out).1
  have HD0 := hid (HD.out.kept0 (grown_drew (grown_refl W0 none)))
  have hB1 := HBb.out.1
  have hB2 := HBb.out.2
  have hB3 : (some B : Option Nat) ≠ none := by simp
  clear HD Hblk
  go_region_held3 (fun W => W.cell? ⟨B, 1, none⟩ = some (.int .i64 a) ∧ W.cell? ⟨B, 2, none⟩ = some (.int .i64 b') ∧ B < W.heap.size)
    (first | (exact ⟨e1, e2, hlt0⟩) | (go_split_ands; exact ⟨(grown_cell hcb (by assumption) hB1).trans (by assumption), (grown_cell hcb (by assumption) hB1).trans (by assumption), Nat.lt_of_lt_of_le (by assumption) hcb.size⟩) | (go_split_ands; exact ⟨(grown_cell hcb (by assumption) hB2).trans (by assumption), (grown_cell hcb (by assumption) hB2).trans (by assumption), Nat.lt_of_lt_of_le (by assumption) hcb.size⟩) | (go_split_ands; exact ⟨(grown_cell hcb (by assumption) hB3).trans (by assumption), (grown_cell hcb (by assumption) hB3).trans (by assumption), Nat.lt_of_lt_of_le (by assumption) hcb.size⟩))
    (first
      | (go_at_call 23; refine (plain_d hXD HS.out a b' E L' HEq.out).mono ?_; rintro e wl ⟨rfl, hLXD, hLXg⟩; have hcb := hLXg)
      | (go_at_call 34; refine (rplain_d hLD HS.out Hok.out (Int.le_of_lt HK.out) a b' a0 E L' HEq.out).mono ?_; rintro e wx ⟨rfl, hLXD, hLXg⟩; have hcb := hLXg)
      | (go_at_call 23; refine (plain_d HD0.out HS.out a b' E L' HEq.out).mono ?_; rintro e wl ⟨rfl, hLD, hLg⟩; have hcb := hLg)
      | (go_at_call 34; refine (rplain_d HD0.out HS.out Hok.out (Int.le_of_lt HK.out) a b' a0 E L' HEq.out).mono ?_; rintro e wx ⟨rfl, hXD, hXg⟩; have hcb := hXg)
      | (go_at_call 9; refine (isD hLXD E HE.out).mono ?_; rintro e wi ⟨rfl, hID, hIg⟩; have hcb := hIg))
  all_goals
    go_split_ands
    go_wp2
    go_ret
    have hg0 : w.grownBy W0.drew none := grown_drew Hal.out
    first
      | exact ⟨rfl, (hID.up (by omega) (by have := HK.out; omega)), two_of hg0 hLg hLXg hIg (.inl rfl) (.inr rfl)⟩
      | exact ⟨rfl, (hID.up (by omega) (by have := HK.out; omega)), two_of hg0 hXg hLXg hIg (.inr rfl) (.inl rfl)⟩
set_option maxRecDepth 100000 in
set_option maxHeartbeats 8000000 in
theorem does_write {W : World} {A : Nat → Addr} {w : World} {m b n c mx bx cx : Nat} {L : List Fm} {K : Int} (h : DQ W A w m b n c mx bx cx L L K) (hs : Sents W A) (hK : K < 1000) (a b' c' : Int) :
    Calls Tryd.prog 13 #[.pointer (some ⟨m, 0, none⟩), .pointer (some ⟨mx, 0, none⟩), .agg #[.int .i64 5, .int .i64 a, .int .i64 b', .int .i64 c']] w (DoesAt W A w m b n c mx bx cx (doL L 5 a b' c') K) := by
  have HS := hid hs
  have HK := hid hK
  have Hok := hid h.fq.ok
  have edo : doL L 5 a b' c' = (writeF L a).2 := by unfold doL; simp
  rw [edo]
  clear edo
  have HE := hid (writeF_e L a)
  obtain ⟨E, L', hE⟩ : ∃ E L', writeF L a = (E, L') := ⟨_, _, rfl⟩
  have HEq := hid hE
  rw [hE] at HE ⊢
  clear hE
  simp only at HE ⊢
  obtain ⟨B, hB⟩ : ∃ B, w.heap.size = B := ⟨_, rfl⟩
  have HB := hid hB
  have al := World.grownBy_alloc w (.cells #[.int .i64 5, .int .i64 a, .int .i64 b', .int .i64 c'] 37) none
  have Hal := hid al
  have HD := hid (h.kept0 al)
  have hblk := heap_alloc_last w (.cells #[.int .i64 5, .int .i64 a, .int .i64 b', .int .i64 c'] 37)
  have HBb : Hid (some B ≠ some b ∧ some B ≠ some bx) := hid (by have := h.fq.fr.blt; have := h.fd.blt; simp; omega)
  rw [hB] at hblk
  have Hblk := hid hblk
  clear h hs hK al hblk hB
  go_enter Tryd.func13, Tryd.ntmps13
  try rw [HB.out]
  go_upto_region 13 with (fail)
  try rw [HB.out]
  generalize w.alloc (.cells #[.int .i64 5, .int .i64 a, .int .i64 b', .int .i64 c'] 37) = W0 at HD Hal Hblk ⊢
  have e1 : W0.cell? ⟨B, 1, none⟩ = some (.int .i64 a) := by rw [cell_of_row W0 _ _ _ _ _ Hblk.out]; rfl
  have hlt0 : B < W0.heap.size := (Array.getElem?_eq_some_iff.1 Hblk.out).1
  have HD0 := hid (HD.out.kept0 (grown_drew (grown_refl W0 none)))
  have hB1 := HBb.out.1
  have hB2 := HBb.out.2
  have hB3 : (some B : Option Nat) ≠ none := by simp
  clear HD Hblk
  go_region_held3 (fun W => W.cell? ⟨B, 1, none⟩ = some (.int .i64 a) ∧ B < W.heap.size)
    (first | (exact ⟨e1, hlt0⟩) | (go_split_ands; exact ⟨(grown_cell hcb (by assumption) hB1).trans (by assumption), Nat.lt_of_lt_of_le (by assumption) hcb.size⟩) | (go_split_ands; exact ⟨(grown_cell hcb (by assumption) hB2).trans (by assumption), Nat.lt_of_lt_of_le (by assumption) hcb.size⟩) | (go_split_ands; exact ⟨(grown_cell hcb (by assumption) hB3).trans (by assumption), Nat.lt_of_lt_of_le (by assumption) hcb.size⟩))
    (first
      | (go_at_call 19; refine (write_d hXD HS.out HK.out a E L' HEq.out).mono ?_; rintro e wl ⟨rfl, hLXD, hLXg⟩; have hcb := hLXg)
      | (go_at_call 35; refine (rwrite_d hLD HS.out Hok.out (Int.le_of_lt HK.out) a E L' HEq.out).mono ?_; rintro e wx ⟨rfl, hLXD, hLXg⟩; have hcb := hLXg)
      | (go_at_call 19; refine (write_d HD0.out HS.out HK.out a E L' HEq.out).mono ?_; rintro e wl ⟨rfl, hLD, hLg⟩; have hcb := hLg)
      | (go_at_call 35; refine (rwrite_d HD0.out HS.out Hok.out (Int.le_of_lt HK.out) a E L' HEq.out).mono ?_; rintro e wx ⟨rfl, hXD, hXg⟩; have hcb := hXg)
      | (go_at_call 9; refine (isD hLXD E HE.out).mono ?_; rintro e wi ⟨rfl, hID, hIg⟩; have hcb := hIg))
  all_goals
    go_split_ands
    go_wp2
    go_ret
    have hg0 : w.grownBy W0.drew none := grown_drew Hal.out
    first
      | exact ⟨rfl, hID, two_of hg0 hLg hLXg hIg (.inl rfl) (.inr rfl)⟩
      | exact ⟨rfl, hID, two_of hg0 hXg hLXg hIg (.inr rfl) (.inl rfl)⟩
set_option maxRecDepth 100000 in
set_option maxHeartbeats 8000000 in
theorem does_unwrite {W : World} {A : Nat → Addr} {w : World} {m b n c mx bx cx : Nat} {L : List Fm} {K : Int} (h : DQ W A w m b n c mx bx cx L L K) (hs : Sents W A) (hK : K < 1000) (a b' c' : Int) :
    Calls Tryd.prog 13 #[.pointer (some ⟨m, 0, none⟩), .pointer (some ⟨mx, 0, none⟩), .agg #[.int .i64 6, .int .i64 a, .int .i64 b', .int .i64 c']] w (DoesAt W A w m b n c mx bx cx (doL L 6 a b' c') K) := by
  have HS := hid hs
  have HK := hid hK
  have Hok := hid h.fq.ok
  have edo : doL L 6 a b' c' = (unwriteF L a).2 := by unfold doL; simp
  rw [edo]
  clear edo
  have HE := hid (unwriteF_e L a)
  obtain ⟨E, L', hE⟩ : ∃ E L', unwriteF L a = (E, L') := ⟨_, _, rfl⟩
  have HEq := hid hE
  rw [hE] at HE ⊢
  clear hE
  simp only at HE ⊢
  obtain ⟨B, hB⟩ : ∃ B, w.heap.size = B := ⟨_, rfl⟩
  have HB := hid hB
  have al := World.grownBy_alloc w (.cells #[.int .i64 6, .int .i64 a, .int .i64 b', .int .i64 c'] 37) none
  have Hal := hid al
  have HD := hid (h.kept0 al)
  have hblk := heap_alloc_last w (.cells #[.int .i64 6, .int .i64 a, .int .i64 b', .int .i64 c'] 37)
  have HBb : Hid (some B ≠ some b ∧ some B ≠ some bx) := hid (by have := h.fq.fr.blt; have := h.fd.blt; simp; omega)
  rw [hB] at hblk
  have Hblk := hid hblk
  clear h hs hK al hblk hB
  go_enter Tryd.func13, Tryd.ntmps13
  try rw [HB.out]
  go_upto_region 15 with (fail)
  try rw [HB.out]
  generalize w.alloc (.cells #[.int .i64 6, .int .i64 a, .int .i64 b', .int .i64 c'] 37) = W0 at HD Hal Hblk ⊢
  have e1 : W0.cell? ⟨B, 1, none⟩ = some (.int .i64 a) := by rw [cell_of_row W0 _ _ _ _ _ Hblk.out]; rfl
  have hlt0 : B < W0.heap.size := (Array.getElem?_eq_some_iff.1 Hblk.out).1
  have HD0 := hid (HD.out.kept0 (grown_drew (grown_refl W0 none)))
  have hB1 := HBb.out.1
  have hB2 := HBb.out.2
  have hB3 : (some B : Option Nat) ≠ none := by simp
  clear HD Hblk
  go_region_held3 (fun W => W.cell? ⟨B, 1, none⟩ = some (.int .i64 a) ∧ B < W.heap.size)
    (first | (exact ⟨e1, hlt0⟩) | (go_split_ands; exact ⟨(grown_cell hcb (by assumption) hB1).trans (by assumption), Nat.lt_of_lt_of_le (by assumption) hcb.size⟩) | (go_split_ands; exact ⟨(grown_cell hcb (by assumption) hB2).trans (by assumption), Nat.lt_of_lt_of_le (by assumption) hcb.size⟩) | (go_split_ands; exact ⟨(grown_cell hcb (by assumption) hB3).trans (by assumption), Nat.lt_of_lt_of_le (by assumption) hcb.size⟩))
    (first
      | (go_at_call 25; refine (unwrite_d hXD HS.out a E L' HEq.out).mono ?_; rintro e wl ⟨rfl, hLXD, hLXg⟩; have hcb := hLXg)
      | (go_at_call 36; refine (runwrite_d hLD HS.out Hok.out (Int.le_of_lt HK.out) a E L' HEq.out).mono ?_; rintro e wx ⟨rfl, hLXD, hLXg⟩; have hcb := hLXg)
      | (go_at_call 25; refine (unwrite_d HD0.out HS.out a E L' HEq.out).mono ?_; rintro e wl ⟨rfl, hLD, hLg⟩; have hcb := hLg)
      | (go_at_call 36; refine (runwrite_d HD0.out HS.out Hok.out (Int.le_of_lt HK.out) a E L' HEq.out).mono ?_; rintro e wx ⟨rfl, hXD, hXg⟩; have hcb := hXg)
      | (go_at_call 9; refine (isD hLXD E HE.out).mono ?_; rintro e wi ⟨rfl, hID, hIg⟩; have hcb := hIg))
  all_goals
    go_split_ands
    go_wp2
    go_ret
    have hg0 : w.grownBy W0.drew none := grown_drew Hal.out
    first
      | exact ⟨rfl, (hID.up (by omega) (by have := HK.out; omega)), two_of hg0 hLg hLXg hIg (.inl rfl) (.inr rfl)⟩
      | exact ⟨rfl, (hID.up (by omega) (by have := HK.out; omega)), two_of hg0 hXg hLXg hIg (.inr rfl) (.inl rfl)⟩
set_option maxRecDepth 100000 in
set_option maxHeartbeats 8000000 in
theorem does_use {W : World} {A : Nat → Addr} {w : World} {m b n c mx bx cx : Nat} {L : List Fm} {K : Int} (h : DQ W A w m b n c mx bx cx L L K) (hs : Sents W A) (hK : K < 1000) (a b' c' : Int) :
    Calls Tryd.prog 13 #[.pointer (some ⟨m, 0, none⟩), .pointer (some ⟨mx, 0, none⟩), .agg #[.int .i64 7, .int .i64 a, .int .i64 b', .int .i64 c']] w (DoesAt W A w m b n c mx bx cx (doL L 7 a b' c') K) := by
  have HS := hid hs
  have HK := hid hK
  have Hok := hid h.fq.ok
  have edo : doL L 7 a b' c' = (useF L a).2 := by unfold doL; simp
  rw [edo]
  clear edo
  have HE := hid (useF_e L a)
  obtain ⟨E, L', hE⟩ : ∃ E L', useF L a = (E, L') := ⟨_, _, rfl⟩
  have HEq := hid hE
  rw [hE] at HE ⊢
  clear hE
  simp only at HE ⊢
  obtain ⟨B, hB⟩ : ∃ B, w.heap.size = B := ⟨_, rfl⟩
  have HB := hid hB
  have al := World.grownBy_alloc w (.cells #[.int .i64 7, .int .i64 a, .int .i64 b', .int .i64 c'] 37) none
  have Hal := hid al
  have HD := hid (h.kept0 al)
  have hblk := heap_alloc_last w (.cells #[.int .i64 7, .int .i64 a, .int .i64 b', .int .i64 c'] 37)
  have HBb : Hid (some B ≠ some b ∧ some B ≠ some bx) := hid (by have := h.fq.fr.blt; have := h.fd.blt; simp; omega)
  rw [hB] at hblk
  have Hblk := hid hblk
  clear h hs hK al hblk hB
  go_enter Tryd.func13, Tryd.ntmps13
  try rw [HB.out]
  go_upto_region 17 with (fail)
  try rw [HB.out]
  generalize w.alloc (.cells #[.int .i64 7, .int .i64 a, .int .i64 b', .int .i64 c'] 37) = W0 at HD Hal Hblk ⊢
  have e1 : W0.cell? ⟨B, 1, none⟩ = some (.int .i64 a) := by rw [cell_of_row W0 _ _ _ _ _ Hblk.out]; rfl
  have hlt0 : B < W0.heap.size := (Array.getElem?_eq_some_iff.1 Hblk.out).1
  have HD0 := hid (HD.out.kept0 (grown_drew (grown_refl W0 none)))
  have hB1 := HBb.out.1
  have hB2 := HBb.out.2
  have hB3 : (some B : Option Nat) ≠ none := by simp
  clear HD Hblk
  go_region_held3 (fun W => W.cell? ⟨B, 1, none⟩ = some (.int .i64 a) ∧ B < W.heap.size)
    (first | (exact ⟨e1, hlt0⟩) | (go_split_ands; exact ⟨(grown_cell hcb (by assumption) hB1).trans (by assumption), Nat.lt_of_lt_of_le (by assumption) hcb.size⟩) | (go_split_ands; exact ⟨(grown_cell hcb (by assumption) hB2).trans (by assumption), Nat.lt_of_lt_of_le (by assumption) hcb.size⟩) | (go_split_ands; exact ⟨(grown_cell hcb (by assumption) hB3).trans (by assumption), Nat.lt_of_lt_of_le (by assumption) hcb.size⟩))
    (first
      | (go_at_call 20; refine (use_d hXD HS.out HK.out a E L' HEq.out).mono ?_; rintro e wl ⟨rfl, hLXD, hLXg⟩; have hcb := hLXg)
      | (go_at_call 37; refine (ruse_d hLD HS.out Hok.out (Int.le_of_lt HK.out) a E L' HEq.out).mono ?_; rintro e wx ⟨rfl, hLXD, hLXg⟩; have hcb := hLXg)
      | (go_at_call 20; refine (use_d HD0.out HS.out HK.out a E L' HEq.out).mono ?_; rintro e wl ⟨rfl, hLD, hLg⟩; have hcb := hLg)
      | (go_at_call 37; refine (ruse_d HD0.out HS.out Hok.out (Int.le_of_lt HK.out) a E L' HEq.out).mono ?_; rintro e wx ⟨rfl, hXD, hXg⟩; have hcb := hXg)
      | (go_at_call 9; refine (isD hLXD E HE.out).mono ?_; rintro e wi ⟨rfl, hID, hIg⟩; have hcb := hIg))
  all_goals
    go_split_ands
    go_wp2
    go_ret
    have hg0 : w.grownBy W0.drew none := grown_drew Hal.out
    first
      | exact ⟨rfl, hID, two_of hg0 hLg hLXg hIg (.inl rfl) (.inr rfl)⟩
      | exact ⟨rfl, hID, two_of hg0 hXg hLXg hIg (.inr rfl) (.inl rfl)⟩
set_option maxRecDepth 100000 in
set_option maxHeartbeats 8000000 in
theorem does_unuse {W : World} {A : Nat → Addr} {w : World} {m b n c mx bx cx : Nat} {L : List Fm} {K : Int} (h : DQ W A w m b n c mx bx cx L L K) (hs : Sents W A) (hK : K < 1000) (kd : Int) (a b' c' : Int) (hk : ¬ kd = 1 ∧ ¬ kd = 2 ∧ ¬ kd = 3 ∧ ¬ kd = 4 ∧ ¬ kd = 5 ∧ ¬ kd = 6 ∧ ¬ kd = 7) :
    Calls Tryd.prog 13 #[.pointer (some ⟨m, 0, none⟩), .pointer (some ⟨mx, 0, none⟩), .agg #[.int .i64 kd, .int .i64 a, .int .i64 b', .int .i64 c']] w (DoesAt W A w m b n c mx bx cx (doL L kd a b' c') K) := by
  have HS := hid hs
  have HK := hid hK
  have Hok := hid h.fq.ok
  have edo : doL L kd a b' c' = (unuseF L a).2 := by unfold doL; rw [if_neg hk.1, if_neg hk.2.1, if_neg hk.2.2.1, if_neg hk.2.2.2.1, if_neg hk.2.2.2.2.1, if_neg hk.2.2.2.2.2.1, if_neg hk.2.2.2.2.2.2]
  have q1 : (kd == 1) = false := by simpa using hk.1
  have q2 : (kd == 2) = false := by simpa using hk.2.1
  have q3 : (kd == 3) = false := by simpa using hk.2.2.1
  have q4 : (kd == 4) = false := by simpa using hk.2.2.2.1
  have q5 : (kd == 5) = false := by simpa using hk.2.2.2.2.1
  have q6 : (kd == 6) = false := by simpa using hk.2.2.2.2.2.1
  have q7 : (kd == 7) = false := by simpa using hk.2.2.2.2.2.2
  clear hk
  rw [edo]
  clear edo
  have HE := hid (unuseF_e L a)
  obtain ⟨E, L', hE⟩ : ∃ E L', unuseF L a = (E, L') := ⟨_, _, rfl⟩
  have HEq := hid hE
  rw [hE] at HE ⊢
  clear hE
  simp only at HE ⊢
  obtain ⟨B, hB⟩ : ∃ B, w.heap.size = B := ⟨_, rfl⟩
  have HB := hid hB
  have al := World.grownBy_alloc w (.cells #[.int .i64 kd, .int .i64 a, .int .i64 b', .int .i64 c'] 37) none
  have Hal := hid al
  have HD := hid (h.kept0 al)
  have hblk := heap_alloc_last w (.cells #[.int .i64 kd, .int .i64 a, .int .i64 b', .int .i64 c'] 37)
  have HBb : Hid (some B ≠ some b ∧ some B ≠ some bx) := hid (by have := h.fq.fr.blt; have := h.fd.blt; simp; omega)
  rw [hB] at hblk
  have Hblk := hid hblk
  clear h hs hK al hblk hB
  go_enter Tryd.func13, Tryd.ntmps13
  try rw [HB.out]
  go_upto_region 18 with (fail)
  try rw [HB.out]
  generalize w.alloc (.cells #[.int .i64 kd, .int .i64 a, .int .i64 b', .int .i64 c'] 37) = W0 at HD Hal Hblk ⊢
  have e1 : W0.cell? ⟨B, 1, none⟩ = some (.int .i64 a) := by rw [cell_of_row W0 _ _ _ _ _ Hblk.out]; rfl
  have hlt0 : B < W0.heap.size := (Array.getElem?_eq_some_iff.1 Hblk.out).1
  have HD0 := hid (HD.out.kept0 (grown_drew (grown_refl W0 none)))
  have hB1 := HBb.out.1
  have hB2 := HBb.out.2
  have hB3 : (some B : Option Nat) ≠ none := by simp
  clear HD Hblk
  go_region_held3 (fun W => W.cell? ⟨B, 1, none⟩ = some (.int .i64 a) ∧ B < W.heap.size)
    (first | (exact ⟨e1, hlt0⟩) | (go_split_ands; exact ⟨(grown_cell hcb (by assumption) hB1).trans (by assumption), Nat.lt_of_lt_of_le (by assumption) hcb.size⟩) | (go_split_ands; exact ⟨(grown_cell hcb (by assumption) hB2).trans (by assumption), Nat.lt_of_lt_of_le (by assumption) hcb.size⟩) | (go_split_ands; exact ⟨(grown_cell hcb (by assumption) hB3).trans (by assumption), Nat.lt_of_lt_of_le (by assumption) hcb.size⟩))
    (first
      | (go_at_call 24; refine (unuse_d hXD HS.out a E L' HEq.out).mono ?_; rintro e wl ⟨rfl, hLXD, hLXg⟩; have hcb := hLXg)
      | (go_at_call 38; refine (runuse_d hLD HS.out Hok.out (Int.le_of_lt HK.out) a E L' HEq.out).mono ?_; rintro e wx ⟨rfl, hLXD, hLXg⟩; have hcb := hLXg)
      | (go_at_call 24; refine (unuse_d HD0.out HS.out a E L' HEq.out).mono ?_; rintro e wl ⟨rfl, hLD, hLg⟩; have hcb := hLg)
      | (go_at_call 38; refine (runuse_d HD0.out HS.out Hok.out (Int.le_of_lt HK.out) a E L' HEq.out).mono ?_; rintro e wx ⟨rfl, hXD, hXg⟩; have hcb := hXg)
      | (go_at_call 9; refine (isD hLXD E HE.out).mono ?_; rintro e wi ⟨rfl, hID, hIg⟩; have hcb := hIg))
  all_goals
    go_split_ands
    go_wp2
    go_ret
    have hg0 : w.grownBy W0.drew none := grown_drew Hal.out
    first
      | exact ⟨rfl, (hID.up (by omega) (by have := HK.out; omega)), two_of hg0 hLg hLXg hIg (.inl rfl) (.inr rfl)⟩
      | exact ⟨rfl, (hID.up (by omega) (by have := HK.out; omega)), two_of hg0 hXg hLXg hIg (.inr rfl) (.inl rfl)⟩
set_option maxRecDepth 100000 in
set_option maxHeartbeats 8000000 in
theorem does_alloc {W : World} {A : Nat → Addr} {w : World} {m b n c mx bx cx : Nat} {L : List Fm} {K : Int} (h : DQ W A w m b n c mx bx cx L L K) (hs : Sents W A) (hK : K < 1000) (a b' c' : Int) :
    Calls Tryd.prog 13 #[.pointer (some ⟨m, 0, none⟩), .pointer (some ⟨mx, 0, none⟩), .agg #[.int .i64 1, .int .i64 a, .int .i64 b', .int .i64 c']] w (DoesAt W A w m b n c mx bx cx (doL L 1 a b' c') K) := by
  have HS := hid hs
  have HK := hid hK
  have Hok := hid h.fq.ok
  have edo : doL L 1 a b' c' = (allocF L a).2.2 := by unfold doL; simp
  rw [edo]
  clear edo
  have HE := hid (allocF_e L a)
  obtain ⟨E, k, L', hE⟩ : ∃ E k L', allocF L a = (E, k, L') := ⟨_, _, _, rfl⟩
  have HEq := hid hE
  rw [hE] at HE ⊢
  clear hE
  simp only at HE ⊢
  obtain ⟨B, hB⟩ : ∃ B, w.heap.size = B := ⟨_, rfl⟩
  have HB := hid hB
  have al := World.grownBy_alloc w (.cells #[.int .i64 1, .int .i64 a, .int .i64 b', .int .i64 c'] 37) none
  have Hal := hid al
  have HD := hid (h.kept0 al)
  have hblk := heap_alloc_last w (.cells #[.int .i64 1, .int .i64 a, .int .i64 b', .int .i64 c'] 37)
  have HBb : Hid (some B ≠ some b ∧ some B ≠ some bx) := hid (by have := h.fq.fr.blt; have := h.fd.blt; simp; omega)
  rw [hB] at hblk
  have Hblk := hid hblk
  clear h hs hK al hblk hB
  go_enter Tryd.func13, Tryd.ntmps13
  try rw [HB.out]
  go_upto_region 3 with (fail)
  try rw [HB.out]
  generalize w.alloc (.cells #[.int .i64 1, .int .i64 a, .int .i64 b', .int .i64 c'] 37) = W0 at HD Hal Hblk ⊢
  have e1 : W0.cell? ⟨B, 1, none⟩ = some (.int .i64 a) := by rw [cell_of_row W0 _ _ _ _ _ Hblk.out]; rfl
  have hlt0 : B < W0.heap.size := (Array.getElem?_eq_some_iff.1 Hblk.out).1
  have He1 := hid e1
  have Hlt0 := hid hlt0
  clear hlt0
  go_wp2_with fail
  refine (alloc_d HD.out HS.out a E k L' HEq.out).mono ?_
  rintro e wl ⟨rfl, hLD, hLg⟩
  have e2 : wl.cell? ⟨B, 1, none⟩ = some (.int .i64 a) := (grown_cell hLg Hlt0.out HBb.out.1).trans He1.out
  have HLD := hid hLD
  have HLg := hid hLg
  clear hLD hLg HD Hblk
  go_wp2_with fail
  refine (ralloc_d HLD.out HS.out a E k L' HEq.out).mono ?_
  rintro e wx ⟨rfl, hLXD, hLXg⟩
  have HLXD := hid hLXD
  have HLXg := hid hLXg
  clear hLXD hLXg HLD
  go_wp2_with fail
  refine (isD HLXD.out E HE.out).mono ?_
  rintro e wi ⟨rfl, hID, hIg⟩
  have HID := hid hID
  have HIg := hid hIg
  clear hID hIg HLXD
  go_wp2
  go_ret
  exact ⟨rfl, HID.out.up (by omega) (by have := HK.out; omega), two_of Hal.out HLg.out HLXg.out HIg.out (.inl rfl) (.inr rfl)⟩
theorem does_any {W : World} {A : Nat → Addr} {w : World} {m b n c mx bx cx : Nat} {L : List Fm} {K : Int} (h : DQ W A w m b n c mx bx cx L L K) (hs : Sents W A) (hK : K < 1000) (kd a b' c' : Int) (a0 : -9223372036854775808 ≤ a) :
    Calls Tryd.prog 13 #[.pointer (some ⟨m, 0, none⟩), .pointer (some ⟨mx, 0, none⟩), .agg #[.int .i64 kd, .int .i64 a, .int .i64 b', .int .i64 c']] w (DoesAt W A w m b n c mx bx cx (doL L kd a b' c') K) := by
  by_cases h1 : kd = 1
  · subst h1; exact does_alloc h hs hK a b' c'
  by_cases h2 : kd = 2
  · subst h2; exact does_free h hs hK a b' c' a0
  by_cases h3 : kd = 3
  · subst h3; exact does_make h hs hK a b' c' a0
  by_cases h4 : kd = 4
  · subst h4; exact does_plain h hs hK a b' c' a0
  by_cases h5 : kd = 5
  · subst h5; exact does_write h hs hK a b' c'
  by_cases h6 : kd = 6
  · subst h6; exact does_unwrite h hs hK a b' c'
  by_cases h7 : kd = 7
  · subst h7; exact does_use h hs hK a b' c'
  exact does_unuse h hs hK kd a b' c' ⟨h1, h2, h3, h4, h5, h6, h7⟩
end Go.Proofs.YtcfagdmaephkdaaDoor
namespace Go.Proofs.YtcfagdmaephkdaaDoor
open Go.RowKit Go.WideShapes Go.ChangeShapes Go.Deep
/-- one thing -/
structure FDo where
  kind : Int
  a : Int
  b : Int
  c : Int
/-- the cells of a thing -/
def FDo.cells (d : FDo) : List Value := [.int .i64 d.kind, .int .i64 d.a, .int .i64 d.b, .int .i64 d.c]
def FDo.fits (d : FDo) : Prop := -9223372036854775808 ≤ d.a ∧ d.a ≤ 9223372036854775807
/-- a slice that reads as these things -/
structure FDosAt (w : World) (p : Option Addr) (N : Nat) (ds : List FDo) : Prop where
  len : ds.length = N
  cell : ∀ j d, ds[j]? = some d → ∃ b o, p = some ⟨b, o, none⟩ ∧ b < w.heap.size ∧ ∀ i c, d.cells[i]? = some c → w.cell? ⟨b, o + (j * 4 + i), none⟩ = some c
  wide : ∀ d ∈ ds, d.fits
section
variable {H : Type} {enc : TypeId × Value → H} {W : World}
set_option maxRecDepth 100000 in
/-- one thing opened -/
theorem fdo_of {fuel : Nat} {cs : List Value} {x : DataW H × List MemPlace} (h : DataW.trod enc Tryd.prog W 0 (fun _ => true) true fuel 37 cs = some x) :
    ∃ d : FDo, cs = d.cells ∧ d.fits := by
  have c1 : Tryd.prog.cellsOf 3 = 1 := by kernel_rfl
  have c4 : Tryd.prog.cellsOf 37 = 4 := by kernel_rfl
  obtain ⟨xs, n, _, _, hlen, hxl, hg⟩ := DataW.trod_struct Tryd.underlying37 h
  rw [c4] at hlen
  match cs, hlen, xs, hxl with
  | [v0, v1, v2, v3], _, [y0, y1, y2, y3], _ =>
    have g0 := hg 0 _ rfl
    have g1 := hg 1 _ rfl
    have g2 := hg 2 _ rfl
    have g3 := hg 3 _ rfl
    simp [c1] at g0 g1 g2 g3
    obtain ⟨a0, e0, _, _⟩ := DataW.trod_int Tryd.underlying3 g0
    obtain ⟨a1, e1, _, w1⟩ := DataW.trod_int Tryd.underlying3 g1
    obtain ⟨a2, e2, _, _⟩ := DataW.trod_int Tryd.underlying3 g2
    obtain ⟨a3, e3, _, _⟩ := DataW.trod_int Tryd.underlying3 g3
    simp only [List.cons.injEq, and_true] at e0 e1 e2 e3
    subst e0; subst e1; subst e2; subst e3
    exact ⟨⟨a0, a1, a2, a3⟩, rfl, i64_bd w1⟩
set_option maxRecDepth 100000 in
/-- the slice of things -/
theorem fdos_of {base : Nat} {v : Value} {d : DataW H} {ps : List MemPlace} (hv : Value.okWide Tryd.prog W .any base 22 v) (h : DataW.Trod enc Tryd.prog W 0 (fun _ => true) true 22 v d ps) :
    ∃ p N c ds, v = .slice p N c ∧ FDosAt W p N ds ∧ N ≤ maxLen := by
  have c47 : Tryd.prog.cellsOf 37 = 4 := by kernel_rfl
  obtain ⟨p, len, cap, rfl⟩ := okWide_slice Tryd.underlying22 hv
  obtain ⟨fuel, hf⟩ := h
  have hf' : DataW.trod enc Tryd.prog W 0 (fun _ => true) true fuel 22 [.slice p len cap] = some (d, ps) := by simpa [Value.cells] using hf
  rcases open_slice Tryd.underlying22 hf' with ⟨hcs, _⟩ | ⟨a, len', cap', m, n, D, Pl, hcs, _, hl, hm, hmm, _, hi⟩
  · simp at hcs
    obtain ⟨rfl, rfl, rfl⟩ := hcs
    exact ⟨none, 0, 0, [], rfl, ⟨rfl, by simp, by simp⟩, by simp⟩
  · simp only [List.cons.injEq, Value.slice.injEq, and_true] at hcs
    obtain ⟨rfl, rfl, rfl⟩ := hcs
    simp only [if_true] at hmm
    have each : ∀ i, i < len → ∃ d : FDo, (∃ b o, a = ⟨b, o, none⟩ ∧ b < W.heap.size ∧ ∀ j c, d.cells[j]? = some c → W.cell? ⟨b, o + (i * 4 + j), none⟩ = some c) ∧ d.fits := by
      intro i hil
      obtain ⟨cs', hc, ht⟩ := hi i (by omega)
      rw [c47] at hc
      obtain ⟨dd, rfl, hs⟩ := fdo_of ht
      obtain ⟨_, hcl, hat⟩ := World.cells?_some hc
      refine ⟨dd, ?_, hs⟩
      obtain ⟨b, off, spot⟩ := a
      have h00 : W.cell? (((⟨b, off, spot⟩ : Addr).add (i * 4)).add 0) = some (.int .i64 dd.kind) := by rw [hat 0 (by omega)]; rfl
      have hspot : spot = none := by
        obtain ⟨cs0, hc0, ht0⟩ := hi 0 (by omega)
        rw [c47] at hc0
        obtain ⟨_, hcl0, hat0⟩ := World.cells?_some hc0
        have h0 := (hat0 0 (by omega)).trans (List.getElem?_eq_getElem (by omega))
        simpa [Addr.add] using World.cell?_spot h0
      subst hspot
      rw [Addr.add_mid, Addr.add_mid] at h00
      refine ⟨b, off, rfl, World.block_lt_of_cell? W _ h00, fun j c hj => ?_⟩
      have hj4 : j < 4 := by have := (List.getElem?_eq_some_iff.1 hj).1; simpa [FDo.cells] using this
      have := hat j hj4
      rw [Addr.add_mid, Addr.add_mid, hj] at this
      rw [← this]
      congr 2
      omega
    refine ⟨some a, len, cap, List.ofFn (fun i : Fin len => Classical.choose (each i.1 i.2)), rfl, ⟨by simp, fun j d hd => ?_, fun d hd => ?_⟩, by omega⟩
    · rw [List.getElem?_ofFn] at hd
      split at hd
      · rename_i hj
        have := Option.some.inj hd
        subst this
        obtain ⟨⟨b, o, ha, hb, hc⟩, _⟩ := Classical.choose_spec (each j hj)
        exact ⟨b, o, by rw [ha], hb, hc⟩
      · cases hd
    · obtain ⟨i, rfl⟩ := List.mem_ofFn.1 hd
      exact (Classical.choose_spec (each i.1 i.2)).2
end
end Go.Proofs.YtcfagdmaephkdaaDoor
namespace Go.Proofs.YtcfagdmaephkdaaDoor
open Go.RowKit
theorem FDosAt.range {W w : World} {p : Option Addr} {N : Nat} {ds : List FDo} (h : FDosAt W p N ds) (hg : W.grownBy w none) {k : Nat} {d : FDo} (hk : ds[k]? = some d) :
    ∃ bl o, p = some ⟨bl, o, none⟩ ∧ w.rangeAt bl (o + k * 4) [.int .i64 d.kind, .int .i64 d.a, .int .i64 d.b, .int .i64 d.c] := by
  obtain ⟨bl, o, hp, hlt, hc⟩ := h.cell k d hk
  refine ⟨bl, o, hp, fun j v hj => ?_⟩
  rw [grown_cell hg hlt (by simp), Nat.add_assoc]
  exact hc j v hj
theorem fdo_info : (Tryd.prog.info? 37).map (·.size) = some 4 := by kernel_rfl
/-- the two frames, new -/
theorem DQ.new {W w w1 : World} {A : Nat → Addr} {m b n c : Nat} {e : Ending} (h : FQ W A w m b n c (List.replicate n noFm) 0) (_hs : Sents W A) (hM : MadeF w 45 42 n (List.replicate n noFm) id e w1) :
    ∃ mx bx cx, e = .returned (.pointer (some ⟨mx, 0, none⟩)) ∧ DQ W A w1 m b n c mx bx cx (List.replicate n noFm) (List.replicate n noFm) 0 := by
  obtain ⟨mx, bx, cx, he, h1, h2, hF, hg⟩ := hM
  have hm := h.fr.mlt
  have hb := h.fr.blt
  exact ⟨mx, bx, cx, he, ⟨h.kept0 hg, hF, by have := h.gr.size; omega, by omega, by omega, by omega⟩⟩
set_option maxRecDepth 100000 in
set_option maxHeartbeats 8000000 in
theorem safe_walk (n : Int) (p : Option Addr) (c0 N : Nat) (ds : List FDo) (w : World) (A : Nat → Addr) (hs : Sents w A) (n0 : -9223372036854775808 ≤ n) (n1 : n ≤ 9223372036854775807) (hd : FDosAt w p N ds) (hN : N ≤ maxLen) :
    Calls Tryd.prog 4 #[.int .i64 n, .slice p N c0] w fun e w' => e = .returned (.bool true) ∧ Below w.heap.size w w' := by
  have HS := hid hs
  have HDo := hid hd
  clear hs hd
  obtain ⟨F, HF, hF⟩ : ∃ F, Hid (numB n 20 = F) ∧ F < 20 := ⟨_, hid rfl, numB_lt _ (by omega)⟩
  obtain ⟨G, hG, hGe⟩ : ∃ G : Nat, (F : Int) + 1 = (G : Int) ∧ Hid (G = F + 1) := ⟨F + 1, by omega, hid rfl⟩
  have hG1 : 1 ≤ G := by have := hGe.out; omega
  have hG2 : G ≤ 20 := by have := hGe.out; omega
  have HG12 := hid (And.intro hG1 hG2)
  have g0 : (0 : Int) ≤ (G : Int) := by omega
  have Nn0 : (0 : Int) ≤ (N : Int) := by omega
  unfold maxLen at hN
  have Nn1 : (N : Int) ≤ 9223372036854775807 := by omega
  go_enter Tryd.func4, Tryd.ntmps4
  go_wp2_with fail
  refine (first16_any HS.out).mono ?_; rintro e w1 ⟨rfl, hg⟩
  have HG1 := hid hg; clear hg
  go_wp2_with fail
  refine (number_of n 20 20 F rfl HF.out (by omega) (by omega) n0 n1).mono ?_; rintro e w' ⟨rfl, rfl⟩
  go_wp2_with fail
  refine (new_fr G hG1 (by omega) w1).mono ?_
  intro e w2 hN2
  obtain ⟨m, b, c, rfl, hF2⟩ := FQ.new HS.out HG1.out G hN2
  have HF2 := hid hF2
  clear hF2 hN2 HG1
  by_cases hbig : (N : Int) > 80
  · go_wp2
    go_ret
    exact ⟨rfl, grown_below HF2.out.gr⟩
  · have hN80 : (N : Int) ≤ 80 := by omega
    have HN80 := hid hN80
    go_wp2_with fail
    refine (rnew_rf G HG12.out.1 (by have := HG12.out; omega) w2).mono ?_
    intro e w3 hM
    obtain ⟨mx, bx, cx, rfl, hD⟩ := DQ.new HF2.out HS.out hM
    have HD := hid hD
    clear hD hM HF2 hbig hN80
    go_wp2
    go_loopw [9] (fun i wr => ∃ k : Nat, k ≤ N ∧ i = .int .i64 k ∧ Hid (∃ L, DQ w A wr m b G c mx bx cx L L (k : Int))) (fun i _ => N - (intOf i).toNat)
    case atStart => exact ⟨0, Nat.zero_le _, rfl, hid ⟨_, HD.out⟩⟩
    case round =>
      obtain ⟨k, hk, rfl, HR⟩ := hrel
      obtain ⟨L, hR⟩ := HR.out
      have HR := hid hR
      clear hR HD
      by_cases hlt : k < N
      · obtain ⟨dd, hdd⟩ : ∃ dd, ds[k]? = some dd := ⟨_, List.getElem?_eq_getElem (by rw [HDo.out.len]; exact hlt)⟩
        obtain ⟨bl, o, hp, hrg⟩ := HDo.out.range HR.out.fq.gr hdd
        have Hw := hid (HDo.out.wide dd (List.mem_of_getElem? hdd))
        obtain ⟨kd, da, db, dc⟩ := dd
        subst hp
        have Hrg := hid hrg
        have k0 : (0 : Int) ≤ (k : Int) := by omega
        have k1 : (k : Int) < (N : Int) := by omega
        have Hk := hid (show k < N ∧ (k : Int) < 1000 by have := HN80.out; omega)
        obtain ⟨wo, hwo⟩ : ∃ x, x = wr := ⟨_, rfl⟩
        clear hdd hrg
        go_wp2_with (first
          | (refine wpList_load_mid rfl 37 _ rfl bl (o + k * 4) rfl _ _ Hrg.out Tryd.underlying37 rfl fdo_info ?_)
          | fail)
        refine (does_any HR.out HS.out Hk.out.2 kd da db dc Hw.out.1).mono ?_
        rintro e w4 ⟨rfl, hD, _⟩
        obtain ⟨L', hL'⟩ : ∃ L', doL L kd da db dc = L' := ⟨_, rfl⟩
        rw [hL'] at hD
        have HD2 : Hid (DQ w A w4 m b G c mx bx cx L' L' ((k + 1 : Nat) : Int)) := hid hD
        clear hD HR hL' hwo hlt Hrg
        go_wp2
        go_loopw [10] (fun i wr => ∃ j : Nat, j ≤ G ∧ i = .int .i64 j ∧ Hid (DQ w A wr m b G c mx bx cx L' L' ((k + 1 : Nat) : Int))) (fun i _ => G - (intOf i).toNat)
        case atStart => exact ⟨0, Nat.zero_le _, rfl, HD2⟩
        case round =>
          obtain ⟨j, hj, rfl, HR⟩ := hrel
          clear HD2
          by_cases hlt : j < G
          · obtain ⟨f, hf⟩ : ∃ f, L'[j]? = some f := ⟨_, List.getElem?_eq_getElem (by rw [HR.out.fq.fr.len]; exact hlt)⟩
            have j0 : (0 : Int) ≤ (j : Int) := by omega
            have j1 : (j : Int) < (G : Int) := by omega
            have hok := HR.out.fq.ok j f hf
            obtain ⟨fo, ft, fw, fu⟩ := f
            have Hok := hid hok
            have Hf := hid hf
            clear hf hok
            go_wp2_with fail
            refine (get_q HR.out.fq _ j rfl ⟨fo, ft, fw, fu⟩ Hf.out).mono ?_
            rintro e w6 ⟨rfl, _, hg⟩
            have al := World.grownBy_alloc w6 (.cells #[.int .i64 fo, .int .i64 ft, .int .i64 fw, .int .i64 fu] 39) none
            have HR2 := hid ((HR.out.kept0 hg).kept0 al)
            clear al hg HR
            have dw : decide (fw < 0) = false := by have := Hok.out.w0; simpa using this
            have du : decide (fu < 0) = false := by have := Hok.out.u0; simpa using this
            by_cases ho : fo = -1
            · obtain ⟨rfl, rfl, rfl⟩ := Hok.out.nob ho
              subst ho
              go_wp2
              go_roundw
              case rel => exact ⟨j + 1, by omega, by go_num, HR2⟩
              case measure => simp [intOf]; omega
            · have ho1 : (fo == -1) = false := by simpa using ho
              clear ho
              by_cases ht : ft = 0
              · subst ht
                go_wp2
                go_roundw
                case rel => exact ⟨j + 1, by omega, by go_num, HR2⟩
                case measure => simp [intOf]; omega
              · obtain rfl := Hok.out.tab ht
                have ht1 : (ft != 0) = true := by simpa using ht
                clear ht
                go_wp2
                go_roundw
                case rel => exact ⟨j + 1, by omega, by go_num, HR2⟩
                case measure => simp [intOf]; omega
          · obtain rfl : j = G := by omega
            have k1' : ¬ ((j : Int) < (j : Int)) := by omega
            go_wp2
            go_roundw
            case rel => exact ⟨k + 1, Hk.out.1, by go_num, hid ⟨_, HR.out⟩⟩
            case measure => simp [intOf]; have := Hk.out; omega
      · obtain rfl : k = N := by omega
        have k1 : ¬ ((k : Int) < (k : Int)) := by omega
        go_wp2
        go_ret
        exact ⟨rfl, grown_below HR.out.fq.gr⟩
end Go.Proofs.YtcfagdmaephkdaaDoor

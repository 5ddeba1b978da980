/- A reader of bytes (package obj): take, word, number: contracts. -/
import Derived.Test.YtbjijddpdefhpaaDoorZObjR
import Derived.Test.YtbjijddpdefhpaaDoorZObj13
import Derived.Test.YtbjijddpdefhpaaDoorZGErr
namespace Go.Proofs.YtbjijddpdefhpaaDoor
open Go.RowKit
theorem set_grown {w : World} {R : Nat} (k : Nat) (v : Value) : w.grownBy (w.setCell ⟨R, k, none⟩ v) (some R) := grown_setCell (grown_refl _ _) _ _
/-- where the errors lie that a reader tells -/
structure ErrR (w : World) (A : Nat → Addr) : Prop where
  c0 : w.cell? ⟨8, 0, none⟩ = some (errV (A 0))
  c1 : w.cell? ⟨4, 0, none⟩ = some (errV (A 1))
  c2 : w.cell? ⟨2, 0, none⟩ = some (errV (A 2))
  c3 : w.cell? ⟨0, 0, none⟩ = some (errV (A 3))
theorem ErrR.kept {w w1 : World} {A : Nat → Addr} {r : Option Nat} (h : ErrR w A) (hg : w.grownBy w1 r) (hr : ∀ k, r = some k → k ≠ 8 ∧ k ≠ 4 ∧ k ≠ 2 ∧ k ≠ 0) : ErrR w1 A := by
  have k : ∀ {g : Nat} {v : Value}, w.cell? ⟨g, 0, none⟩ = some v → some g ≠ r → w1.cell? ⟨g, 0, none⟩ = some v := fun hc hn => by
    rw [grown_cell hg (World.block_lt_of_cell? w _ hc) hn]; exact hc
  exact ⟨k h.c0 (fun e => (hr _ e.symm).1 rfl), k h.c1 (fun e => (hr _ e.symm).2.1 rfl), k h.c2 (fun e => (hr _ e.symm).2.2.1 rfl), k h.c3 (fun e => (hr _ e.symm).2.2.2 rfl)⟩
theorem ErrR.kept0 {w w1 : World} {A : Nat → Addr} (h : ErrR w A) (hg : w.grownBy w1 none) : ErrR w1 A := h.kept hg (by simp)
/-- R is none of the variables' blocks -/
def NoVar (R : Nat) : Prop := R ≠ 8 ∧ R ≠ 4 ∧ R ≠ 2 ∧ R ≠ 0
theorem noVar_of {w : World} {A : Nat → Addr} (h : ErrR w A) {R : Nat} (hR : w.heap.size ≤ R) : NoVar R := by
  have h0 := World.block_lt_of_cell? w _ h.c0
  have h1 := World.block_lt_of_cell? w _ h.c1
  have h2 := World.block_lt_of_cell? w _ h.c2
  have h3 := World.block_lt_of_cell? w _ h.c3
  simp only at h0 h1 h2 h3
  unfold NoVar
  omega
theorem Sents.errr {w : World} {A : Nat → Addr} (h : Sents w A) : ErrR w A := ⟨h.cell 0 _ rfl, h.cell 1 _ rfl, h.cell 2 _ rfl, h.cell 3 _ rfl⟩
theorem ErrR.keptR {w w1 : World} {A : Nat → Addr} {R : Nat} (h : ErrR w A) (hg : w.grownBy w1 (some R)) (hr : NoVar R) : ErrR w1 A := h.kept hg (fun k hk => by obtain rfl := Option.some.inj hk; exact hr)
/-- bytes taken: no block of the reader's -/
def Tk (w : World) (R b : Nat) (v : Value) (l : List Int) : Prop := (v = .slice none 0 0 ∧ l = []) ∨ ∃ o c, v = .slice (some ⟨b, o, none⟩) l.length c ∧ l.length ≤ c ∧ b < w.heap.size ∧ b ≠ R ∧ ∀ j x, l[j]? = some x → w.cell? ⟨b, o + j, none⟩ = some (.int .u8 x)
theorem Tk.sl {w : World} {R b : Nat} {v : Value} {l : List Int} (h : Tk w R b v l) : SlAt w .u8 v l := by
  rcases h with ⟨rfl, rfl⟩ | ⟨o, c, rfl, _, hb, _, hc⟩
  · exact .inl ⟨⟨_, _, rfl⟩, rfl⟩
  · exact .inr ⟨b, o, c, rfl, hb, hc⟩
theorem Tk.kept {w w1 : World} {R b : Nat} {v : Value} {l : List Int} {r : Option Nat} (h : Tk w R b v l) (hg : w.grownBy w1 r) (hr : some b ≠ r) : Tk w1 R b v l := by
  rcases h with h | ⟨o, c, rfl, hn, hb, hne, hc⟩
  · exact .inl h
  · exact .inr ⟨o, c, rfl, hn, Nat.lt_of_lt_of_le hb hg.size, hne, fun j x hx => by rw [grown_cell hg hb hr]; exact hc j x hx⟩
section
variable {w : World} {R : Nat} {A : Nat → Addr} {b o c : Nat} {s : RS}
end
theorem leW_or {lo : Nat} {x : Int} (k : Nat) (hk : k < 4) (hlo : lo < 256 ^ k) (h0 : 0 ≤ x) (h1 : x < 256) : bits BinOp.or IntKind.u32 (lo : Int) (x * 256 ^ k) = (lo : Int) + x * 256 ^ k := by
  obtain ⟨n, rfl⟩ := Int.eq_ofNat_of_zero_le h0
  have hn : n < 256 := by omega
  have hp : (256 ^ k : Nat) = 2 ^ (8 * k) := by rw [Nat.pow_mul]
  have hb : n * 256 ^ k < 4294967296 := by
    have h3 : n * 256 ^ k ≤ 255 * 256 ^ k := Nat.mul_le_mul_right _ (by omega)
    have h4 : 256 ^ k ≤ 256 ^ 3 := Nat.pow_le_pow_right (by omega) (by omega)
    omega
  have hl : lo < 4294967296 := by
    have h4 : 256 ^ k ≤ 256 ^ 3 := Nat.pow_le_pow_right (by omega) (by omega)
    omega
  have e : ((n : Int) * 256 ^ k) = ((n * 256 ^ k : Nat) : Int) := by rw [Int.natCast_mul, Int.natCast_pow]; rfl
  rw [e, u32_or_nat lo _ hl hb, Nat.or_comm, hp, Nat.mul_comm n, Nat.two_pow_add_eq_or_of_lt (by rw [← hp]; exact hlo) n |>.symm]
  omega
theorem leW_snoc : ∀ (l : List Int) (x : Int), leW (l ++ [x]) = leW l + 256 ^ l.length * x
  | [], x => by simp [leW]
  | a :: l, x => by
    rw [List.cons_append, leW, leW_snoc l x, leW, List.length_cons, Int.pow_succ]
    rw [Int.mul_add, Int.add_assoc]
    congr 2
    rw [← Int.mul_assoc, Int.mul_comm 256]
theorem word_or {q : Nat} {x : Int} (k : Nat) (hk : k < 4) (hq : q < 256 ^ k) (h0 : 0 ≤ x) (h1 : x < 256) :
    bits BinOp.or IntKind.u32 (q : Int) (x % 4294967296 * 2 ^ (8 * k) % 4294967296) = ((q + x.toNat * 256 ^ k : Nat) : Int) := by
  have e1 : x % 4294967296 = x := by omega
  have e2 : (2 : Int) ^ (8 * k) = 256 ^ k := by rw [Int.pow_mul]; rfl
  have e3 : x * 256 ^ k % 4294967296 = x * 256 ^ k := by
    obtain ⟨n, rfl⟩ := Int.eq_ofNat_of_zero_le h0
    have h3 : n * 256 ^ k ≤ 255 * 256 ^ k := Nat.mul_le_mul_right _ (by omega)
    have h4 : 256 ^ k ≤ 256 ^ 3 := Nat.pow_le_pow_right (by omega) (by omega)
    have e : ((n : Int) * 256 ^ k) = ((n * 256 ^ k : Nat) : Int) := by rw [Int.natCast_mul, Int.natCast_pow]; rfl
    rw [e]; omega
  rw [e1, e2, e3, leW_or k hk hq h0 h1, Int.natCast_add, Int.natCast_mul, Int.natCast_pow, Int.toNat_of_nonneg h0]
  rfl
section
variable {w : World} {R : Nat} {A : Nat → Addr} {b o c : Nat} {s : RS}
end
end Go.Proofs.YtbjijddpdefhpaaDoor

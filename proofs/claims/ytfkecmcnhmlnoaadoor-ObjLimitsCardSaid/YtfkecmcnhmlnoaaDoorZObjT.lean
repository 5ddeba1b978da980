/- A reader of bytes (package obj): take, word, number: contracts. -/
import Derived.Test.YtfkecmcnhmlnoaaDoorZObjR
import Derived.Test.YtfkecmcnhmlnoaaDoorZObj13
import Derived.Test.YtfkecmcnhmlnoaaDoorZGErr
namespace Go.Proofs.YtfkecmcnhmlnoaaDoor
open Go.RowKit
/-- at R a reader: what is left lies in block b from o on -/
structure RdAt (w : World) (R : Nat) (A : Nat → Addr) (b o c : Nat) (s : RS) : Prop where
  box : RwAt w R 109 #[.slice (some ⟨b, o, none⟩) s.l.length c, evV A s.e]
  cap : s.l.length ≤ c
  cm : c ≤ 9223372036854775807
  lm : s.l.length ≤ 1099511627776
  lt : b < w.heap.size
  ne : b ≠ R
  cell : ∀ j x, s.l[j]? = some x → w.cell? ⟨b, o + j, none⟩ = some (.int .u8 x)
theorem RdAt.kept0 {w w1 : World} {R : Nat} {A : Nat → Addr} {b o c : Nat} {s : RS} (h : RdAt w R A b o c s) (hg : w.grownBy w1 none) : RdAt w1 R A b o c s :=
  ⟨h.box.kept0 hg, h.cap, h.cm, h.lm, Nat.lt_of_lt_of_le h.lt hg.size, h.ne, fun j x hx => by rw [grown_cell hg h.lt (by simp)]; exact h.cell j x hx⟩
/-- other blocks are written -/
theorem RdAt.kept {w w1 : World} {R : Nat} {A : Nat → Addr} {b o c : Nat} {s : RS} {r : Option Nat} (h : RdAt w R A b o c s) (hg : w.grownBy w1 r) (h1 : some R ≠ r) (h2 : some b ≠ r) : RdAt w1 R A b o c s :=
  ⟨h.box.kept hg h1, h.cap, h.cm, h.lm, Nat.lt_of_lt_of_le h.lt hg.size, h.ne, fun j x hx => by rw [grown_cell hg h.lt h2]; exact h.cell j x hx⟩
theorem set_grown {w : World} {R : Nat} (k : Nat) (v : Value) : w.grownBy (w.setCell ⟨R, k, none⟩ v) (some R) := grown_setCell (grown_refl _ _) _ _
/-- where the errors lie that a reader tells -/
structure ErrR (w : World) (A : Nat → Addr) : Prop where
  c0 : w.cell? ⟨6, 0, none⟩ = some (errV (A 0))
  c1 : w.cell? ⟨4, 0, none⟩ = some (errV (A 1))
  c2 : w.cell? ⟨2, 0, none⟩ = some (errV (A 2))
  c3 : w.cell? ⟨0, 0, none⟩ = some (errV (A 3))
theorem ErrR.kept {w w1 : World} {A : Nat → Addr} {r : Option Nat} (h : ErrR w A) (hg : w.grownBy w1 r) (hr : ∀ k, r = some k → k ≠ 6 ∧ k ≠ 4 ∧ k ≠ 2 ∧ k ≠ 0) : ErrR w1 A := by
  have k : ∀ {g : Nat} {v : Value}, w.cell? ⟨g, 0, none⟩ = some v → some g ≠ r → w1.cell? ⟨g, 0, none⟩ = some v := fun hc hn => by
    rw [grown_cell hg (World.block_lt_of_cell? w _ hc) hn]; exact hc
  exact ⟨k h.c0 (fun e => (hr _ e.symm).1 rfl), k h.c1 (fun e => (hr _ e.symm).2.1 rfl), k h.c2 (fun e => (hr _ e.symm).2.2.1 rfl), k h.c3 (fun e => (hr _ e.symm).2.2.2 rfl)⟩
theorem ErrR.kept0 {w w1 : World} {A : Nat → Addr} (h : ErrR w A) (hg : w.grownBy w1 none) : ErrR w1 A := h.kept hg (by simp)
/-- R is none of the variables' blocks -/
def NoVar (R : Nat) : Prop := R ≠ 6 ∧ R ≠ 4 ∧ R ≠ 2 ∧ R ≠ 0
theorem noVar_of {w : World} {A : Nat → Addr} (h : ErrR w A) {R : Nat} (hR : w.heap.size ≤ R) : NoVar R := by
  have h0 := World.block_lt_of_cell? w _ h.c0
  have h1 := World.block_lt_of_cell? w _ h.c1
  have h2 := World.block_lt_of_cell? w _ h.c2
  have h3 := World.block_lt_of_cell? w _ h.c3
  simp only at h0 h1 h2 h3
  unfold NoVar
  omega
theorem Sents.errr {w : World} {A : Nat → Addr} (h : Sents w A) : ErrR w A := ⟨h.cell 0 _ rfl, h.cell 1 _ rfl, h.cell 2 _ rfl, h.cell 3 _ rfl⟩
theorem ErrR.keptR {w w1 : World} {A : Nat → Addr} {R : Nat} (h : ErrR w A) (hg : w.grownBy w1 (some R)) (hr : NoVar R) : ErrR w1 A := h.kept hg (fun k hk => by obtain rfl := Option.some.inj hk; exact hr)
/-- bytes taken: no block of the reader's -/
def Tk (w : World) (R b : Nat) (v : Value) (l : List Int) : Prop := (v = .slice none 0 0 ∧ l = []) ∨ ∃ o c, v = .slice (some ⟨b, o, none⟩) l.length c ∧ l.length ≤ c ∧ b < w.heap.size ∧ b ≠ R ∧ ∀ j x, l[j]? = some x → w.cell? ⟨b, o + j, none⟩ = some (.int .u8 x)
theorem Tk.sl {w : World} {R b : Nat} {v : Value} {l : List Int} (h : Tk w R b v l) : SlAt w .u8 v l := by
  rcases h with ⟨rfl, rfl⟩ | ⟨o, c, rfl, _, hb, _, hc⟩
  · exact .inl ⟨⟨_, _, rfl⟩, rfl⟩
  · exact .inr ⟨b, o, c, rfl, hb, hc⟩
theorem Tk.kept {w w1 : World} {R b : Nat} {v : Value} {l : List Int} {r : Option Nat} (h : Tk w R b v l) (hg : w.grownBy w1 r) (hr : some b ≠ r) : Tk w1 R b v l := by
  rcases h with h | ⟨o, c, rfl, hn, hb, hne, hc⟩
  · exact .inl h
  · exact .inr ⟨o, c, rfl, hn, Nat.lt_of_lt_of_le hb hg.size, hne, fun j x hx => by rw [grown_cell hg hb hr]; exact hc j x hx⟩
/-- behind take -/
def TakeAt (w : World) (R : Nat) (A : Nat → Addr) (b : Nat) (n : Nat) (s : RS) (e : Ending) (w' : World) : Prop :=
  ∃ o' c' v, e = .returned v ∧ RdAt w' R A b o' c' (takeS n s).2 ∧ Tk w' R b v (takeS n s).1 ∧ w.grownBy w' (some R)
section
variable {w : World} {R : Nat} {A : Nat → Addr} {b o c : Nat} {s : RS}
theorem take_wrong (h : RdAt w R A b o c s) (n : Nat) (e : Nat) (he : s.e = some e) : Calls Tryd.prog 90 #[.pointer (some ⟨R, 0, none⟩), .int .i64 n] w (TakeAt w R A b n s) := by
  have ht : takeS n s = ([], s) := by unfold takeS; rw [if_neg (by rw [he]; simp)]
  unfold TakeAt
  rw [ht]
  have H := hid h
  have e0 := h.box.cell 0 (v := .slice (some ⟨b, o, none⟩) s.l.length c) rfl
  have e1 : w.cell? ⟨R, 1, none⟩ = some (.iface 154 (.pointer (some (A e)))) := by
    have := h.box.cell 1 (v := evV A s.e) rfl
    rw [he] at this
    exact this
  have hn1 := fun W => run_err_nil (A e) W
  have hn2 := fun W => run_err_neq_nil (A e) W
  unfold errV at hn1 hn2
  clear h he ht
  go_enter Tryd.func90, Tryd.ntmps90
  go_wp2
  go_ret
  exact ⟨o, c, _, rfl, H.out, .inl ⟨rfl, rfl⟩, grown_refl _ _⟩
theorem take_short (h : RdAt w R A b o c s) (hE : ErrR w A) (n : Nat) (he : s.e = none) (hl : s.l.length < n) : Calls Tryd.prog 90 #[.pointer (some ⟨R, 0, none⟩), .int .i64 n] w (TakeAt w R A b n s) := by
  have ht : takeS n s = ([], ⟨s.l, some 0⟩) := by unfold takeS; rw [if_pos he, if_pos hl]
  unfold TakeAt
  rw [ht]
  have H := hid h
  have e0 := h.box.cell 0 (v := .slice (some ⟨b, o, none⟩) s.l.length c) rfl
  have z1 := h.box.free 1
  have e1 : w.cell? ⟨R, 1, none⟩ = some .nilIface := by
    have := h.box.cell 1 (v := evV A s.e) rfl
    rw [he] at this
    exact this
  have eg := hE.c0
  unfold errV at eg
  have hn1 := fun W => run_err_nil (A 0) W
  have hn2 := fun W => run_err_neq_nil (A 0) W
  unfold errV at hn1 hn2
  have kl : (s.l.length : Int) < (n : Int) := by omega
  have HF : Hid (RdAt (w.setCell ⟨R, 1, none⟩ (.iface 154 (.pointer (some (A 0))))) R A b o c ⟨s.l, some 0⟩) := hid (by
    have h2 := h.box.set 1 (.iface 154 (.pointer (some (A 0))))
    rw [he] at h2
    refine ⟨⟨?_⟩, h.cap, h.cm, h.lm, by simpa using h.lt, h.ne, fun j x hx => ?_⟩
    · rw [h2.blk]; rfl
    · rw [grown_cell (set_grown (R := R) 1 _) h.lt (by simpa using h.ne)]; exact h.cell j x hx)
  clear h he ht hE hl
  go_enter Tryd.func90, Tryd.ntmps90
  go_wp2
  go_ret
  exact ⟨o, c, _, rfl, HF.out, .inl ⟨rfl, rfl⟩, set_grown 1 _⟩
set_option maxRecDepth 100000 in
theorem take_full (h : RdAt w R A b o c s) (n : Nat) (he : s.e = none) (hl : n ≤ s.l.length) : Calls Tryd.prog 90 #[.pointer (some ⟨R, 0, none⟩), .int .i64 n] w (TakeAt w R A b n s) := by
  have h63 := h.lm
  have hc63 := h.cm
  have ht : takeS n s = (s.l.take n, ⟨s.l.drop n, none⟩) := by unfold takeS; rw [if_pos he, if_neg (by omega)]
  unfold TakeAt
  rw [ht]
  have H := hid h
  have e0 := h.box.cell 0 (v := .slice (some ⟨b, o, none⟩) s.l.length c) rfl
  have z0 := h.box.free 0
  have e1 : w.cell? ⟨R, 1, none⟩ = some .nilIface := by
    have := h.box.cell 1 (v := evV A s.e) rfl
    rw [he] at this
    exact this
  have kl : ¬ (s.l.length : Int) < (n : Int) := by omega
  have k0 : (0 : Int) ≤ (n : Int) := by omega
  have k1 : (n : Int) ≤ (s.l.length : Int) := by omega
  have kc := h.cap
  have k2 : (n : Int) ≤ (c : Int) := by omega
  have k3 : n ≤ c := by omega
  have k4 : (s.l.length : Int) ≤ (c : Int) := by omega
  have key : ∀ (q k : Nat), s.l.length - n ≤ k → k ≤ c → (q = o + n ∨ s.l.length = n) → RdAt (w.setCell ⟨R, 0, none⟩ (.slice (some ⟨b, q, none⟩) (s.l.length - n) k)) R A b q k ⟨s.l.drop n, none⟩ ∧
      Tk (w.setCell ⟨R, 0, none⟩ (.slice (some ⟨b, q, none⟩) (s.l.length - n) k)) R b (.slice (some ⟨b, o, none⟩) n c) (s.l.take n) := by
    intro q k hk hkc hq
    have h2 := h.box.set 0 (.slice (some ⟨b, q, none⟩) (s.l.length - n) k)
    rw [he] at h2
    refine ⟨⟨⟨?_⟩, by simp; omega, by omega, by simp; omega, by simpa using h.lt, h.ne, fun j x hx => ?_⟩, .inr ⟨o, c, by simp [hl], by simp; omega, by simpa using h.lt, h.ne, fun j x hx => ?_⟩⟩
    · rw [h2.blk]; simp [evV]
    · rw [List.getElem?_drop] at hx
      rcases hq with rfl | hq
      · rw [grown_cell (set_grown (R := R) 0 _) h.lt (by simpa using h.ne), Nat.add_assoc]
        exact h.cell (n + j) x hx
      · have := (List.getElem?_eq_some_iff.1 hx).1
        omega
    · rw [grown_cell (set_grown (R := R) 0 _) h.lt (by simpa using h.ne)]
      rw [List.getElem?_take] at hx
      split at hx
      · exact h.cell j x hx
      · cases hx
  by_cases hcn : n = c
  · subst hcn
    have hf := key o 0 (by omega) (by omega) (.inr (by omega))
    rw [show s.l.length - n = 0 by omega] at hf
    have HF := hid hf
    clear h he ht key hf
    go_enter Tryd.func90, Tryd.ntmps90
    go_wp2
    go_ret
    exact ⟨_, _, _, rfl, HF.out.1, HF.out.2, set_grown 0 _⟩
  · have HF := hid (key (o + n) (c - n) (by omega) (by omega) (.inl rfl))
    clear h he ht key
    go_enter Tryd.func90, Tryd.ntmps90
    go_wp2
    go_ret
    exact ⟨_, _, _, rfl, HF.out.1, HF.out.2, set_grown 0 _⟩
theorem take_any (h : RdAt w R A b o c s) (hE : ErrR w A) (n : Nat) : Calls Tryd.prog 90 #[.pointer (some ⟨R, 0, none⟩), .int .i64 n] w (TakeAt w R A b n s) := by
  cases he : s.e with
  | some e => exact take_wrong h n e he
  | none =>
    by_cases hl : s.l.length < n
    · exact take_short h hE n he hl
    · exact take_full h n he (by omega)
end
theorem leW_or {lo : Nat} {x : Int} (k : Nat) (hk : k < 4) (hlo : lo < 256 ^ k) (h0 : 0 ≤ x) (h1 : x < 256) : bits BinOp.or IntKind.u32 (lo : Int) (x * 256 ^ k) = (lo : Int) + x * 256 ^ k := by
  obtain ⟨n, rfl⟩ := Int.eq_ofNat_of_zero_le h0
  have hn : n < 256 := by omega
  have hp : (256 ^ k : Nat) = 2 ^ (8 * k) := by rw [Nat.pow_mul]
  have hb : n * 256 ^ k < 4294967296 := by
    have h3 : n * 256 ^ k ≤ 255 * 256 ^ k := Nat.mul_le_mul_right _ (by omega)
    have h4 : 256 ^ k ≤ 256 ^ 3 := Nat.pow_le_pow_right (by omega) (by omega)
    omega
  have hl : lo < 4294967296 := by
    have h4 : 256 ^ k ≤ 256 ^ 3 := Nat.pow_le_pow_right (by omega) (by omega)
    omega
  have e : ((n : Int) * 256 ^ k) = ((n * 256 ^ k : Nat) : Int) := by rw [Int.natCast_mul, Int.natCast_pow]; rfl
  rw [e, u32_or_nat lo _ hl hb, Nat.or_comm, hp, Nat.mul_comm n, Nat.two_pow_add_eq_or_of_lt (by rw [← hp]; exact hlo) n |>.symm]
  omega
theorem leW_snoc : ∀ (l : List Int) (x : Int), leW (l ++ [x]) = leW l + 256 ^ l.length * x
  | [], x => by simp [leW]
  | a :: l, x => by
    rw [List.cons_append, leW, leW_snoc l x, leW, List.length_cons, Int.pow_succ]
    rw [Int.mul_add, Int.add_assoc]
    congr 2
    rw [← Int.mul_assoc, Int.mul_comm 256]
theorem word_or {q : Nat} {x : Int} (k : Nat) (hk : k < 4) (hq : q < 256 ^ k) (h0 : 0 ≤ x) (h1 : x < 256) :
    bits BinOp.or IntKind.u32 (q : Int) (x % 4294967296 * 2 ^ (8 * k) % 4294967296) = ((q + x.toNat * 256 ^ k : Nat) : Int) := by
  have e1 : x % 4294967296 = x := by omega
  have e2 : (2 : Int) ^ (8 * k) = 256 ^ k := by rw [Int.pow_mul]; rfl
  have e3 : x * 256 ^ k % 4294967296 = x * 256 ^ k := by
    obtain ⟨n, rfl⟩ := Int.eq_ofNat_of_zero_le h0
    have h3 : n * 256 ^ k ≤ 255 * 256 ^ k := Nat.mul_le_mul_right _ (by omega)
    have h4 : 256 ^ k ≤ 256 ^ 3 := Nat.pow_le_pow_right (by omega) (by omega)
    have e : ((n : Int) * 256 ^ k) = ((n * 256 ^ k : Nat) : Int) := by rw [Int.natCast_mul, Int.natCast_pow]; rfl
    rw [e]; omega
  rw [e1, e2, e3, leW_or k hk hq h0 h1, Int.natCast_add, Int.natCast_mul, Int.natCast_pow, Int.toNat_of_nonneg h0]
  rfl
section
variable {w : World} {R : Nat} {A : Nat → Addr} {b o c : Nat} {s : RS}
/-- behind word, number -/
def NumAt (w : World) (R : Nat) (A : Nat → Addr) (b : Nat) (k : IntKind) (p : Int × RS) (e : Ending) (w' : World) : Prop :=
  ∃ o' c', e = .returned (.int k p.1) ∧ RdAt w' R A b o' c' p.2 ∧ w.grownBy w' (some R)
set_option maxRecDepth 100000 in
theorem word_any (h : RdAt w R A b o c s) (hE : ErrR w A) (hb : BtB s.l) : Calls Tryd.prog 74 #[.pointer (some ⟨R, 0, none⟩)] w (NumAt w R A b .u32 (wordS s)) := by
  have Ht := hid (take_any h hE 4)
  have HB := hid (takeS_bt (n := 4) hb)
  have HL := hid (takeS_len2 4 s)
  clear h hE hb
  go_enter Tryd.func74, Tryd.ntmps74
  go_wp2_with fail
  refine (Ht.out).mono ?_
  rintro e w2 ⟨o', c', v, rfl, hr, htk, hg⟩
  have HR := hid hr
  have HS := hid htk.sl
  have HG := hid hg
  obtain ⟨l, hl⟩ : ∃ l, (takeS 4 s).1 = l := ⟨_, rfl⟩
  have Hl := hid hl
  rw [hl] at HB HL HS
  clear hr htk hg hl
  obtain ⟨p, cc, rfl⟩ := HS.out.len'
  have hlen : l.length = 0 ∨ l.length = 4 := by rcases HL.out with h | h; (left; rw [h]; rfl); exact .inr h
  have HN := hid hlen
  clear hlen HL
  go_wp2
  go_loop [3, 4, 5, 9] (fun acc _ _ i => ∃ k : Nat, k ≤ l.length ∧ i = .int .i64 k ∧ ∃ q : Nat, acc = .int .u32 q ∧ Hid ((q : Int) = leW (l.take k) ∧ q < 256 ^ k)) (fun _ _ _ i => l.length - (intOf i).toNat)
  case atStart => exact ⟨0, Nat.zero_le _, rfl, 0, rfl, hid ⟨rfl, by decide⟩⟩
  case round =>
    obtain ⟨k, hk, rfl, q, rfl, HQ⟩ := hrel
    have k0 : (0 : Int) ≤ (k : Int) := by omega
    by_cases hlt : k < l.length
    · have kn : (k : Int) < (l.length : Int) := by omega
      have k4 : (k : Int) < 4 := by have := HN.out; omega
      obtain ⟨x, hx⟩ : ∃ x, l[k]? = some x := ⟨_, List.getElem?_eq_getElem hlt⟩
      obtain ⟨b2, o2, c2, hv, _, hc⟩ := HS.out.at_ (by omega)
      obtain ⟨rfl, rfl⟩ : p = some ⟨b2, o2, none⟩ ∧ cc = c2 := by simpa using hv
      have ex := hc k x hx
      have Hx := hid (And.intro hx (HB.out x (List.mem_of_getElem? hx)))
      clear hc hv hx
      go_wp2
      have hq := HQ.out
      have hb := Hx.out.2
      have k4' : k < 4 := by omega
      refine ⟨⟨k + 1, by omega, by go_num, q + x.toNat * 256 ^ k, ?_, hid ⟨?_, ?_⟩⟩, by simp [intOf]; omega⟩
      · rw [word_or k k4' hq.2 hb.1 hb.2]
      · rw [List.take_add_one, Hx.out.1]
        simp only [Option.toList]
        rw [leW_snoc, ← hq.1, List.length_take, Nat.min_eq_left (by omega), Int.natCast_add, Int.natCast_mul, Int.natCast_pow, Int.toNat_of_nonneg hb.1, Int.mul_comm]
        rfl
      · have h1 : x.toNat * 256 ^ k ≤ 255 * 256 ^ k := Nat.mul_le_mul_right _ (by omega)
        rw [Nat.pow_succ]
        have := hq.2
        omega
    · obtain rfl : k = l.length := by omega
      have hq := HQ.out.1
      rw [List.take_length] at hq
      have Hq := hid hq
      clear hq HQ
      go_wp2
      go_ret
      refine ⟨o', c', ret_i ?_, HR.out, HG.out⟩
      rw [Hq.out, ← Hl.out]
      rfl
theorem word_of (h : RdAt w R A b o c s) (hE : ErrR w A) (hb : BtB s.l) {p : Int × RS} (hp : wordS s = p) : Calls Tryd.prog 74 #[.pointer (some ⟨R, 0, none⟩)] w (NumAt w R A b .u32 p) := by subst hp; exact word_any h hE hb
set_option maxRecDepth 100000 in
theorem num_any (h : RdAt w R A b o c s) (hE : ErrR w A) (hv : NoVar R) (hb : BtB s.l) (most : Int) : Calls Tryd.prog 101 #[.pointer (some ⟨R, 0, none⟩), .int .u32 most] w (NumAt w R A b .i64 (numS most s)) := by
  have Hw := hid (word_any h hE hb)
  have HE := hid hE
  have HV := hid hv
  have hbd := wordS_bd hb
  obtain ⟨W0, hW⟩ : ∃ W0, wordS s = W0 := ⟨_, rfl⟩
  rw [hW] at Hw hbd
  have hns : numS most s = if most < W0.1 then (0, ⟨W0.2.l, some 2⟩) else W0 := by unfold numS; rw [hW]
  have Hns := hid hns
  obtain ⟨x, s2⟩ := W0
  have Hb := hid hbd
  clear h hE hv hb hW hns hbd
  go_enter Tryd.func101, Tryd.ntmps101
  go_wp2_with fail
  refine (Hw.out).mono ?_
  rintro e w2 ⟨o', c', rfl, hr, hg⟩
  have HR := hid hr
  have HG := hid hg
  have x0 : (0 : Int) ≤ x := Hb.out.1
  have x1 : x < 4294967296 := Hb.out.2
  by_cases hm : most < x
  · have eg := (HE.out.keptR hg HV.out).c2
    unfold errV at eg
    have e1 : w2.cell? ⟨R, 1, none⟩ = some (evV A s2.e) := hr.box.cell 1 rfl
    have z1 := hr.box.free 1
    have hm' : x > most := hm
    have HF : Hid (RdAt (w2.setCell ⟨R, 1, none⟩ (.iface 154 (.pointer (some (A 2))))) R A b o' c' ⟨s2.l, some 2⟩) := hid (by
      have h2 := hr.box.set 1 (.iface 154 (.pointer (some (A 2))))
      refine ⟨⟨?_⟩, hr.cap, hr.cm, hr.lm, by simpa using hr.lt, hr.ne, fun j x hx => ?_⟩
      · rw [h2.blk]; rfl
      · rw [grown_cell (set_grown (R := R) 1 _) hr.lt (by simpa using hr.ne)]; exact hr.cell j x hx)
    clear hr hg hm
    go_wp2
    go_ret
    refine ⟨o', c', ?_, ?_, grown_setCell HG.out _ _⟩
    · rw [Hns.out, if_pos hm']; rfl
    · rw [Hns.out, if_pos hm']; exact HF.out
  · have hm' : ¬ x > most := hm
    have hw : IntKind.i64.wrap x = x := wrap_i64_id (by omega) (by omega)
    have Hm := hid hm
    clear hr hg hm
    go_wp2
    go_ret
    refine ⟨o', c', ?_, ?_, HG.out⟩
    · rw [Hns.out, if_neg (by have := Hm.out; omega)]; rfl
    · rw [Hns.out, if_neg (by have := Hm.out; omega)]; exact HR.out
end
end Go.Proofs.YtfkecmcnhmlnoaaDoor

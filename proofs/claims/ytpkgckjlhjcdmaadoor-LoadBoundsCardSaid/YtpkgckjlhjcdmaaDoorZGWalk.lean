/- Plain facts on entries of page tables, and on the ways that tables are: no program is named here. -/
import Derived.Test.YtpkgckjlhjcdmaaDoorZGMem
import Derived.WalkKit
import Derived.WalkSpells
import Derived.WalkLawsBesides
import Derived.Handy
import Derived.RegionTactic
import Derived.Deep.QuietTactic
import Derived.BigQuiet
import Derived.IntWalk
import Derived.Outline
import Derived.Laws.StructEq
import Derived.Deep.WholeRow
namespace Go.Proofs.YtpkgckjlhjcdmaaDoor
def tB (v : Int) : Bool := decide (v % 2 = 1)
def wB (v : Int) : Bool := decide (v / 2 % 2 = 1)
def uB (v : Int) : Bool := decide (v / 4 % 2 = 1)
/-- the word of an entry that is there -/
def liveB (v : Int) : Bool := decide (v % 2 = 1 ∧ v % 256 < 8 ∧ 0 ≤ v ∧ v < 262144)
/-- the word of an entry -/
def ofB (v : Int) : Bool := decide (v = 0) || liveB v
/-- an entry that may be -/
def bitB (f : Int) (t w u : Bool) : Bool := decide (0 ≤ f ∧ f < 1024) && (t || (decide (f = 0) && !w && !u))
def twoV (w : Bool) : Int := if w = true then 2 else 0
def fourV (u : Bool) : Int := if u = true then 4 else 0
def bitV (f : Int) (t w u : Bool) : Int := if 0 ≤ f ∧ f < 1024 ∧ t = true then f * 256 + 1 + twoV w + fourV u else 0
/-- the entry of a word, where there is one -/
def oF : Option Int → Int | none => 0 | some v => v / 256
def oT : Option Int → Bool | none => false | some v => tB v
def oW : Option Int → Bool | none => false | some v => wB v
def oU : Option Int → Bool | none => false | some v => uB v
def ofO (v : Int) : Option Int := if ofB v = true then some v else none
def liveO (v : Int) : Option Int := if liveB v = true then some v else none
theorem ofO_yes {v : Int} (h : ofB v = true) : ofO v = some v := by unfold ofO; rw [if_pos h]
theorem ofO_no {v : Int} (h : ofB v = false) : ofO v = none := by unfold ofO; rw [if_neg (by simp [h])]
theorem liveO_yes {v : Int} (h : liveB v = true) : liveO v = some v := by unfold liveO; rw [if_pos h]
theorem liveO_no {v : Int} (h : liveB v = false) : liveO v = none := by unfold liveO; rw [if_neg (by simp [h])]
theorem live_bd {v : Int} (h : liveB v = true) : v % 2 = 1 ∧ v % 256 < 8 ∧ 0 ≤ v ∧ v < 262144 := of_decide_eq_true h
theorem of_live {v : Int} (h : liveB v = true) : ofB v = true := by unfold ofB; rw [h]; simp
theorem tB_live {v : Int} (h : liveB v = true) : tB v = true := by have := live_bd h; unfold tB; simp; omega
theorem ofO_live {v : Int} : oT (ofO v) = liveB v := by
  cases h : liveB v
  · cases h2 : ofB v
    · rw [ofO_no h2]; rfl
    · rw [ofO_yes h2]
      unfold ofB at h2; rw [h] at h2; simp at h2; subst h2; rfl
  · rw [ofO_yes (of_live h)]; exact tB_live h
/-- an entry that is not there is none -/
theorem of_dead {v : Int} (h : liveB v = false) : oF (ofO v) = 0 ∧ oT (ofO v) = false ∧ oW (ofO v) = false ∧ oU (ofO v) = false := by
  cases h2 : ofB v
  · rw [ofO_no h2]; exact ⟨rfl, rfl, rfl, rfl⟩
  · rw [ofO_yes h2]
    unfold ofB at h2; rw [h] at h2; simp at h2; subst h2; exact ⟨rfl, rfl, rfl, rfl⟩
theorem two_cases (w : Bool) : (w = true ∧ twoV w = 2) ∨ (w = false ∧ twoV w = 0) := by cases w <;> simp [twoV]
theorem four_cases (w : Bool) : (w = true ∧ fourV w = 4) ∨ (w = false ∧ fourV w = 0) := by cases w <;> simp [fourV]
theorem bitV_yes {f : Int} {w u : Bool} (h0 : 0 ≤ f) (h1 : f < 1024) : bitV f true w u = f * 256 + 1 + twoV w + fourV u := by unfold bitV; rw [if_pos ⟨h0, h1, rfl⟩]
theorem bitV_no {f : Int} {t w u : Bool} (h : bitB f t w u = false) : bitV f t w u = 0 := by
  unfold bitV
  split
  · rename_i h2
    unfold bitB at h
    rw [h2.2.2, decide_eq_true ⟨h2.1, h2.2.1⟩] at h
    simp at h
  · rfl
theorem bitV_bd (f : Int) (t w u : Bool) : 0 ≤ bitV f t w u ∧ bitV f t w u < 262144 := by
  unfold bitV
  rcases two_cases w with ⟨_, h2⟩ | ⟨_, h2⟩ <;> rcases four_cases u with ⟨_, h4⟩ | ⟨_, h4⟩ <;> rw [h2, h4] <;> split <;> omega
/-- read from its bits it is as it is -/
theorem of_bitV {f : Int} {t w u : Bool} (h : bitB f t w u = true) :
    ofB (bitV f t w u) = true ∧ bitV f t w u / 256 = f ∧ tB (bitV f t w u) = t ∧ wB (bitV f t w u) = w ∧ uB (bitV f t w u) = u := by
  unfold bitB at h
  simp only [Bool.and_eq_true, Bool.or_eq_true, decide_eq_true_eq, Bool.not_eq_true'] at h
  obtain ⟨⟨h0, h1⟩, h⟩ := h
  cases t
  · simp at h
    obtain ⟨⟨rfl, rfl⟩, rfl⟩ := h
    decide
  · rw [bitV_yes h0 h1]
    unfold ofB liveB tB wB uB
    simp only [Bool.or_eq_true, decide_eq_true_eq]
    rcases two_cases w with ⟨rfl, h2⟩ | ⟨rfl, h2⟩ <;> rcases four_cases u with ⟨rfl, h4⟩ | ⟨rfl, h4⟩ <;> rw [h2, h4] <;>
      simp only [decide_eq_true_eq, decide_eq_false_iff_not] <;> omega
/-- a word that is an entry's is its bits -/
theorem bitV_of {v : Int} (h : ofB v = true) : bitB (v / 256) (tB v) (wB v) (uB v) = true ∧ bitV (v / 256) (tB v) (wB v) (uB v) = v := by
  unfold ofB at h
  simp only [Bool.or_eq_true, decide_eq_true_eq] at h
  rcases h with rfl | h
  · decide
  · have hb := live_bd h
    rw [tB_live h]
    refine ⟨?_, ?_⟩
    · unfold bitB
      simp; omega
    · rw [bitV_yes (by omega) (by omega)]
      unfold twoV fourV wB uB
      simp only [decide_eq_true_eq]
      repeat' split
      all_goals omega
/-- unlike ones have unlike bits -/
theorem bitV_inj {f f' : Int} {t t' w w' u u' : Bool} (h : bitB f t w u = true) (h' : bitB f' t' w' u' = true) :
    (bitV f t w u = bitV f' t' w' u') ↔ (f = f' ∧ t = t' ∧ w = w' ∧ u = u') := by
  constructor
  · intro e
    obtain ⟨_, a1, a2, a3, a4⟩ := of_bitV h
    obtain ⟨_, b1, b2, b3, b4⟩ := of_bitV h'
    rw [e] at a1 a2 a3 a4
    exact ⟨a1.symm.trans b1, a2.symm.trans b2, a3.symm.trans b3, a4.symm.trans b4⟩
  · rintro ⟨rfl, rfl, rfl, rfl⟩; rfl
theorem bitV_ne {v : Int} (h : ofB v = false) : bitV (v / 256) (tB v) (wB v) (uB v) ≠ v := by
  intro e
  cases hb : bitB (v / 256) (tB v) (wB v) (uB v)
  · rw [bitV_no hb] at e
    subst e
    exact absurd h (by decide)
  · have := (of_bitV hb).1
    rw [e, h] at this
    cases this
/-- what is read of a word as an entry that is there -/
theorem live_parts (v : Int) : oF (ofO v) = oF (liveO v) ∧ oT (ofO v) = oT (liveO v) ∧ oW (ofO v) = oW (liveO v) ∧ oU (ofO v) = oU (liveO v) := by
  cases h : liveB v
  · obtain ⟨h0, h1, h2, h3⟩ := of_dead h
    rw [h0, h1, h2, h3, liveO_no h]; exact ⟨rfl, rfl, rfl, rfl⟩
  · rw [liveO_yes h, ofO_yes (of_live h)]; exact ⟨rfl, rfl, rfl, rfl⟩
/-! ### ways by the tables -/
def wordI (xs : List Int) (a : Int) : Int := xs.getD a.toNat 0
/-- the word of a page's entry, if both levels have one that is there -/
def pageO (xs : List Int) (n root page : Int) : Option Int :=
  if 0 ≤ page ∧ page < 256 ∧ 0 ≤ root ∧ root < n then
    if liveB (wordI xs (root * 16 + page / 16)) = true ∧ wordI xs (root * 16 + page / 16) / 256 < n then
      liveO (wordI xs (wordI xs (root * 16 + page / 16) / 256 * 16 + page % 16))
    else none
  else none
/-- is the way there, for whom and what? -/
def wayB (o : Option Int) (n : Int) (write user : Bool) : Bool :=
  match o with | none => false | some v => (!write || wB v) && (!user || uB v) && decide (v / 256 < n)
def wayV (o : Option Int) (n addr : Int) (write user : Bool) : Int := if wayB o n write user = true then oF o * 16 + addr % 16 else 0
theorem pageO_out {xs : List Int} {n root page : Int} (h : page < 0 ∨ 256 ≤ page ∨ root < 0 ∨ n ≤ root) : pageO xs n root page = none := by
  unfold pageO; rw [if_neg (by omega)]
theorem pageO_dead {xs : List Int} {n root page x : Int} (hx : wordI xs (root * 16 + page / 16) = x) (h : liveB x = false ∨ n ≤ x / 256) : pageO xs n root page = none := by
  unfold pageO
  rw [hx]
  split
  · rw [if_neg]
    rintro ⟨h1, h2⟩
    rcases h with h | h
    · rw [h] at h1; cases h1
    · omega
  · rfl
theorem pageO_in {xs : List Int} {n root page x y : Int} (h0 : 0 ≤ page) (h1 : page < 256) (h2 : 0 ≤ root) (h3 : root < n) (hx : wordI xs (root * 16 + page / 16) = x) (hl : liveB x = true) (hn : x / 256 < n)
    (hy : wordI xs (x / 256 * 16 + page % 16) = y) : pageO xs n root page = liveO y := by
  unfold pageO
  rw [hx, hy, if_pos ⟨h0, h1, h2, h3⟩, if_pos ⟨hl, hn⟩]
theorem pageO_live {xs : List Int} {n root page v : Int} (h : pageO xs n root page = some v) : liveB v = true := by
  unfold pageO at h
  split at h
  · split at h
    · unfold liveO at h
      split at h
      · rename_i h2; rw [← Option.some.inj h]; exact h2
      · cases h
    · cases h
  · cases h
theorem wordI_get {xs : List Int} {k : Nat} {x : Int} (h : xs[k]? = some x) {a : Int} (ha : a = (k : Int)) : wordI xs a = x := by
  subst ha; unfold wordI; rw [List.getD, Int.toNat_natCast, h]; rfl
end Go.Proofs.YtpkgckjlhjcdmaaDoor
/- What package walk's Bits and Of answer, and the document's own: contracts. -/
namespace Go.Proofs.YtpkgckjlhjcdmaaDoor
open Go.RowKit
set_option maxRecDepth 100000 in
theorem rt_ib {k : IntKind} {a b : Int} {c d : Bool} (h : a = b) (h1 : c = d) : Ending.returned (.tuple #[.int k a, .bool c]) = .returned (.tuple #[.int k b, .bool d]) := by rw [h, h1]
theorem wbit_any (s : Bool) (x y : Int) (w : World) (hy : (if s = true then x else 0) = y) :
    Calls Tryd.prog 117 #[.bool s, .int .u32 x] w fun e w' => e = .returned (.int .u32 y) ∧ w = w' := by
  subst hy
  cases s
  · go_enter Tryd.func117, Tryd.ntmps117
    go_wp2
    go_ret
    exact ⟨rfl, rfl⟩
  · go_enter Tryd.func117, Tryd.ntmps117
    go_wp2
    go_ret
    exact ⟨rfl, rfl⟩
/-- the value of an entry -/
def entV (f : Int) (t w u : Bool) : Value := .agg #[.int .i64 f, .bool t, .bool w, .bool u]
set_option maxRecDepth 100000 in
theorem bits_out (f : Int) (t w u : Bool) (W : World) (h : f < 0 ∨ 1024 ≤ f) :
    Calls Tryd.prog 102 #[.agg #[.int .i64 f, .bool t, .bool w, .bool u]] W fun e w' => e = .returned (.tuple #[.int .u32 0, .bool false]) ∧ W.grownBy w' none := by
  have Hr := hid (grown_refl W none)
  rcases h with h | h
  · go_enter Tryd.func102, Tryd.ntmps102
    go_wp2
    go_ret2
    exact ⟨rfl, grown_alloc Hr.out _⟩
  · have h0 : ¬ f < 0 := by omega
    go_enter Tryd.func102, Tryd.ntmps102
    go_wp2
    go_ret2
    exact ⟨rfl, grown_alloc Hr.out _⟩
set_option maxHeartbeats 1000000 in
set_option maxRecDepth 100000 in
theorem bits_there (f : Int) (w u : Bool) (W : World) (h0 : 0 ≤ f) (h1 : f < 1024) :
    Calls Tryd.prog 102 #[.agg #[.int .i64 f, .bool true, .bool w, .bool u]] W fun e w' => e = .returned (.tuple #[.int .u32 (bitV f true w u), .bool true]) ∧ W.grownBy w' none := by
  have Hr := hid (grown_refl W none)
  have Hv := hid (bitV_yes (w := w) (u := u) h0 h1)
  obtain ⟨B, hB⟩ : ∃ B, bitV f true w u = B := ⟨_, rfl⟩
  rw [hB] at Hv ⊢
  clear hB
  have hn : ¬ f < 0 := by omega
  have hn2 : ¬ f ≥ 1024 := by omega
  have t2 : 0 ≤ twoV w ∧ twoV w ≤ 2 := by unfold twoV; split <;> omega
  have t4 : 0 ≤ fourV u ∧ fourV u ≤ 4 := by unfold fourV; split <;> omega
  obtain ⟨T, hT⟩ : ∃ T, twoV w = T := ⟨_, rfl⟩
  obtain ⟨F, hF⟩ : ∃ F, fourV u = F := ⟨_, rfl⟩
  have HT : Hid ((if w = true then 2 else 0) = T) := hid hT
  have HF : Hid ((if u = true then 4 else 0) = F) := hid hF
  rw [hT] at t2 Hv
  rw [hF] at t4 Hv
  obtain ⟨t2, t3⟩ := t2
  obtain ⟨t4, t5⟩ := t4
  clear hT hF
  go_enter Tryd.func102, Tryd.ntmps102
  go_wp2
  go_quiet ((first | (go_at_call 117; first | exact Calls.quiet_of_same ((wbit_any _ _ T _ HT.out).mono fun _ _ ⟨he, hw⟩ => ⟨he, hw.symm⟩) | exact Calls.quiet_of_same ((wbit_any _ _ F _ HF.out).mono fun _ _ ⟨he, hw⟩ => ⟨he, hw.symm⟩))))
  go_wp2
  go_ret2
  exact ⟨rt_ib Hv.out.symm rfl, grown_drewN (grown_alloc Hr.out _) _⟩
set_option maxRecDepth 100000 in
theorem entry_guard : Tryd.prog.eqGuardType Tryd.prog.depth 142 = false := by kernel_rfl
set_option maxRecDepth 100000 in
theorem run_eq_entry (f f' : Int) (t w u t' w' u' : Bool) (W : World) :
    (binOp .eql 142 (.agg #[.int .i64 f, .bool t, .bool w, .bool u]) (.agg #[.int .i64 f', .bool t', .bool w', .bool u'])).run Tryd.prog W = .ok (.bool (f == f' && (t == t' && (w == w' && u == u')))) W := by
  have hS : Tryd.prog.underlying 142 = some (.struct (Tryd.prog.fieldsOf 142)) := by kernel_rfl
  have hp : Tryd.prog.stoodInHeld 142 = false := by kernel_rfl
  have u3 := Tryd.underlying3
  have u4 := Tryd.underlying4
  have a3 := Tryd.isAgg3
  have a4 := Tryd.isAgg4
  have z3 := Tryd.sizeOf3
  have z4 := Tryd.sizeOf4
  rw [run_eql_struct, show (10000 : Nat) = 9999 + 1 from rfl, run_equalIn_agg W 9999 142 _ _ hS hp]
  simp only [Program.fieldsOf, Tryd.underlying142]
  go_simp
  by_cases h1 : f = f' <;> cases t <;> cases t' <;> cases w <;> cases w' <;> cases u <;> cases u' <;> simp [h1]
set_option maxRecDepth 100000 in
theorem quiet_eq_entry {o : Oper} {a : Act} {K : Act → Prop} (W : World) (x y : Operand) (ho : o.op = .binOp .eql 142 x y 142) (f f' : Int) (t w u t' w' u' : Bool) (hx : a.eval x = .agg #[.int .i64 f, .bool t, .bool w, .bool u]) (hy : a.eval y = .agg #[.int .i64 f', .bool t', .bool w', .bool u'])
    (r : Bool) (hr : (f == f' && (t == t' && (w == w' && u == u'))) = r) (hk : K (a.put o.dst (.bool r))) : o.quiet Tryd.prog a (fun w' => ∃ n, w' = W.drewN n) K :=
  ⟨_, fun w _ => by
    unfold Oper.quietAt execOp
    simp [ho, hx, hy, run_eqGuard_agg w .eql 142 x y _ _ entry_guard, run_eq_entry, hr, Result.andThen, Oper.quietUpon], hk⟩
set_option maxHeartbeats 1000000 in
set_option maxRecDepth 100000 in
theorem bits_none (f : Int) (w u r : Bool) (W : World) (h0 : 0 ≤ f) (h1 : f < 1024) (hr : (f == 0 && (false == false && (w == false && u == false))) = r) :
    Calls Tryd.prog 102 #[.agg #[.int .i64 f, .bool false, .bool w, .bool u]] W fun e w' => e = .returned (.tuple #[.int .u32 0, .bool r]) ∧ W.grownBy w' none := by
  have Hr := hid (grown_refl W none)
  have HR := hid hr
  clear hr
  have hn : ¬ f < 0 := by omega
  have hn2 : ¬ f ≥ 1024 := by omega
  go_enter Tryd.func102, Tryd.ntmps102
  go_wp2
  refine wp_region_quiet_lit (by kernel_rfl) (by kernel_rfl) ?_
  repeat (first | go_big_quiet_skip | (go_big_quiet_want; first | (refine quiet_eq_entry (W.alloc (.cells #[.int .i64 f, .bool false, .bool w, .bool u] 142)) _ _ rfl f 0 false w u false false false rfl rfl r HR.out ?_; simp only [Act.put, List.setIfInBounds_toArray, List.set_cons_zero, List.set_cons_succ]; go_big_quiet_on) | (go_big_quiet_op; go_big_quiet_on)))
  refine wpQuiet_nil ?_
  intro _ hw'
  obtain ⟨nq, hw''⟩ := hw'
  subst hw''
  go_wp2
  go_ret2
  exact ⟨rfl, grown_drewN (grown_alloc Hr.out _) _⟩
set_option maxRecDepth 100000 in
theorem bits_any (f : Int) (t w u : Bool) (W : World) :
    Calls Tryd.prog 102 #[.agg #[.int .i64 f, .bool t, .bool w, .bool u]] W fun e w' => e = .returned (.tuple #[.int .u32 (bitV f t w u), .bool (bitB f t w u)]) ∧ W.grownBy w' none := by
  by_cases h0 : 0 ≤ f ∧ f < 1024
  · obtain ⟨h0, h1⟩ := h0
    cases t
    · have e : bitV f false w u = 0 := by unfold bitV; rw [if_neg (by simp)]
      rw [e]
      refine bits_none f w u _ W h0 h1 ?_
      unfold bitB
      by_cases hf : f = 0
      · subst hf; cases w <;> cases u <;> rfl
      · simp [hf]
    · have e : bitB f true w u = true := by unfold bitB; simp [h0, h1]
      rw [e]
      exact bits_there f w u W h0 h1
  · have e : bitB f t w u = false := by unfold bitB; rw [decide_eq_false h0]; rfl
    rw [bitV_no e, e]
    exact bits_out f t w u W (by omega)
end Go.Proofs.YtpkgckjlhjcdmaaDoor
/- What package walk's Of answers: a contract. -/
namespace Go.Proofs.YtpkgckjlhjcdmaaDoor
open Go.RowKit
theorem nat_and_bit (n : Nat) : n &&& 1 = n % 2 ∧ n &&& 2 = n / 2 % 2 * 2 ∧ n &&& 4 = n / 4 % 2 * 4 := by
  have key : ∀ m : Nat, (m &&& 1) = m % 2 := Nat.and_one_is_mod
  refine ⟨key n, ?_, ?_⟩
  · have h1 : (n &&& 2) / 2 = (n / 2) &&& 1 := Nat.and_div_two
    have h2 : (n &&& 2) % 2 = 0 := by
      have := Nat.and_mod_two_pow (a := n) (b := 2) (n := 1)
      simpa using this
    rw [key] at h1
    omega
  · have h1 : (n &&& 4) / 2 = (n / 2) &&& 2 := Nat.and_div_two
    have h3 : (n / 2 &&& 2) / 2 = (n / 2 / 2) &&& 1 := Nat.and_div_two
    have h2 : (n &&& 4) % 4 = 0 := by
      have := Nat.and_mod_two_pow (a := n) (b := 4) (n := 2)
      simpa using this
    rw [key] at h3
    omega
theorem bit_one {v : Int} (h : 0 ≤ v) (h' : v < 4294967296) : (bits BinOp.and IntKind.u32 v 1 != 0) = tB v := by
  obtain ⟨n, rfl⟩ := Int.eq_ofNat_of_zero_le h
  rw [show (1 : Int) = ((1 : Nat) : Int) from rfl, u32_and_nat n 1 (by omega) (by decide), (nat_and_bit n).1]
  unfold tB
  rw [Bool.eq_iff_iff]; simp; omega
theorem bit_two {v : Int} (h : 0 ≤ v) (h' : v < 4294967296) : (bits BinOp.and IntKind.u32 v 2 != 0) = wB v := by
  obtain ⟨n, rfl⟩ := Int.eq_ofNat_of_zero_le h
  rw [show (2 : Int) = ((2 : Nat) : Int) from rfl, u32_and_nat n 2 (by omega) (by decide), (nat_and_bit n).2.1]
  unfold wB
  rw [Bool.eq_iff_iff]; simp; omega
theorem bit_four {v : Int} (h : 0 ≤ v) (h' : v < 4294967296) : (bits BinOp.and IntKind.u32 v 4 != 0) = uB v := by
  obtain ⟨n, rfl⟩ := Int.eq_ofNat_of_zero_le h
  rw [show (4 : Int) = ((4 : Nat) : Int) from rfl, u32_and_nat n 4 (by omega) (by decide), (nat_and_bit n).2.2]
  unfold uB
  rw [Bool.eq_iff_iff]; simp; omega
/-- a block that holds an entry -/
def EntAt (W : World) (B : Nat) (f : Int) (t w u : Bool) : Prop := W.heap[B]? = some (.cells #[.int .i64 f, .bool t, .bool w, .bool u] 142 (0, 0))
section
variable {W W1 : World} {B : Nat} {f : Int} {t w u : Bool}
theorem EntAt.lt (h : EntAt W B f t w u) : B < W.heap.size := (Array.getElem?_eq_some_iff.1 h).1
theorem EntAt.c0 (h : EntAt W B f t w u) : W.cell? ⟨B, 0, none⟩ = some (.int .i64 f) := by rw [cell_of_row W B 0 _ _ _ h]; rfl
theorem EntAt.c1 (h : EntAt W B f t w u) : W.cell? ⟨B, 1, none⟩ = some (.bool t) := by rw [cell_of_row W B 1 _ _ _ h]; rfl
theorem EntAt.c2 (h : EntAt W B f t w u) : W.cell? ⟨B, 2, none⟩ = some (.bool w) := by rw [cell_of_row W B 2 _ _ _ h]; rfl
theorem EntAt.c3 (h : EntAt W B f t w u) : W.cell? ⟨B, 3, none⟩ = some (.bool u) := by rw [cell_of_row W B 3 _ _ _ h]; rfl
theorem EntAt.fz (h : EntAt W B f t w u) (k : Nat) : W.frozen? ⟨B, k, none⟩ = false := frozen_of_row W B k _ _ h
theorem EntAt.kept {r : Option Nat} (h : EntAt W B f t w u) (hg : W.grownBy W1 r) (hr : some B ≠ r) : EntAt W1 B f t w u := (hg.block _ h.lt hr).trans h
theorem EntAt.kept0 (h : EntAt W B f t w u) (hg : W.grownBy W1 none) : EntAt W1 B f t w u := h.kept hg (by simp)
theorem EntAt.new (W : World) (f : Int) (t w u : Bool) : EntAt (W.alloc (.cells #[.int .i64 f, .bool t, .bool w, .bool u] 142)) W.heap.size f t w u := heap_alloc_last _ _
theorem EntAt.alloc (h : EntAt W B f t w u) (o : Obj) : EntAt (W.alloc o) B f t w u := h.kept0 (World.grownBy_alloc _ _ _)
theorem EntAt.all (h : EntAt W B f t w u) : W.cell? ⟨B, 0, none⟩ = some (.int .i64 f) ∧ W.cell? ⟨B, 1, none⟩ = some (.bool t) ∧ W.cell? ⟨B, 2, none⟩ = some (.bool w) ∧ W.cell? ⟨B, 3, none⟩ = some (.bool u) ∧ (∀ k, W.frozen? ⟨B, k, none⟩ = false) ∧ B < W.heap.size := ⟨h.c0, h.c1, h.c2, h.c3, h.fz, h.lt⟩
end
theorem bits_of (f : Int) (t w u : Bool) (V : Int) (b : Bool) (hV : bitV f t w u = V) (hb : bitB f t w u = b) (W : World) :
    Calls Tryd.prog 102 #[.agg #[.int .i64 f, .bool t, .bool w, .bool u]] W fun e w' => e = .returned (.tuple #[.int .u32 V, .bool b]) ∧ W.grownBy w' none := by
  subst hV; subst hb
  exact bits_any f t w u W
theorem rt_ent {f f' : Int} {t t' w w' u u' c c' : Bool} (h0 : f = f') (h1 : t = t') (h2 : w = w') (h3 : u = u') (h4 : c = c') :
    Ending.returned (.tuple #[.agg #[.int .i64 f, .bool t, .bool w, .bool u], .bool c]) = .returned (.tuple #[.agg #[.int .i64 f', .bool t', .bool w', .bool u'], .bool c']) := by rw [h0, h1, h2, h3, h4]
end Go.Proofs.YtpkgckjlhjcdmaaDoor
/- Two entries compared; the chapter's example: contracts. -/
namespace Go.Proofs.YtpkgckjlhjcdmaaDoor
open Go.RowKit
end Go.Proofs.YtpkgckjlhjcdmaaDoor

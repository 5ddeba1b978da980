/- The document's Valid (facaderef9) as plain data: its ways of asking, and that they come to what validP says. -/
import Derived.Test.YtgahbpfmiibpeaaGreatDoorZGSite
import Derived.Test.YtgahbpfmiibpeaaGreatDoorZGObjA
import Derived.Test.YtgahbpfmiibpeaaGreatDoorZGRef
import Derived.Test.YtgahbpfmiibpeaaGreatDoorZObjS
import Derived.Test.YtgahbpfmiibpeaaGreatDoorZGIsa
namespace Go.Proofs.YtgahbpfmiibpeaaGreatDoor
/-- the parts of a word of code are an instruction's -/
def wIns (x : PO) (k : Nat) : Bool := insB (x.C.getD k 0 / 16777216) (x.C.getD k 0 / 65536 % 256) (x.C.getD k 0 / 256 % 256) (x.C.getD k 0 % 256) 0
def rwordF (x : PO) (k : Nat) : Option Nat :=
  if mapN x k = 0 then (if 0 < k ∧ mapN x (k - 1) = 1 ∧ twoB (wOp x (k - 1)) = true then none else some 8)
  else if mapN x k = 1 then (if wIns x k = false ∨ wOp x k = 96 then some 4 else if twoB (wOp x k) = true ∧ (k + 1 = x.C.length ∨ mapN x (k + 1) ≠ 0) then some 8 else none)
  else if mapN x k = 2 then none else some 8
theorem cls_four {o : Int} : clsI o = 4 ↔ o = 96 := by
  unfold clsI
  constructor
  · intro h
    repeat' split at h
    all_goals omega
  · rintro rfl
    decide
theorem ins_cls {o a b c i : Int} (h : insB o a b c i = true) : clsI o ≠ 0 := by
  unfold insB at h
  simp only [Bool.and_eq_true, decide_eq_true_eq] at h
  exact h.1.1.1.1
theorem two_zero : twoB 0 = false := by decide
/-- the operation of a word that is one -/
theorem opN_yes {x : PO} {k : Nat} (hm : mapN x k = 1) (hi : wIns x k = true) : opN x k = wOp x k := by
  unfold wIns at hi
  unfold opN opW
  rw [if_pos hm, if_pos hi]
  rfl
theorem opN_no {x : PO} {k : Nat} (hm : mapN x k = 1) (hi : wIns x k = false) : opN x k = 0 := by
  unfold wIns at hi
  unfold opN opW
  rw [if_pos hm, hi]
  rfl
theorem opN_other {x : PO} {k : Nat} (hm : mapN x k ≠ 1) : opN x k = 0 := by
  unfold opN
  rw [if_neg hm]
theorem word_ins {x : PO} {k : Nat} (h : wordF x k = none) (hm : mapN x k = 1) : wIns x k = true := sifirst_ins (siword_first h hm) hm
theorem rword_eq {x : PO} {k : Nat} (h : ∀ j, j < k → wordF x j = none) : rwordF x k = wordF x k := by
  unfold rwordF wordF
  by_cases h1 : mapN x k = 1
  · have h0 : mapN x k ≠ 0 := by omega
    rw [if_neg h0, if_pos h1, if_pos h1]
    unfold firstF
    cases hi : wIns x k
    · rw [opN_no h1 hi]
      simp
    · rw [opN_yes h1 hi]
      have hc : clsI (wOp x k) ≠ 0 := ins_cls hi
      have hz : wOp x k ≠ 0 := fun e => hc (by rw [e]; decide)
      by_cases h96 : wOp x k = 96
      · rw [if_pos (.inr h96), if_pos (.inr (cls_four.2 h96))]
      · rw [if_neg (show ¬ (true = false ∨ wOp x k = 96) from fun e => e.elim (fun e => by cases e) h96), if_neg (show ¬ (wOp x k = 0 ∨ clsI (wOp x k) = 4) from fun e => e.elim hz (fun e => h96 (cls_four.1 e)))]
  · by_cases h0 : mapN x k = 0
    · rw [if_pos h0, if_neg h1, if_pos h0]
      congr 1
      rw [eq_iff_iff]
      unfold opB
      by_cases hk : k = 0
      · rw [if_pos hk, two_zero]
        simp [hk]
      · rw [if_neg hk]
        by_cases hm : mapN x (k - 1) = 1
        · rw [opN_yes hm (word_ins (h (k - 1) (by omega)) hm)]
          constructor
          · exact fun e => e.2.2
          · exact fun e => ⟨by omega, hm, e⟩
        · rw [opN_other hm, two_zero]
          constructor
          · exact fun e => absurd e.2.1 hm
          · intro e; cases e
    · rw [if_neg h0, if_neg h1, if_neg h1, if_neg h0]
theorem scanP_congr {f g : Nat → Option Nat} : ∀ {n : Nat}, (∀ k, k < n → (∀ j, j < k → g j = none) → f k = g k) → scanP f n = scanP g n
  | 0, _ => rfl
  | n + 1, h => by
    have e := scanP_congr (f := f) (g := g) (n := n) (fun k hk hj => h k (by omega) hj)
    rw [scanP, scanP, e]
    cases hs : scanP g n with
    | some y => rfl
    | none => rw [h n (by omega) (fun j hj => scanP_all hs j hj)]
theorem rword_scan (x : PO) (n : Nat) : scanP (rwordF x) n = scanP (wordF x) n := scanP_congr fun _ _ hj => rword_eq hj
/-- the operation ahead of a word, where that is a second one -/
def aheadR (x : PO) (a : Nat) : Int := if 0 < a ∧ mapN x a = 0 then wOp x (a - 1) else 0
def rrepB (x : PO) (r : Rl) : Bool :=
  if r.k = 2 then decide (mapN x r.a.toNat = 1) && brB (wOp x r.a.toNat) && !toB x r
  else (decide (mapN x r.a.toNat = 2) || farB (aheadR x r.a.toNat) || decide (aheadR x r.a.toNat = 14) || decide (aheadR x r.a.toNat = 15)) && !(toB x r && farB (aheadR x r.a.toNat))
/-- of a second word -/
theorem second_is {x : PO} {a : Nat} (h : wordF x a = none) (hm : mapN x a = 0) : twoB (opB x a) = true := by
  unfold wordF at h
  rw [if_neg (by omega), if_pos hm] at h
  by_cases e : twoB (opB x a) = true
  · exact e
  · rw [if_neg e] at h; cases h
theorem far_two {o : Int} (h : farB o = true ∨ o = 14 ∨ o = 15) : twoB o = true := by
  unfold farB at h
  simp only [decide_eq_true_eq] at h
  rcases h with (h | h | h | h) | h | h <;> subst h <;> decide
theorem ahead_is {x : PO} (hw : ∀ k, k < x.C.length → wordF x k = none) {a : Nat} (ha : a < x.C.length) : (mapN x a = 0 → aheadR x a = opB x a ∧ 0 < a) ∧ (mapN x a ≠ 0 → twoB (opB x a) = false ∧ aheadR x a = 0) := by
  constructor
  · intro hm
    have h2 := second_is (hw a ha) hm
    by_cases h0 : a = 0
    · subst h0
      simp [opB, two_zero] at h2
    · have hp : mapN x (a - 1) = 1 := by
        by_cases e : mapN x (a - 1) = 1
        · exact e
        · exfalso
          unfold opB at h2
          rw [if_neg h0, opN_other e, two_zero] at h2
          cases h2
      refine ⟨?_, by omega⟩
      unfold aheadR opB
      rw [if_pos ⟨by omega, hm⟩, if_neg h0, opN_yes hp (word_ins (hw (a - 1) (by omega)) hp)]
  · intro hm
    refine ⟨?_, by unfold aheadR; rw [if_neg (by omega)]⟩
    unfold opB
    by_cases h0 : a = 0
    · rw [if_pos h0, two_zero]
    · rw [if_neg h0]
      by_cases hp : mapN x (a - 1) = 1
      · have hf := siword_first (hw (a - 1) (by omega)) hp
        unfold firstF at hf
        cases ht : twoB (opN x (a - 1)) with
        | false => rfl
        | true =>
          exfalso
          rw [ht] at hf
          split at hf
          · cases hf
          · rw [if_pos ⟨rfl, .inr (by rw [show a - 1 + 1 = a by omega]; exact hm)⟩] at hf
            cases hf
      · rw [opN_other hp, two_zero]
theorem rrep_eq {x : PO} (hw : ∀ k, k < x.C.length → wordF x k = none) {r : Rl} (h0 : 0 ≤ r.a) (hn : r.a < x.C.length) : rrepB x r = repB x r := by
  unfold rrepB repB
  have ha : r.a.toNat < x.C.length := by omega
  obtain ⟨p, q⟩ := ahead_is hw ha
  by_cases hk : r.k = 2
  · rw [if_pos hk, if_pos hk]
    congr 1
    by_cases hm : mapN x r.a.toNat = 1
    · rw [opN_yes hm (word_ins (hw _ ha) hm)]
      simp [hm]
    · rw [opN_other hm]
      simp only [hm, decide_false, Bool.false_and]
      decide
  · rw [if_neg hk, if_neg hk]
    by_cases hm0 : mapN x r.a.toNat = 0
    · rw [(p hm0).1, if_neg (by omega)]
      simp only [show ¬ mapN x r.a.toNat = 2 by omega, decide_false, Bool.false_or]
      cases hf : farB (opB x r.a.toNat)
      · simp
      · have hne : ¬ opB x r.a.toNat = 14 ∧ ¬ opB x r.a.toNat = 15 := by
          unfold farB at hf
          simp only [decide_eq_true_eq] at hf
          omega
        simp [hne.1, hne.2]
    · obtain ⟨h2, h3⟩ := q hm0
      have hfz : farB 0 = false := by decide
      rw [h3, hfz]
      by_cases hm2 : mapN x r.a.toNat = 2
      · rw [if_pos hm2]
        simp [hm2]
      · rw [if_neg hm2]
        have n14 : ¬ opB x r.a.toNat = 14 := fun e => by rw [e] at h2; cases h2
        have n15 : ¬ opB x r.a.toNat = 15 := fun e => by rw [e] at h2; cases h2
        have nf : farB (opB x r.a.toNat) = false := by
          cases hf : farB (opB x r.a.toNat) with
          | false => rfl
          | true => have := far_two (.inl hf); rw [this] at h2; cases h2
        simp [hm2, n14, n15, nf]
def runrF (x : PO) (k : Nat) : Option Nat :=
  if mapN x k = 1 ∧ ((brB (wOp x k) = true ∧ hasRB x k = false) ∨ ((farB (wOp x k) = true ∨ wOp x k = 15) ∧ hasRB x (k + 1 : Nat) = false)) then some 6 else none
theorem runr_eq {x : PO} (hw : ∀ k, k < x.C.length → wordF x k = none) {k : Nat} (hk : k < x.C.length) : runrF x k = unrF x k := by
  unfold runrF unrF
  congr 1
  rw [eq_iff_iff]
  by_cases hm : mapN x k = 1
  · rw [opN_yes hm (word_ins (hw k hk) hm)]
    constructor
    · rintro ⟨_, h | ⟨h | h, h'⟩⟩
      · exact .inl h
      · exact .inr ⟨.inr h, h'⟩
      · exact .inr ⟨.inl h, h'⟩
    · rintro (h | ⟨h | h, h'⟩)
      · exact ⟨hm, .inl h⟩
      · exact ⟨hm, .inr ⟨.inr h, h'⟩⟩
      · exact ⟨hm, .inr ⟨.inl h, h'⟩⟩
  · rw [opN_other hm]
    constructor
    · intro h; exact absurd h.1 hm
    · rintro (h | h)
      · have := h.1; cases this
      · rcases h.1 with h | h
        · cases h
        · cases h
end Go.Proofs.YtgahbpfmiibpeaaGreatDoor
/- The document's objects (facaderef9): its little questions: contracts. -/
namespace Go.Proofs.YtgahbpfmiibpeaaGreatDoor
open Go.RowKit
set_option maxRecDepth 100000 in
set_option maxHeartbeats 4000000 in
theorem second_any {W : World} {V : OV} {x : PO} {k : Nat} (h : OAt W V x) (hk : k < x.C.length) (hn : x.C.length ≤ 1000000) :
    Calls Tryz.prog 51 #[V.agg, .int .i64 k] W fun e w' => e = .returned (.int .u32 (secN x k)) ∧ W.grownBy w' none := by
  obtain ⟨d, c, m, r, q, s⟩ := V
  obtain ⟨b, o, cc, hcv, hb, hc⟩ := h.c.at_ (by omega)
  simp only at hcv
  subst hcv
  have HB0 := hid (RwAt.new W 27 #[d, .slice (some ⟨b, o, none⟩) x.C.length cc, m, r, q, s])
  have HG0 := hid (World.grownBy_alloc W (.cells #[d, .slice (some ⟨b, o, none⟩) x.C.length cc, m, r, q, s] 27) none)
  have HC := hid hc
  have Hb := hid hb
  obtain ⟨j, hj⟩ : ∃ j, secN x k = j := ⟨_, rfl⟩
  rw [hj]
  have Hj := hid hj
  obtain ⟨n, hne⟩ : ∃ n, x.C.length = n := ⟨_, rfl⟩
  rw [hne] at HB0 HG0 hk hn ⊢
  have Hne := hid hne
  have k0 : (0 : Int) ≤ (k : Int) := by omega
  have kn : (k : Int) < (n : Int) := by omega
  have n1 : (n : Int) ≤ 1000000 := by omega
  clear h hk hn hc hb hj hne
  go_enter Tryz.func51, Tryz.ntmps51
  go_upto_region 1 with (fail)
  obtain ⟨G, hG⟩ : ∃ G, W.heap.size = G := ⟨_, rfl⟩
  rw [hG] at HB0 ⊢
  clear hG
  generalize W.alloc (.cells #[d, .slice (some ⟨b, o, none⟩) n cc, m, r, q, s] 27) = w1 at HB0 HG0 ⊢
  have e1 := HB0.out.cell 1 (v := .slice (some ⟨b, o, none⟩) n cc) rfl
  by_cases hlast : k + 1 < n
  · have kl : (k : Int) + 1 < (n : Int) := by omega
    obtain ⟨z, hz⟩ : ∃ z, x.C[k + 1]? = some z := ⟨_, List.getElem?_eq_getElem (by rw [Hne.out]; exact hlast)⟩
    have hjz : j = z := by rw [← Hj.out]; unfold secN; rw [List.getD_eq_getElem?_getD, hz]; rfl
    subst hjz
    have ez : w1.cell? ⟨b, o + (k + 1), none⟩ = some (.int .u32 j) := by rw [grown_cell HG0.out Hb.out (by simp)]; exact HC.out (k + 1) j hz
    have ez2 : w1.cell? ⟨b, o + k + 1, none⟩ = some (.int .u32 j) := ez
    clear hz hlast
    go_wp2
    go_ret
    exact ⟨rfl, HG0.out⟩
  · have kl : ¬ ((k : Int) + 1 < (n : Int)) := by omega
    have hjz : j = 0 := by rw [← Hj.out]; unfold secN; rw [List.getD_eq_getElem?_getD, List.getElem?_eq_none (by rw [Hne.out]; omega)]; rfl
    subst hjz
    clear hlast
    go_wp2
    go_ret
    exact ⟨rfl, HG0.out⟩
set_option maxHeartbeats 1000000 in
theorem rfar_any (o : Int) (w : World) : Calls Tryz.prog 100 #[.int .i64 o] w fun e w' => e = .returned (.bool (!decide (-65536 ≤ o ∧ o ≤ 65536))) ∧ w = w' := by
  by_cases h1 : o < -65536
  · have hz : (!decide (-65536 ≤ o ∧ o ≤ 65536)) = true := by simp; omega
    rw [hz]
    clear hz
    go_enter Tryz.func100, Tryz.ntmps100
    go_wp2
    go_ret
    exact ⟨rfl, rfl⟩
  · by_cases h2 : o > 65536
    · have hz : (!decide (-65536 ≤ o ∧ o ≤ 65536)) = true := by simp; omega
      rw [hz]
      clear hz
      go_enter Tryz.func100, Tryz.ntmps100
      go_wp2
      go_ret
      exact ⟨rfl, rfl⟩
    · have hz : (!decide (-65536 ≤ o ∧ o ≤ 65536)) = false := by simp; omega
      rw [hz]
      clear hz
      go_enter Tryz.func100, Tryz.ntmps100
      go_wp2
      go_ret
      exact ⟨rfl, rfl⟩
theorem rjmp_any (o : Int) (w : World) : Calls Tryz.prog 71 #[.int .i64 o] w fun e w' => e = .returned (.bool (farB o)) ∧ w = w' := by
  by_cases h : o = 19 ∨ o = 20 ∨ o = 21 ∨ o = 22
  · rcases h with rfl | rfl | rfl | rfl
    all_goals
      go_enter Tryz.func71, Tryz.ntmps71
      go_wp2
      go_ret
      exact ⟨rfl, rfl⟩
  · have hz : farB o = false := by unfold farB; simpa using h
    have e1 : (o == 19) = false := by simp only [beq_eq_false_iff_ne]; omega
    have e2 : (o == 20) = false := by simp only [beq_eq_false_iff_ne]; omega
    have e3 : (o == 21) = false := by simp only [beq_eq_false_iff_ne]; omega
    have e4 : (o == 22) = false := by simp only [beq_eq_false_iff_ne]; omega
    rw [hz]
    clear hz h
    go_enter Tryz.func71, Tryz.ntmps71
    go_wp2
    go_ret
    exact ⟨rfl, rfl⟩
set_option maxRecDepth 100000 in
set_option maxHeartbeats 4000000 in
/-- the relocation of a word: none is below 0 -/
theorem rrel_any {W : World} {v : Value} {l : List Rl} (h : RlAt W v l) (hl : l.length ≤ 1000000) (a : Int) (zb : Bool) (hz : (l.any fun r => decide (r.a = a)) = zb) :
    Calls Tryz.prog 70 #[v, .int .i64 a] W fun e w' => ∃ z : Int, e = .returned (.int .i64 z) ∧ (z < 0 ↔ zb = false) ∧ W = w' := by
  obtain ⟨p, c, rfl⟩ := h.len
  obtain ⟨N, hN⟩ : ∃ N, l.length = N := ⟨_, rfl⟩
  have HN := hid hN
  have H := hid h
  have Hz := hid hz
  clear hz
  rw [hN] at hl ⊢
  have n0 : (0 : Int) ≤ (N : Int) := by omega
  have n1 : (N : Int) ≤ 1000000 := by omega
  clear h hN hl
  go_enter Tryz.func70, Tryz.ntmps70
  go_wp2
  go_loop [5] (fun i => ∃ k : Nat, k ≤ N ∧ i = .int .i64 k ∧ Hid (∀ j, j < k → (rlN l j).a ≠ a)) (fun i => N - (intOf i).toNat)
  case atStart => exact ⟨0, Nat.zero_le _, rfl, hid (fun j hj => by omega)⟩
  case round =>
    obtain ⟨k, hk, rfl, HR⟩ := hrel
    have k0 : (0 : Int) ≤ (k : Int) := by omega
    by_cases hlt : k < N
    · have kn : (k : Int) < (N : Int) := by omega
      have Hlt := hid hlt
      obtain ⟨y, hy⟩ : ∃ y, l[k]? = some y := ⟨_, List.getElem?_eq_getElem (by rw [HN.out]; exact hlt)⟩
      obtain ⟨b, o, c', hv, -, hb, hc⟩ := H.out.at_ (by rw [HN.out]; omega)
      simp only [Value.slice.injEq] at hv
      obtain ⟨rfl, -, -⟩ := hv
      have ey : W.cell? ⟨b, o + k * 4, none⟩ = some (.int .i64 y.a) := hc (k * 4 + 0) _ (by rw [rlsC_get l k 0 y hy (by decide)]; rfl)
      have Hyd : Hid (rlN l k = y) := hid (by unfold rlN; rw [List.getD_eq_getElem?_getD, hy]; rfl)
      have Hym := hid (List.mem_of_getElem? hy)
      clear hb hc hy hlt
      by_cases he : y.a = a
      · have heb : (y.a == a) = true := by rw [beq_iff_eq]; exact he
        have He := hid he
        clear he
        go_wp2
        go_ret
        refine ⟨k, rfl, ?_, rfl⟩
        have ht : zb = true := by rw [← Hz.out]; exact List.any_eq_true.2 ⟨y, Hym.out, by rw [decide_eq_true_eq]; exact He.out⟩
        rw [ht]
        constructor
        · intro h; omega
        · intro h; cases h
      · have heb : (y.a == a) = false := by rw [beq_eq_false_iff_ne]; exact he
        have He := hid he
        clear he
        go_wp2
        go_round
        case rel =>
          refine ⟨k + 1, Hlt.out, by go_num, hid (fun j hj => ?_)⟩
          by_cases e : j = k
          · rw [e, Hyd.out]; exact He.out
          · exact HR.out j (by omega)
        case measure => simp [intOf]; have := Hlt.out; omega
    · obtain rfl : k = N := by omega
      have kn : ¬ ((k : Int) < (k : Int)) := by omega
      clear hlt
      go_wp2
      go_ret
      refine ⟨-1, rfl, ?_, rfl⟩
      constructor
      · intro _
        rw [← Hz.out, List.any_eq_false]
        intro r hr
        obtain ⟨j, hj⟩ := List.mem_iff_getElem?.1 hr
        have hjl : j < k := by rw [← HN.out]; exact (List.getElem?_eq_some_iff.1 hj).1
        have := HR.out j hjl
        unfold rlN at this
        rw [List.getD_eq_getElem?_getD, hj] at this
        simpa using this
      · intro _; omega
end Go.Proofs.YtgahbpfmiibpeaaGreatDoor
/- The document's objects (facaderef9): Back answers: contract. -/
namespace Go.Proofs.YtgahbpfmiibpeaaGreatDoor
open Go.RowKit
/-- what Of answers, as one -/
def ofV (x imm : Int) : Value := if insB (x / 16777216) (x / 65536 % 256) (x / 256 % 256) (x % 256) (wantImm (x / 16777216) imm) = true then .tuple #[.agg #[.int .i64 (x / 16777216), .int .i64 (x / 65536 % 256), .int .i64 (x / 256 % 256), .int .i64 (x % 256), .int .u32 (wantImm (x / 16777216) imm)], .bool true] else .tuple #[.agg #[.int .i64 0, .int .i64 0, .int .i64 0, .int .i64 0, .int .u32 0], .bool false]
theorem rof_any (x imm : Int) (w : World) (h0 : 0 ≤ x) (h1 : x < 4294967296) : Calls Tryz.prog 50 #[.int .u32 x, .int .u32 imm] w fun e w' => e = .returned (ofV x imm) ∧ w.grownBy w' none := by
  cases h : insB (x / 16777216) (x / 65536 % 256) (x / 256 % 256) (x % 256) (wantImm (x / 16777216) imm)
  · exact (rof_no x imm w h0 h1 h).mono fun e w' he => ⟨by rw [he.1]; unfold ofV; rw [h]; rfl, below_is_grown he.2⟩
  · exact (rof_yes x imm w h0 h1 h).mono fun e w' he => ⟨by rw [he.1]; unfold ofV; rw [if_pos h], below_is_grown he.2⟩
theorem ofV_parts (x imm : Int) : ∃ a b c d e t, ofV x imm = .tuple #[.agg #[.int .i64 a, .int .i64 b, .int .i64 c, .int .i64 d, .int .u32 e], .bool t] := by
  unfold ofV
  split
  · exact ⟨_, _, _, _, _, _, rfl⟩
  · exact ⟨_, _, _, _, _, _, rfl⟩
theorem info_ins9 : (Tryz.prog.info? 48).map (·.size) = some 5 := by kernel_rfl
theorem zero_ins9 (w : World) : (zeroValue 48).run Tryz.prog w = .ok (.agg #[.int .i64 0, .int .i64 0, .int .i64 0, .int .i64 0, .int .u32 0]) w := by kernel_rfl
theorem build_ins0 (w : World) : (Instr.build 48 #[]).run Tryz.prog w = .ok (.agg #[.int .i64 0, .int .i64 0, .int .i64 0, .int .i64 0, .int .u32 0]) w := by kernel_rfl
def BackAt (W : World) (e : Ending) (w' : World) : Prop := (∃ a b c d i t, e = .returned (.tuple #[.agg #[.int .i64 a, .int .i64 b, .int .i64 c, .int .i64 d, .int .u32 i], .bool t])) ∧ W.grownBy w' none
set_option maxRecDepth 100000 in
set_option maxHeartbeats 4000000 in
theorem rback_any (y : Int) (W : World) (h0 : 0 ≤ y) (h1 : y < 4294967296) : Calls Tryz.prog 36 #[.int .u32 y] W (BackAt W) := by
  have HR0 := hid (RwAt.new W 48 #[.int .i64 0, .int .i64 0, .int .i64 0, .int .i64 0, .int .u32 0])
  have HG0 := hid (World.grownBy_alloc W (.cells #[.int .i64 0, .int .i64 0, .int .i64 0, .int .i64 0, .int .u32 0] 48) none)
  have Hz := zero_ins9
  have Hb := build_ins0
  have HY := hid (And.intro h0 h1)
  go_enter Tryz.func36, Tryz.ntmps36
  go_upto_region 1 with (fail)
  clear Hz
  obtain ⟨R, hR⟩ : ∃ R, W.heap.size = R := ⟨_, rfl⟩
  have HRe := hid hR
  rw [hR] at HR0 ⊢
  clear hR
  generalize W.alloc (.cells #[.int .i64 0, .int .i64 0, .int .i64 0, .int .i64 0, .int .u32 0] 48) = w1 at HR0 HG0 ⊢
  by_cases hm : y < 2147483648
  · have E := hid (HR0.out.row #[.int .i64 0, .int .i64 0, .int .i64 0, .int .i64 0, .int .u32 0])
    have EG := hid (grown_setRow HG0.out (Nat.le_of_eq HRe.out) #[.int .i64 0, .int .i64 0, .int .i64 0, .int .i64 0, .int .u32 0])
    have k0 := E.out.cell 0 (v := .int .i64 0) rfl
    have k1 := E.out.cell 1 (v := .int .i64 0) rfl
    have k2 := E.out.cell 2 (v := .int .i64 0) rfl
    have k3 := E.out.cell 3 (v := .int .i64 0) rfl
    have k4 := E.out.cell 4 (v := .int .u32 0) rfl
    go_wp2_with (first
      | (refine wpList_store_rw rfl 48 _ _ rfl rfl rfl HR0.out info_ins9 rfl (by simp [Value.oneCell']) ?_)
      | fail)
    refine bodyPost_ret (v := .tuple #[.agg #[.int .i64 0, .int .i64 0, .int .i64 0, .int .i64 0, .int .u32 0], .bool false]) (by simp [results, Tryz.results36, k0, k1, k2, k3, k4, go_sem]) rfl ?_
    exact ⟨⟨_, _, _, _, _, _, rfl⟩, EG.out⟩
  · have hm2 : 2147483648 ≤ y := by omega
    have hsub : 0 ≤ y - 2147483648 ∧ y - 2147483648 < 4294967296 := by omega
    have HS := hid hsub
    obtain ⟨z, hz⟩ : ∃ z, y - 2147483648 = z := ⟨_, rfl⟩
    have hzm : z % 4294967296 = z := by omega
    rw [hz] at HS
    have z0 := HS.out.1
    have z1 := HS.out.2
    go_wp2_with fail
    refine (rof_any z 0 _ z0 z1).mono ?_
    rintro e w2 ⟨rfl, hg⟩
    obtain ⟨a, b, c, d, i, t, hv⟩ := ofV_parts z 0
    rw [hv]
    have HR2 := hid (HR0.out.kept0 hg)
    have HG2 := hid (grown_trans HG0.out hg)
    have al := World.grownBy_alloc w2 (.cells #[.int .i64 a, .int .i64 b, .int .i64 c, .int .i64 d, .int .u32 i] 48) none
    have HX3 := hid (RwAt.new w2 48 #[.int .i64 a, .int .i64 b, .int .i64 c, .int .i64 d, .int .u32 i])
    have HR3 := hid (HR2.out.kept0 al)
    have HG3 := hid (grown_trans HG2.out al)
    clear hg hv al HR0 HG0 HR2 HG2
    go_upto_region 4 with (fail)
    obtain ⟨X, hX⟩ : ∃ X, w2.heap.size = X := ⟨_, rfl⟩
    rw [hX] at HX3 ⊢
    clear hX
    generalize w2.alloc (.cells #[.int .i64 a, .int .i64 b, .int .i64 c, .int .i64 d, .int .u32 i] 48) = w3 at HX3 HR3 HG3 ⊢
    have x0 := HX3.out.cell 0 (v := .int .i64 a) rfl
    go_wp2_with fail
    refine (rclass_any a _).mono ?_
    rintro e w4 ⟨rfl, rfl⟩
    clear x0
    obtain ⟨cl, hcl⟩ : ∃ cl, clsI a = cl := ⟨_, rfl⟩
    rw [hcl]
    clear hcl
    cases t with
    | false =>
      have E := hid (HR3.out.row #[.int .i64 0, .int .i64 0, .int .i64 0, .int .i64 0, .int .u32 0])
      have EG := hid (grown_setRow HG3.out (Nat.le_of_eq HRe.out) #[.int .i64 0, .int .i64 0, .int .i64 0, .int .i64 0, .int .u32 0])
      have k0 := E.out.cell 0 (v := .int .i64 0) rfl
      have k1 := E.out.cell 1 (v := .int .i64 0) rfl
      have k2 := E.out.cell 2 (v := .int .i64 0) rfl
      have k3 := E.out.cell 3 (v := .int .i64 0) rfl
      have k4 := E.out.cell 4 (v := .int .u32 0) rfl
      go_wp2_with (first
        | (refine wpList_load_rw rfl 48 _ rfl rfl HX3.out rfl Tryz.underlying48 info_ins9 ?_)
        | (refine wpList_store_rw rfl 48 _ _ rfl rfl rfl HR3.out info_ins9 rfl (by simp [Value.oneCell']) ?_)
        | fail)
      refine bodyPost_ret (v := .tuple #[.agg #[.int .i64 0, .int .i64 0, .int .i64 0, .int .i64 0, .int .u32 0], .bool false]) (by simp [results, Tryz.results36, k0, k1, k2, k3, k4, go_sem]) rfl ?_
      exact ⟨⟨_, _, _, _, _, _, rfl⟩, EG.out⟩
    | true =>
      by_cases h2 : cl = 2
      · subst h2
        have E := hid (HR3.out.row #[.int .i64 a, .int .i64 b, .int .i64 c, .int .i64 d, .int .u32 i])
        have EG := hid (grown_setRow HG3.out (Nat.le_of_eq HRe.out) #[.int .i64 a, .int .i64 b, .int .i64 c, .int .i64 d, .int .u32 i])
        have k0 := E.out.cell 0 (v := .int .i64 a) rfl
        have k1 := E.out.cell 1 (v := .int .i64 b) rfl
        have k2 := E.out.cell 2 (v := .int .i64 c) rfl
        have k3 := E.out.cell 3 (v := .int .i64 d) rfl
        have k4 := E.out.cell 4 (v := .int .u32 i) rfl
        go_wp2_with (first
          | (refine wpList_load_rw rfl 48 _ rfl rfl HX3.out rfl Tryz.underlying48 info_ins9 ?_)
          | (refine wpList_store_rw rfl 48 _ _ rfl rfl rfl HR3.out info_ins9 rfl (by simp [Value.oneCell']) ?_)
          | fail)
        refine bodyPost_ret (v := .tuple #[.agg #[.int .i64 a, .int .i64 b, .int .i64 c, .int .i64 d, .int .u32 i], .bool true]) (by simp [results, Tryz.results36, k0, k1, k2, k3, k4, go_sem]) rfl ?_
        exact ⟨⟨_, _, _, _, _, _, rfl⟩, EG.out⟩
      · by_cases h3 : cl = 3
        · subst h3
          have h2b : ((3 : Int) != 2) = true := by decide
          have E := hid (HR3.out.row #[.int .i64 a, .int .i64 b, .int .i64 c, .int .i64 d, .int .u32 i])
          have EG := hid (grown_setRow HG3.out (Nat.le_of_eq HRe.out) #[.int .i64 a, .int .i64 b, .int .i64 c, .int .i64 d, .int .u32 i])
          have k0 := E.out.cell 0 (v := .int .i64 a) rfl
          have k1 := E.out.cell 1 (v := .int .i64 b) rfl
          have k2 := E.out.cell 2 (v := .int .i64 c) rfl
          have k3 := E.out.cell 3 (v := .int .i64 d) rfl
          have k4 := E.out.cell 4 (v := .int .u32 i) rfl
          go_wp2_with (first
            | (refine wpList_load_rw rfl 48 _ rfl rfl HX3.out rfl Tryz.underlying48 info_ins9 ?_)
            | (refine wpList_store_rw rfl 48 _ _ rfl rfl rfl HR3.out info_ins9 rfl (by simp [Value.oneCell']) ?_)
            | fail)
          refine bodyPost_ret (v := .tuple #[.agg #[.int .i64 a, .int .i64 b, .int .i64 c, .int .i64 d, .int .u32 i], .bool true]) (by simp [results, Tryz.results36, k0, k1, k2, k3, k4, go_sem]) rfl ?_
          exact ⟨⟨_, _, _, _, _, _, rfl⟩, EG.out⟩
        · have h2b : (cl != 2) = true := by simpa using h2
          have h3b : (cl != 3) = true := by simpa using h3
          clear h2 h3
          have E := hid (HR3.out.row #[.int .i64 0, .int .i64 0, .int .i64 0, .int .i64 0, .int .u32 0])
          have EG := hid (grown_setRow HG3.out (Nat.le_of_eq HRe.out) #[.int .i64 0, .int .i64 0, .int .i64 0, .int .i64 0, .int .u32 0])
          have k0 := E.out.cell 0 (v := .int .i64 0) rfl
          have k1 := E.out.cell 1 (v := .int .i64 0) rfl
          have k2 := E.out.cell 2 (v := .int .i64 0) rfl
          have k3 := E.out.cell 3 (v := .int .i64 0) rfl
          have k4 := E.out.cell 4 (v := .int .u32 0) rfl
          go_wp2_with (first
            | (refine wpList_load_rw rfl 48 _ rfl rfl HX3.out rfl Tryz.underlying48 info_ins9 ?_)
            | (refine wpList_store_rw rfl 48 _ _ rfl rfl rfl HR3.out info_ins9 rfl (by simp [Value.oneCell']) ?_)
            | fail)
          refine bodyPost_ret (v := .tuple #[.agg #[.int .i64 0, .int .i64 0, .int .i64 0, .int .i64 0, .int .u32 0], .bool false]) (by simp [results, Tryz.results36, k0, k1, k2, k3, k4, go_sem]) rfl ?_
          exact ⟨⟨_, _, _, _, _, _, rfl⟩, EG.out⟩
end Go.Proofs.YtgahbpfmiibpeaaGreatDoor

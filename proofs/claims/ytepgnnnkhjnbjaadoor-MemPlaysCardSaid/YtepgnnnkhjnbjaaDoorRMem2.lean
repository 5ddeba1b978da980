/- The document's own memory: a frame read, a frame filled: contracts. -/
import Derived.Test.YtepgnnnkhjnbjaaDoorRMem1
namespace Go.Proofs.YtepgnnnkhjnbjaaDoor
open Go.RowKit
def WordsAt (w : World) (ls : List Int) (e : Ending) (w' : World) : Prop := ∃ v, e = .returned v ∧ SlAt w' .u32 v ls ∧ w.grownBy w' none
structure WRel (w : World) (ls : List Int) (v : Value) (k : Nat) (wr : World) : Prop where
  own : wr.ownsRow w.heap.size 23 1 v k ((ls.take k).map (Value.int .u32))
  grown : w.grownBy wr none
set_option maxHeartbeats 1000000 in
theorem words_any {w : World} {b o c N : Nat} {ls : List Int} (hl : ls.length = N) (hN : N ≤ 1048576) (hb : b < w.heap.size) (hc : ∀ j x, ls[j]? = some x → w.cell? ⟨b, o + j, none⟩ = some (.int .u32 x)) :
    Calls Tryd.prog 31 #[.slice (some ⟨b, o, none⟩) N c] w (WordsAt w ls) := by
  obtain ⟨i, hi, hz0, hz1, hz2⟩ := info_parts (P := Tryd.prog) (e := 23) (z := .int .u32 0) (size := 1) (bytes := 4) (by kernel_rfl)
  have hmk : ∃ C, Hid (C.size = N * 1) ∧ (Instr.makeSlice 33 (.int .i64 0) (.int .i64 N)).run Tryd.prog w = .ok (.slice (some ⟨w.heap.size, 0, none⟩) 0 N) (w.alloc (.cells C 23)) := by
    have := run_make (P := Tryd.prog) w 33 23 i _ Tryd.underlying33 hi hz0 .i64 .i64 0 N (by omega) (by omega) (by rw [hz2]; omega) (by omega)
    rw [hz1] at this
    simp only [Int.toNat_natCast, Int.toNat_zero] at this
    exact ⟨_, hid (size_madeCells _ _), this⟩
  obtain ⟨C, HC, hmk⟩ := hmk
  have Hi := hid hi
  have Hz0 := hid hz0
  have Hz1 := hid hz1
  have Hz2 := hid hz2
  have Hc := hid hc
  have Hl := hid hl
  clear hi hz0 hz1 hz2 hc hl
  go_enter Tryd.func31, Tryd.ntmps31
  go_wp2
  go_loopw [3, 4] (fun v i wr => ∃ k : Nat, k ≤ N ∧ i = .int .i64 k ∧ Hid (WRel w ls v k wr)) (fun _ i _ => N - (intOf i).toNat)
  case atStart => exact ⟨0, Nat.zero_le _, rfl, hid ⟨by simpa using World.ownsRow_made w C N (Nat.le_refl _) (by unfold maxLen; omega) HC.out, World.grownBy_alloc _ _ _⟩⟩
  case round =>
    obtain ⟨k, hk, rfl, HR⟩ := hrel
    by_cases hlt : k < N
    · obtain ⟨x, Hx⟩ : ∃ x, Hid (ls[k]? = some x) := ⟨_, hid (List.getElem?_eq_getElem (by rw [Hl.out]; exact hlt))⟩
      have hcx := (grown_cell (p := ⟨b, o + k, none⟩) HR.out.grown hb (by simp)).trans (Hc.out k x Hx.out)
      have hk0 : (0 : Int) ≤ (k : Int) := by omega
      have hk1 : (k : Int) < (N : Int) := by omega
      have Hown := hid (own_kept0 HR.out.own (World.grownBy_alloc wr (.cells #[.int .u32 x] 23) none))
      have Hnew := hid (one_new wr (.int .u32 x) 23)
      have H63 : Hid (k + 1 ≤ maxLen) := hid (by unfold maxLen; omega)
      have Hby : Hid ((k + 1) * 4 ≤ 140737488355328) := hid (by omega)
      have Hba : Hid (w.heap.size ≤ (wr.alloc (.cells #[.int .u32 x] 23)).heap.size) := hid (by have := HR.out.grown.size; simp; omega)
      go_wp2_with (refine wpList_append_own _ rfl _ _ 33 rfl w.heap.size 23 i _ 1 4 Tryd.underlying33 Hi.out Hz0.out Hz1.out Hz2.out rfl (by decide) _ _ _ rfl Hown.out ⟨wr.heap.size, 0, none⟩ 1 1 [.int .u32 x] rfl rfl Hnew.out (by simp [Value.oneCell']) H63.out Hby.out Hba.out ?_; intro v' w2 hown2 hgrow2 _; have HO := hid hown2; have HG := hid hgrow2; clear hown2 hgrow2)
      go_roundw
      case rel =>
        refine ⟨k + 1, by omega, by go_num, hid ⟨?_, ?_⟩⟩
        · rw [List.take_add_one, Hx.out, List.map_append]; exact HO.out
        · exact grown_new' (grown_trans (grown_none (grown_alloc HR.out.grown _)) HG.out) (fun g hg => (HR.out.own.lt g hg).1)
      case measure => simp [intOf]; omega
    · have hge : (N : Int) ≤ (k : Int) := by omega
      go_wp2
      go_ret
      obtain rfl : k = N := by omega
      have := HR.out.own
      rw [List.take_of_length_le (by rw [Hl.out]; omega)] at this
      exact ⟨_, rfl, SlAt.own this, HR.out.grown⟩
section
variable {w : World} {m b N n : Nat} {xs : List Int}
theorem rframe_no (h : RefAt w m b N xs) (hn : N = n * 16) (f : Int) (hf : f < 0 ∨ (n : Int) ≤ f) :
    Calls Tryd.prog 22 #[.pointer (some ⟨m, 0, none⟩), .int .i64 f] w fun e w' => e = .returned (.tuple #[.slice none 0 0, .bool false]) ∧ w = w' := by
  have H := hid h
  have Hn := hid hn
  clear h hn
  rcases hf with hf | hf
  · go_enter Tryd.func22, Tryd.ntmps22
    go_wp2
    go_ret2
    exact ⟨rfl, rfl⟩
  · have h0 : ¬ f < 0 := by omega
    go_enter Tryd.func22, Tryd.ntmps22
    go_wp2_with fail
    refine (rframes_any H.out Hn.out).mono ?_; rintro e w' ⟨rfl, rfl⟩
    go_wp2
    go_ret2
    exact ⟨rfl, rfl⟩
def RFrameAt (w : World) (ls : List Int) (e : Ending) (w' : World) : Prop := ∃ v, e = .returned (.tuple #[v, .bool true]) ∧ SlAt w' .u32 v ls ∧ w.grownBy w' none
theorem rframe_yes (h : RefAt w m b N xs) (hn : N = n * 16) (f : Nat) (hf : f < n) :
    Calls Tryd.prog 22 #[.pointer (some ⟨m, 0, none⟩), .int .i64 f] w (RFrameAt w (frameOf xs f)) := by
  have hm := h.mcell
  have hs := h.small
  have H := hid h
  have Hn := hid hn
  have Hl := hid (frameOf_length (xs := xs) (n := n) (by have := h.len; omega) hf)
  have Hc : Hid (∀ j x, (frameOf xs f)[j]? = some x → w.cell? ⟨b, f * 16 + j, none⟩ = some (.int .u32 x)) := hid (by
    intro j x hj
    have hj' : j < 16 := by have := (List.getElem?_eq_some_iff.1 hj).1; have := Hl.out; omega
    rw [frame_get hj'] at hj
    exact h.cell hj)
  have h0 : (0 : Int) ≤ (f : Int) := by omega
  have h1 : (f : Int) < (n : Int) := by omega
  obtain ⟨O, hO, HO⟩ : ∃ O : Nat, 16 * (f : Int) = (O : Int) ∧ Hid (O = f * 16) := ⟨f * 16, by omega, hid rfl⟩
  have h2 : O + 16 ≤ N := by have := HO.out; have := Hn.out; omega
  have hne : ¬ N = O := by omega
  rw [← HO.out] at Hc
  clear h hn
  go_enter Tryd.func22, Tryd.ntmps22
  go_wp2_with fail
  refine (rframes_any H.out Hn.out).mono ?_; rintro e w' ⟨rfl, rfl⟩
  go_wp2_with fail
  refine (words_any Hl.out (by omega) H.out.blt Hc.out).mono ?_; rintro e w1 ⟨v, rfl, hs1, hg⟩
  have HS := hid hs1
  have HG := hid hg
  clear hs1 hg
  go_wp2
  go_ret2
  exact ⟨v, rfl, HS.out, HG.out⟩
theorem rfill_no (h : RefAt w m b N xs) (hn : N = n * 16) (f : Int) (v : Value) (hf : f < 0 ∨ (n : Int) ≤ f) :
    Calls Tryd.prog 21 #[.pointer (some ⟨m, 0, none⟩), .int .i64 f, v] w fun e w' => e = .returned (.bool false) ∧ w = w' := by
  have H := hid h
  have Hn := hid hn
  clear h hn
  rcases hf with hf | hf
  · go_enter Tryd.func21, Tryd.ntmps21
    go_wp2
    go_ret
    exact ⟨rfl, rfl⟩
  · have h0 : ¬ f < 0 := by omega
    go_enter Tryd.func21, Tryd.ntmps21
    go_wp2_with fail
    refine (rframes_any H.out Hn.out).mono ?_; rintro e w' ⟨rfl, rfl⟩
    go_wp2
    go_ret
    exact ⟨rfl, rfl⟩
theorem rfill_many (h : RefAt w m b N xs) (hn : N = n * 16) (f : Nat) (v : Value) (ls : List Int) (hf : f < n) (hv : SlAt w .u32 v ls) (hl : 16 < ls.length) :
    Calls Tryd.prog 21 #[.pointer (some ⟨m, 0, none⟩), .int .i64 f, v] w fun e w' => e = .returned (.bool false) ∧ w = w' := by
  obtain ⟨p, c', rfl⟩ := hv.len
  have H := hid h
  have Hn := hid hn
  clear h hn
  have h0 : ¬ (f : Int) < 0 := by omega
  go_enter Tryd.func21, Tryd.ntmps21
  go_wp2_with fail
  refine (rframes_any H.out Hn.out).mono ?_; rintro e w' ⟨rfl, rfl⟩
  go_wp2
  go_ret
  exact ⟨rfl, rfl⟩
theorem setMany_snoc {xs l : List Int} {o k : Nat} {y : Int} (hy : l[k]? = some y) (ho : o + l.length ≤ xs.length) : setMany xs o (l.take (k + 1)) = (setMany xs o (l.take k)).set (o + k) y := by
  have hk : k < l.length := (List.getElem?_eq_some_iff.1 hy).1
  apply List.ext_getElem?
  intro j
  rw [setMany_get _ _ _ _ (by simp; omega)]
  by_cases e : j = o + k
  · subst e
    rw [List.getElem?_set_self (by rw [setMany_length]; omega), if_pos (by simp; omega), List.getElem?_take, if_pos (by omega)]
    rw [← hy]; congr 1; omega
  · rw [List.getElem?_set_ne (by omega), setMany_get _ _ _ _ (by simp; omega)]
    simp only [List.length_take]
    by_cases h1 : o ≤ j ∧ j < o + min k l.length
    · rw [if_pos h1, if_pos (by omega), List.getElem?_take, List.getElem?_take, if_pos (by omega), if_pos (by omega)]
    · rw [if_neg h1, if_neg (by omega)]
set_option maxHeartbeats 2000000 in
theorem rfill_yes (h : RefAt w m b N xs) (hn : N = n * 16) (f : Nat) (v : Value) (ls : List Int) (hf : f < n) (hv : SlAt w .u32 v ls) (hne : ls ≠ [] → v.ownBlock ≠ some b) (hl : ls.length ≤ 16) :
    Calls Tryd.prog 21 #[.pointer (some ⟨m, 0, none⟩), .int .i64 f, v] w fun e w' => e = .returned (.bool true) ∧ RefAt w' m b N (setMany xs (f * 16) (padded ls)) ∧ w.grownBy w' (some b) := by
  obtain ⟨p, c', rfl⟩ := hv.len
  have hs := h.small
  have H := hid h
  have Hn := hid hn
  have Hv := hid hv
  have Hne := hid hne
  have Hps := hid (padded_length hl)
  have Hxl := hid h.len
  have h0 : ¬ (f : Int) < 0 := by omega
  have h1 : (f : Int) < (n : Int) := by omega
  have hl2 : (ls.length : Int) ≤ 16 := by omega
  obtain ⟨O, hO, HO⟩ : ∃ O : Nat, 16 * (f : Int) = (O : Int) ∧ Hid (O = f * 16) := ⟨f * 16, by omega, hid rfl⟩
  have h2 : O + 16 ≤ N := by have := HO.out; omega
  rw [← HO.out]
  clear h hn hv hne
  go_enter Tryd.func21, Tryd.ntmps21
  go_wp2_with fail
  refine (rframes_any H.out Hn.out).mono ?_; rintro e w' ⟨rfl, rfl⟩
  go_wp2
  go_loopw [7, 8] (fun i _ wr => ∃ k : Nat, k ≤ 16 ∧ i = .int .i64 k ∧ Hid (RefAt wr m b N (setMany xs O ((padded ls).take k))) ∧ Hid (w.grownBy wr (some b))) (fun i _ _ => 16 - (intOf i).toNat)
  case atStart => exact ⟨0, by omega, rfl, hid (by simpa [setMany] using H.out), hid (grown_refl _ _)⟩
  case round =>
    obtain ⟨k, hk, rfl, HR, HG⟩ := hrel
    by_cases hlt : k < 16
    · have hk0 : (0 : Int) ≤ (k : Int) := by omega
      have hk1 : (k : Int) < 16 := by omega
      obtain ⟨y, Hy⟩ : ∃ y, Hid ((padded ls)[k]? = some y) := ⟨_, hid (List.getElem?_eq_getElem (by rw [Hps.out]; exact hlt))⟩
      have hm := HR.out.mcell
      obtain ⟨Q, hQ, HQ⟩ : ∃ Q : Nat, (O : Int) + (k : Int) = (Q : Int) ∧ Hid (Q = O + k) := ⟨O + k, by omega, hid rfl⟩
      have hQN : Q < N := by have := HQ.out; omega
      have hQ3 : (Q : Int) < (N : Int) := by omega
      have hQ0 : (0 : Int) ≤ (Q : Int) := by omega
      obtain ⟨z, Hz⟩ : ∃ z, Hid ((setMany xs O ((padded ls).take k))[Q]? = some z) := ⟨_, hid (List.getElem?_eq_getElem (by rw [setMany_length, Hxl.out]; exact hQN))⟩
      have hc := HR.out.cell Hz.out
      have hfz := HR.out.free Q
      have hset := hid (HR.out.set (O + k) y)
      rw [← setMany_snoc Hy.out (by rw [Hps.out, Hxl.out]; omega), ← HQ.out] at hset
      have HG' := hid (grown_setCell HG.out Q (.int .u32 y))
      by_cases hkl : k < ls.length
      · have hkl2 : (k : Int) < (ls.length : Int) := by omega
        rcases Hv.out with ⟨_, rfl⟩ | ⟨bl, o, c2, he, hbl, hcl⟩
        · simp at hkl
        · have hp : p = some ⟨bl, o, none⟩ := by injection he
          have hyl : ls[k]? = some y := by
            have := Hy.out
            unfold padded at this
            rwa [List.getElem?_append_left hkl] at this
          have hcl2 := (grown_cell (p := ⟨bl, o + k, none⟩) HG.out hbl (by have := Hne.out (by intro e; rw [e] at hkl; simp at hkl); rw [hp] at this; simpa [Value.ownBlock] using this)).trans (hcl k y hyl)
          clear he hyl hcl
          subst hp
          go_wp2
          go_roundw
          case rel => exact ⟨k + 1, by omega, by go_num, hset, HG'⟩
          case measure => simp [intOf]; omega
      · have hkl2 : ¬ (k : Int) < (ls.length : Int) := by omega
        have hy0 : y = 0 := by
          have := Hy.out
          unfold padded at this
          rw [List.getElem?_append_right (by omega), List.getElem?_replicate] at this
          split at this
          · exact (Option.some.inj this).symm
          · cases this
        subst hy0
        go_wp2
        go_roundw
        case rel => exact ⟨k + 1, by omega, by go_num, hset, HG'⟩
        case measure => simp [intOf]; omega
    · have hge : 16 ≤ (k : Int) := by omega
      go_wp2
      go_ret
      obtain rfl : k = 16 := by omega
      have := HR.out
      rw [List.take_of_length_le (by rw [Hps.out]; omega)] at this
      exact ⟨rfl, this, HG.out⟩
end
end Go.Proofs.YtepgnnnkhjnbjaaDoor

/- facadelaw8's memory: both memories with these words: a contract. -/
import Derived.Test.YtkkbhifplbleiaaGreatDoorZMem8P
import Derived.Test.YtkkbhifplbleiaaGreatDoorZGMem
import Derived.Test.YtkkbhifplbleiaaGreatDoorZRWalk1
import Derived.Test.YtkkbhifplbleiaaGreatDoorZGAluA
import Derived.Test.YtkkbhifplbleiaaGreatDoorZGMap
import Derived.LoopTactic
import Derived.Deep.Cut
import Derived.BigGuardPart
namespace Go.Proofs.YtkkbhifplbleiaaGreatDoor
open Go.RowKit
theorem bit8_yes {f : Int} (h0 : 0 ≤ f) (h1 : f < 1024) (w u : Bool) : bitB f true w u = true := by unfold bitB; simp; omega
/-- both memories, and the cells that name them -/
structure LM (W : World) (g h m b m' b' n : Nat) (xs : List Int) (w : World) : Prop where
  mem : MemAt w m b n n xs
  ref : RefAt w m' b' (n * 16) xs
  cg : w.heap[g]? = some (.cells #[.pointer (some ⟨m, 0, none⟩)] 27 (0, 0))
  ch : w.heap[h]? = some (.cells #[.pointer (some ⟨m', 0, none⟩)] 28 (0, 0))
  old : W.grownBy w none
  om : W.heap.size ≤ m
  ob : W.heap.size ≤ b
  ob' : W.heap.size ≤ b'
section
variable {W w w1 : World} {g h m b m' b' n : Nat} {xs : List Int}
theorem blk_ne8 {w : World} {a b : Nat} {c1 c2 : Array Value} {t1 t2 : TypeId} {f1 f2 : Nat × Nat} (h1 : w.heap[a]? = some (.cells c1 t1 f1)) (h2 : w.heap[b]? = some (.cells c2 t2 f2)) (hne : t1 ≠ t2) : a ≠ b := by
  rintro rfl
  rw [h1] at h2
  simp at h2
  exact hne h2.2.1
theorem LM.keep (L : LM W g h m b m' b' n xs w) (hg : w.grownBy w1 none) : LM W g h m b m' b' n xs w1 :=
  ⟨L.mem.kept0 hg, L.ref.kept0 hg, (hg.block _ (Array.getElem?_eq_some_iff.1 L.cg).1 (by simp)).trans L.cg, (hg.block _ (Array.getElem?_eq_some_iff.1 L.ch).1 (by simp)).trans L.ch, grown_trans L.old hg, L.om, L.ob, L.ob'⟩
theorem LM.glt (L : LM W g h m b m' b' n xs w) : g < w.heap.size ∧ h < w.heap.size := ⟨(Array.getElem?_eq_some_iff.1 L.cg).1, (Array.getElem?_eq_some_iff.1 L.ch).1⟩
theorem LM.gc (L : LM W g h m b m' b' n xs w) : w.cell? ⟨g, 0, none⟩ = some (.pointer (some ⟨m, 0, none⟩)) := by rw [cell_of_row w g 0 _ _ _ L.cg]; rfl
theorem LM.hc (L : LM W g h m b m' b' n xs w) : w.cell? ⟨h, 0, none⟩ = some (.pointer (some ⟨m', 0, none⟩)) := by rw [cell_of_row w h 0 _ _ _ L.ch]; rfl
theorem LM.ne (L : LM W g h m b m' b' n xs w) : m ≠ b' ∧ b ≠ b' ∧ m' ≠ b ∧ g ≠ b ∧ g ≠ b' ∧ h ≠ b ∧ h ≠ b' := by
  obtain ⟨cur, hb, _⟩ := L.mem.hb
  exact ⟨blk_ne8 L.mem.hm L.ref.hb (by decide), blk_ne8 hb L.ref.hb (by decide), blk_ne8 L.ref.hm hb (by decide), blk_ne8 L.cg hb (by decide), blk_ne8 L.cg L.ref.hb (by decide), blk_ne8 L.ch hb (by decide), blk_ne8 L.ch L.ref.hb (by decide)⟩
/-- behind 'put' -/
def Put8 (W : World) (g h m b m' b' n : Nat) (xs : List Int) (e : Ending) (w' : World) : Prop := e = .returned (.tuple #[]) ∧ LM W g h m b m' b' n xs w'
set_option maxHeartbeats 1000000 in
theorem put8_any (L : LM W g h m b m' b' n xs w) (a y : Int) (k : Nat) (ha : a = (k : Int)) (hk : k < n * 16) :
    Calls Tryz.prog 37 #[.int .i64 a, .int .u32 y, .pointer (some ⟨g, 0, none⟩), .pointer (some ⟨h, 0, none⟩)] w (Put8 W g h m b m' b' n (xs.set k y)) := by
  subst ha
  have gc := L.gc
  obtain ⟨n1, n2, n3, n4, n5, n6, n7⟩ := L.ne
  have HL := hid L
  clear L
  go_enter Tryz.func37, Tryz.ntmps37
  go_wp2_with fail
  refine (write_of HL.out.mem _ y k rfl hk).mono ?_; rintro e w1 ⟨rfl, hM, hg⟩
  have HM := hid hM
  have HR := hid (HL.out.ref.kept hg (by simpa using n3) (by simpa using n2.symm))
  have HG := hid hg
  have Hg := hid ((hg.block _ HL.out.glt.1 (by simpa using n4)).trans HL.out.cg)
  have Hh := hid ((hg.block _ HL.out.glt.2 (by simpa using n6)).trans HL.out.ch)
  have hc : w1.cell? ⟨h, 0, none⟩ = some (.pointer (some ⟨m', 0, none⟩)) := by rw [cell_of_row w1 h 0 _ _ _ Hh.out]; rfl
  clear hM hg gc
  go_wp2_with fail
  refine (rwrite_yes HR.out k y hk).mono ?_; rintro e w2 ⟨rfl, hR, hg⟩
  have HL2 : Hid (LM W g h m b m' b' n (xs.set k y) w2) := hid
    ⟨HM.out.kept hg (by simpa using n1) (by simpa using n2), hR, (hg.block _ (Array.getElem?_eq_some_iff.1 Hg.out).1 (by simpa using n5)).trans Hg.out, (hg.block _ (Array.getElem?_eq_some_iff.1 Hh.out).1 (by simpa using n7)).trans Hh.out,
      grown_new' (grown_trans (grown_none (grown_new' (grown_trans (grown_none HL.out.old) HG.out) (fun i hi => by obtain rfl := Option.some.inj hi; exact HL.out.ob))) hg) (fun i hi => by obtain rfl := Option.some.inj hi; exact HL.out.ob'), HL.out.om, HL.out.ob, HL.out.ob'⟩
  clear hR hg hc
  go_wp2
  go_end0
  exact ⟨rfl, HL2.out⟩
end
/-- what memory answers -/
def Memory8At (W : World) (n : Nat) (xs : List Int) (e : Ending) (w' : World) : Prop :=
  ∃ m b m' b', e = .returned (.tuple #[.pointer (some ⟨m, 0, none⟩), .pointer (some ⟨m', 0, none⟩)]) ∧ W.heap.size ≤ m ∧ W.heap.size ≤ b ∧ W.heap.size ≤ b' ∧ MemAt w' m b n n xs ∧ RefAt w' m' b' (n * 16) xs ∧ W.grownBy w' none
set_option maxRecDepth 100000 in
set_option maxHeartbeats 8000000 in
theorem memory8_any (q : Nat) (hq : 17 ≤ q) (hq2 : q ≤ 40) (vd vc : Value) (data code : List Int) (W : World) (hd : SlAt W .u32 vd data) (hc : SlAt W .u32 vc code) (hld : data.length ≤ 48) (hlc : code.length ≤ 256) :
    Calls Tryz.prog 12 #[.int .i64 (q : Int), vd, vc] W (Memory8At W (q + 16) (memW8 q data code)) := by
  obtain ⟨pd, cd, rfl⟩ := hd.len
  obtain ⟨pc, cc, rfl⟩ := hc.len
  have Hd := hid hd
  have Hc := hid hc
  clear hd hc
  obtain ⟨n, hn⟩ : ∃ n : Nat, (q : Int) + 16 = (n : Int) := ⟨q + 16, by omega⟩
  have Hn : Hid (q + 16 = n) := hid (by omega)
  rw [Hn.out]
  go_enter Tryz.func12, Tryz.ntmps12
  go_wp2_with fail
  refine (new_of n n rfl (by omega) (by omega)).mono ?_; rintro e w1 ⟨m, b, rfl, hm, hb, hM, hg⟩
  have HM := hid (hM.kept0 (World.grownBy_alloc w1 (.cells #[.pointer (some ⟨m, 0, none⟩)] 27) none))
  have HG := hid (grown_alloc hg (.cells #[.pointer (some ⟨m, 0, none⟩)] 27))
  have Hg : Hid ((w1.alloc (.cells #[.pointer (some ⟨m, 0, none⟩)] 27)).heap[w1.heap.size]? = some (.cells #[.pointer (some ⟨m, 0, none⟩)] 27 (0, 0))) := hid (heap_alloc_last w1 _)
  have Hmb := hid (And.intro hm hb)
  clear hM hg hm hb
  go_upto_region 5 with (fail)
  generalize w1.alloc (.cells #[.pointer (some ⟨m, 0, none⟩)] 27) = w2 at HM HG Hg ⊢
  generalize w1.heap.size = g at Hg ⊢
  go_wp2_with fail
  refine (rnew_of n n rfl (by omega)).mono ?_; rintro e w3 ⟨m', b', rfl, hm', hb', hR, hg⟩
  have HL : Hid (LM W g w3.heap.size m b m' b' n (a8 q 0) (w3.alloc (.cells #[.pointer (some ⟨m', 0, none⟩)] 28))) := hid (by
    have hga := World.grownBy_alloc w3 (.cells #[.pointer (some ⟨m', 0, none⟩)] 28) none
    have hz : a8 q 0 = List.replicate (n * 16) 0 := by show z8 q = _; unfold z8; rw [Hn.out]
    rw [hz]
    exact ⟨(HM.out.kept0 hg).kept0 hga, hR.kept0 hga, (hga.block _ (Nat.lt_of_lt_of_le (Array.getElem?_eq_some_iff.1 Hg.out).1 hg.size) (by simp)).trans ((hg.block _ (Array.getElem?_eq_some_iff.1 Hg.out).1 (by simp)).trans Hg.out), heap_alloc_last w3 _, grown_trans (grown_trans HG.out hg) hga, Hmb.out.1, Hmb.out.2, Nat.le_trans HG.out.size hb'⟩)
  clear hm' hb' hR hg HM HG Hg
  go_upto_region 6 with (fail)
  generalize w3.alloc (.cells #[.pointer (some ⟨m', 0, none⟩)] 28) = w4 at HL ⊢
  generalize w3.heap.size = h at HL ⊢
  go_wp2
  go_loopw [13] (fun i wr => ∃ k : Nat, k ≤ 16 ∧ i = .int .i64 k ∧ Hid (LM W g h m b m' b' n (a8 q k) wr)) (fun i _ => 16 - (intOf i).toNat)
  case atStart => exact ⟨0, Nat.zero_le _, rfl, HL⟩
  case round =>
    clear HL
    obtain ⟨k, hk, rfl, HLk⟩ := hrel
    have hk0 : (0 : Int) ≤ (k : Int) := by omega
    by_cases hlt : k < 16
    · have hk1 : (k : Int) < 16 := by omega
      obtain ⟨V, hV⟩ : ∃ V, bitV ((k : Int) + 1) true true true = V := ⟨_, rfl⟩
      have HV := hid hV
      have HVB : Hid (bitB ((k : Int) + 1) true true true = true) := hid (bit8_yes (by omega) (by omega) true true)
      clear hV
      go_wp2_with fail
      refine (rbits_of ((k : Int) + 1) true true true V true HV.out HVB.out _).mono ?_; rintro e w5 ⟨rfl, hg⟩
      have HL5 := hid (HLk.out.keep hg)
      clear hg HLk
      go_wp2_with fail
      refine (put8_any HL5.out _ V k rfl (by omega)).mono ?_; rintro e w6 ⟨rfl, hL6⟩
      have HL6 : Hid (LM W g h m b m' b' n (a8 q (k + 1)) w6) := hid (by rw [a8, HV.out]; exact hL6)
      clear hL6 HL5
      go_wp2
      go_roundw
      case rel => exact ⟨k + 1, by omega, by go_num, HL6⟩
      case measure => simp [intOf]; omega
    · have hge : ¬ (k : Int) < 16 := by omega
      have e16 : k = 16 := by omega
      have HL2 : Hid (LM W g h m b m' b' n (b8 q 0) wr) := hid (by rw [show b8 q 0 = a8 q 16 from rfl, ← e16]; exact HLk.out)
      clear e16 HLk hlt hk
      go_wp2
      go_loopw [16] (fun i wr => ∃ k : Nat, k ≤ min 3 (q - 17) ∧ i = .int .i64 k ∧ Hid (LM W g h m b m' b' n (b8 q k) wr)) (fun i _ => 3 - (intOf i).toNat)
      case atStart => exact ⟨0, Nat.zero_le _, rfl, HL2⟩
      case round =>
        clear HL2 hge
        obtain ⟨k, hk, rfl, HLk⟩ := hrel
        have hk0 : (0 : Int) ≤ (k : Int) := by omega
        by_cases hlt : k < min 3 (q - 17)
        · have hk1 : (k : Int) < 3 := by omega
          have hk2 : (17 : Int) + (k : Int) < (q : Int) := by omega
          obtain ⟨V, hV⟩ : ∃ V, bitV (17 + (k : Int)) true true true = V := ⟨_, rfl⟩
          have HV := hid hV
          have HVB : Hid (bitB (17 + (k : Int)) true true true = true) := hid (bit8_yes (by omega) (by omega) true true)
          clear hV
          go_wp2_with fail
          refine (rbits_of (17 + (k : Int)) true true true V true HV.out HVB.out _).mono ?_; rintro e w5 ⟨rfl, hg⟩
          have HL5 := hid (HLk.out.keep hg)
          clear hg HLk
          go_wp2_with fail
          refine (put8_any HL5.out _ V (16 + k) (by omega) (by omega)).mono ?_; rintro e w6 ⟨rfl, hL6⟩
          have HL6 : Hid (LM W g h m b m' b' n (b8 q (k + 1)) w6) := hid (by rw [b8, HV.out]; exact hL6)
          clear hL6 HL5
          go_wp2
          go_roundw
          case rel => exact ⟨k + 1, by omega, by go_num, HL6⟩
          case measure => simp [intOf]; omega
        · have ek : k = min 3 (q - 17) := by omega
          have HL3 : Hid (LM W g h m b m' b' n (c8 q 0) wr) := hid (by rw [show c8 q 0 = b8 q (min 3 (q - 17)) from rfl, ← ek]; exact HLk.out)
          have hend : ¬ (k : Int) < 3 ∨ ((k : Int) < 3 ∧ ¬ (17 : Int) + (k : Int) < (q : Int)) := by omega
          clear HLk hlt ek hk
          rcases hend with he1 | ⟨he1, he2⟩
          all_goals
            go_wp2
            go_loopw [19] (fun i wr => ∃ k : Nat, k ≤ 16 ∧ i = .int .i64 k ∧ Hid (LM W g h m b m' b' n (c8 q k) wr)) (fun i _ => 16 - (intOf i).toNat)
            case atStart => exact ⟨0, Nat.zero_le _, rfl, HL3⟩
            case round =>
              clear HL3
              obtain ⟨k, hk, rfl, HLk⟩ := hrel
              have hk0 : (0 : Int) ≤ (k : Int) := by omega
              by_cases hlt : k < 16
              · have hk1 : (k : Int) < 16 := by omega
                obtain ⟨V, hV⟩ : ∃ V, bitV ((q : Int) + (k : Int)) true false true = V := ⟨_, rfl⟩
                have HV := hid hV
                have HVB : Hid (bitB ((q : Int) + (k : Int)) true false true = true) := hid (bit8_yes (by omega) (by omega) false true)
                clear hV
                go_wp2_with fail
                refine (rbits_of ((q : Int) + (k : Int)) true false true V true HV.out HVB.out _).mono ?_; rintro e w5 ⟨rfl, hg⟩
                have HL5 := hid (HLk.out.keep hg)
                clear hg HLk
                go_wp2_with fail
                refine (put8_any HL5.out _ V (144 + k) (by omega) (by omega)).mono ?_; rintro e w6 ⟨rfl, hL6⟩
                have HL6 : Hid (LM W g h m b m' b' n (c8 q (k + 1)) w6) := hid (by rw [show c8 q (k + 1) = (c8 q k).set (144 + k) (bitV ((q : Int) + (k : Int)) true false true) from rfl, HV.out]; exact hL6)
                clear hL6 HL5
                go_wp2
                go_roundw
                case rel => exact ⟨k + 1, by omega, by go_num, HL6⟩
                case measure => simp [intOf]; omega
              · have hge : ¬ (k : Int) < 16 := by omega
                have e16 : k = 16 := by omega
                have HL4 : Hid (LM W g h m b m' b' n (d8 q data 0) wr) := hid (by rw [show d8 q data 0 = c8 q 16 from rfl, ← e16]; exact HLk.out)
                clear e16 HLk hlt hk
                go_wp2
                go_loopw [22] (fun i wr => ∃ k : Nat, k ≤ data.length ∧ i = .int .i64 k ∧ Hid (LM W g h m b m' b' n (d8 q data k) wr)) (fun i _ => data.length - (intOf i).toNat)
                case atStart => exact ⟨0, Nat.zero_le _, rfl, HL4⟩
                case round =>
                  clear HL4 hge
                  obtain ⟨k, hk, rfl, HLk⟩ := hrel
                  have hk0 : (0 : Int) ≤ (k : Int) := by omega
                  by_cases hlt : k < data.length
                  · have hk1 : (k : Int) < (data.length : Int) := by omega
                    have hk2 : (k : Int) < 48 := by omega
                    obtain ⟨y, Hy⟩ : ∃ y, Hid (data[k]? = some y) := ⟨_, hid (List.getElem?_eq_getElem hlt)⟩
                    have HyD : Hid (data.getD k 0 = y) := hid (by rw [List.getD_eq_getElem?_getD, Hy.out]; rfl)
                    rcases Hd.out with ⟨_, h0⟩ | ⟨bl, o, c2, he, hbl, hcl⟩
                    · exfalso; rw [h0] at hlt; simp at hlt
                    · have hp : pd = some ⟨bl, o, none⟩ := by injection he
                      have hc1 := (grown_cell (p := ⟨bl, o + k, none⟩) HLk.out.old hbl (by simp)).trans (hcl k y Hy.out)
                      clear he hcl hbl
                      subst hp
                      go_wp2_with fail
                      refine (put8_any HLk.out _ y (272 + k) (by omega) (by omega)).mono ?_; rintro e w6 ⟨rfl, hL6⟩
                      have HL6 : Hid (LM W g h m b m' b' n (d8 q data (k + 1)) w6) := hid (by rw [d8, HyD.out]; exact hL6)
                      clear hL6 HLk hc1
                      go_wp2
                      go_roundw
                      case rel => exact ⟨k + 1, by omega, by go_num, HL6⟩
                      case measure => simp [intOf]; omega
                  · have hge : ¬ (k : Int) < (data.length : Int) := by omega
                    have ek : k = min data.length 48 := by omega
                    have HL5 : Hid (LM W g h m b m' b' n (e8 q data code 0) wr) := hid (by rw [show e8 q data code 0 = d8 q data (min data.length 48) from rfl, ← ek]; exact HLk.out)
                    clear ek HLk hlt hk
                    go_wp2
                    go_loopw [23] (fun i wr => ∃ k : Nat, k ≤ code.length ∧ i = .int .i64 k ∧ Hid (LM W g h m b m' b' n (e8 q data code k) wr)) (fun i _ => code.length - (intOf i).toNat)
                    case atStart => exact ⟨0, Nat.zero_le _, rfl, HL5⟩
                    case round =>
                      clear HL5 hge
                      obtain ⟨k, hk, rfl, HLk⟩ := hrel
                      have hk0 : (0 : Int) ≤ (k : Int) := by omega
                      by_cases hlt : k < code.length
                      · have hk1 : (k : Int) < (code.length : Int) := by omega
                        have hk2 : (k : Int) < 256 := by omega
                        obtain ⟨y, Hy⟩ : ∃ y, Hid (code[k]? = some y) := ⟨_, hid (List.getElem?_eq_getElem hlt)⟩
                        have HyD : Hid (code.getD k 0 = y) := hid (by rw [List.getD_eq_getElem?_getD, Hy.out]; rfl)
                        rcases Hc.out with ⟨_, h0⟩ | ⟨bl, o, c2, he, hbl, hcl⟩
                        · exfalso; rw [h0] at hlt; simp at hlt
                        · have hp : pc = some ⟨bl, o, none⟩ := by injection he
                          have hc1 := (grown_cell (p := ⟨bl, o + k, none⟩) HLk.out.old hbl (by simp)).trans (hcl k y Hy.out)
                          clear he hcl hbl
                          subst hp
                          go_wp2_with fail
                          refine (put8_any HLk.out _ y (16 * q + k) (by omega) (by omega)).mono ?_; rintro e w6 ⟨rfl, hL6⟩
                          have HL6 : Hid (LM W g h m b m' b' n (e8 q data code (k + 1)) w6) := hid (by rw [e8, HyD.out]; exact hL6)
                          clear hL6 HLk hc1
                          go_wp2
                          go_roundw
                          case rel => exact ⟨k + 1, by omega, by go_num, HL6⟩
                          case measure => simp [intOf]; omega
                      · have hge : ¬ (k : Int) < (code.length : Int) := by omega
                        have ek : k = min code.length 256 := by omega
                        have HL6 : Hid (LM W g h m b m' b' n (memW8 q data code) wr) := hid (by rw [show memW8 q data code = e8 q data code (min code.length 256) from rfl, ← ek]; exact HLk.out)
                        have gc := HL6.out.gc
                        have hc := HL6.out.hc
                        clear ek HLk hlt hk
                        go_wp2
                        go_quiet (fail)
                        go_wp2
                        go_ret2
                        have hL := HL6.out.keep (grown_drewN (grown_refl _ none) nq)
                        exact ⟨m, b, m', b', rfl, hL.om, hL.ob, hL.ob', hL.mem, hL.ref, hL.old⟩
end Go.Proofs.YtkkbhifplbleiaaGreatDoor

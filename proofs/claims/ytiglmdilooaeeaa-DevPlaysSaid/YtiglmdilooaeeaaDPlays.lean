/- The walk of the law DevPlays. -/
import Derived.Test.YtiglmdilooaeeaaDP0
import Derived.Test.YtiglmdilooaeeaaDDo
import Derived.Deep.RegionHeld3
import Derived.Deep.CutBlock
import Derived.Deep.DeepFit
namespace Go.Proofs.Ytiglmdilooaeeaa
open Go.RowKit
/-- while things are told -/
structure LR (w wr : World) (d b : Nat) (x : DvS) (on : Bool) (T : Int) (vd vw vs : Value) (k : Nat) : Prop where
  dev : DevAt wr w.heap.size d x vd
  ref : RAt wr w.heap.size b x.Q x.S x.sn on T vw vs
  ap : Apart (foot d vd) (rfoot b vw vs)
  tr : TRel x on T
  len : x.sn.length ≤ k
  grown : w.grownBy wr none
theorem endS_len (k n : Int) : (endS k n).length ≤ 1 := by
  unfold endS
  split
  · simp
  · split <;> simp
def zeroR : Array Value := #[.slice none 0 0, .slice none 0 0, .int .u32 0, .int .u32 0, .int .u32 0, .int .u32 0, .int .u32 0, .int .u32 0, .int .u32 0, .int .u32 0, .int .u32 0, .int .u32 0, .int .u32 0, .int .u32 0, .int .u32 0, .int .u32 0, .int .u32 0, .int .u32 0, .int .i64 0, .bool false]
theorem zero_ref (w : World) : (zeroValue 52).run Try.prog w = .ok (.agg zeroR) w := by kernel_rfl
theorem zeroR_is : RIs zeroR zeroS.S false 0 (.slice none 0 0) (.slice none 0 0) where
  size := rfl
  c0 := rfl
  c1 := rfl
  sec := by
    intro k y hy
    have hk : k < 16 := (List.getElem?_eq_some_iff.1 hy).1
    rw [zeroS_get k hk] at hy
    obtain rfl := Option.some.inj hy
    rcases (by omega : k = 0 ∨ k = 1 ∨ k = 2 ∨ k = 3 ∨ k = 4 ∨ k = 5 ∨ k = 6 ∨ k = 7 ∨ k = 8 ∨ k = 9 ∨ k = 10 ∨ k = 11 ∨ k = 12 ∨ k = 13 ∨ k = 14 ∨ k = 15) with rfl | rfl | rfl | rfl | rfl | rfl | rfl | rfl | rfl | rfl | rfl | rfl | rfl | rfl | rfl | rfl <;> rfl
  s16 := rfl
  ct := rfl
  con := rfl
theorem ref_zero (w : World) {B : Nat} (hB : B ≤ w.heap.size) : RAt (w.alloc (.cells zeroR 52)) B w.heap.size [] zeroS.S [] false 0 (.slice none 0 0) (.slice none 0 0) :=
  ⟨⟨zeroR, heap_alloc_new _ _, zeroR_is⟩, World.ownsRow_nil _ _ _ _, World.ownsRow_nil _ _ _ _, hB⟩
theorem zero_lr (w w1 : World) (hg : w.grownBy w1 none) : LR w ((w1.alloc (.cells zeroD 33)).alloc (.cells zeroR 52)) w1.heap.size (w1.heap.size + 1) zeroS false 0 (.slice none 0 0) (.slice none 0 0) (.slice none 0 0) 0 := by
  have hsz : (w1.alloc (.cells zeroD 33)).heap.size = w1.heap.size + 1 := by simp
  refine ⟨(dev_zero w1 hg.size).kept0 (World.grownBy_alloc _ _ _), ?_, ?_, ⟨rfl, by simp [zeroS], by decide, by decide, by decide, by decide⟩, Nat.le_refl _, grown_alloc (grown_alloc hg _) _⟩
  · have := ref_zero (w1.alloc (.cells zeroD 33)) (B := w.heap.size) (by have := hg.size; omega)
    rw [hsz] at this
    exact this
  · intro i hi hi2
    simp [foot, rfoot, Value.ownBlock] at hi hi2
    omega
set_option maxRecDepth 100000 in
set_option maxHeartbeats 4000000 in
theorem plays_walk (p : Option Addr) (c0 N : Nat) (ds : List Do) (sector now : Int) (w : World) (hd : DosAt w p N ds) (hN : N ≤ maxLen) (s0 : 0 ≤ sector) (s1 : sector ≤ 4294967295) (n0 : -9223372036854775808 ≤ now) (n1 : now ≤ 9223372036854775807) :
    Calls Try.prog 4 #[.slice p N c0, .int .u32 sector, .int .i64 now] w fun e w' => e = .returned (.bool true) ∧ Below w.heap.size w w' := by
  have HDo := hid hd
  have Hz33 := zero_dev
  have Hz52 := zero_ref
  clear hd
  unfold maxLen at hN
  by_cases hl : N ≤ 100
  · have hl2 : (N : Int) ≤ 100 := by omega
    go_enter Try.func4, Try.ntmps4
    go_wp2_with fail
    refine (first5_any _).mono ?_; rintro e w1 ⟨rfl, hg⟩
    have HG1 := hid hg; clear hg
    go_wp2_with fail
    generalize hZ : (w1.alloc (.cells zeroD 33)).alloc (.cells zeroR 52) = w2
    have HL := hid (hZ ▸ zero_lr w w1 HG1.out)
    clear hZ HG1
    generalize w1.heap.size = d at HL ⊢
    generalize d + 1 = b at HL ⊢
    go_loopw [10] (fun i wr => ∃ k : Nat, k ≤ N ∧ i = .int .i64 k ∧ Hid (∃ x on T vd vw vs, LR w wr d b x on T vd vw vs k)) (fun i _ => N - (intOf i).toNat)
    case atStart => exact ⟨0, Nat.zero_le _, rfl, hid ⟨_, _, _, _, _, _, HL.out⟩⟩
    case round =>
      obtain ⟨k, hk, rfl, HR0⟩ := hrel
      obtain ⟨x, on, T, vd, vw, vs, hR⟩ := HR0.out
      have HR := hid hR
      clear HR0 hR HL
      by_cases hlt : k < N
      · obtain ⟨dd, hdd⟩ : ∃ dd, ds[k]? = some dd := ⟨_, List.getElem?_eq_getElem (by rw [HDo.out.len]; exact hlt)⟩
        obtain ⟨bl, o, hp, hbl, hcs⟩ := HDo.out.cell k dd hdd
        obtain ⟨⟨v0, v1⟩, w0, w1'⟩ := HDo.out.wide dd (List.mem_of_getElem? hdd)
        obtain ⟨kd, dn, dv, dw⟩ := dd
        have g : ∀ i c, (Do.cells ⟨kd, dn, dv, dw⟩)[i]? = some c → wr.cell? ⟨bl, o + (k * 4 + i), none⟩ = some c := fun i c hc => (grown_cell (p := ⟨bl, o + (k * 4 + i), none⟩) HR.out.grown hbl (by simp)).trans (hcs i c hc)
        have k0 : wr.cell? ⟨bl, o + k * 4, none⟩ = some (.int .i64 kd) := g 0 _ rfl
        have k1 : wr.cell? ⟨bl, o + k * 4 + 1, none⟩ = some (.int .i64 dn) := g 1 _ rfl
        have k2 : wr.cell? ⟨bl, o + k * 4 + 2, none⟩ = some (.int .u32 dv) := g 2 _ rfl
        have k3 : wr.cell? ⟨bl, o + k * 4 + 3, none⟩ = some (.int .u32 dw) := g 3 _ rfl
        have hk0 : (0 : Int) ≤ (k : Int) := by omega
        have hk1 : (k : Int) < (N : Int) := by omega
        have HN : Hid (k < 100) := hid (by omega)
        clear g hcs hdd
        dsimp only at v0 v1 w0 w1'
        subst hp
        by_cases hn0 : 0 ≤ dn
        · by_cases hn1 : dn ≤ 1125899906842624
          · go_wp2_with fail
            have hga := World.grownBy_alloc wr (.cells #[.int .i64 kd, .int .i64 dn, .int .u32 dv, .int .u32 dw] 54) none
            have HDa := hid (HR.out.dev.kept0 hga)
            have HRa := hid (HR.out.ref.kept0 hga)
            have HGa := hid (grown_trans HR.out.grown hga)
            have HBa := hid (heap_alloc_new wr (.cells #[.int .i64 kd, .int .i64 dn, .int .u32 dv, .int .u32 dw] 54))
            have Haf : Hid (∀ i, i ∈ foot d vd ∨ i ∈ rfoot b vw vs → i < wr.heap.size) := hid (fun i hi => hi.elim (HR.out.dev.foot_lt i) (HR.out.ref.foot_lt i))
            have Hasz : Hid ((wr.alloc (.cells #[.int .i64 kd, .int .i64 dn, .int .u32 dv, .int .u32 dw] 54)).heap.size = wr.heap.size + 1) := hid (by simp)
            clear k0 k1 k2 k3 hga
            generalize wr.alloc (.cells #[.int .i64 kd, .int .i64 dn, .int .u32 dv, .int .u32 dw] 54) = wa at HDa HRa HGa HBa Hasz ⊢
            generalize wr.heap.size = a at HBa Haf Hasz ⊢
            refine (clone_any HDa.out (by have := HR.out.len; have := HN.out; omega)).mono ?_; rintro e wc ⟨c, vc, rfl, hc, hg⟩
            have HDc := hid (HDa.out.kept0 hg)
            have HRc := hid (HRa.out.kept0 hg)
            have HCc := hid hc
            have HGc := hid (grown_trans HGa.out hg)
            have HBc := hid ((hg.block a (by rw [Hasz.out]; omega) (by simp)).trans HBa.out)
            clear hc HDa HRa HBa
            go_wp2_with fail
            refine (seen_any HCc.out (by have := HR.out.len; have := HN.out; omega)).mono ?_; rintro e wu ⟨u, rfl, hown, hg2⟩
            have HP : Hid (PR w wu d b a c x vc u #[.int .i64 kd, .int .i64 dn, .int .u32 dv, .int .u32 dw] x x.Q x.S x.sn on T vd vw vs) := hid (by
              have hwa := HGa.out.size
              have hwc := hg.size
              have hla := Hasz.out
              have hold : ∀ i ∈ ofoot a c vc u, a ≤ i := by
                intro i hi
                rcases mem_ofoot.1 hi with rfl | hi | hi
                · exact Nat.le_refl _
                · have := HCc.out.foot_ge i hi; omega
                · have := (hown.lt i hi).1; omega
              exact ⟨HDc.out.kept0 hg2, HRc.out.kept0 hg2, ⟨(HCc.out.kept0 hg2).base HGa.out.size, own_base hown HGc.out.size, (hg2.block a (by omega) (by simp)).trans HBc.out⟩, HR.out.ap,
                fun i hi h2 => by have := Haf.out i (.inl hi); have := hold i h2; omega, fun i hi h2 => by have := Haf.out i (.inr hi); have := hold i h2; omega, grown_trans HGc.out hg2⟩)
            have Hsl := hid (SnAt.own hown).len
            have HT := hid HR.out.tr
            have HLn := hid HR.out.len
            clear hg hg2 hown HDc HRc HCc HGc HBc HGa Haf Hasz HR
            have j0 : wu.cell? ⟨a, 0, none⟩ = some (.int .i64 kd) := HP.out.cell 0
            have j1 : wu.cell? ⟨a, 1, none⟩ = some (.int .i64 dn) := HP.out.cell 1
            have j2 : wu.cell? ⟨a, 2, none⟩ = some (.int .u32 dv) := HP.out.cell 2
            have j3 : wu.cell? ⟨a, 3, none⟩ = some (.int .u32 dw) := HP.out.cell 3
            go_upto_block 2 with fail
            go_cut [] from 25 to 171 (fun wz => Hid (∃ x on T vd vw vs xc, PR w wz d b a c xc vc u #[.int .i64 kd, .int .i64 dn, .int .u32 dv, .int .u32 dw] x x.Q x.S x.sn on T vd vw vs ∧ TRel x on T ∧ x.sn.length ≤ k + 1 ∧ xc.sn.length ≤ k))
            case first =>
              by_cases hkd1 : kd = 1
              · have hz1 : (kd == 1) = true := by simpa using hkd1
                by_cases hq : x.Q.length = 64
                · have HPd := hid (HP.out.kept0 (grown_drew (grown_refl wu none)))
                  have Halt := hid HP.out.alt
                  have Hq := hid hq
                  clear hq
                  go_wp2_with fail
                  go_region_held3 (fun W => W.cell? ⟨a, 3, none⟩ = some (.int .u32 dw) ∧ a < W.heap.size)
                    (first | (exact ⟨j3, Halt.out⟩) | (go_split_ands; exact ⟨by assumption, by assumption⟩))
                    (first
                      | (go_at_call 9; refine (press_no HPd.out.dev Hq.out dw).mono ?_; rintro e w' ⟨rfl, rfl⟩)
                      | (go_at_call 21; refine (rpress_no HPd.out.ref Hq.out dw).mono ?_; rintro e w' ⟨rfl, rfl⟩))
                  go_split_ands
                  go_wp2
                  go_meet
                  exact hid ⟨x, on, T, vd, vw, vs, x, HPd.out, HT.out, Nat.le_succ_of_le HLn.out, HLn.out⟩
                · have hq2 : x.Q.length < 64 := by have := HP.out.dev.q64; omega
                  have HPd := hid (HP.out.kept0 (grown_drew (grown_refl wu none)))
                  have Halt := hid HP.out.alt
                  have Hq := hid hq2
                  clear hq hq2
                  go_wp2_with fail
                  go_region_held3 (fun W => W.cell? ⟨a, 3, none⟩ = some (.int .u32 dw) ∧ a < W.heap.size)
                    (first | (exact ⟨j3, Halt.out⟩) | (go_split_ands; exact ⟨by assumption, by assumption⟩) | (exact ⟨HPa.out.cell 3, HPa.out.alt⟩) | (exact ⟨HPb.out.cell 3, HPb.out.alt⟩))
                    (first
                      | (go_at_call 9; refine (press_yes HPd.out.dev Hq.out dw).mono ?_; rintro e w3 ⟨rfl, ht⟩; have HPa := hid (HPd.out.dturn ht); clear ht)
                      | (go_at_call 21; refine (rpress_yes HPa.out.ref Hq.out dw HPa.out.grown.size).mono ?_; rintro e w4 ⟨rfl, vw', ht⟩; have HPb := hid (HPa.out.rturn ht); clear ht))
                  go_split_ands
                  go_wp2
                  go_meet
                  exact hid ⟨{ x with Q := x.Q ++ [dw] }, on, T, vd, _, vs, x, HPb.out, ⟨HT.out.on_, HT.out.time, HT.out.f0, HT.out.f1, HT.out.a0, HT.out.a1⟩, Nat.le_succ_of_le HLn.out, HLn.out⟩
              by_cases hkd2 : kd = 2
              · have hz1 : (kd == 1) = false := by simpa using hkd1
                have hz2 : (kd == 2) = true := by simpa using hkd2
                rcases hqq : x.Q with _ | ⟨key, r⟩
                · have Hq := hid hqq
                  clear hqq
                  go_wp2_with fail
                  refine (in_no HP.out.dev Hq.out).mono ?_; rintro e w' ⟨rfl, rfl⟩
                  go_wp2_with fail
                  refine (rin_no HP.out.ref Hq.out).mono ?_; rintro e w' ⟨rfl, rfl⟩
                  go_wp2
                  go_meet
                  exact hid ⟨x, on, T, vd, vw, vs, x, HP.out, HT.out, Nat.le_succ_of_le HLn.out, HLn.out⟩
                · have Hq := hid hqq
                  clear hqq
                  go_wp2_with fail
                  refine (in_yes HP.out.dev Hq.out).mono ?_; rintro e w3 ⟨rfl, ht⟩
                  have HPa := hid (HP.out.dturn ht)
                  clear ht
                  go_wp2_with fail
                  refine (rin_yes HPa.out.ref Hq.out HP.out.dev.q64 HPa.out.grown.size).mono ?_; rintro e w4 ⟨rfl, vw', ht⟩
                  have HPb := hid (HPa.out.rturn ht)
                  clear ht
                  go_wp2
                  go_meet
                  exact hid ⟨{ x with Q := r }, on, T, vd, _, vs, x, HPb.out, ⟨HT.out.on_, HT.out.time, HT.out.f0, HT.out.f1, HT.out.a0, HT.out.a1⟩, Nat.le_succ_of_le HLn.out, HLn.out⟩
              by_cases hkd3 : kd = 3
              · have hz1 : (kd == 1) = false := by simpa using hkd1
                have hz2 : (kd == 2) = false := by simpa using hkd2
                have hz3 : (kd == 3) = true := by simpa using hkd3
                go_wp2_with fail
                refine (out_any HP.out.dev dw (by have := HLn.out; have := HN.out; omega) HP.out.grown.size).mono ?_; rintro e w3 ⟨rfl, vd', ht⟩
                have HPa := hid (HP.out.dturn ht)
                clear ht j0 j1 j2 j3
                have j3 : w3.cell? ⟨a, 3, none⟩ = some (.int .u32 dw) := HPa.out.cell 3
                go_wp2_with fail
                refine (rout_any HPa.out.ref dw (by have := HLn.out; have := HN.out; omega) HPa.out.grown.size).mono ?_; rintro e w4 ⟨rfl, vs', ht⟩
                have HPb := hid (HPa.out.rturn ht)
                clear ht
                go_wp2
                go_meet
                exact hid ⟨{ x with sn := x.sn ++ [(1, 0, dw)] }, on, T, _, vw, _, x, HPb.out, ⟨HT.out.on_, HT.out.time, HT.out.f0, HT.out.f1, HT.out.a0, HT.out.a1⟩, by have := HLn.out; simp; omega, HLn.out⟩
              by_cases hkd4 : kd = 4
              · have hz1 : (kd == 1) = false := by simpa using hkd1
                have hz2 : (kd == 2) = false := by simpa using hkd2
                have hz3 : (kd == 3) = false := by simpa using hkd3
                have hz4 : (kd == 4) = true := by simpa using hkd4
                obtain ⟨q, hq⟩ : ∃ q : Nat, dv % 16 = (q : Int) := ⟨(dv % 16).toNat, by omega⟩
                have Hq := hid hq
                clear hq
                go_wp2_with fail
                refine (put_any HP.out.dev dv dw v0 q Hq.out (by have := HLn.out; have := HN.out; omega) HP.out.grown.size).mono ?_; rintro e w3 ⟨rfl, vd', ht⟩
                have HPa := hid (HP.out.dturn ht)
                clear ht j0 j1 j2 j3
                have j2 : w3.cell? ⟨a, 2, none⟩ = some (.int .u32 dv) := HPa.out.cell 2
                have j3 : w3.cell? ⟨a, 3, none⟩ = some (.int .u32 dw) := HPa.out.cell 3
                go_wp2_with fail
                refine (rput_any HPa.out.ref dv dw v0 q Hq.out (by have := HLn.out; have := HN.out; omega) HPa.out.grown.size).mono ?_; rintro e w4 ⟨rfl, vs', ht⟩
                have HPb := hid (HPa.out.rturn ht)
                clear ht
                go_wp2
                go_meet
                exact hid ⟨{ x with S := x.S.set q dw, sn := x.sn ++ [(2, (q : Int), dw)] }, on, T, _, vw, _, x, HPb.out, ⟨HT.out.on_, HT.out.time, HT.out.f0, HT.out.f1, HT.out.a0, HT.out.a1⟩, by have := HLn.out; simp; omega, HLn.out⟩
              by_cases hkd5 : kd = 5
              · have hz1 : (kd == 1) = false := by simpa using hkd1
                have hz2 : (kd == 2) = false := by simpa using hkd2
                have hz3 : (kd == 3) = false := by simpa using hkd3
                have hz4 : (kd == 4) = false := by simpa using hkd4
                have hz5 : (kd == 5) = true := by simpa using hkd5
                go_wp2_with fail
                refine (set_any HP.out.dev dn dw).mono ?_; rintro e w3 ⟨rfl, ht⟩
                have HPa := hid (HP.out.dturn ht)
                clear ht j0 j1 j2 j3
                have j1 : w3.cell? ⟨a, 1, none⟩ = some (.int .i64 dn) := HPa.out.cell 1
                have j3 : w3.cell? ⟨a, 3, none⟩ = some (.int .u32 dw) := HPa.out.cell 3
                go_wp2_with fail
                refine (rset_any HPa.out.ref dn dw hn0 hn1 w0 w1').mono ?_; rintro e w4 ⟨rfl, ht⟩
                have HPb := hid (HPa.out.rturn ht)
                clear ht
                go_wp2
                go_meet
                exact hid ⟨{ x with fr := dn, af := dw }, decide (0 < dw), dn + dw, vd, vw, vs, x, HPb.out, ⟨rfl, fun _ => rfl, hn0, hn1, w0, w1'⟩, Nat.le_succ_of_le HLn.out, HLn.out⟩
              by_cases hkd6 : kd = 6
              · have hz1 : (kd == 1) = false := by simpa using hkd1
                have hz2 : (kd == 2) = false := by simpa using hkd2
                have hz3 : (kd == 3) = false := by simpa using hkd3
                have hz4 : (kd == 4) = false := by simpa using hkd4
                have hz5 : (kd == 5) = false := by simpa using hkd5
                have hz6 : (kd == 6) = true := by simpa using hkd6
                go_wp2_with fail
                refine (rang_any HP.out.dev).mono ?_; rintro e w3 ⟨rfl, ht⟩
                have HPa := hid (HP.out.dturn ht)
                clear ht
                obtain ⟨cur, hcb, hci⟩ := HPa.out.ref.hb
                have hon : w3.cell? ⟨b, 19, none⟩ = some (.bool on) := by rw [cell_of_row w3 b _ _ _ _ hcb, hci.con]
                have hof : w3.frozen? ⟨b, 19, none⟩ = false := frozen_of_row w3 b _ _ _ hcb
                have HPb := hid (HPa.out.rturn HPa.out.ref.off)
                clear hcb hci
                go_wp2
                go_meet
                exact hid ⟨{ x with fr := 0, af := 0 }, false, T, vd, vw, vs, x, HPb.out, ⟨by simp, by simp, by simp, by simp, by simp, by simp⟩, Nat.le_succ_of_le HLn.out, HLn.out⟩
              have hz1 : (kd == 1) = false := by simpa using hkd1
              have hz2 : (kd == 2) = false := by simpa using hkd2
              have hz3 : (kd == 3) = false := by simpa using hkd3
              have hz4 : (kd == 4) = false := by simpa using hkd4
              have hz5 : (kd == 5) = false := by simpa using hkd5
              have hz6 : (kd == 6) = false := by simpa using hkd6
              obtain ⟨E, hE⟩ : ∃ E, dv % 8 = E := ⟨_, rfl⟩
              have hE0 : 0 ≤ E := by omega
              have hE1 : E < 8 := by omega
              have hEl := hid (endS_len E dw)
              go_wp2_with fail
              refine (end_any HP.out.dev E dw (by have := HLn.out; have := HN.out; omega) HP.out.grown.size).mono ?_; rintro e w3 ⟨rfl, vd', ht⟩
              have HPa := hid (HP.out.dturn ht)
              clear ht j0 j1 j2 j3
              have j2 : w3.cell? ⟨a, 2, none⟩ = some (.int .u32 dv) := HPa.out.cell 2
              have j3 : w3.cell? ⟨a, 3, none⟩ = some (.int .u32 dw) := HPa.out.cell 3
              go_wp2_with fail
              refine (rend_any HPa.out.ref E dw (by have := HLn.out; have := HN.out; omega) HPa.out.grown.size).mono ?_; rintro e w4 ⟨rfl, vs', ht⟩
              have HPb := hid (HPa.out.rturn ht)
              clear ht
              go_wp2
              go_meet
              exact hid ⟨{ x with sn := x.sn ++ endS E dw }, on, T, _, vw, _, x, HPb.out, ⟨HT.out.on_, HT.out.time, HT.out.f0, HT.out.f1, HT.out.a0, HT.out.a1⟩, by have := HLn.out; have := hEl.out; simp; omega, HLn.out⟩
            case rest =>
              obtain ⟨x, on, T, vd, vw, vs, xc, hP, hT, hL, hC⟩ := hcut.out
              have HP := hid hP
              have HT := hid hT
              have HL := hid hL
              have HC := hid hC
              clear hcut hP hT hL hC
              obtain ⟨cur, hcb, hci⟩ := HP.out.ref.hb
              obtain ⟨pq, cq, hvw⟩ := own_form HP.out.ref.ow
              obtain ⟨ps, cs, hvs⟩ := own_form HP.out.ref.os
              obtain ⟨n, hn⟩ : ∃ n, x.Q.length = n := ⟨_, rfl⟩
              obtain ⟨m, hm⟩ : ∃ m, x.sn.length = m := ⟨_, rfl⟩
              rw [hn] at hvw
              rw [hm] at hvs
              subst hvw
              subst hvs
              have c0 : wc.cell? ⟨b, 0, none⟩ = some (.slice pq n cq) := by rw [cell_of_row wc b _ _ _ _ hcb, hci.c0]
              have c1 : wc.cell? ⟨b, 1, none⟩ = some (.slice ps m cs) := by rw [cell_of_row wc b _ _ _ _ hcb, hci.c1]
              have hblt := HP.out.ref.lt
              obtain ⟨q, hq⟩ : ∃ q : Nat, sector % 16 = (q : Int) := ⟨(sector % 16).toNat, by omega⟩
              obtain ⟨y, hy⟩ : ∃ y, x.S[q]? = some y := ⟨_, List.getElem?_eq_getElem (by rw [HP.out.dev.s16]; omega)⟩
              obtain ⟨R, hR⟩ : ∃ R, dueB x.fr x.af now = R := ⟨_, rfl⟩
              have hK := fun W (hW : wc.grownBy W none) => keys_any (HP.out.dev.kept0 hW) n hn
              have hSd := fun W (hW : wc.grownBy W none) => seen_any (HP.out.dev.kept0 hW) (by have := HL.out; have := HN.out; omega)
              have hSc := fun W (hW : wc.grownBy W none) => seen_any (HP.out.old.cp.kept0 hW) (by have := HC.out; have := HN.out; omega)
              have hGd := fun W (hW : wc.grownBy W none) => get_any (HP.out.dev.kept0 hW) sector s0 s1 q hq y hy
              have hGr := fun W (hW : wc.grownBy W none) => rget_any (HP.out.ref.kept0 hW) sector s0 q hq y hy
              have hDd := fun W (hW : wc.grownBy W none) => due_any (HP.out.dev.kept0 hW) now (by have := HT.out.f0; omega) (by have := HT.out.f1; omega) HT.out.a0 HT.out.a1 n0 n1 R hR
              have hDr := fun W (hW : wc.grownBy W none) => rdue_any (HP.out.ref.kept0 hW) now R ((HT.out.due now).trans hR)
              have hS1 := fun W (hW : wc.grownBy W none) v (hv : SnAt W v x.sn) => ss_any hv (HP.out.ref.kept0 hW).sees (by have := HL.out; have := HN.out; omega) true (by simp)
              have hS2 := fun W (hW : wc.grownBy W none) v (hv : SnAt W v xc.sn) => ss_any hv (SnAt.own (HP.out.old.kept0 hW).was) (by have := HC.out; have := HN.out; omega) true (by simp)
              have HK := hid hK
              have HSd := hid hSd
              have HSc := hid hSc
              have HGd := hid hGd
              have HGr := hid hGr
              have HDd := hid hDd
              have HDr := hid hDr
              have HS1 := hid hS1
              have HS2 := hid hS2
              clear hK hSd hSc hGd hGr hDd hDr hS1 hS2 hcb hci hq hy hR hn hm
              go_wp2_with fail
              go_region_held3 (fun W => W.cell? ⟨b, 0, none⟩ = some (.slice pq n cq) ∧ W.cell? ⟨b, 1, none⟩ = some (.slice ps m cs) ∧ b < W.heap.size ∧ wc.grownBy W none)
                (first | (exact ⟨c0, c1, hblt, grown_drew (grown_refl wc none)⟩) | (go_split_ands; exact ⟨by assumption, by assumption, by assumption, by assumption⟩) | (go_split_ands; exact ⟨(grown_cell hcb (by assumption) (by simp)).trans (by assumption), (grown_cell hcb (by assumption) (by simp)).trans (by assumption), Nat.lt_of_lt_of_le (by assumption) hcb.size, grown_trans (by assumption) hcb⟩))
                (first
                  | (go_split_ands; go_at_call 17; go_fit (HK.out _ (by assumption)); rintro e w' ⟨rfl, rfl⟩)
                  | (go_split_ands; go_at_call 16; go_fit (HSd.out _ (by assumption)); rintro e w' ⟨ud, rfl, hown, hcb⟩; have Hud := hid (SnAt.own hown); clear hown)
                  | (go_split_ands; go_at_call 16; go_fit (HSc.out _ (by assumption)); rintro e w' ⟨uc, rfl, hown, hcb⟩; have Huc := hid (SnAt.own hown); clear hown)
                  | (go_split_ands; go_at_call 20; go_fit (HS1.out _ (by assumption) _ Hud.out); rintro e w' ⟨rfl, hcb⟩)
                  | (go_split_ands; go_at_call 20; go_fit (HS2.out _ (by assumption) _ Huc.out); rintro e w' ⟨rfl, hcb⟩)
                  | (go_split_ands; go_at_call 18; go_fit (HGd.out _ (by assumption)); rintro e w' ⟨rfl, rfl⟩)
                  | (go_split_ands; go_at_call 28; go_fit (HGr.out _ (by assumption)); rintro e w' ⟨rfl, rfl⟩)
                  | (go_split_ands; go_at_call 19; go_fit (HDd.out _ (by assumption)); rintro e w' ⟨rfl, hcb⟩)
                  | (go_split_ands; go_at_call 29; go_fit (HDr.out _ (by assumption)); rintro e w' ⟨rfl, rfl⟩))
              go_split_ands
              clear HK HSd HSc HGd HGr HDd HDr HS1 HS2
              go_wp2
              go_roundw
              case rel =>
                exact ⟨k + 1, by omega, by go_num, hid ⟨x, on, T, _, _, _, (HP.out.kept0 (by assumption)).dev, (HP.out.kept0 (by assumption)).ref, HP.out.ap, HT.out, HL.out, (HP.out.kept0 (by assumption)).grown⟩⟩
              case measure => simp [intOf]; omega
          · have hb2 : dn > 1125899906842624 := by omega
            have Hg := hid HR.out.grown
            go_wp2
            go_ret
            exact ⟨rfl, grown_below (grown_alloc Hg.out _)⟩
        · have hb2 : dn < 0 := by omega
          have Hg := hid HR.out.grown
          go_wp2
          go_ret
          exact ⟨rfl, grown_below (grown_alloc Hg.out _)⟩
      · have hge : (N : Int) ≤ (k : Int) := by omega
        have Hg := hid HR.out.grown
        go_wp2
        go_ret
        exact ⟨rfl, grown_below Hg.out⟩
  · have hl2 : ¬ (N : Int) ≤ 100 := by omega
    go_enter Try.func4, Try.ntmps4
    go_wp2_with fail
    refine (first5_any _).mono ?_; rintro e w1 ⟨rfl, hg⟩
    have HG1 := hid hg; clear hg
    go_wp2
    go_ret
    exact ⟨rfl, grown_below HG1.out⟩
end Go.Proofs.Ytiglmdilooaeeaa

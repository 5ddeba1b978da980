/- The walk of the law MemPlays. -/
import Derived.Test.YtepgnnnkhjnbjaaDoorMPlays1
import Derived.Test.YtepgnnnkhjnbjaaDoorMCopies
import Derived.Deep.RegionHeld3
namespace Go.Proofs.YtepgnnnkhjnbjaaDoor
open Go.RowKit
/-- while things are done: both memories hold these words -/
structure PRel (w wr : World) (n m b mo bo co mx bx : Nat) (xs : List Int) : Prop where
  mem : MemAt wr m b n n xs
  old : MemAt wr mo bo n co (List.replicate (n * 16) 0)
  ref : RefAt wr mx bx (n * 16) xs
  grown : w.grownBy wr none
/-- the blocks are unlike, and new -/
structure Apart (w : World) (m b mo bo mx bx : Nat) : Prop where
  mb : m ≠ bx
  bb : b ≠ bx
  ob : mo ≠ bx
  oo : bo ≠ bx
  xb : mx ≠ b
  xx : bx ≠ b
  om : mo ≠ b
  oq : bo ≠ b
  nb : w.heap.size ≤ b
  nx : w.heap.size ≤ bx
theorem own_ne_ref {w : World} {base : Nat} {v : Value} {k : Nat} {l : List Value} {m b N : Nat} {xs : List Int} (h : w.ownsRow base 3 1 v k l) (hM : RefAt w m b N xs) : some m ≠ v.ownBlock ∧ some b ≠ v.ownBlock := by
  rcases h.2 with ⟨rfl, _⟩ | ⟨g, cap, cur, rfl, _, hg, _⟩
  · simp [Value.ownBlock]
  · have hb := hM.hb
    have hm := hM.hm
    refine ⟨fun e => ?_, fun e => ?_⟩
    · obtain rfl : m = g := by simpa [Value.ownBlock] using e
      rw [hm] at hg
      simp at hg
    · obtain rfl : b = g := by simpa [Value.ownBlock] using e
      rw [hb] at hg
      simp at hg
set_option maxRecDepth 100000 in
set_option maxHeartbeats 4000000 in
theorem plays_walk (frames : Int) (p : Option Addr) (c0 N : Nat) (ds : List Do) (ask : Int) (w : World) (A : Nat → Addr) (hA : Sents w A) (f0 : -9223372036854775808 ≤ frames) (f1 : frames ≤ 9223372036854775807) (a0 : -9223372036854775808 ≤ ask) (a1 : ask ≤ 9223372036854775807) (hd : DosAt w p N ds) (hN : N ≤ maxLen) :
    Calls Tryd.prog 4 #[.int .i64 frames, .slice p N c0, .int .i64 ask] w fun e w' => e = .returned (.bool true) ∧ Below w.heap.size w w' := by
  have HA := hid hA
  have HD := hid hd
  clear hA hd
  unfold maxLen at hN
  have hmk := make16
  by_cases hfr : 1 ≤ frames ∧ frames ≤ 1024
  · obtain ⟨hfa, hfb⟩ := hfr
    obtain ⟨n, rfl⟩ := Int.eq_ofNat_of_zero_le (show 0 ≤ frames by omega)
    have hn1 : 1 ≤ n := by omega
    have hn2 : n ≤ 1024 := by omega
    have q1 : ¬ (n : Int) < 1 := by omega
    have q2 : ¬ (n : Int) > 1024 := by omega
    by_cases hsm : n ≤ 12 ∧ N ≤ 40
    · obtain ⟨hs1, hs2⟩ := hsm
      have q3 : ¬ (n : Int) > 12 := by omega
      have q4 : ¬ (N : Int) > 40 := by omega
      go_enter Tryd.func4, Tryd.ntmps4
      go_wp2_with fail
      refine (first_any _).mono ?_; rintro e w1 ⟨rfl, hg⟩
      have HG1 := hid hg; clear hg
      go_wp2_with fail
      refine (new_of _ n (by rfl) hn1 hn2).mono ?_; rintro e w2 ⟨m, b, rfl, hm, hb, hM, hg⟩
      have HM2 := hid hM
      have HG2 := hid (grown_trans HG1.out hg)
      have Hb := hid (Nat.le_trans HG1.out.size hb)
      clear hM hg hb hm HG1
      go_wp2_with fail
      refine (rnew_of _ n (by rfl) hs1).mono ?_; rintro e w3 ⟨mx, bx, rfl, hm, hb, hX, hg⟩
      have HX3 := hid hX
      have HM3 := hid (HM2.out.kept0 hg)
      have HG3 := hid (grown_trans HG2.out hg)
      have Hbx := hid (Nat.le_trans HG2.out.size hb)
      have Hap1 : Hid (m ≠ bx ∧ b ≠ bx ∧ mx ≠ b ∧ bx ≠ b) := hid (by have := HM2.out.mlt; have := HM2.out.blt; omega)
      clear hX hg hb hm HM2 HG2
      go_wp2_with fail
      refine (clone_any HM3.out).mono ?_; rintro e w4 ⟨mo, bo, co, rfl, hm, hb, hM, hg⟩
      have HR4 : Hid (PRel w w4 n m b mo bo co mx bx (List.replicate (n * 16) 0)) := hid ⟨HM3.out.kept0 hg, hM, HX3.out.kept0 hg, grown_trans HG3.out hg⟩
      have Hap : Hid (Apart w m b mo bo mx bx) := hid ⟨Hap1.out.1, Hap1.out.2.1, by have := HX3.out.blt; omega, by have := HX3.out.blt; omega, Hap1.out.2.2.1, Hap1.out.2.2.2, by have := HM3.out.blt; omega, by have := HM3.out.blt; omega, Hb.out, Hbx.out⟩
      clear hM hg hb hm HM3 HX3 HG3 Hap1 Hb Hbx
      go_wp2
      go_loopw [6, 12, 13] (fun _ i _ wr => ∃ k : Nat, k ≤ N ∧ i = .int .i64 k ∧ Hid (∃ xs, PRel w wr n m b mo bo co mx bx xs)) (fun _ i _ _ => N - (intOf i).toNat)
      case atStart => exact ⟨0, Nat.zero_le _, rfl, hid ⟨_, HR4.out⟩⟩
      case round =>
        obtain ⟨k, hk, rfl, HR0⟩ := hrel
        obtain ⟨xs, hR⟩ := HR0.out
        have HR := hid hR
        clear hR HR0
        by_cases hlt : k < N
        · obtain ⟨d, hd⟩ : ∃ d, ds[k]? = some d := ⟨_, List.getElem?_eq_getElem (by rw [HD.out.len]; exact hlt)⟩
          obtain ⟨bl, o, hp, hbl, hcs⟩ := HD.out.cell k d hd
          have hmem := List.mem_of_getElem? hd
          have Hls := hid (HD.out.list d hmem)
          obtain ⟨w0, w1'⟩ := HD.out.wide d hmem
          obtain ⟨kd, dn, dw, dv, dl⟩ := d
          obtain ⟨pv, cv, hv⟩ := Hls.out.len
          dsimp only at hv
          subst hv
          dsimp only at w0 w1' Hls
          have g : ∀ i c, (Do.cells ⟨kd, dn, dw, .slice pv dl.length cv, dl⟩)[i]? = some c → wr.cell? ⟨bl, o + (k * 4 + i), none⟩ = some c := fun i c hc => (grown_cell (p := ⟨bl, o + (k * 4 + i), none⟩) HR.out.grown hbl (by simp)).trans (hcs i c hc)
          have k0 : wr.cell? ⟨bl, o + k * 4, none⟩ = some (.int .i64 kd) := g 0 _ rfl
          have k1 : wr.cell? ⟨bl, o + k * 4 + 1, none⟩ = some (.int .i64 dn) := g 1 _ rfl
          have k2 : wr.cell? ⟨bl, o + k * 4 + 2, none⟩ = some (.int .u32 dw) := g 2 _ rfl
          have k3 : wr.cell? ⟨bl, o + k * 4 + 3, none⟩ = some (.slice pv dl.length cv) := g 3 _ rfl
          have hk0 : (0 : Int) ≤ (k : Int) := by omega
          have hk1 : (k : Int) < (N : Int) := by omega
          clear g hcs hmem hd
          subst hp
          by_cases hL : dl.length ≤ 20
          · have hL2 : ¬ (dl.length : Int) > 20 := by omega
            by_cases hkd : kd = 1
            · have hkd2 : (kd == 1) = true := by simpa using hkd
              clear hkd
              go_wp2
              obtain ⟨W0, hW0⟩ : ∃ W0, W0 = wr.alloc (.cells #[.int .i64 kd, .int .i64 dn, .int .u32 dw, .slice pv dl.length cv] 47) := ⟨_, rfl⟩
              rw [← hW0]
              have hb0 : W0.heap[wr.heap.size]? = some (.cells #[.int .i64 kd, .int .i64 dn, .int .u32 dw, .slice pv dl.length cv] 47 (0, 0)) := by rw [hW0]; exact heap_alloc_last _ _
              have e1 : W0.cell? ⟨wr.heap.size, 1, none⟩ = some (.int .i64 dn) := by rw [cell_of_row W0 _ _ _ _ _ hb0]; rfl
              have e2 : W0.cell? ⟨wr.heap.size, 2, none⟩ = some (.int .u32 dw) := by rw [cell_of_row W0 _ _ _ _ _ hb0]; rfl
              have e3 : W0.cell? ⟨wr.heap.size, 3, none⟩ = some (.slice pv dl.length cv) := by rw [cell_of_row W0 _ _ _ _ _ hb0]; rfl
              have hlt0 : wr.heap.size < W0.heap.size := (Array.getElem?_eq_some_iff.1 hb0).1
              have hga : wr.grownBy W0 none := by rw [hW0]; exact World.grownBy_alloc _ _ _
              have HP0 : Hid (PRel w W0 n m b mo bo co mx bx xs) := hid ⟨HR.out.mem.kept0 hga, HR.out.old.kept0 hga, HR.out.ref.kept0 hga, grown_trans HR.out.grown hga⟩
              have hD1 : (some wr.heap.size : Option Nat) ≠ some b := by have := HR.out.mem.blt; simp; omega
              have hD2 : (some wr.heap.size : Option Nat) ≠ some bx := by have := HR.out.ref.blt; simp; omega
              obtain ⟨r, Hr⟩ : ∃ r, Hid (decide (0 ≤ dn ∧ dn < xs.length) = r) := ⟨_, hid rfl⟩
              clear hW0 hb0 hga k0 k1 k2 k3
              go_region_held3 (fun W => W.cell? ⟨wr.heap.size, 1, none⟩ = some (.int .i64 dn) ∧ W.cell? ⟨wr.heap.size, 2, none⟩ = some (.int .u32 dw) ∧ wr.heap.size < W.heap.size)
                (first | (exact ⟨e1, e2, hlt0⟩) | (go_split_ands; exact ⟨(grown_cell hcb (by assumption) hD1).trans (by assumption), (grown_cell hcb (by assumption) hD1).trans (by assumption), Nat.lt_of_lt_of_le (by assumption) hcb.size⟩) | (go_split_ands; exact ⟨(grown_cell hcb (by assumption) hD2).trans (by assumption), (grown_cell hcb (by assumption) hD2).trans (by assumption), Nat.lt_of_lt_of_le (by assumption) hcb.size⟩))
                (first
                  | (go_at_call 9; refine (write_any ((HP0.out.mem.kept0 (grown_drew (grown_refl W0 none))).kept hXg (by simpa using Hap.out.mb) (by simpa using Hap.out.bb)) dn dw w1' r Hr.out).mono ?_; rintro e wm ⟨rfl, hMa, hMg⟩; have hcb := hMg)
                  | (go_at_call 19; refine (rwrite_any ((HP0.out.ref.kept0 (grown_drew (grown_refl W0 none))).kept hMg (by simpa using Hap.out.xb) (by simpa using Hap.out.xx)) dn dw r Hr.out).mono ?_; rintro e wx ⟨rfl, hXa, hXg⟩; have hcb := hXg)
                  | (go_at_call 9; refine (write_any (HP0.out.mem.kept0 (grown_drew (grown_refl W0 none))) dn dw w1' r Hr.out).mono ?_; rintro e wm ⟨rfl, hMa, hMg⟩; have hcb := hMg)
                  | (go_at_call 19; refine (rwrite_any (HP0.out.ref.kept0 (grown_drew (grown_refl W0 none))) dn dw r Hr.out).mono ?_; rintro e wx ⟨rfl, hXa, hXg⟩; have hcb := hXg))
              have HQ : Hid (PRel w wx n m b mo bo co mx bx (wset xs dn dw)) := hid ⟨hMa.kept hXg (by simpa using Hap.out.mb) (by simpa using Hap.out.bb), ((HP0.out.old.kept0 (grown_drew (grown_refl W0 none))).kept hMg (by simpa using Hap.out.om) (by simpa using Hap.out.oq)).kept hXg (by simpa using Hap.out.ob) (by simpa using Hap.out.oo), hXa, grown_new' (grown_trans (grown_none (grown_new' (grown_trans (grown_none (grown_drew HP0.out.grown)) hMg) (fun k hk => by obtain rfl := Option.some.inj hk; exact Hap.out.nb))) hXg) (fun k hk => by obtain rfl := Option.some.inj hk; exact Hap.out.nx)⟩
              clear hMa hMg hXa hXg hD1 hD2 e1 e2 e3 hlt0
              go_split_ands
              go_wp2
              go_roundw
              case rel => exact ⟨k + 1, by omega, by go_num, hid ⟨_, HQ.out⟩⟩
              case measure => simp [intOf]; omega
            · have hkd2 : (kd == 1) = false := by simpa using hkd
              clear hkd
              go_wp2
              obtain ⟨W0, hW0⟩ : ∃ W0, W0 = wr.alloc (.cells #[.int .i64 kd, .int .i64 dn, .int .u32 dw, .slice pv dl.length cv] 47) := ⟨_, rfl⟩
              rw [← hW0]
              have hb0 : W0.heap[wr.heap.size]? = some (.cells #[.int .i64 kd, .int .i64 dn, .int .u32 dw, .slice pv dl.length cv] 47 (0, 0)) := by rw [hW0]; exact heap_alloc_last _ _
              have e1 : W0.cell? ⟨wr.heap.size, 1, none⟩ = some (.int .i64 dn) := by rw [cell_of_row W0 _ _ _ _ _ hb0]; rfl
              have e2 : W0.cell? ⟨wr.heap.size, 2, none⟩ = some (.int .u32 dw) := by rw [cell_of_row W0 _ _ _ _ _ hb0]; rfl
              have e3 : W0.cell? ⟨wr.heap.size, 3, none⟩ = some (.slice pv dl.length cv) := by rw [cell_of_row W0 _ _ _ _ _ hb0]; rfl
              have hlt0 : wr.heap.size < W0.heap.size := (Array.getElem?_eq_some_iff.1 hb0).1
              have hga : wr.grownBy W0 none := by rw [hW0]; exact World.grownBy_alloc _ _ _
              have HP0 : Hid (PRel w W0 n m b mo bo co mx bx xs) := hid ⟨HR.out.mem.kept0 hga, HR.out.old.kept0 hga, HR.out.ref.kept0 hga, grown_trans HR.out.grown hga⟩
              have hD1 : (some wr.heap.size : Option Nat) ≠ some b := by have := HR.out.mem.blt; simp; omega
              have hD2 : (some wr.heap.size : Option Nat) ≠ some bx := by have := HR.out.ref.blt; simp; omega
              obtain ⟨r, Hr⟩ : ∃ r, Hid (decide (0 ≤ dn ∧ dn * 16 < xs.length ∧ dl.length ≤ 16) = r) := ⟨_, hid rfl⟩
              have Hold : Hid (dl ≠ [] → (Value.slice pv dl.length cv).ownBlock ≠ some bx) := hid (fun h e => by have := Hls.out.old h bx e; have := Hap.out.nx; omega)
              clear hW0 hb0 hga k0 k1 k2 k3
              go_region_held3 (fun W => W.cell? ⟨wr.heap.size, 1, none⟩ = some (.int .i64 dn) ∧ W.cell? ⟨wr.heap.size, 3, none⟩ = some (.slice pv dl.length cv) ∧ wr.heap.size < W.heap.size)
                (first | (exact ⟨e1, e3, hlt0⟩) | (go_split_ands; exact ⟨(grown_cell hcb (by assumption) hD1).trans (by assumption), (grown_cell hcb (by assumption) hD1).trans (by assumption), Nat.lt_of_lt_of_le (by assumption) hcb.size⟩) | (go_split_ands; exact ⟨(grown_cell hcb (by assumption) hD2).trans (by assumption), (grown_cell hcb (by assumption) hD2).trans (by assumption), Nat.lt_of_lt_of_le (by assumption) hcb.size⟩))
                (first
                  | (go_at_call 20; refine (fill_any ((HP0.out.mem.kept0 (grown_drew (grown_refl W0 none))).kept hXg (by simpa using Hap.out.mb) (by simpa using Hap.out.bb)) dn _ dl (Hls.out.kept0 (grown_new' (grown_trans (grown_none (grown_drew HP0.out.grown)) hXg) (fun k hk => by obtain rfl := Option.some.inj hk; exact Hap.out.nx))) r Hr.out).mono ?_; rintro e wm ⟨rfl, hMa, hMg⟩; have hcb := hMg)
                  | (go_at_call 21; refine (rfill_any ((HP0.out.ref.kept0 (grown_drew (grown_refl W0 none))).kept hMg (by simpa using Hap.out.xb) (by simpa using Hap.out.xx)) rfl dn _ dl (Hls.out.kept0 (grown_new' (grown_trans (grown_none (grown_drew HP0.out.grown)) hMg) (fun k hk => by obtain rfl := Option.some.inj hk; exact Hap.out.nb))) Hold.out r Hr.out).mono ?_; rintro e wx ⟨rfl, hXa, hXg⟩; have hcb := hXg)
                  | (go_at_call 20; refine (fill_any (HP0.out.mem.kept0 (grown_drew (grown_refl W0 none))) dn _ dl (Hls.out.kept0 (grown_drew HP0.out.grown)) r Hr.out).mono ?_; rintro e wm ⟨rfl, hMa, hMg⟩; have hcb := hMg)
                  | (go_at_call 21; refine (rfill_any (HP0.out.ref.kept0 (grown_drew (grown_refl W0 none))) rfl dn _ dl (Hls.out.kept0 (grown_drew HP0.out.grown)) Hold.out r Hr.out).mono ?_; rintro e wx ⟨rfl, hXa, hXg⟩; have hcb := hXg))
              have HQ : Hid (PRel w wx n m b mo bo co mx bx (wfill xs dn dl)) := hid ⟨hMa.kept hXg (by simpa using Hap.out.mb) (by simpa using Hap.out.bb), ((HP0.out.old.kept0 (grown_drew (grown_refl W0 none))).kept hMg (by simpa using Hap.out.om) (by simpa using Hap.out.oq)).kept hXg (by simpa using Hap.out.ob) (by simpa using Hap.out.oo), hXa, grown_new' (grown_trans (grown_none (grown_new' (grown_trans (grown_none (grown_drew HP0.out.grown)) hMg) (fun k hk => by obtain rfl := Option.some.inj hk; exact Hap.out.nb))) hXg) (fun k hk => by obtain rfl := Option.some.inj hk; exact Hap.out.nx)⟩
              clear hMa hMg hXa hXg hD1 hD2 e1 e2 e3 hlt0
              go_split_ands
              go_wp2
              go_roundw
              case rel => exact ⟨k + 1, by omega, by go_num, hid ⟨_, HQ.out⟩⟩
              case measure => simp [intOf]; omega
          · have hL2 : (dl.length : Int) > 20 := by omega
            have Hg := hid HR.out.grown
            go_wp2
            go_ret
            exact ⟨rfl, grown_below (grown_alloc Hg.out _)⟩
        · have hge : (N : Int) ≤ (k : Int) := by omega
          go_wp2
          obtain ⟨iT, hi, hz0, hz1, hz2⟩ := info_parts (P := Tryd.prog) (e := 3) (z := .int .i64 0) (size := 1) (bytes := 8) (by kernel_rfl)
          have Hi := hid hi
          have Hz0 := hid hz0
          have Hz1 := hid hz1
          have Hz2 := hid hz2
          clear hi hz0 hz1 hz2
          go_loopw [6, 14, 15, 16, 17, 18, 19, 20] (fun _ v f _ _ _ _ _ wq => ∃ z : Int, -1 ≤ z ∧ z ≤ n + 1 ∧ f = .int .i64 z ∧ Hid (PRel w wq n m b mo bo co mx bx xs) ∧ Hid (DRel w n n (List.replicate (n * 16) 0) xs v (min z.toNat n) wq)) (fun _ _ f _ _ _ _ _ _ => ((n : Int) + 1 - intOf f).toNat)
          case atStart => exact ⟨-1, by omega, by omega, rfl, HR, hid ⟨by simpa [diffs] using World.ownsRow_nil _ w.heap.size 3 1, HR.out.grown⟩⟩
          case round =>
            obtain ⟨z, hz1, hz2, rfl, HQ, HW⟩ := hrel
            by_cases hzn : z ≤ n
            · by_cases hout : z < 0 ∨ (n : Int) ≤ z
              · go_wp2_with fail
                refine (frame_no HQ.out.mem z hout).mono ?_; rintro e w' ⟨rfl, rfl⟩
                go_wp2_with fail
                refine (rframe_no HQ.out.ref rfl z hout).mono ?_; rintro e w' ⟨rfl, rfl⟩
                go_wp2_with fail
                have Hn1 : Hid (SlAt (wr.alloc (.cells zeroA 23)) .u32 (.slice none 0 0) []) := hid (.inl ⟨⟨_, _, rfl⟩, rfl⟩)
                refine (sw_any Hn1.out Hn1.out (by simp) (by simp) true (by simp)).mono ?_; rintro e w5 ⟨rfl, hg⟩
                have hg5 := grown_trans (World.grownBy_alloc wr (.cells zeroA 23) none) hg
                have HQ5 : Hid (PRel w w5 n m b mo bo co mx bx xs) := hid ⟨HQ.out.mem.kept0 hg5, HQ.out.old.kept0 hg5, HQ.out.ref.kept0 hg5, grown_trans HQ.out.grown hg5⟩
                have HW5 := hid (own_kept0 HW.out.own hg5)
                have HK : Hid (min (z + 1).toNat n = min z.toNat n) := hid (by omega)
                clear hg hg5
                go_wp2
                go_roundw
                case rel => exact ⟨z + 1, by omega, by omega, rfl, HQ5, hid ⟨by rw [HK.out]; exact HW5.out, HQ5.out.grown⟩⟩
                case measure => simp [intOf]; omega
              · obtain ⟨q, rfl⟩ := Int.eq_ofNat_of_zero_le (show 0 ≤ z by omega)
                have hqn : q < n := by omega
                have Hmq : Hid (min (q : Int).toNat n = q) := hid (by omega)
                have Hmq1 : Hid (min ((q : Int) + 1).toNat n = q + 1) := hid (by omega)
                have HW' := hid HW.out.own
                rw [Hmq.out] at HW'
                have Hzl := hid (frameOf_zero hqn)
                clear hout
                go_wp2_with fail
                refine (frame_of HQ.out.mem _ q (by rfl) hqn).mono ?_; rintro e w5 ⟨g, rfl, hgn, hgh, hg⟩
                have HQ5 : Hid (PRel w w5 n m b mo bo co mx bx xs) := hid ⟨HQ.out.mem.kept0 hg, HQ.out.old.kept0 hg, HQ.out.ref.kept0 hg, grown_trans HQ.out.grown hg⟩
                have Hln := hid (frameOf_length HQ.out.mem.len hqn)
                have HS5 := hid (SlAt.frame Hln.out hgh 16)
                have HW5 := hid (own_kept0 HW'.out hg)
                clear hgn hgh hg
                go_wp2_with fail
                refine (rframe_yes HQ5.out.ref rfl q hqn).mono ?_; rintro e w6 ⟨v6, rfl, hs6, hg⟩
                have hga := grown_trans hg (World.grownBy_alloc w6 (.cells zeroA 23) none)
                have HQ6 : Hid (PRel w (w6.alloc (.cells zeroA 23)) n m b mo bo co mx bx xs) := hid ⟨HQ5.out.mem.kept0 hga, HQ5.out.old.kept0 hga, HQ5.out.ref.kept0 hga, grown_trans HQ5.out.grown hga⟩
                have HS6 := hid (HS5.out.kept0 hga)
                have HT6 := hid (hs6.kept0 (World.grownBy_alloc w6 (.cells zeroA 23) none))
                have HZ6 := hid (slat_zero w6)
                have HW6 := hid (own_kept0 HW5.out hga)
                clear hs6 hg hga
                go_wp2_with fail
                refine (sw_any HS6.out HT6.out (by rw [Hln.out]; omega) (by rw [Hln.out]; omega) true (by simp)).mono ?_; rintro e w7 ⟨rfl, hg⟩
                have HQ7 : Hid (PRel w w7 n m b mo bo co mx bx xs) := hid ⟨HQ6.out.mem.kept0 hg, HQ6.out.old.kept0 hg, HQ6.out.ref.kept0 hg, grown_trans HQ6.out.grown hg⟩
                have HT7 := hid (HT6.out.kept0 hg)
                have HZ7 := hid (HZ6.out.kept0 hg)
                have HW7 := hid (own_kept0 HW6.out hg)
                clear hg
                by_cases hfr : frameOf xs q = List.replicate 16 0
                · have Hf := hid hfr
                  clear hfr
                  go_wp2_with fail
                  refine (sw_any HT7.out HZ7.out (by rw [Hln.out]; omega) (by simp) true (by simpa using Hf.out)).mono ?_; rintro e w8 ⟨rfl, hg⟩
                  have HQ8 : Hid (PRel w w8 n m b mo bo co mx bx xs) := hid ⟨HQ7.out.mem.kept0 hg, HQ7.out.old.kept0 hg, HQ7.out.ref.kept0 hg, grown_trans HQ7.out.grown hg⟩
                  have HW8 := hid (own_kept0 HW7.out hg)
                  clear hg
                  go_wp2
                  go_roundw
                  case rel => exact ⟨(q : Int) + 1, by omega, by omega, rfl, HQ8, hid ⟨by rw [Hmq1.out, diffs_no (by unfold diffB; rw [Hzl.out, Hf.out]; simp [hqn])]; exact HW8.out, HQ8.out.grown⟩⟩
                  case measure => simp [intOf]; omega
                · have Hf := hid hfr
                  clear hfr
                  go_wp2_with fail
                  refine (sw_any HT7.out HZ7.out (by rw [Hln.out]; omega) (by simp) false (by simpa using Hf.out)).mono ?_; rintro e w8 ⟨rfl, hg⟩
                  have hga := grown_trans hg (World.grownBy_alloc w8 (.cells #[.int .i64 q] 3) none)
                  have HQ8 : Hid (PRel w (w8.alloc (.cells #[.int .i64 q] 3)) n m b mo bo co mx bx xs) := hid ⟨HQ7.out.mem.kept0 hga, HQ7.out.old.kept0 hga, HQ7.out.ref.kept0 hga, grown_trans HQ7.out.grown hga⟩
                  have HW8 := hid (own_kept0 HW7.out hga)
                  have Hlen := hid (diffs_length n n (List.replicate (n * 16) 0) xs q)
                  have Hnew := hid (one_new w8 (.int .i64 q) 3)
                  have H63 : Hid ((diffs n n (List.replicate (n * 16) 0) xs q).length + 1 ≤ maxLen) := hid (by have := Hlen.out; unfold maxLen; omega)
                  have Hby : Hid (((diffs n n (List.replicate (n * 16) 0) xs q).length + 1) * 8 ≤ 140737488355328) := hid (by have := Hlen.out; omega)
                  have Hba : Hid (w.heap.size ≤ (w8.alloc (.cells #[.int .i64 q] 3)).heap.size) := hid HQ8.out.grown.size
                  clear hg hga
                  go_wp2_with (refine wpList_append_own _ rfl _ _ 22 rfl w.heap.size 3 iT _ 1 8 Tryd.underlying22 Hi.out Hz0.out Hz1.out Hz2.out rfl (by decide) _ _ _ rfl HW8.out ⟨w8.heap.size, 0, none⟩ 1 1 [.int .i64 q] rfl rfl Hnew.out (by simp [Value.oneCell']) H63.out Hby.out Hba.out ?_; intro v' w9 hown9 hgrow9 _; have HO9 := hid hown9; have HG9 := hid hgrow9; clear hown9 hgrow9)
                  have HQ9 : Hid (PRel w w9 n m b mo bo co mx bx xs) := hid ⟨HQ8.out.mem.kept HG9.out (own_ne_mem HW8.out HQ8.out.mem).1 (own_ne_mem HW8.out HQ8.out.mem).2, HQ8.out.old.kept HG9.out (own_ne_mem HW8.out HQ8.out.old).1 (own_ne_mem HW8.out HQ8.out.old).2, HQ8.out.ref.kept HG9.out (own_ne_ref HW8.out HQ8.out.ref).1 (own_ne_ref HW8.out HQ8.out.ref).2, grown_new' (grown_trans (grown_none HQ8.out.grown) HG9.out) (fun g hg => (HW8.out.lt g hg).1)⟩
                  go_roundw
                  case rel => exact ⟨(q : Int) + 1, by omega, by omega, rfl, HQ9, hid ⟨by rw [Hmq1.out, diffs_yes (by unfold diffB; rw [Hzl.out, decide_eq_false (p := List.replicate 16 0 = frameOf xs q) (fun e => Hf.out e.symm)]; simp)]; exact own_append HO9.out, HQ9.out.grown⟩⟩
                  case measure => simp [intOf]; omega
            · have hzn2 : (n : Int) < z := by omega
              have Hmin : Hid (min z.toNat n = n) := hid (by omega)
              have HS := hid (SlAt.own HW.out.own)
              rw [Hmin.out] at HS
              obtain ⟨r, Hr⟩ : ∃ r, Hid (decide (0 ≤ ask ∧ ask < xs.length) = r) := ⟨_, hid rfl⟩
              obtain ⟨y, Hy⟩ : ∃ y, Hid ((if 0 ≤ ask ∧ ask < xs.length then xs.getD ask.toNat 0 else 0) = y) := ⟨_, hid rfl⟩
              go_wp2_with fail
              refine (read_any HQ.out.mem ask a1 r y Hr.out Hy.out).mono ?_; rintro e w' ⟨rfl, rfl⟩
              go_wp2_with fail
              refine (rread_any HQ.out.ref ask r y Hr.out Hy.out).mono ?_; rintro e w' ⟨rfl, rfl⟩
              go_wp2_with fail
              refine (differ_any HQ.out.old HQ.out.mem).mono ?_; rintro e w5 ⟨v5, rfl, hs5, hg⟩
              rw [Nat.max_self] at hs5
              have HD5 := hid hs5
              have HS5 := hid (HS.out.kept0 hg)
              have HM5 := hid (HQ.out.mem.kept0 hg)
              have HG5 := hid (grown_trans HQ.out.grown hg)
              clear hs5 hg
              go_wp2_with fail
              refine (si_any HD5.out HS5.out (by have := diffs_length n n (List.replicate (n * 16) 0) xs n; omega) (by have := diffs_length n n (List.replicate (n * 16) 0) xs n; omega) true (by simp)).mono ?_; rintro e w6 ⟨rfl, hg⟩
              have HM6 := hid (HM5.out.kept0 hg)
              have HG6 := hid (grown_trans HG5.out hg)
              clear hg
              go_wp2_with fail
              refine (frames_any HM6.out).mono ?_; rintro e w' ⟨rfl, rfl⟩
              go_wp2
              go_ret
              exact ⟨rfl, grown_below HG6.out⟩
    · by_cases hq : n ≤ 12
      · have q3 : ¬ (n : Int) > 12 := by omega
        have q4 : (N : Int) > 40 := by omega
        clear hsm
        go_enter Tryd.func4, Tryd.ntmps4
        go_wp2_with fail
        refine (first_any _).mono ?_; rintro e w1 ⟨rfl, hg⟩
        have HG1 := hid hg; clear hg
        go_wp2_with fail
        refine (new_of _ n (by rfl) hn1 hn2).mono ?_; rintro e w2 ⟨m, b, rfl, hm, hb, hM, hg⟩
        have HG2 := hid (grown_trans HG1.out hg)
        clear hM hg hb hm
        go_wp2
        go_ret
        exact ⟨rfl, grown_below HG2.out⟩
      · have q3 : (n : Int) > 12 := by omega
        clear hsm
        go_enter Tryd.func4, Tryd.ntmps4
        go_wp2_with fail
        refine (first_any _).mono ?_; rintro e w1 ⟨rfl, hg⟩
        have HG1 := hid hg; clear hg
        go_wp2_with fail
        refine (new_of _ n (by rfl) hn1 hn2).mono ?_; rintro e w2 ⟨m, b, rfl, hm, hb, hM, hg⟩
        have HG2 := hid (grown_trans HG1.out hg)
        clear hM hg hb hm
        go_wp2
        go_ret
        exact ⟨rfl, grown_below HG2.out⟩
  · have hout : frames < 1 ∨ 1024 < frames := by omega
    have Hout := hid hout
    rcases hout with hout | hout
    · go_enter Tryd.func4, Tryd.ntmps4
      go_wp2_with fail
      refine (first_any _).mono ?_; rintro e w1 ⟨rfl, hg⟩
      have HG1 := hid hg
      have HA1 := hid (HA.out.kept0 hg)
      clear hg
      go_wp2_with fail
      refine (new_no _ (HA1.out.cell 2 _ rfl) frames Hout.out).mono ?_; rintro e w2 ⟨rfl, hg⟩
      have HG2 := hid (grown_trans HG1.out hg)
      have HA2 := hid (HA1.out.kept0 hg)
      clear hg
      go_wp2_with fail
      refine (is_sent HA2.out 2 (by omega) 103 true rfl).mono ?_; rintro e w3 ⟨rfl, hg⟩
      have HG3 := hid (grown_trans HG2.out hg)
      clear hg
      go_wp2
      go_ret
      exact ⟨rfl, grown_below HG3.out⟩
    · have q0 : ¬ frames < 1 := by omega
      have q1 : frames > 1024 := by omega
      clear hout hfr
      go_enter Tryd.func4, Tryd.ntmps4
      go_wp2_with fail
      refine (first_any _).mono ?_; rintro e w1 ⟨rfl, hg⟩
      have HG1 := hid hg
      have HA1 := hid (HA.out.kept0 hg)
      clear hg
      go_wp2_with fail
      refine (new_no _ (HA1.out.cell 2 _ rfl) frames Hout.out).mono ?_; rintro e w2 ⟨rfl, hg⟩
      have HG2 := hid (grown_trans HG1.out hg)
      have HA2 := hid (HA1.out.kept0 hg)
      clear hg
      go_wp2_with fail
      refine (is_sent HA2.out 2 (by omega) 103 true rfl).mono ?_; rintro e w3 ⟨rfl, hg⟩
      have HG3 := hid (grown_trans HG2.out hg)
      clear hg
      go_wp2
      go_ret
      exact ⟨rfl, grown_below HG3.out⟩
end Go.Proofs.YtepgnnnkhjnbjaaDoor

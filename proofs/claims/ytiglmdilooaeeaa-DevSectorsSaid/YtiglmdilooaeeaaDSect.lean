/- The walk of the law DevSectors. -/
import Derived.Test.YtiglmdilooaeeaaDev7
import Derived.Deep.RegionHeld3
namespace Go.Proofs.Ytiglmdilooaeeaa
open Go.RowKit
theorem u32_and15 {a : Int} (h0 : 0 ≤ a) (h1 : a ≤ 4294967295) : bits .and .u32 a 15 = a % 16 := by
  obtain ⟨n, rfl⟩ : ∃ n : Nat, a = n := ⟨a.toNat, by omega⟩
  have := (bits_nat .u32 32 (by decide) (fun m hm0 hm1 => by show m % 4294967296 = m; omega) n 15 (by omega) (by decide)).1
  rw [show ((15 : Nat) : Int) = 15 from rfl] at this
  rw [this, show (15 : Nat) = 2 ^ 4 - 1 from rfl, Nat.and_two_pow_sub_one_eq_mod]
  rfl
/-- sixteen words in a block of the law's own -/
structure WsAt (w : World) (B b : Nat) (S : List Int) : Prop where
  hb : ∃ cur : Array Value, w.heap[b]? = some (.cells cur 28 (0, 0)) ∧ cur.size = 16 ∧ ∀ (k : Nat) (y : Int), S[k]? = some y → cur[k]? = some (.int .u32 y)
  s16 : S.length = 16
  ge : B ≤ b
section
variable {w w1 : World} {B b d : Nat} {S : List Int} {x : DvS} {v : Value} {R : List Nat}
theorem WsAt.lt (h : WsAt w B b S) : b < w.heap.size := by
  obtain ⟨cur, hb, _⟩ := h.hb
  exact (Array.getElem?_eq_some_iff.1 hb).1
theorem WsAt.keptL (h : WsAt w B b S) (hg : Lv w w1 R) (hr : b ∉ R) : WsAt w1 B b S := by
  obtain ⟨cur, hb, hs, hc⟩ := h.hb
  exact ⟨⟨cur, (hg.block b h.lt hr).trans hb, hs, hc⟩, h.s16, h.ge⟩
theorem WsAt.kept0 (h : WsAt w B b S) (hg : w.grownBy w1 none) : WsAt w1 B b S := h.keptL (Lv.of_none hg []) (by simp)
theorem WsAt.cell (h : WsAt w B b S) {k : Nat} {y : Int} (hy : S[k]? = some y) : w.cell? ⟨b, k, none⟩ = some (.int .u32 y) := by
  obtain ⟨cur, hb, hs, hc⟩ := h.hb
  rw [cell_of_row w b _ _ _ _ hb]
  exact hc k y hy
theorem WsAt.free (h : WsAt w B b S) (k : Nat) : w.frozen? ⟨b, k, none⟩ = false := by
  obtain ⟨cur, hb, _⟩ := h.hb
  exact frozen_of_row w b k cur _ hb
theorem WsAt.set (h : WsAt w B b S) {k : Nat} (hk : k < 16) (y : Int) : WsAt (w.setCell ⟨b, k, none⟩ (.int .u32 y)) B b (S.set k y) := by
  obtain ⟨cur, hb, hs, hc⟩ := h.hb
  refine ⟨⟨_, heap_setCell_same _ _ _ _ _ _ hb, by simpa using hs, fun j z hz => ?_⟩, by simpa using h.s16, h.ge⟩
  rw [List.getElem?_set] at hz
  by_cases e : k = j
  · subst e
    rw [if_pos rfl, if_pos (by rw [h.s16]; exact hk)] at hz
    rw [set_eq _ (by omega), Option.some.inj hz]
  · rw [if_neg e] at hz
    rw [set_ne _ e]; exact hc j z hz
/-- the words lie in no block of devices -/
theorem WsAt.apart (h : WsAt w B b S) {B' : Nat} (hd : DevAt w B' d x v) : b ∉ foot d v := by
  obtain ⟨cur, hb, _⟩ := h.hb
  intro hi
  rcases mem_foot.1 hi with rfl | hi
  · obtain ⟨cu, f, hb', _⟩ := hd.hd
    rw [hb] at hb'; simp at hb'
  · rcases hd.own.2 with ⟨rfl, _⟩ | ⟨g, cap, cu, rfl, _, hg, _⟩
    · simp [Value.ownBlock] at hi
    · obtain rfl : g = b := by simpa [Value.ownBlock] using hi
      rw [hb] at hg; simp at hg
end
theorem ws_zero (w : World) {B : Nat} (hB : B ≤ w.heap.size) (c : Array Value) (hc : c = (List.replicate 16 (Value.int .u32 0)).toArray) : WsAt (w.alloc (.cells c 28)) B w.heap.size zeroS.S :=
  ⟨⟨c, heap_alloc_new _ _, by rw [hc]; rfl, fun k y hy => by
    have hk : k < 16 := (List.getElem?_eq_some_iff.1 hy).1
    rw [zeroS_get k hk] at hy
    rw [hc, ← Option.some.inj hy]
    rw [List.getElem?_toArray, List.getElem?_replicate, if_pos hk]⟩, rfl, hB⟩
/-- what is seen of the first pairs -/
structure Pairs (ls : List Int) (sn : List Sn) (k : Nat) : Prop where
  len : sn.length = k
  get : ∀ (j : Nat) (s : Sn), sn[j]? = some s → ∃ a b q : Int, ls[2 * j]? = some a ∧ ls[2 * j + 1]? = some b ∧ a % 16 = q ∧ s = (2, q, b)
theorem Pairs.step {ls : List Int} {sn : List Sn} {k : Nat} (h : Pairs ls sn k) {a b : Int} (ha : ls[2 * k]? = some a) (hb : ls[2 * k + 1]? = some b) {q : Nat} (hq : a % 16 = (q : Int)) : Pairs ls (sn ++ [(2, (q : Int), b)]) (k + 1) := by
  refine ⟨by simp [h.len], fun j s hs => ?_⟩
  rw [List.getElem?_append] at hs
  split at hs
  · exact h.get j s hs
  · rename_i hj
    have hj2 : j = k := by
      have := (List.getElem?_eq_some_iff.1 hs).1
      have := h.len
      simp at *; omega
    subst hj2
    rw [h.len] at hs
    simp at hs
    exact ⟨a, b, q, ha, hb, hq, hs.symm⟩
set_option maxRecDepth 100000 in
set_option maxHeartbeats 4000000 in
theorem sect_walk (v : Value) (ls : List Int) (ask : Int) (w : World) (hs : SlAt w .u32 v ls) (hw : ∀ n ∈ ls, (Lit.int .u32 n).wf = true) (hl0 : ls.length ≤ maxLen) (k0 : 0 ≤ ask) (k1 : ask ≤ 4294967295) :
    Calls Try.prog 7 #[v, .int .u32 ask] w fun e w' => e = .returned (.bool true) ∧ Below w.heap.size w w' := by
  have Hz33 := zero_dev
  obtain ⟨p, c0, rfl⟩ : ∃ p c', v = .slice p ls.length c' := by
    rcases hs with ⟨⟨p, c, rfl⟩, rfl⟩ | ⟨b, o, c, rfl, _⟩
    · exact ⟨_, _, rfl⟩
    · exact ⟨_, _, rfl⟩
  have Hs := hid hs
  have Hw := hid hw
  clear hs hw
  unfold maxLen at hl0
  by_cases hl : ls.length ≤ 30
  · have hl2 : (ls.length : Int) ≤ 30 := by omega
    go_enter Try.func7, Try.ntmps7
    go_wp2_with fail
    refine (first5_any _).mono ?_; rintro e w1 ⟨rfl, hg⟩
    have HG1 := hid hg; clear hg
    go_wp2_with fail
    have HD1 := hid ((dev_zero (B := w.heap.size) w1 HG1.out.size).kept0 (World.grownBy_alloc _ (.cells #[.int .u32 0, .int .u32 0, .int .u32 0, .int .u32 0, .int .u32 0, .int .u32 0, .int .u32 0, .int .u32 0, .int .u32 0, .int .u32 0, .int .u32 0, .int .u32 0, .int .u32 0, .int .u32 0, .int .u32 0, .int .u32 0] 28) none))
    have HW1 := hid (ws_zero (B := w.heap.size) (w1.alloc (.cells zeroD 33)) (Nat.le_trans HG1.out.size (World.grownBy_alloc _ _ none).size) #[.int .u32 0, .int .u32 0, .int .u32 0, .int .u32 0, .int .u32 0, .int .u32 0, .int .u32 0, .int .u32 0, .int .u32 0, .int .u32 0, .int .u32 0, .int .u32 0, .int .u32 0, .int .u32 0, .int .u32 0, .int .u32 0] rfl)
    rw [show (w1.alloc (.cells zeroD 33)).heap.size = w1.heap.size + 1 by simp] at HW1
    have HG2 := hid (grown_alloc (grown_alloc HG1.out (.cells zeroD 33)) (.cells #[.int .u32 0, .int .u32 0, .int .u32 0, .int .u32 0, .int .u32 0, .int .u32 0, .int .u32 0, .int .u32 0, .int .u32 0, .int .u32 0, .int .u32 0, .int .u32 0, .int .u32 0, .int .u32 0, .int .u32 0, .int .u32 0] 28))
    generalize (w1.alloc (.cells zeroD 33)).alloc (.cells #[.int .u32 0, .int .u32 0, .int .u32 0, .int .u32 0, .int .u32 0, .int .u32 0, .int .u32 0, .int .u32 0, .int .u32 0, .int .u32 0, .int .u32 0, .int .u32 0, .int .u32 0, .int .u32 0, .int .u32 0, .int .u32 0] 28) = w2 at HD1 HW1 HG2 ⊢
    generalize w1.heap.size = d at HD1 HW1 ⊢
    generalize d + 1 = bs at HW1 ⊢
    clear HG1
    go_loopw [8] (fun i wr => ∃ k : Nat, k * 2 ≤ ls.length ∧ (∃ i' : Nat, i' = k * 2 ∧ i = .int .i64 i') ∧ Hid (∃ S sn v', Pairs ls sn k ∧ DevAt wr w.heap.size d { zeroS with S := S, sn := sn } v' ∧ WsAt wr w.heap.size bs S) ∧ Hid (w.grownBy wr none)) (fun i _ => ls.length - (intOf i).toNat)
    case atStart => exact ⟨0, Nat.zero_le _, ⟨0, rfl, rfl⟩, hid ⟨zeroS.S, [], _, ⟨rfl, by simp⟩, HD1.out, HW1.out⟩, HG2⟩
    case round =>
      obtain ⟨k, hk, ⟨i, hi, rfl⟩, HR, HG⟩ := hrel
      obtain ⟨S, sn, v', hP, hD, hW⟩ := HR.out
      have HP := hid hP
      have HD := hid hD
      have HS := hid hW
      clear HR hP hD hW HD1 HW1 HG2
      obtain ⟨i1, hi1⟩ : ∃ i1, i + 1 = i1 := ⟨_, rfl⟩
      have e1 : (i : Int) + 1 = (i1 : Int) := by omega
      have b0 : (0 : Int) ≤ (i : Int) := by omega
      have b1 : (0 : Int) ≤ (i1 : Int) := by omega
      have b2 : (i1 : Int) ≤ 31 := by omega
      have wr1 : IntKind.i64.wrap (i1 : Int) = (i1 : Int) := wrap_i64_id (by omega) (by omega)
      have Hi := hid hi
      have Hi1 := hid hi1
      clear hi hi1
      by_cases hlt : i1 < ls.length
      · rcases Hs.out with ⟨_, rfl⟩ | ⟨bl, o, c', he, hbl, hcl⟩
        · simp at hlt
        · have hp : p = some ⟨bl, o, none⟩ := by injection he
          have hil : i < ls.length := by have := Hi1.out; omega
          obtain ⟨y, hy⟩ : ∃ y, ls[i]? = some y := ⟨_, List.getElem?_eq_getElem hil⟩
          obtain ⟨z, hz⟩ : ∃ z, ls[i1]? = some z := ⟨_, List.getElem?_eq_getElem hlt⟩
          have hcy := (grown_cell (p := ⟨bl, o + i, none⟩) HG.out hbl (by simp)).trans (hcl i y hy)
          have hcz := (grown_cell (p := ⟨bl, o + i1, none⟩) HG.out hbl (by simp)).trans (hcl i1 z hz)
          have Hcy := hid (hcl i y hy)
          have Hcz := hid (hcl i1 z hz)
          have Hbl := hid hbl
          obtain ⟨y0, y1⟩ := u32_bd (Hw.out y (List.mem_of_getElem? hy))
          obtain ⟨q, hq⟩ : ∃ q : Nat, y % 16 = (q : Int) := ⟨(y % 16).toNat, by omega⟩
          have hq16 : q < 16 := by omega
          have hand : bits .and .u32 y 15 = (q : Int) := (u32_and15 y0 y1).trans hq
          have HPP := hid (HP.out.step (by rw [show 2 * k = i by have := Hi.out; omega]; exact hy) (by rw [show 2 * k + 1 = i1 by have := Hi.out; have := Hi1.out; omega]; exact hz) hq)
          have Hlen := hid HP.out.len
          have b3 : (i : Int) < (ls.length : Int) := by have := Hi1.out; omega
          have b4 : (i1 : Int) < (ls.length : Int) := by omega
          have b5 : (0 : Int) ≤ (q : Int) := by omega
          have b6 : (q : Int) < 16 := by omega
          clear he hcl hy hz hbl
          subst hp
          go_wp2
          go_still_tail 9, (by kernel_rfl)
          change wpList _ _ _ _ _ wr.drew
          have HD2 := hid (HD.out.kept0 (grown_drew (grown_refl wr none)))
          have HS2 := hid (HS.out.kept0 (grown_drew (grown_refl wr none)))
          have HG2 := hid (grown_drew HG.out)
          generalize wr.drew = wd at HD2 HS2 HG2 ⊢
          clear hcy hcz HD HS HG
          go_wp2_with fail
          refine (put_any HD2.out y z y0 q hq (by have := Hlen.out; simp; omega) HG2.out.size).mono ?_; rintro e w3 ⟨rfl, v3, ht⟩
          have HG3 := hid (turned_old HG2.out HD2.out ht)
          have HD3 := hid ht.at_
          have HS3 := hid (HS2.out.keptL ht.lv (HS2.out.apart HD2.out))
          have hcy := (grown_cell (p := ⟨bl, o + i, none⟩) HG3.out Hbl.out (by simp)).trans Hcy.out
          have hcz := (grown_cell (p := ⟨bl, o + i1, none⟩) HG3.out Hbl.out (by simp)).trans Hcz.out
          have hfz := HS3.out.free
          obtain ⟨u, hu⟩ : ∃ u, S[q]? = some u := ⟨_, List.getElem?_eq_getElem (by rw [HS3.out.s16]; exact hq16)⟩
          have hcu := HS3.out.cell hu
          have HB := hid HS3.out.ge
          clear ht HD2 HS2 HG2
          go_wp2
          go_region
          have hLv : Lv w3 (w3.setCell ⟨bs, q, none⟩ (.int .u32 z)).drew [bs] := ((Lv.refl w3 [bs]).set (by simp) _ _).drew
          have HL := hid hLv
          clear hLv
          have HS5 := hid ((HS3.out.set hq16 z).kept0 (grown_drew (grown_refl _ none)))
          have HD4 := hid (HD3.out.keptL HL.out (fun i hi e => HS3.out.apart HD3.out (by rw [← List.mem_singleton.1 e]; exact hi)))
          have HG4 := hid (Lv.after HG3.out HL.out (by have := HB.out; simp; omega))
          generalize (w3.setCell ⟨bs, q, none⟩ (.int .u32 z)).drew = w4 at HD4 HG4 HL HS5 ⊢
          go_wp2
          go_roundw
          case rel => exact ⟨k + 1, by have := Hi.out; have := Hi1.out; omega, ⟨i + 2, by have := Hi.out; omega, by go_num⟩, hid ⟨_, _, _, HPP.out, HD4.out, HS5.out⟩, HG4⟩
          case measure => simp [intOf]; have := Hi1.out; omega
      · have hge : ¬ (i1 : Int) < (ls.length : Int) := by omega
        have hquo : (ls.length : Int) / 2 = (k : Int) := by have := Hi.out; have := Hi1.out; omega
        have hnn : (0 : Int) ≤ (ls.length : Int) := by omega
        have Hlen := hid HP.out.len
        have Hk15 : Hid (k ≤ 15) := hid (by omega)
        go_wp2_with fail
        refine (seen_any HD.out (by have := Hlen.out; have := Hk15.out; simp; omega)).mono ?_; rintro e w3 ⟨u, rfl, hown, hg⟩
        have HU3 := hid (SnAt.own hown)
        obtain ⟨ps, cs, rfl⟩ : ∃ ps cs, u = .slice ps k cs := by
          obtain ⟨ps, cs, h⟩ := HU3.out.len
          rw [Hlen.out] at h
          exact ⟨ps, cs, h⟩
        have HU3' := hid (SnOf.new HD.out hown)
        have HD3 := hid (HD.out.kept0 hg)
        have HS3 := hid (HS.out.kept0 hg)
        have HG3 := hid (grown_trans HG.out hg)
        clear hown hg HD HS HG
        go_wp2
        go_loopw [10] (fun jv wr => ∃ j : Nat, j ≤ k ∧ jv = .int .i64 j ∧ Hid (w3.grownBy wr none)) (fun jv _ => k - (intOf jv).toNat)
        case atStart => exact ⟨0, Nat.zero_le _, rfl, hid (grown_refl _ _)⟩
        case round =>
          obtain ⟨j, hj, rfl, HGj⟩ := hrel
          by_cases hjk : j < k
          · have hjl : j < sn.length := by rw [Hlen.out]; exact hjk
            obtain ⟨sj, hsj⟩ : ∃ sj, sn[j]? = some sj := ⟨_, List.getElem?_eq_getElem hjl⟩
            obtain ⟨a, b, q, ha, hb, hq, rfl⟩ := HP.out.get j sj hsj
            rcases HU3.out with ⟨_, h⟩ | ⟨g, c, he, hgl, hgc⟩
            · rw [h] at hjl; simp at hjl
            · rcases Hs.out with ⟨_, h⟩ | ⟨bl, o, c', he', hbl, hcl⟩
              · rw [h] at ha; simp at ha
              · have hps : ps = some ⟨g, 0, none⟩ := by injection he
                have hp : p = some ⟨bl, o, none⟩ := by injection he'
                obtain ⟨c1, c2, c3⟩ := sn_cells hgl hgc HGj.out hsj
                obtain ⟨m, hm⟩ : ∃ m, 2 * j = m := ⟨_, rfl⟩
                obtain ⟨m1, hm1⟩ : ∃ m1, m + 1 = m1 := ⟨_, rfl⟩
                rw [hm] at ha hb
                rw [hm1] at hb
                have x0 := grown_cell (p := ⟨bl, o + m, none⟩) (grown_trans HG3.out HGj.out) hbl (by simp)
                have x1 := grown_cell (p := ⟨bl, o + m1, none⟩) (grown_trans HG3.out HGj.out) hbl (by simp)
                have hc0 := x0.trans (hcl m a ha)
                have hc1 := x1.trans (hcl m1 b hb)
                obtain ⟨a0, a1⟩ := u32_bd (Hw.out a (List.mem_of_getElem? ha))
                have hand : bits .and .u32 a 15 = q := (u32_and15 a0 a1).trans hq
                have f1 : (2 : Int) * (j : Int) = (m : Int) := by omega
                have f2 : (m : Int) + 1 = (m1 : Int) := by omega
                have f3 : IntKind.i64.wrap (m : Int) = (m : Int) := wrap_i64_id (by omega) (by omega)
                have f4 : IntKind.i64.wrap (m1 : Int) = (m1 : Int) := wrap_i64_id (by omega) (by omega)
                have hm1l := (List.getElem?_eq_some_iff.1 hb).1
                have f5 : (0 : Int) ≤ (j : Int) := by omega
                have f6 : (j : Int) < (k : Int) := by omega
                have f7 : (0 : Int) ≤ (m : Int) := by omega
                have f8 : (m : Int) < (ls.length : Int) := by omega
                have f9 : (0 : Int) ≤ (m1 : Int) := by omega
                have f10 : (m1 : Int) < (ls.length : Int) := by omega
                clear he he' hgc hcl hm hm1 ha hb hsj x0 x1 hjl
                subst hps
                subst hp
                go_wp2
                go_quiet (fail)
                go_wp2
                go_roundw
                case rel => exact ⟨j + 1, by omega, by go_num, hid (grown_drewN HGj.out _)⟩
                case measure => simp [intOf]; omega
          · have hjk2 : ¬ (j : Int) < (k : Int) := by omega
            obtain rfl : j = k := by omega
            have HDw := hid (HD3.out.kept0 HGj.out)
            have HSw := hid (HS3.out.kept0 HGj.out)
            have HUw := hid (HU3'.out.kept0 HGj.out)
            have HGw := hid (grown_trans HG3.out HGj.out)
            clear HD3 HS3 HU3 HU3' HG3
            go_wp2_with fail
            refine (end_any HDw.out 0 5 (by have := Hlen.out; have := Hk15.out; simp; omega) HGw.out.size).mono ?_; rintro e w4 ⟨rfl, v4, ht⟩
            have HD4 : Hid (DevAt w4 w.heap.size d { zeroS with S := S, sn := sn } v4) := hid (by have := ht.at_; simpa [endS] using this)
            have HG4 := hid (turned_old HGw.out HDw.out ht)
            have HS4 := hid (HSw.out.keptL ht.lv (HSw.out.apart HDw.out))
            have HU4 := hid (HUw.out.turned ht)
            clear ht HDw HGw HSw HUw
            go_wp2_with fail
            refine (end_any HD4.out 3 6 (by have := Hlen.out; have := Hk15.out; simp; omega) HG4.out.size).mono ?_; rintro e w5 ⟨rfl, v5, ht⟩
            have HD5 : Hid (DevAt w5 w.heap.size d { zeroS with S := S, sn := sn ++ [(3, 0, 6)] } v5) := hid (by have := ht.at_; simpa [endS] using this)
            have HG5 := hid (turned_old HG4.out HD4.out ht)
            have HS5 := hid (HS4.out.keptL ht.lv (HS4.out.apart HD4.out))
            have HU5 := hid (HU4.out.turned ht)
            clear ht HD4 HG4 HS4 HU4
            go_wp2_with fail
            refine (end_any HD5.out 4 7 (by have := Hlen.out; have := Hk15.out; simp; omega) HG5.out.size).mono ?_; rintro e w6 ⟨rfl, v6, ht⟩
            have HD6 : Hid (DevAt w6 w.heap.size d { zeroS with S := S, sn := sn ++ [(3, 0, 6), (4, 7, 0)] } v6) := hid (by have := ht.at_; simpa [endS] using this)
            have HG6 := hid (turned_old HG5.out HD5.out ht)
            have HS6 := hid (HS5.out.keptL ht.lv (HS5.out.apart HD5.out))
            have HU6 := hid (HU5.out.turned ht)
            clear ht HD5 HG5 HS5 HU5
            go_wp2_with fail
            refine (seen_any HD6.out (by have := Hlen.out; have := Hk15.out; simp; omega)).mono ?_; rintro e w7 ⟨e2, rfl, hown, hg⟩
            obtain ⟨k2, hk2⟩ : ∃ k2, j + 2 = k2 := ⟨_, rfl⟩
            have hE : (sn ++ [((3, 0, 6) : Sn), (4, 7, 0)]).length = k2 := by rw [List.length_append, Hlen.out]; exact hk2
            obtain ⟨g2, c2, rfl, hg2, hc2, hcap⟩ : ∃ g2 c2, e2 = .slice (some ⟨g2, 0, none⟩) k2 c2 ∧ g2 < w7.heap.size ∧ (∀ i u, (snCells (sn ++ [((3, 0, 6) : Sn), (4, 7, 0)]))[i]? = some u → w7.cell? ⟨g2, i, none⟩ = some u) ∧ k2 ≤ c2 := by
              rcases hown.2 with ⟨_, h⟩ | ⟨g, cap, cur, h1, h2, h3, h4, h5⟩
              · simp at h
              · subst h1
                refine ⟨g, cap, by simp only [hE], (Array.getElem?_eq_some_iff.1 h3).1, fun i u hu => ?_, by rw [← hE]; exact h4⟩
                have := hown.cells (g := g) rfl i u hu
                rwa [Addr.add_mid, Nat.zero_add] at this
            have hat : ∀ (i : Nat) (s : Sn), (sn ++ [((3, 0, 6) : Sn), (4, 7, 0)])[i]? = some s → w7.cell? ⟨g2, i * 3, none⟩ = some (.int .i64 s.1) ∧ w7.cell? ⟨g2, i * 3 + 1, none⟩ = some (.int .u32 s.2.1) ∧ w7.cell? ⟨g2, i * 3 + 2, none⟩ = some (.int .u32 s.2.2) := fun i s hs => sn_cells hg2 hc2 (grown_refl _ _) hs
            obtain ⟨k1', hk1'⟩ : ∃ k1, j + 1 = k1 := ⟨_, rfl⟩
            obtain ⟨z0, z1, z2⟩ := hat j (3, 0, 6) (by rw [List.getElem?_append_right (by rw [Hlen.out]; exact Nat.le_refl _), Hlen.out, Nat.sub_self]; rfl)
            obtain ⟨_, y1, y2⟩ := hat k1' (4, 7, 0) (by rw [List.getElem?_append_right (by rw [Hlen.out]; omega), Hlen.out, show k1' - j = 1 by omega]; rfl)
            have HEs : Hid (∀ cc, SnAt w7 (.slice (some ⟨g2, 0, none⟩) j cc) sn) := hid (fun cc => by
              refine .inr ⟨g2, cc, by rw [Hlen.out], hg2, fun i u hu => hc2 i u ?_⟩
              rw [snCells_append, List.getElem?_append_left (List.getElem?_eq_some_iff.1 hu).1]
              exact hu)
            have HD7 := hid (HD6.out.kept0 hg)
            have HG7 := hid (grown_trans HG6.out hg)
            have HS7 := hid (HS6.out.kept0 hg)
            have HU7 := hid (HU6.out.kept0 hg)
            obtain ⟨q, hq⟩ : ∃ q : Nat, ask % 16 = (q : Int) := ⟨(ask % 16).toNat, by omega⟩
            have hq16 : q < 16 := by omega
            obtain ⟨y, hy⟩ : ∃ y, S[q]? = some y := ⟨_, List.getElem?_eq_getElem (by rw [HS7.out.s16]; exact hq16)⟩
            have hcy := HS7.out.cell hy
            have hand : bits .and .u32 ask 15 = (q : Int) := (u32_and15 k0 k1).trans hq
            have g1 : (j : Int) + 1 = (k1' : Int) := by omega
            have g2' : (j : Int) + 2 = (k2 : Int) := by omega
            have gw1 : IntKind.i64.wrap (k1' : Int) = (k1' : Int) := wrap_i64_id (by omega) (by have := Hk15.out; omega)
            have gw2 : IntKind.i64.wrap (k2 : Int) = (k2 : Int) := wrap_i64_id (by omega) (by have := Hk15.out; omega)
            have g3 : (0 : Int) ≤ (j : Int) := by omega
            have g4 : (j : Int) < (k2 : Int) := by omega
            have g5 : (0 : Int) ≤ (k1' : Int) := by omega
            have g6 : (k1' : Int) < (k2 : Int) := by omega
            have g7 : (j : Int) ≤ (c2 : Int) := by omega
            have g8 : (0 : Int) ≤ (q : Int) := by omega
            have g9 : (q : Int) < 16 := by omega
            have hjn := hid (show j ≤ 15 from Hk15.out)
            have Hy := hid hy
            have Hq := hid hq
            clear hown hg hat hc2 hE HD6 HG6 HS6 HU6 hk2 hk1' hy hq hcap
            go_wp2_with fail
            simp only [List.append_eq, List.cons_append, List.nil_append]
            go_still_tail 64, (by kernel_rfl)
            still_call ((get_any (HD7.out.kept0 (grown_drew (grown_refl _ none))) ask k0 k1 q Hq.out y Hy.out).mono (fun e w' h => ⟨h.1, h.2.symm⟩))
            repeat still_step
            refine wpStill_nil ?_
            change wpList _ _ _ _ _ w7.drew
            have HGd := hid (grown_drew HG7.out)
            have HEd := hid (fun cc => (HEs.out cc).kept0 (grown_drew (grown_refl w7 none)))
            have HUd := hid (HU7.out.kept0 (grown_drew (grown_refl w7 none)))
            generalize w7.drew = wd at HGd HEd HUd ⊢
            go_wp2_with fail
            refine (ss_any (HEd.out _) HUd.out.at_ (by have := Hlen.out; have := hjn.out; omega) true (by simp)).mono ?_; rintro e w8 ⟨rfl, hg⟩
            have HG8 := hid (grown_trans HGd.out hg)
            clear hg
            go_wp2
            go_ret
            exact ⟨rfl, grown_below HG8.out⟩
  · have hl2 : ¬ (ls.length : Int) ≤ 30 := by omega
    go_enter Try.func7, Try.ntmps7
    go_wp2_with fail
    refine (first5_any _).mono ?_; rintro e w1 ⟨rfl, hg⟩
    have HG1 := hid hg; clear hg
    go_wp2
    go_ret
    exact ⟨rfl, grown_below HG1.out⟩
end Go.Proofs.Ytiglmdilooaeeaa

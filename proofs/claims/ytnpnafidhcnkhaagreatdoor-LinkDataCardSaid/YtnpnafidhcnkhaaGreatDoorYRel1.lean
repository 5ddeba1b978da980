/- Package relax: sums of 128 bits: contracts. -/
import Derived.Test.YtnpnafidhcnkhaaGreatDoorYOOwn0
import Derived.Test.YtnpnafidhcnkhaaGreatDoorYObj12
import Derived.Laws.Externs
import Derived.Shelf.Spec.BitsCarry
import Derived.Deep.Cut
import Derived.Deep.RegionHeld3
import Derived.StillTailTactics
import Derived.LoopTactic
import Derived.Laws.OwnMore
import Derived.OwnWalk
import Derived.Deep.CutBlock
import Derived.Deep.CutRange
namespace Go.Proofs.YtnpnafidhcnkhaaGreatDoor
open Go.RowKit
def smH (z : Int) : Int := if z < 0 then 18446744073709551615 else 0
def smL (z : Int) : Int := z % 18446744073709551616
abbrev smV (z : Int) : Value := .agg #[.int .u64 (smH z), .int .u64 (smL z)]
def borN (x y : Int) : Int := if x < y then 1 else 0
theorem add64_run (x y c : Int) (hx : 0 ≤ x) (hy : 0 ≤ y) (hc0 : 0 ≤ c) (hc : c ≤ 1) (w : World) : (callFunc 108 #[.int .u64 x, .int .u64 y, .int .u64 c]).run Tryz.prog w =
    .ok (.value (.tuple #[.int .u64 ((x + y + c) % 18446744073709551616), .int .u64 ((x + y + c) / 18446744073709551616)])) w := by
  rw [run_callFunc_extern Tryz.func108 (by kernel_rfl) (by kernel_rfl) (by kernel_rfl) (e := add64Entry) (by kernel_rfl), run_add64 x y c hx hy hc0 hc]
  rfl
theorem sub64_run (x y b : Int) (hx : 0 ≤ x) (hy : 0 ≤ y) (hy' : y < 18446744073709551616) (hb0 : 0 ≤ b) (hb : b ≤ 1) (w : World) : (callFunc 122 #[.int .u64 x, .int .u64 y, .int .u64 b]).run Tryz.prog w =
    .ok (.value (.tuple #[.int .u64 ((x - y - b) % 18446744073709551616), .int .u64 (borN x (y + b))])) w := by
  obtain ⟨X, rfl⟩ := Int.eq_ofNat_of_zero_le hx
  obtain ⟨Y, rfl⟩ := Int.eq_ofNat_of_zero_le hy
  obtain ⟨B, rfl⟩ := Int.eq_ofNat_of_zero_le hb0
  rw [run_callFunc_extern Tryz.func122 (by kernel_rfl) (by kernel_rfl) (by kernel_rfl) (e := sub64Entry) (by kernel_rfl), run_sub64 X Y B (by omega)]
  have e1 : (((X + 18446744073709551616 - Y - B) % 18446744073709551616 : Nat) : Int) = ((X : Int) - Y - B) % 18446744073709551616 := by omega
  have e2 : (((if X < Y + B then 1 else 0 : Nat)) : Int) = borN X (Y + B) := by
    unfold borN
    by_cases h : X < Y + B
    · rw [if_pos h, if_pos (by omega)]; rfl
    · rw [if_neg h, if_neg (by omega)]; rfl
  rw [e1, e2]
  rfl
theorem sm_bd (z : Int) : 0 ≤ smH z ∧ smH z < 18446744073709551616 ∧ 0 ≤ smL z ∧ smL z < 18446744073709551616 := by
  unfold smH smL
  split <;> omega
theorem sm_add {z n : Int} (h0 : -4611686018427387904 ≤ z) (h1 : z ≤ 4611686018427387904) (h2 : -4611686018427387904 ≤ n) (h3 : n ≤ 4611686018427387904) :
    ∃ c, (smL z + smL n + 0) / 18446744073709551616 = c ∧ 0 ≤ c ∧ c ≤ 1 ∧ (smL z + smL n + 0) % 18446744073709551616 = smL (z + n) ∧ (smH z + smH n + c) % 18446744073709551616 = smH (z + n) := by
  refine ⟨_, rfl, ?_⟩
  unfold smL smH
  by_cases a : z < 0 <;> by_cases b : n < 0 <;> by_cases d : z + n < 0 <;> simp only [a, b, d, if_true, if_false] <;> omega
theorem sm_sub {z n : Int} (h0 : -4611686018427387904 ≤ z) (h1 : z ≤ 4611686018427387904) (h2 : -4611686018427387904 ≤ n) (h3 : n ≤ 4611686018427387904) :
    ∃ c, borN (smL z) (smL n + 0) = c ∧ 0 ≤ c ∧ c ≤ 1 ∧ (smL z - smL n - 0) % 18446744073709551616 = smL (z - n) ∧ (smH z - smH n - c) % 18446744073709551616 = smH (z - n) := by
  refine ⟨_, rfl, ?_⟩
  unfold smL smH borN
  by_cases a : z < 0 <;> by_cases b : n < 0 <;> by_cases d : z - n < 0 <;> by_cases f : z % 18446744073709551616 < n % 18446744073709551616 + 0 <;> simp only [a, b, d, f, if_true, if_false] <;> omega
theorem sm_shr {n : Int} (h0 : -9223372036854775808 ≤ n) (h1 : n ≤ 9223372036854775807) : (n / 9223372036854775808) % 18446744073709551616 = smH n := by
  unfold smH; split <;> omega
set_option maxRecDepth 100000 in
theorem sumOf_any {n : Int} (h0 : -9223372036854775808 ≤ n) (h1 : n ≤ 9223372036854775807) (W : World) :
    Calls Tryz.prog 107 #[.int .i64 n] W fun e w' => e = .returned (smV n) ∧ W.grownBy w' none := by
  have hs := sm_shr h0 h1
  have HS := hid hs
  have HG := hid (World.grownBy_alloc W (.cells #[.int .u64 (smH n), .int .u64 (smL n)] 156) none)
  clear hs
  go_enter Tryz.func107, Tryz.ntmps107
  go_wp2
  have e1 : IntKind.u64.wrap (n / 9223372036854775808) = smH n := by rw [← HS.out]; simp [IntKind.wrap, IntKind.bits, IntKind.signed]
  have e2 : IntKind.u64.wrap n = smL n := by simp [IntKind.wrap, IntKind.bits, IntKind.signed, smL]
  rw [e1, e2]
  refine bodyPost_ret (v := smV n) (by simp [results, Tryz.results107, smV, go_sem]) rfl ?_
  exact ⟨rfl, HG.out⟩
set_option maxRecDepth 100000 in
theorem cut_any {z : Int} (h0 : 0 ≤ z) (h1 : z ≤ 4611686018427387904) (W : World) :
    Calls Tryz.prog 72 #[smV z] W fun e w' => e = .returned (.int .i64 z) ∧ W.grownBy w' none := by
  have hz : smL z = z := by unfold smL; omega
  have hh : smH z = 0 := by unfold smH; rw [if_neg (by omega)]
  unfold smV
  rw [hz, hh]
  have HG := hid (World.grownBy_alloc W (.cells #[.int .u64 0, .int .u64 z] 156) none)
  clear hz hh
  go_enter Tryz.func72, Tryz.ntmps72
  go_wp2
  go_ret
  exact ⟨rfl, HG.out⟩
set_option maxRecDepth 100000 in
theorem negative_any {z : Int} (W : World) :
    Calls Tryz.prog 123 #[smV z] W fun e w' => e = .returned (.bool (decide (z < 0))) ∧ W.grownBy w' none := by
  by_cases h : z < 0
  · have hh : smH z = 18446744073709551615 := by unfold smH; rw [if_pos h]
    have hd : decide (z < 0) = true := by simpa using h
    unfold smV
    rw [hh, hd]
    generalize smL z = y
    have HG := hid (World.grownBy_alloc W (.cells #[.int .u64 18446744073709551615, .int .u64 y] 156) none)
    clear hh hd h
    go_enter Tryz.func123, Tryz.ntmps123
    go_wp2
    go_ret
    exact ⟨rfl, HG.out⟩
  · have hh : smH z = 0 := by unfold smH; rw [if_neg h]
    have hd : decide (z < 0) = false := by simpa using h
    unfold smV
    rw [hh, hd]
    generalize smL z = y
    have HG := hid (World.grownBy_alloc W (.cells #[.int .u64 0, .int .u64 y] 156) none)
    clear hh hd h
    go_enter Tryz.func123, Tryz.ntmps123
    go_wp2
    go_ret
    exact ⟨rfl, HG.out⟩
theorem info_sm : (Tryz.prog.info? 156).map (·.size) = some 2 := by kernel_rfl
set_option maxRecDepth 100000 in
theorem plus_any {z n : Int} (h0 : -4611686018427387904 ≤ z) (h1 : z ≤ 4611686018427387904) (h2 : -4611686018427387904 ≤ n) (h3 : n ≤ 4611686018427387904) (W : World) :
    Calls Tryz.prog 89 #[smV z, .int .i64 n] W fun e w' => e = .returned (smV (z + n)) ∧ W.grownBy w' none := by
  obtain ⟨c, hc, c0, c1, hl, hh⟩ := sm_add h0 h1 h2 h3
  obtain ⟨bz1, bz2, bz3, bz4⟩ := sm_bd z
  obtain ⟨bn1, bn2, bn3, bn4⟩ := sm_bd n
  have Hso := hid (fun w => sumOf_any (n := n) (by omega) (by omega) w)
  have a1 := add64_run (smL z) (smL n) 0 bz3 bn3 (by decide) (by decide)
  have a2 := add64_run (smH z) (smH n) c bz1 bn1 c0 c1
  rw [hl, hc] at a1
  rw [hh] at a2
  have HA1 := hid a1
  have HA2 := hid a2
  unfold smV at Hso ⊢
  generalize smL z = zl at *
  generalize smH z = zh at *
  generalize smL n = nl at *
  generalize smH n = nh at *
  generalize smL (z + n) = ml at *
  generalize smH (z + n) = mh at *
  clear hc c0 c1 hl hh bz1 bz2 bz3 bz4 bn1 bn2 bn3 bn4 a1 a2 h0 h1 h2 h3
  have HZ := hid ((RwAt.new W 156 #[.int .u64 zh, .int .u64 zl]).alloc (.cells #[.int .u64 0, .int .u64 0] 156))
  have HR := hid (RwAt.new2 W (.cells #[.int .u64 zh, .int .u64 zl] 156) 156 #[.int .u64 0, .int .u64 0])
  have HG := hid (grown_alloc (World.grownBy_alloc W (.cells #[.int .u64 zh, .int .u64 zl] 156) none) (.cells #[.int .u64 0, .int .u64 0] 156))
  go_enter Tryz.func89, Tryz.ntmps89
  go_upto_region 1 with (fail)
  obtain ⟨G, hG⟩ : ∃ G, W.heap.size = G := ⟨_, rfl⟩
  have HGe := hid hG
  rw [hG] at HZ HR ⊢
  clear hG
  generalize ((W.alloc (.cells #[.int .u64 zh, .int .u64 zl] 156)).alloc (.cells #[.int .u64 0, .int .u64 0] 156)) = w1 at HZ HR HG ⊢
  go_wp2_with fail
  refine (Hso.out _).mono ?_
  rintro e w2 ⟨rfl, hg⟩
  have HN := hid (RwAt.new w2 156 #[.int .u64 nh, .int .u64 nl])
  have al := World.grownBy_alloc w2 (.cells #[.int .u64 nh, .int .u64 nl] 156) none
  have HZ2 := hid ((HZ.out.kept0 hg).kept0 al)
  have HR2 := hid ((HR.out.kept0 hg).kept0 al)
  have HG2 := hid (grown_trans (grown_trans HG.out hg) al)
  clear hg al HZ HR HG
  go_upto_region 2 with (fail)
  obtain ⟨N, hN⟩ : ∃ N, w2.heap.size = N := ⟨_, rfl⟩
  rw [hN] at HN ⊢
  clear hN
  generalize w2.alloc (.cells #[.int .u64 nh, .int .u64 nl] 156) = w3 at HN HZ2 HR2 HG2 ⊢
  have z0 := HZ2.out.cell 0 (v := .int .u64 zh) rfl
  have z1 := HZ2.out.cell 1 (v := .int .u64 zl) rfl
  have n0 := HN.out.cell 0 (v := .int .u64 nh) rfl
  have n1 := HN.out.cell 1 (v := .int .u64 nl) rfl
  have E := hid (HR2.out.row #[.int .u64 mh, .int .u64 ml])
  have EG := hid (grown_setRow HG2.out (by have := HGe.out; omega : W.heap.size ≤ G + 1) #[.int .u64 mh, .int .u64 ml])
  have k0 := E.out.cell 0 (v := .int .u64 mh) rfl
  have k1 := E.out.cell 1 (v := .int .u64 ml) rfl
  go_wp2_with (first
    | simp only [HA1.out]
    | simp only [HA2.out]
    | (refine wpList_store_rw rfl 156 _ _ rfl rfl rfl HR2.out info_sm rfl (by simp [Value.oneCell']) ?_)
    | fail)
  refine bodyPost_ret (v := .agg #[.int .u64 mh, .int .u64 ml]) (by simp [results, Tryz.results89, k0, k1, go_sem]) rfl ?_
  exact ⟨rfl, EG.out⟩
set_option maxRecDepth 100000 in
theorem minus_any {z n : Int} (h0 : -4611686018427387904 ≤ z) (h1 : z ≤ 4611686018427387904) (h2 : -4611686018427387904 ≤ n) (h3 : n ≤ 4611686018427387904) (W : World) :
    Calls Tryz.prog 105 #[smV z, smV n] W fun e w' => e = .returned (smV (z - n)) ∧ W.grownBy w' none := by
  obtain ⟨c, hc, c0, c1, hl, hh⟩ := sm_sub h0 h1 h2 h3
  obtain ⟨bz1, bz2, bz3, bz4⟩ := sm_bd z
  obtain ⟨bn1, bn2, bn3, bn4⟩ := sm_bd n
  have a1 := sub64_run (smL z) (smL n) 0 bz3 bn3 bn4 (by decide) (by decide)
  have a2 := sub64_run (smH z) (smH n) c bz1 bn1 bn2 c0 c1
  rw [hl, hc] at a1
  rw [hh] at a2
  have HA1 := hid a1
  have HA2 := hid a2
  unfold smV
  generalize smL z = zl at *
  generalize smH z = zh at *
  generalize smL n = nl at *
  generalize smH n = nh at *
  generalize smL (z - n) = ml at *
  generalize smH (z - n) = mh at *
  clear hc c0 c1 hl hh bz1 bz2 bz3 bz4 bn1 bn2 bn3 bn4 a1 a2 h0 h1 h2 h3
  have HZ := hid (((RwAt.new W 156 #[.int .u64 zh, .int .u64 zl]).alloc (.cells #[.int .u64 nh, .int .u64 nl] 156)).alloc (.cells #[.int .u64 0, .int .u64 0] 156))
  have HN := hid ((RwAt.new2 W (.cells #[.int .u64 zh, .int .u64 zl] 156) 156 #[.int .u64 nh, .int .u64 nl]).alloc (.cells #[.int .u64 0, .int .u64 0] 156))
  have HR := RwAt.new2 (W.alloc (.cells #[.int .u64 zh, .int .u64 zl] 156)) (.cells #[.int .u64 nh, .int .u64 nl] 156) 156 #[.int .u64 0, .int .u64 0]
  simp only [World.size_alloc] at HR
  have HR := hid HR
  have HG := hid (grown_alloc (grown_alloc (World.grownBy_alloc W (.cells #[.int .u64 zh, .int .u64 zl] 156) none) (.cells #[.int .u64 nh, .int .u64 nl] 156)) (.cells #[.int .u64 0, .int .u64 0] 156))
  go_enter Tryz.func105, Tryz.ntmps105
  go_upto_region 1 with (fail)
  obtain ⟨G, hG⟩ : ∃ G, W.heap.size = G := ⟨_, rfl⟩
  have HGe := hid hG
  rw [hG] at HZ HN HR ⊢
  clear hG
  generalize (((W.alloc (.cells #[.int .u64 zh, .int .u64 zl] 156)).alloc (.cells #[.int .u64 nh, .int .u64 nl] 156)).alloc (.cells #[.int .u64 0, .int .u64 0] 156)) = w3 at HZ HN HR HG ⊢
  have z0 := HZ.out.cell 0 (v := .int .u64 zh) rfl
  have z1 := HZ.out.cell 1 (v := .int .u64 zl) rfl
  have n0 := HN.out.cell 0 (v := .int .u64 nh) rfl
  have n1 := HN.out.cell 1 (v := .int .u64 nl) rfl
  have E := hid (HR.out.row #[.int .u64 mh, .int .u64 ml])
  have EG := hid (grown_setRow HG.out (by have := HGe.out; omega : W.heap.size ≤ G + 1 + 1) #[.int .u64 mh, .int .u64 ml])
  have k0 := E.out.cell 0 (v := .int .u64 mh) rfl
  have k1 := E.out.cell 1 (v := .int .u64 ml) rfl
  go_wp2_with (first
    | simp only [HA1.out]
    | simp only [HA2.out]
    | (refine wpList_store_rw rfl 156 _ _ rfl rfl rfl HR.out info_sm rfl (by simp [Value.oneCell']) ?_)
    | fail)
  refine bodyPost_ret (v := .agg #[.int .u64 mh, .int .u64 ml]) (by simp [results, Tryz.results105, k0, k1, go_sem]) rfl ?_
  exact ⟨rfl, EG.out⟩
end Go.Proofs.YtnpnafidhcnkhaaGreatDoor
namespace Go.Proofs.YtnpnafidhcnkhaaGreatDoor
open Go.RowKit
structure BtQ (w1 w : World) (G : Nat) (z : Int) : Prop where
  b : RwAt w G 156 #[.int .u64 (smH z), .int .u64 (smL z)]
  g : w1.grownBy w none
theorem BtQ.kept0 {w1 w w' : World} {G : Nat} {z : Int} (h : BtQ w1 w G z) (hg : w.grownBy w' none) : BtQ w1 w' G z := ⟨h.b.kept0 hg, grown_trans h.g hg⟩
set_option maxRecDepth 100000 in
set_option maxHeartbeats 2000000 in
theorem between_low {z : Int} (h0 : -1073741824 ≤ z) (hz : z < -128) (W : World) :
    Calls Tryz.prog 106 #[smV z, .int .i64 (-128), .int .i64 127] W fun e w' => e = .returned (.bool false) ∧ W.grownBy w' none := by
  have HS1 := hid (fun w => sumOf_any (n := -128) (by decide) (by decide) w)
  have hm1 := fun w => minus_any (z := z) (n := -128) (by omega) (by omega) (by decide) (by decide) w
  rw [show z - -128 = z + 128 by omega] at hm1
  have HM1 := hid hm1
  clear hm1
  have HN1 := hid (fun w => negative_any (z := z + 128) w)
  have d1 : decide (z + 128 < 0) = true := by simp; omega
  rw [d1] at HN1
  clear d1
  have HB := hid (RwAt.new W 156 #[.int .u64 (smH z), .int .u64 (smL z)])
  have HG := hid (World.grownBy_alloc W (.cells #[.int .u64 (smH z), .int .u64 (smL z)] 156) none)
  clear h0 hz
  go_enter Tryz.func106, Tryz.ntmps106
  go_upto_region 1 with (fail)
  obtain ⟨G, hG⟩ : ∃ G, W.heap.size = G := ⟨_, rfl⟩
  rw [hG] at HB ⊢
  clear hG
  generalize W.alloc (.cells #[.int .u64 (smH z), .int .u64 (smL z)] 156) = w1 at HB HG ⊢
  have hq : BtQ w1 w1.drew G z := ⟨HB.out.kept0 (grown_drew (grown_refl _ _)), grown_drew (grown_refl _ _)⟩
  have k0 := hq.b.cell 0 (v := .int .u64 (smH z)) rfl
  have k1 := hq.b.cell 1 (v := .int .u64 (smL z)) rfl
  first
  | (
      go_region_law (first
        | (go_simp
           go_at_call 107
           refine (HS1.out _).mono ?_
           rintro e w5 ⟨rfl, hg⟩
           have hq := BtQ.kept0 (by assumption) hg
           have k0 := hq.b.cell 0 (v := .int .u64 (smH z)) rfl
           have k1 := hq.b.cell 1 (v := .int .u64 (smL z)) rfl
           clear hg)
        | (go_simp
           go_at_call 105
           refine (HM1.out _).mono ?_
           rintro e w5 ⟨rfl, hg⟩
           have hq := BtQ.kept0 (by assumption) hg
           clear hg)
        | (go_simp
           go_at_call 123
           refine (HN1.out _).mono ?_
           rintro e w5 ⟨rfl, hg⟩
           have hq := BtQ.kept0 (by assumption) hg
           clear hg)
        | fail))
  | fail
  all_goals
    go_wp2
    go_ret
    exact ⟨rfl, grown_trans HG.out (BtQ.g (G := G) (z := z) (by assumption))⟩
set_option maxRecDepth 100000 in
set_option maxHeartbeats 2000000 in
theorem between_high {z : Int} {t : Bool} (h1 : z ≤ 1073741824) (hz : -128 ≤ z) (ht : decide (127 - z < 0) = t) (W : World) :
    Calls Tryz.prog 106 #[smV z, .int .i64 (-128), .int .i64 127] W fun e w' => e = .returned (.bool (!t)) ∧ W.grownBy w' none := by
  have HS1 := hid (fun w => sumOf_any (n := -128) (by decide) (by decide) w)
  have HS2 := hid (fun w => sumOf_any (n := 127) (by decide) (by decide) w)
  have hm1 := fun w => minus_any (z := z) (n := -128) (by omega) (by omega) (by decide) (by decide) w
  rw [show z - -128 = z + 128 by omega] at hm1
  have HM1 := hid hm1
  clear hm1
  have HM2 := hid (fun w => minus_any (z := 127) (n := z) (by decide) (by decide) (by omega) (by omega) w)
  have HN1 := hid (fun w => negative_any (z := z + 128) w)
  have HN2 := hid (fun w => negative_any (z := 127 - z) w)
  have d1 : decide (z + 128 < 0) = false := by simp; omega
  rw [d1] at HN1
  rw [ht] at HN2
  clear d1 ht
  have HB := hid (RwAt.new W 156 #[.int .u64 (smH z), .int .u64 (smL z)])
  have HG := hid (World.grownBy_alloc W (.cells #[.int .u64 (smH z), .int .u64 (smL z)] 156) none)
  clear h1 hz
  go_enter Tryz.func106, Tryz.ntmps106
  go_upto_region 1 with (fail)
  obtain ⟨G, hG⟩ : ∃ G, W.heap.size = G := ⟨_, rfl⟩
  rw [hG] at HB ⊢
  clear hG
  generalize W.alloc (.cells #[.int .u64 (smH z), .int .u64 (smL z)] 156) = w1 at HB HG ⊢
  have Hl := hid HB.out.lt
  have HD := hid (grown_drew (grown_refl w1 none))
  have k0 : w1.drew.cell? ⟨G, 0, none⟩ = some (.int .u64 (smH z)) := (grown_cell HD.out Hl.out (by simp)).trans (HB.out.cell 0 rfl)
  have k1 : w1.drew.cell? ⟨G, 1, none⟩ = some (.int .u64 (smL z)) := (grown_cell HD.out Hl.out (by simp)).trans (HB.out.cell 1 rfl)
  go_region_held3 (fun W' => W'.cell? ⟨G, 0, none⟩ = some (.int .u64 (smH z)) ∧ W'.cell? ⟨G, 1, none⟩ = some (.int .u64 (smL z)) ∧ w1.drew.grownBy W' none)
    (first | (with_reducible exact ⟨k0, k1, grown_refl _ _⟩) | (go_split_ands; have hgr := grown_trans (w := w1.drew) (r := none) (by assumption) hcb; exact ⟨(grown_cell (grown_trans HD.out hgr) Hl.out (by simp)).trans (HB.out.cell 0 rfl), (grown_cell (grown_trans HD.out hgr) Hl.out (by simp)).trans (HB.out.cell 1 rfl), hgr⟩))
    (first
      | (go_split_ands; go_at_call 107; (first | (with_reducible refine (HS1.out _).mono ?_) | (with_reducible refine (HS2.out _).mono ?_)); rintro e w' ⟨rfl, hcb⟩)
      | (go_split_ands; go_at_call 105; (first | (with_reducible refine (HM1.out _).mono ?_) | (with_reducible refine (HM2.out _).mono ?_)); rintro e w' ⟨rfl, hcb⟩)
      | (go_split_ands; go_at_call 123; (first | (with_reducible refine (HN1.out _).mono ?_) | (with_reducible refine (HN2.out _).mono ?_)); rintro e w' ⟨rfl, hcb⟩))
  go_split_ands
  go_wp2
  go_ret
  exact ⟨rfl, grown_trans HG.out (grown_trans HD.out (by assumption))⟩
theorem between_any {z : Int} (h0 : -1073741824 ≤ z) (h1 : z ≤ 1073741824) (W : World) :
    Calls Tryz.prog 106 #[smV z, .int .i64 (-128), .int .i64 127] W fun e w' => e = .returned (.bool (nearR z)) ∧ W.grownBy w' none := by
  by_cases hz : z < -128
  · have : nearR z = false := by simp [nearR]; omega
    rw [this]
    exact between_low h0 hz W
  · have : nearR z = !(decide (127 - z < 0)) := by
      unfold nearR
      rw [show decide (-128 ≤ z) = true by simp; omega, Bool.true_and, ← decide_not]
      exact decide_eq_decide.2 (by omega)
    rw [this]
    exact between_high h1 (by omega) rfl W
set_option maxRecDepth 100000 in
theorem near_any {a b : Int} (h0 : 0 ≤ a) (h1 : a ≤ 1073741824) (h2 : 0 ≤ b) (h3 : b ≤ 1073741824) (W : World) :
    Calls Tryz.prog 88 #[smV a, smV b] W fun e w' => e = .returned (.bool (nearR (b - a))) ∧ W.grownBy w' none := by
  have HM := hid (fun w => minus_any (z := b) (n := a) (by omega) (by omega) (by omega) (by omega) w)
  have HN := hid (fun w => between_any (z := b - a) (by omega) (by omega) w)
  have HA := hid ((RwAt.new W 156 #[.int .u64 (smH a), .int .u64 (smL a)]).alloc (.cells #[.int .u64 (smH b), .int .u64 (smL b)] 156))
  have HB := hid (RwAt.new2 W (.cells #[.int .u64 (smH a), .int .u64 (smL a)] 156) 156 #[.int .u64 (smH b), .int .u64 (smL b)])
  have HG := hid (grown_alloc (World.grownBy_alloc W (.cells #[.int .u64 (smH a), .int .u64 (smL a)] 156) none) (.cells #[.int .u64 (smH b), .int .u64 (smL b)] 156))
  clear h0 h1 h2 h3
  go_enter Tryz.func88, Tryz.ntmps88
  go_upto_region 1 with (fail)
  obtain ⟨G, hG⟩ : ∃ G, W.heap.size = G := ⟨_, rfl⟩
  rw [hG] at HA HB ⊢
  clear hG
  generalize ((W.alloc (.cells #[.int .u64 (smH a), .int .u64 (smL a)] 156)).alloc (.cells #[.int .u64 (smH b), .int .u64 (smL b)] 156)) = w1 at HA HB HG ⊢
  have a0 := HA.out.cell 0 (v := .int .u64 (smH a)) rfl
  have a1 := HA.out.cell 1 (v := .int .u64 (smL a)) rfl
  have b0 := HB.out.cell 0 (v := .int .u64 (smH b)) rfl
  have b1 := HB.out.cell 1 (v := .int .u64 (smL b)) rfl
  go_wp2_with fail
  refine (HM.out _).mono ?_
  rintro e w2 ⟨rfl, hg⟩
  have HG2 := hid (grown_trans HG.out hg)
  clear hg
  go_wp2_with fail
  refine (HN.out _).mono ?_
  rintro e w3 ⟨rfl, hg⟩
  have HG3 := hid (grown_trans HG2.out hg)
  clear hg
  go_wp2
  go_ret
  exact ⟨rfl, HG3.out⟩
set_option maxRecDepth 100000 in
theorem hasPlace_any {p : Option Addr} {n c : Nat} {t : Int} (_hn : n ≤ 1000000) (W : World) :
    Calls Tryz.prog 87 #[.slice p n c, .int .i64 t] W fun e w' => e = .returned (.bool (decide (0 ≤ t ∧ t ≤ (n : Int)))) ∧ W.grownBy w' none := by
  have Hr := hid (grown_refl W none)
  by_cases h0 : 0 ≤ t
  · have e1 : decide (0 ≤ t ∧ t ≤ (n : Int)) = decide (t ≤ (n : Int)) := by simp [h0]
    rw [e1]
    clear e1
    by_cases h1 : t ≤ (n : Int)
    · have d : decide (t ≤ (n : Int)) = true := by simpa using h1
      rw [d]
      clear d
      go_enter Tryz.func87, Tryz.ntmps87
      go_wp2
      go_ret
      exact ⟨rfl, Hr.out⟩
    · have d : decide (t ≤ (n : Int)) = false := by simpa using h1
      rw [d]
      clear d
      go_enter Tryz.func87, Tryz.ntmps87
      go_wp2
      go_ret
      exact ⟨rfl, Hr.out⟩
  · have d : decide (0 ≤ t ∧ t ≤ (n : Int)) = false := by simp; omega
    rw [d]
    clear d
    go_enter Tryz.func87, Tryz.ntmps87
    go_wp2
    go_ret
    exact ⟨rfl, Hr.out⟩
end Go.Proofs.YtnpnafidhcnkhaaGreatDoor
namespace Go.Proofs.YtnpnafidhcnkhaaGreatDoor
open Go.RowKit
def itC (r : RIt) : List Value := [.int .i64 r.s, .int .i64 r.t, .bool r.b]
def itsC : List RIt → List Value
  | [] => []
  | r :: l => itC r ++ itsC l
theorem itsC_get : ∀ (l : List RIt) (k j : Nat) (r : RIt), l[k]? = some r → j < 3 → (itsC l)[k * 3 + j]? = (itC r)[j]?
  | [], _, _, _, h, _ => by simp at h
  | x :: l, 0, j, r, h, hj => by
    obtain rfl : x = r := by simpa using h
    rw [itsC, List.getElem?_append_left (by simp [itC]; omega), Nat.zero_mul, Nat.zero_add]
  | x :: l, k + 1, j, r, h, hj => by
    rw [itsC, List.getElem?_append_right (by simp [itC]; omega), ← itsC_get l k j r (by simpa using h) hj]
    congr 1
    simp [itC]
    omega
theorem itsC_append : ∀ (a b : List RIt), itsC (a ++ b) = itsC a ++ itsC b
  | [], _ => rfl
  | x :: a, b => by rw [List.cons_append, itsC, itsC, itsC_append a b, List.append_assoc]
abbrev RiAt (w : World) (v : Value) (l : List RIt) : Prop := CsAt w v l.length (itsC l)
/-- the cells of item k -/
theorem RiAt.item {w : World} {v : Value} {l : List RIt} {k : Nat} {r : RIt} (h : RiAt w v l) (hr : l[k]? = some r) :
    ∃ b o c, v = .slice (some ⟨b, o, none⟩) l.length c ∧ b < w.heap.size ∧ w.cell? ⟨b, o + k * 3, none⟩ = some (.int .i64 r.s) ∧ w.cell? ⟨b, o + k * 3 + 1, none⟩ = some (.int .i64 r.t) ∧ w.cell? ⟨b, o + k * 3 + 2, none⟩ = some (.bool r.b) := by
  obtain ⟨b, o, c, rfl, _, hb, hc⟩ := h.at_ (by have := (List.getElem?_eq_some_iff.1 hr).1; omega)
  refine ⟨b, o, c, rfl, hb, ?_, ?_, ?_⟩
  · exact hc (k * 3 + 0) _ (by rw [itsC_get l k 0 r hr (by decide)]; rfl)
  · rw [Nat.add_assoc]; exact hc (k * 3 + 1) _ (by rw [itsC_get l k 1 r hr (by decide)]; rfl)
  · rw [Nat.add_assoc]; exact hc (k * 3 + 2) _ (by rw [itsC_get l k 2 r hr (by decide)]; rfl)
theorem okR_no {L : List RIt} {k : Nat} {r : RIt} (hr : L[k]? = some r) (h : okRI L.length r = false) : validR L = false := by
  unfold validR okR
  rw [Bool.and_eq_false_iff]
  right
  rw [List.all_eq_false]
  exact ⟨r, List.mem_of_getElem? hr, by simp [h]⟩
theorem okR_yes {L : List RIt} (hl : L.length ≤ 4096) (h : ∀ (k : Nat) (r : RIt), L[k]? = some r → okRI L.length r = true) : validR L = true := by
  unfold validR okR
  rw [Bool.and_eq_true]
  refine ⟨by simpa using hl, List.all_eq_true.2 fun r hr => ?_⟩
  obtain ⟨k, hk⟩ := List.getElem?_of_mem hr
  exact h k r hk
set_option maxRecDepth 100000 in
set_option maxHeartbeats 4000000 in
theorem may_any {W : World} {v : Value} {L : List RIt} (h : RiAt W v L) (hL : L.length ≤ 1000000) :
    Calls Tryz.prog 69 #[v] W fun e w' => e = .returned (.bool (validR L)) ∧ W.grownBy w' none := by
  obtain ⟨p, c, hv⟩ := h.len
  subst hv
  obtain ⟨n, hn⟩ : ∃ n, L.length = n := ⟨_, rfl⟩
  have HN := hid hn
  have HA := hid h
  have HP := hid (fun (t : Int) (w : World) => hasPlace_any (p := p) (n := n) (c := c) (t := t) (by omega) w)
  have n0 : (0 : Int) ≤ (n : Int) := by omega
  have n1 : (n : Int) ≤ 1000000 := by omega
  by_cases hb : n ≤ 4096
  · have nb : (n : Int) ≤ 4096 := by omega
    have Hnb := hid hb
    rw [hn]
    clear h hL hn hb
    go_enter Tryz.func69, Tryz.ntmps69
    go_wp2
    go_loopw [10] (fun i wr => ∃ k : Nat, k ≤ n ∧ i = .int .i64 k ∧ Hid (W.grownBy wr none ∧ ∀ (j : Nat) (r : RIt), j < k → L[j]? = some r → okRI L.length r = true)) (fun i _ => n - (intOf i).toNat)
    case atStart => exact ⟨0, Nat.zero_le _, rfl, hid ⟨grown_refl _ _, fun j _ hj => by omega⟩⟩
    case round =>
      obtain ⟨k, hk, rfl, HR⟩ := hrel
      have k0 : (0 : Int) ≤ (k : Int) := by omega
      by_cases hlt : k < n
      · have kn : (k : Int) < (n : Int) := by omega
        have Hlt := hid hlt
        obtain ⟨r, hr⟩ : ∃ r, L[k]? = some r := ⟨_, List.getElem?_eq_getElem (by have := HN.out; omega)⟩
        have HRr := hid hr
        obtain ⟨b, o, c', hv, hb, c0, c1, c2⟩ := RiAt.item (HA.out.kept0 HR.out.1) hr
        simp only [Value.slice.injEq] at hv
        obtain ⟨rfl, -, -⟩ := hv
        obtain ⟨s, t, br⟩ := r
        simp only at c0 c1 c2
        have HX := hid (RwAt.new wr 150 #[.int .i64 s, .int .i64 t, .bool br])
        have HG := hid (grown_trans HR.out.1 (World.grownBy_alloc wr (.cells #[.int .i64 s, .int .i64 t, .bool br] 150) none))
        clear hr hlt hb hk
        go_upto_region 6 with (fail)
        obtain ⟨X, hX⟩ : ∃ X, wr.heap.size = X := ⟨_, rfl⟩
        rw [hX] at HX ⊢
        clear hX c0 c1 c2
        generalize wr.alloc (.cells #[.int .i64 s, .int .i64 t, .bool br] 150) = w2 at HX HG ⊢
        have x0 := HX.out.cell 0 (v := .int .i64 s) rfl
        have x1 := HX.out.cell 1 (v := .int .i64 t) rfl
        have x2 := HX.out.cell 2 (v := .bool br) rfl
        by_cases s0 : s < 0
        · have HF : Hid (validR L = false) := hid (okR_no HRr.out (by simp [okRI]; intros; omega))
          go_wp2
          go_ret
          exact ⟨ret_b HF.out.symm, HG.out⟩
        · by_cases s1 : s > 2048
          · have HF : Hid (validR L = false) := hid (okR_no HRr.out (by simp [okRI]; intros; omega))
            have s0' : 0 ≤ s := by omega
            go_wp2
            go_ret
            exact ⟨ret_b HF.out.symm, HG.out⟩
          · have s0' : 0 ≤ s := by omega
            have s1' : s ≤ 2048 := by omega
            have Hs := hid (And.intro s0' s1')
            have d0 : decide (s < 0) = false := by simpa using s0'
            have d1 : decide (2048 < s) = false := by simpa using s1'
            clear s0 s1
            cases br
            · go_wp2
              go_roundw
              case rel =>
                refine ⟨k + 1, Hlt.out, by go_num, hid ⟨HG.out, fun j r hj hr => ?_⟩⟩
                rcases Nat.lt_succ_iff_lt_or_eq.1 hj with h | rfl
                · exact HR.out.2 j r h hr
                · rw [HRr.out] at hr; cases hr; simpa [okRI] using Hs.out
              case measure => simp [intOf]; have := Hlt.out; omega
            · by_cases hp : 0 ≤ t ∧ t ≤ (n : Int)
              · have hd : decide (0 ≤ t ∧ t ≤ (n : Int)) = true := by simpa using hp
                have Hp := hid hp
                clear hp
                go_wp2_with fail
                refine (HP.out _ _).mono ?_
                rintro e w3 ⟨rfl, hg⟩
                rw [hd]
                have HG3 := hid (grown_trans HG.out hg)
                clear hg
                go_wp2
                go_roundw
                case rel =>
                  refine ⟨k + 1, Hlt.out, by go_num, hid ⟨HG3.out, fun j r hj hr => ?_⟩⟩
                  rcases Nat.lt_succ_iff_lt_or_eq.1 hj with h | rfl
                  · exact HR.out.2 j r h hr
                  · rw [HRr.out] at hr; cases hr; have := Hs.out; have := Hp.out; simp [okRI, HN.out]; omega
                case measure => simp [intOf]; have := Hlt.out; omega
              · have hd : decide (0 ≤ t ∧ t ≤ (n : Int)) = false := by simpa using hp
                have HF : Hid (validR L = false) := hid (okR_no HRr.out (by simp only [okRI, HN.out, hd]; simp))
                clear hp
                go_wp2_with fail
                refine (HP.out _ _).mono ?_
                rintro e w3 ⟨rfl, hg⟩
                rw [hd]
                have HG3 := hid (grown_trans HG.out hg)
                clear hg
                go_wp2
                go_ret
                exact ⟨ret_b HF.out.symm, HG3.out⟩
      · obtain rfl : k = n := by omega
        clear hlt
        have kn : ¬ ((k : Int) < (k : Int)) := by omega
        go_wp2
        go_ret
        refine ⟨ret_b ?_, HR.out.1⟩
        rw [okR_yes (by have := HN.out; have := Hnb.out; omega) (fun j r hr => HR.out.2 j r (by have := HN.out; have := (List.getElem?_eq_some_iff.1 hr).1; omega) hr)]
  · have nb : (n : Int) > 4096 := by omega
    have HF : Hid (validR L = false) := hid (by unfold validR; rw [show decide (L.length ≤ 4096) = false by simp; omega]; rfl)
    have HG := hid (grown_refl W none)
    rw [hn]
    clear h hL hn hb
    go_enter Tryz.func69, Tryz.ntmps69
    go_wp2
    go_ret
    exact ⟨ret_b HF.out.symm, HG.out⟩
end Go.Proofs.YtnpnafidhcnkhaaGreatDoor
namespace Go.Proofs.YtnpnafidhcnkhaaGreatDoor
open Go.RowKit
def smsC : List Int → List Value
  | [] => []
  | z :: l => [Value.int .u64 (smH z), .int .u64 (smL z)] ++ smsC l
theorem smsC_get0 : ∀ (l : List Int) (k : Nat) (z : Int), l[k]? = some z → (smsC l)[k * 2]? = some (.int .u64 (smH z))
  | [], _, _, h => by simp at h
  | x :: l, 0, z, h => by
    obtain rfl : x = z := by simpa using h
    rfl
  | x :: l, k + 1, z, h => by
    rw [smsC, List.getElem?_append_right (by simp; omega), ← smsC_get0 l k z (by simpa using h)]
    congr 1
    simp
    omega
theorem smsC_get1 : ∀ (l : List Int) (k : Nat) (z : Int), l[k]? = some z → (smsC l)[k * 2 + 1]? = some (.int .u64 (smL z))
  | [], _, _, h => by simp at h
  | x :: l, 0, z, h => by
    obtain rfl : x = z := by simpa using h
    rfl
  | x :: l, k + 1, z, h => by
    rw [smsC, List.getElem?_append_right (by simp; omega), ← smsC_get1 l k z (by simpa using h)]
    congr 1
    simp
    omega
theorem smsC_set : ∀ (l : List Int) (k : Nat) (z : Int), ((smsC l).set (k * 2) (.int .u64 (smH z))).set (k * 2 + 1) (.int .u64 (smL z)) = smsC (l.set k z)
  | [], _, _ => rfl
  | x :: l, 0, z => rfl
  | x :: l, k + 1, z => by
    rw [List.set_cons_succ, smsC, smsC, ← smsC_set l k z, show (k + 1) * 2 = k * 2 + 1 + 1 by omega]
    rfl
theorem smsC_rep : ∀ N : Nat, smsC (List.replicate N 0) = List.replicate (N * 2) (.int .u64 0)
  | 0 => rfl
  | N + 1 => by
    rw [List.replicate_succ, smsC, smsC_rep N, show (N + 1) * 2 = N * 2 + 1 + 1 by omega, List.replicate_succ, List.replicate_succ]
    rfl
/-- the places as far as j, behind them nothing yet -/
def bgI (L : List RIt) (B : List Bool) (j N : Nat) : List Int := (List.range N).map fun k => if k ≤ j then plR L B k else 0
theorem bgI_length (L : List RIt) (B : List Bool) (j N : Nat) : (bgI L B j N).length = N := by simp [bgI]
theorem bgI_get {L : List RIt} {B : List Bool} {j N k : Nat} (h : k < N) : (bgI L B j N)[k]? = some (if k ≤ j then plR L B k else 0) := by simp [bgI, h]
theorem bgI_zero (L : List RIt) (B : List Bool) (N : Nat) : bgI L B 0 N = List.replicate N 0 := by
  apply List.ext_getElem?
  intro k
  by_cases h : k < N
  · rw [bgI_get h, List.getElem?_replicate, if_pos h]
    split
    · obtain rfl : k = 0 := by omega
      rfl
    · rfl
  · rw [List.getElem?_eq_none (by rw [bgI_length]; omega), List.getElem?_eq_none (by rw [List.length_replicate]; omega)]
theorem bgI_set {L : List RIt} {B : List Bool} {j N : Nat} : (bgI L B j N).set (j + 1) (plR L B (j + 1)) = bgI L B (j + 1) N := by
  apply List.ext_getElem?
  intro k
  by_cases h : k < N
  · rw [List.getElem?_set, bgI_get h, bgI_get h, bgI_length]
    by_cases e : j + 1 = k
    · subst e
      rw [if_pos rfl, if_pos h, if_pos (Nat.le_refl _)]
    · rw [if_neg e]
      congr 1
      by_cases e2 : k ≤ j
      · rw [if_pos e2, if_pos (by omega)]
      · rw [if_neg e2, if_neg (by omega)]
  · rw [List.getElem?_eq_none (by rw [List.length_set, bgI_length]; omega), List.getElem?_eq_none (by rw [bgI_length]; omega)]
theorem bgI_all {L : List RIt} {B : List Bool} {j N : Nat} (h : N ≤ j + 1) : bgI L B j N = plsR L B N := by
  unfold bgI plsR
  refine List.map_congr_left fun k hk => ?_
  rw [if_pos (by have := List.mem_range.1 hk; omega)]
theorem info_sm2 : ∃ i : TypeInfo, Tryz.prog.info? 156 = some i ∧ i.zero = some (.agg #[.int .u64 0, .int .u64 0]) ∧ i.size = 2 ∧ i.bytes = 16 := info_parts (P := Tryz.prog) (e := 156) (z := .agg #[.int .u64 0, .int .u64 0]) (size := 2) (bytes := 16) (by kernel_rfl)
abbrev BlAt (w : World) (v : Value) (B : List Bool) : Prop := CsAt w v B.length (B.map Value.bool)
theorem BlAt.item {w : World} {v : Value} {B : List Bool} {k : Nat} (h : BlAt w v B) (hk : k < B.length) :
    ∃ b o c, v = .slice (some ⟨b, o, none⟩) B.length c ∧ b < w.heap.size ∧ w.cell? ⟨b, o + k, none⟩ = some (.bool (B.getD k false)) := by
  obtain ⟨b, o, c, rfl, _, hb, hc⟩ := h.at_ (by omega)
  refine ⟨b, o, c, rfl, hb, hc k _ ?_⟩
  rw [List.getElem?_map, List.getD_eq_getElem?_getD, List.getElem?_eq_getElem hk]
  rfl
/-- where the loop stands -/
structure BgW (W w : World) (g : Nat) (L : List RIt) (B : List Bool) (N j : Nat) : Prop where
  gr : W.grownBy w none
  own : w.ownsRow W.heap.size 156 2 (.slice (some ⟨g, 0, none⟩) N N) N (smsC (bgI L B j N))
  ge : W.heap.size ≤ g
theorem BgW.kept0 {W w w1 : World} {g : Nat} {L : List RIt} {B : List Bool} {N j : Nat} (h : BgW W w g L B N j) (hg : w.grownBy w1 none) : BgW W w1 g L B N j := ⟨grown_trans h.gr hg, h.own.kept hg (by simp [Value.ownBlock]), h.ge⟩
theorem BgW.c0 {W w : World} {g : Nat} {L : List RIt} {B : List Bool} {N j : Nat} (h : BgW W w g L B N j) (hj : j < N) : w.cell? ⟨g, j * 2, none⟩ = some (.int .u64 (smH (plR L B j))) := by
  rw [h.own.cellAt (j * 2) (by omega)]
  exact smsC_get0 _ _ _ (by rw [bgI_get hj, if_pos (Nat.le_refl _)])
theorem BgW.c1 {W w : World} {g : Nat} {L : List RIt} {B : List Bool} {N j : Nat} (h : BgW W w g L B N j) (hj : j < N) : w.cell? ⟨g, j * 2 + 1, none⟩ = some (.int .u64 (smL (plR L B j))) := by
  rw [h.own.cellAt (j * 2 + 1) (by omega)]
  exact smsC_get1 _ _ _ (by rw [bgI_get hj, if_pos (Nat.le_refl _)])
theorem BgW.n0 {W w : World} {g : Nat} {L : List RIt} {B : List Bool} {N j : Nat} (h : BgW W w g L B N j) (hj : j + 1 < N) : w.cell? ⟨g, (j + 1) * 2, none⟩ = some (.int .u64 0) := by
  rw [h.own.cellAt ((j + 1) * 2) (by omega), smsC_get0 _ (j + 1) 0 (by rw [bgI_get hj, if_neg (by omega)])]
  rfl
theorem BgW.n1 {W w : World} {g : Nat} {L : List RIt} {B : List Bool} {N j : Nat} (h : BgW W w g L B N j) (hj : j + 1 < N) : w.cell? ⟨g, (j + 1) * 2 + 1, none⟩ = some (.int .u64 0) := by
  rw [h.own.cellAt ((j + 1) * 2 + 1) (by omega), smsC_get1 _ (j + 1) 0 (by rw [bgI_get hj, if_neg (by omega)])]
  rfl
theorem BgW.step {W w : World} {g : Nat} {L : List RIt} {B : List Bool} {N j : Nat} (h : BgW W w g L B N j) {z : Int} (hz : z = plR L B (j + 1)) :
    BgW W ((w.setCell ⟨g, (j + 1) * 2, none⟩ (.int .u64 (smH z))).setCell ⟨g, (j + 1) * 2 + 1, none⟩ (.int .u64 (smL z))) g L B N (j + 1) := by
  obtain ⟨h1, h2⟩ := h.own.stored ((j + 1) * 2) (.int .u64 (smH z))
  obtain ⟨h3, h4⟩ := h1.stored ((j + 1) * 2 + 1) (.int .u64 (smL z))
  rw [smsC_set, hz, bgI_set] at h3
  subst hz
  exact ⟨grown_new' (grown_trans (grown_trans (grown_none h.gr) h2) h4) (fun k hk => by obtain rfl := Option.some.inj hk; exact h.ge), h3, h.ge⟩
theorem sm_set {W0 w : World} {X : Nat} (a b : Int) (hX : RwAt w X 156 #[.int .u64 0, .int .u64 0]) (hg : W0.grownBy w none) (hle : W0.heap.size ≤ X) :
    ∃ Y, Value.pointer (some ⟨X, 0, none⟩) = .pointer (some ⟨Y, 0, none⟩) ∧ Hid (RwAt ((w.setCell ⟨X, 0, none⟩ (.int .u64 a)).setCell ⟨X, 1, none⟩ (.int .u64 b)) Y 156 #[.int .u64 a, .int .u64 b] ∧ W0.grownBy ((w.setCell ⟨X, 0, none⟩ (.int .u64 a)).setCell ⟨X, 1, none⟩ (.int .u64 b)) none ∧ W0.heap.size ≤ Y) :=
  ⟨X, rfl, hid ⟨(hX.set 0 (.int .u64 a)).set 1 (.int .u64 b), grown_new' (grown_setCell (grown_setCell (grown_none hg) 0 _) 1 _) (fun k hk => by obtain rfl := Option.some.inj hk; exact hle), hle⟩⟩
theorem sm_new {W0 w : World} (a b : Int) (hg : W0.grownBy w none) :
    ∃ Y, Value.pointer (some ⟨w.heap.size, 0, none⟩) = .pointer (some ⟨Y, 0, none⟩) ∧ Hid (RwAt (w.alloc (.cells #[.int .u64 a, .int .u64 b] 156)) Y 156 #[.int .u64 a, .int .u64 b] ∧ W0.grownBy (w.alloc (.cells #[.int .u64 a, .int .u64 b] 156)) none ∧ W0.heap.size ≤ Y) :=
  ⟨_, rfl, hid ⟨RwAt.new _ _ _, grown_trans hg (World.grownBy_alloc _ _ _), hg.size⟩⟩
theorem BgW.row6 {W w : World} {g : Nat} {L : List RIt} {B : List Bool} {N j Y : Nat} {a b : Int} (h : BgW W w g L B N j) (hY : RwAt w Y 156 #[.int .u64 a, .int .u64 b]) {z : Int} (hn : g ≠ Y) (hle : W.heap.size ≤ Y) :
    BgW W ((w.setCell ⟨Y, 0, none⟩ (.int .u64 (smH z))).setCell ⟨Y, 1, none⟩ (.int .u64 (smL z))) g L B N j ∧ RwAt ((w.setCell ⟨Y, 0, none⟩ (.int .u64 (smH z))).setCell ⟨Y, 1, none⟩ (.int .u64 (smL z))) Y 156 #[.int .u64 (smH z), .int .u64 (smL z)] := by
  have hg : w.grownBy ((w.setCell ⟨Y, 0, none⟩ (.int .u64 (smH z))).setCell ⟨Y, 1, none⟩ (.int .u64 (smL z))) (some Y) := grown_setCell (grown_setCell (grown_refl _ _) 0 _) 1 _
  refine ⟨⟨grown_new' (grown_trans (grown_none h.gr) hg) (fun k hk => by obtain rfl := Option.some.inj hk; exact hle), h.own.kept hg (by simpa [Value.ownBlock] using hn), h.ge⟩, ?_⟩
  simpa using (hY.set 0 (.int .u64 (smH z))).set 1 (.int .u64 (smL z))
set_option maxRecDepth 100000 in
set_option maxHeartbeats 8000000 in
theorem begins_rel {W : World} {v vb : Value} {L : List RIt} {B : List Bool} (h : RiAt W v L) (hb : BlAt W vb B) (hB : B.length = L.length) (hok : okR L = true) (hL : L.length ≤ 5000) :
    Calls Tryz.prog 71 #[v, vb] W fun e w' => ∃ g, e = .returned (.slice (some ⟨g, 0, none⟩) (L.length + 1 : Nat) (L.length + 1 : Nat)) ∧ w'.ownsRow W.heap.size 156 2 (.slice (some ⟨g, 0, none⟩) (L.length + 1 : Nat) (L.length + 1 : Nat)) (L.length + 1) (smsC (plsR L B (L.length + 1))) ∧ W.grownBy w' none := by
  obtain ⟨p, c, hv⟩ := h.len
  subst hv
  have HBl := hid hb
  obtain ⟨pb, cb, hvb⟩ := hb.len
  subst hvb
  rw [hB]
  have HBle := hid hB
  have HA := hid h
  have HK := hid hok
  obtain ⟨n, hn⟩ : ∃ n, L.length = n := ⟨_, rfl⟩
  have HNe := hid hn
  rw [hn] at hL ⊢
  obtain ⟨N, hN⟩ : ∃ N, n + 1 = N := ⟨_, rfl⟩
  have HN := hid hN
  rw [hN]
  have n0 : (0 : Int) ≤ (n : Int) := by omega
  have n1 : (n : Int) ≤ 5000 := by omega
  have nN : (n : Int) + 1 = (N : Int) := by omega
  have nNw : IntKind.i64.wrap ((n : Int) + 1) = (N : Int) := by rw [IntKind.wrap_i64]; omega
  have N1 : (N : Int) ≤ 5001 := by omega
  obtain ⟨i, hi, hz0, hz1, hz2⟩ := info_sm2
  have Hi := hid hi
  have Hz0 := hid hz0
  have Hz1 := hid hz1
  have Hz2 := hid hz2
  have HN1 := hid (show N ≤ 5001 by omega)
  clear h hb hB hok hL hn hN hi hz0 hz1 hz2
  go_enter Tryz.func71, Tryz.ntmps71
  go_wp2_with (first
    | (refine wpList_make_full _ rfl _ _ 153 rfl W.heap.size 156 i _ 2 Tryz.underlying153 Hi.out Hz0.out Hz1.out .i64 .i64 _ _ N rfl rfl (by first | rfl | omega) (by first | rfl | omega) (by rw [Hz2.out]; have := HN1.out; omega) (by have := HN1.out; unfold maxLen; omega) (Nat.le_refl _) ?_
       intro w3 hmk hgr
       rw [show (Value.agg #[Value.int .u64 0, .int .u64 0]).cells = Array.replicate 2 (.int .u64 0) from rfl, toList_madeZero _ _ 2 (by omega), Array.toList_replicate, ← smsC_rep, ← bgI_zero L B] at hmk
       have HP : Hid (BgW W w3 W.heap.size L B N 0) := hid ⟨hgr, hmk, Nat.le_refl _⟩
       clear hmk hgr)
    | fail)
  obtain ⟨g, hg⟩ : ∃ g, W.heap.size = g := ⟨_, rfl⟩
  rw [hg] at HP ⊢
  clear hg
  have HIp : Hid (∀ (a b : Int) (w : World), 0 ≤ a → a ≤ 20000000 → 0 ≤ b → b ≤ 20000000 → Calls Tryz.prog 89 #[smV a, .int .i64 b] w fun e w' => e = .returned (smV (a + b)) ∧ w.grownBy w' none) := hid (fun a b w h0 h1 h2 h3 => plus_any (by omega) (by omega) (by omega) (by omega) w)
  go_wp2
  go_loopw [15] (fun i wr => ∃ k : Nat, k ≤ n ∧ i = .int .i64 k ∧ Hid (BgW W wr g L B N k)) (fun i _ => n - (intOf i).toNat)
  case atStart => exact ⟨0, Nat.zero_le _, rfl, HP⟩
  case round =>
    obtain ⟨k, hk, rfl, HR⟩ := hrel
    clear HP
    have k0 : (0 : Int) ≤ (k : Int) := by omega
    by_cases hlt : k < n
    · have kn : (k : Int) < (n : Int) := by omega
      have kN : (k : Int) < (N : Int) := by omega
      have kN1 : (k : Int) + 1 < (N : Int) := by omega
      have hkN : k < N := by have := HN.out; omega
      have hkN1 : k + 1 < N := by have := HN.out; omega
      have Hlt := hid hlt
      have HkN := hid hkN
      have HkN1 := hid hkN1
      obtain ⟨r, hr⟩ : ∃ r, L[k]? = some r := ⟨_, List.getElem?_eq_getElem (by have := HNe.out; omega)⟩
      have hsz : szR L B k = r.s + (if B.getD k false = true then 1 else 0) := by unfold szR sR; rw [hr]
      have hrs : 0 ≤ r.s ∧ r.s ≤ 2048 := by
        have := List.all_eq_true.1 HK.out r (List.mem_of_getElem? hr)
        simp only [okRI, Bool.and_eq_true, decide_eq_true_eq] at this
        exact this.1
      obtain ⟨b, o, c', hv, hb, c0, c1, c2⟩ := RiAt.item (HA.out.kept0 HR.out.gr) hr
      simp only [Value.slice.injEq] at hv
      obtain ⟨rfl, -, -⟩ := hv
      obtain ⟨bb, ob, cb', hvb, hbb, cB⟩ := BlAt.item (HBl.out.kept0 HR.out.gr) (by rw [HBle.out, HNe.out]; exact hlt)
      simp only [Value.slice.injEq] at hvb
      obtain ⟨rfl, -, -⟩ := hvb
      obtain ⟨s, t, br⟩ := r
      simp only at c0 c1 c2 hsz hrs
      obtain ⟨P, hP⟩ : ∃ P, plR L B k = P := ⟨_, rfl⟩
      have hPb := plR_bd HK.out k (B := B)
      have hP1 := plR_succ k (L := L) (B := B)
      rw [hP] at hPb hP1
      have HPb : Hid (0 ≤ P ∧ P ≤ 10300000) := hid (by omega)
      rw [hsz] at hP1
      have HP1 := hid hP1
      have Hrs := hid hrs
      have HcB := hid (And.intro hbb cB)
      have HX := hid (RwAt.new wr 150 #[.int .i64 s, .int .i64 t, .bool br])
      have HQ := hid (HR.out.kept0 (World.grownBy_alloc wr (.cells #[.int .i64 s, .int .i64 t, .bool br] 150) none))
      have HcB2 : Hid (bb < (wr.alloc (.cells #[.int .i64 s, .int .i64 t, .bool br] 150)).heap.size ∧ (wr.alloc (.cells #[.int .i64 s, .int .i64 t, .bool br] 150)).cell? ⟨bb, ob + k, none⟩ = some (.bool (B.getD k false))) := hid ⟨Nat.lt_of_lt_of_le hbb (World.grownBy_alloc wr _ none).size, (grown_cell (World.grownBy_alloc wr _ none) hbb (by simp)).trans cB⟩
      clear hr hlt hb hk hsz hrs hPb hP1 hbb cB HcB HR hkN hkN1
      go_upto_region 5 with (fail)
      obtain ⟨X, hX⟩ : ∃ X, wr.heap.size = X := ⟨_, rfl⟩
      rw [hX] at HX ⊢
      clear hX c0 c1 c2
      generalize wr.alloc (.cells #[.int .i64 s, .int .i64 t, .bool br] 150) = w2 at HX HQ HcB2 ⊢
      go_cut [8] from 20 to 27 (fun u8 wz => ∃ Y, u8 = .pointer (some ⟨Y, 0, none⟩) ∧ Hid (RwAt wz Y 156 #[.int .u64 (smH (P + s)), .int .u64 (smL (P + s))] ∧ w2.drew.grownBy wz none ∧ w2.heap.size ≤ Y))
      case first =>
        rename_i hJ0 hJ
        have dr := grown_drew (grown_refl w2 none)
        have al := World.grownBy_alloc w2 (.cells #[.int .u64 0, .int .u64 0] 156) none
        have p0 := (HQ.out.kept0 dr).c0 HkN.out
        have p1 := (HQ.out.kept0 dr).c1 HkN.out
        have q0 := (HQ.out.kept0 al).c0 HkN.out
        have q1 := (HQ.out.kept0 al).c1 HkN.out
        rw [hP] at p0 p1 q0 q1
        have x0 := (HX.out.kept0 dr).cell 0 (v := .int .i64 s) rfl
        have y0 := (HX.out.kept0 al).cell 0 (v := .int .i64 s) rfl
        have HZr := hid (RwAt.new w2.drew 156 #[.int .u64 0, .int .u64 0])
        have Hpl := hid (fun w => HIp.out P s w HPb.out.1 (by have := HPb.out.2; omega) Hrs.out.1 (by have := Hrs.out.2; omega))
        clear dr al HIp HPb Hrs
        go_region_law (first
          | (go_simp
             go_at_call 89
             refine (Hpl.out _).mono ?_
             rintro e w5 ⟨rfl, hg⟩
             have hg2 : w2.drew.grownBy w5 none := by first | exact hg | exact grown_trans (World.grownBy_alloc _ _ none) hg
             have HG5 := hid hg2
             try have HX5 : Hid (RwAt w5 w2.heap.size 156 #[.int .u64 0, .int .u64 0]) := hid ((RwAt.new w2.drew 156 #[.int .u64 0, .int .u64 0]).kept0 hg)
             try have HX5 : Hid (RwAt w5 w2.heap.size 156 #[.int .u64 0, .int .u64 0]) := hid (HZr.out.kept0 hg)
             try have z0 := HX5.out.cell 0 (v := .int .u64 0) rfl
             try have z1 := HX5.out.cell 1 (v := .int .u64 0) rfl
             try have f0 := HX5.out.free 0
             try have f1 := HX5.out.free 1
             clear hg hg2)
          | fail)
        all_goals
          go_simp
          refine hJ _ _ (Met.intro (hJ0 _ _ ?_))
          (repeat apply Exists.intro)
          refine ⟨?_, rfl⟩
          first
            | exact sm_set _ _ HX5.out HG5.out (Nat.le_refl _)
            | exact sm_new _ _ HG5.out
      case rest =>
        obtain ⟨Y, rfl, HYY⟩ := hcut
        have hgz := grown_trans (grown_drew (grown_refl w2 none)) HYY.out.2.1
        have HYg : Hid (g ≠ Y ∧ W.heap.size ≤ Y) := hid ⟨fun e => by have := HYY.out.2.2; have := (HQ.out.own.lt g rfl).2; omega, Nat.le_trans HQ.out.gr.size HYY.out.2.2⟩
        have HY := hid HYY.out.1
        have HQz := hid (HQ.out.kept0 hgz)
        have cB := (grown_cell (p := ⟨bb, ob + k, none⟩) hgz HcB2.out.1 (by simp)).trans HcB2.out.2
        clear hgz HYY HQ HX HcB2
        have y0 := HY.out.cell 0 (v := .int .u64 (smH (P + s))) rfl
        have y1 := HY.out.cell 1 (v := .int .u64 (smL (P + s))) rfl
        cases hbk : B.getD k false
        · rw [hbk] at cB HP1
          have HS := hid (HQz.out.step (z := P + s) (by rw [HP1.out]; simp))
          have n0' := HQz.out.n0 HkN1.out
          have n1' := HQz.out.n1 HkN1.out
          have f0 := HQz.out.own.frozenAt ((k + 1) * 2)
          have f1 := HQz.out.own.frozenAt ((k + 1) * 2 + 1)
          clear hbk
          go_wp2
          go_roundw
          case rel => exact ⟨k + 1, Hlt.out, by go_num, HS⟩
          case measure => simp [intOf]; have := Hlt.out; omega
        · rw [hbk] at cB HP1
          clear hbk
          go_wp2_with fail
          refine (HIp.out (P + s) 1 _ (by have := HPb.out; have := Hrs.out; omega) (by have := HPb.out; have := Hrs.out; omega) (by decide) (by decide)).mono ?_
          rintro e w6 ⟨rfl, hg⟩
          have HY6 := hid (HY.out.kept0 hg)
          have HQ6 := hid (HQz.out.kept0 hg)
          have HS6 := hid (HQ6.out.row6 HY6.out (z := P + s + 1) HYg.out.1 HYg.out.2)
          have y0 := HY6.out.cell 0 (v := .int .u64 (smH (P + s))) rfl
          have y1 := HY6.out.cell 1 (v := .int .u64 (smL (P + s))) rfl
          have g0 := HY6.out.free 0
          have g1 := HY6.out.free 1
          clear hg cB HY HQz
          go_upto_region 8 with (fail)
          generalize (w6.setCell ⟨Y, 0, none⟩ (.int .u64 (smH (P + s + 1)))).setCell ⟨Y, 1, none⟩ (.int .u64 (smL (P + s + 1))) = w7 at HS6 ⊢
          clear y0 y1 g0 g1 HY6 HQ6
          have y0 := HS6.out.2.cell 0 (v := .int .u64 (smH (P + s + 1))) rfl
          have y1 := HS6.out.2.cell 1 (v := .int .u64 (smL (P + s + 1))) rfl
          have HS := hid (HS6.out.1.step (z := P + s + 1) (by rw [HP1.out]; simp; omega))
          have n0' := HS6.out.1.n0 HkN1.out
          have n1' := HS6.out.1.n1 HkN1.out
          have f0 := HS6.out.1.own.frozenAt ((k + 1) * 2)
          have f1 := HS6.out.1.own.frozenAt ((k + 1) * 2 + 1)
          go_wp2
          go_roundw
          case rel => exact ⟨k + 1, Hlt.out, by go_num, HS⟩
          case measure => simp [intOf]; have := Hlt.out; omega
    · obtain rfl : k = n := by omega
      clear hlt
      have kn : ¬ ((k : Int) < (k : Int)) := by omega
      go_wp2
      refine bodyPost_ret (v := .slice (some ⟨g, 0, none⟩) N N) (by simp [results, Tryz.results71, go_sem]) rfl ?_
      have h1 := HR.out.own
      rw [bgI_all (by have := HN.out; omega)] at h1
      exact ⟨g, rfl, h1, HR.out.gr⟩
end Go.Proofs.YtnpnafidhcnkhaaGreatDoor

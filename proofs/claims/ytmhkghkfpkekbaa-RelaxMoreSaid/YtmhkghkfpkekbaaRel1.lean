/- Package relax: sums of 128 bits: contracts. -/
import Derived.Test.YtmhkghkfpkekbaaRelP
import Derived.Test.YtmhkghkfpkekbaaObjH
import Derived.Laws.Externs
import Derived.Shelf.Spec.BitsCarry
import Derived.Deep.Cut
import Derived.Deep.RegionHeld3
import Derived.StillTailTactics
namespace Go.Proofs.Ytmhkghkfpkekbaa
open Go.RowKit
def smH (z : Int) : Int := if z < 0 then 18446744073709551615 else 0
def smL (z : Int) : Int := z % 18446744073709551616
abbrev smV (z : Int) : Value := .agg #[.int .u64 (smH z), .int .u64 (smL z)]
def borN (x y : Int) : Int := if x < y then 1 else 0
theorem add64_run (x y c : Int) (hx : 0 ≤ x) (hy : 0 ≤ y) (hc0 : 0 ≤ c) (hc : c ≤ 1) (w : World) : (callFunc 32 #[.int .u64 x, .int .u64 y, .int .u64 c]).run Try.prog w =
    .ok (.value (.tuple #[.int .u64 ((x + y + c) % 18446744073709551616), .int .u64 ((x + y + c) / 18446744073709551616)])) w := by
  rw [run_callFunc_extern Try.func32 (by kernel_rfl) (by kernel_rfl) (by kernel_rfl) (e := add64Entry) (by kernel_rfl), run_add64 x y c hx hy hc0 hc]
  rfl
theorem sub64_run (x y b : Int) (hx : 0 ≤ x) (hy : 0 ≤ y) (hy' : y < 18446744073709551616) (hb0 : 0 ≤ b) (hb : b ≤ 1) (w : World) : (callFunc 33 #[.int .u64 x, .int .u64 y, .int .u64 b]).run Try.prog w =
    .ok (.value (.tuple #[.int .u64 ((x - y - b) % 18446744073709551616), .int .u64 (borN x (y + b))])) w := by
  obtain ⟨X, rfl⟩ := Int.eq_ofNat_of_zero_le hx
  obtain ⟨Y, rfl⟩ := Int.eq_ofNat_of_zero_le hy
  obtain ⟨B, rfl⟩ := Int.eq_ofNat_of_zero_le hb0
  rw [run_callFunc_extern Try.func33 (by kernel_rfl) (by kernel_rfl) (by kernel_rfl) (e := sub64Entry) (by kernel_rfl), run_sub64 X Y B (by omega)]
  have e1 : (((X + 18446744073709551616 - Y - B) % 18446744073709551616 : Nat) : Int) = ((X : Int) - Y - B) % 18446744073709551616 := by omega
  have e2 : (((if X < Y + B then 1 else 0 : Nat)) : Int) = borN X (Y + B) := by
    unfold borN
    by_cases h : X < Y + B
    · rw [if_pos h, if_pos (by omega)]; rfl
    · rw [if_neg h, if_neg (by omega)]; rfl
  rw [e1, e2]
  rfl
theorem sm_bd (z : Int) : 0 ≤ smH z ∧ smH z < 18446744073709551616 ∧ 0 ≤ smL z ∧ smL z < 18446744073709551616 := by
  unfold smH smL
  split <;> omega
theorem sm_add {z n : Int} (h0 : -4611686018427387904 ≤ z) (h1 : z ≤ 4611686018427387904) (h2 : -4611686018427387904 ≤ n) (h3 : n ≤ 4611686018427387904) :
    ∃ c, (smL z + smL n + 0) / 18446744073709551616 = c ∧ 0 ≤ c ∧ c ≤ 1 ∧ (smL z + smL n + 0) % 18446744073709551616 = smL (z + n) ∧ (smH z + smH n + c) % 18446744073709551616 = smH (z + n) := by
  refine ⟨_, rfl, ?_⟩
  unfold smL smH
  by_cases a : z < 0 <;> by_cases b : n < 0 <;> by_cases d : z + n < 0 <;> simp only [a, b, d, if_true, if_false] <;> omega
theorem sm_sub {z n : Int} (h0 : -4611686018427387904 ≤ z) (h1 : z ≤ 4611686018427387904) (h2 : -4611686018427387904 ≤ n) (h3 : n ≤ 4611686018427387904) :
    ∃ c, borN (smL z) (smL n + 0) = c ∧ 0 ≤ c ∧ c ≤ 1 ∧ (smL z - smL n - 0) % 18446744073709551616 = smL (z - n) ∧ (smH z - smH n - c) % 18446744073709551616 = smH (z - n) := by
  refine ⟨_, rfl, ?_⟩
  unfold smL smH borN
  by_cases a : z < 0 <;> by_cases b : n < 0 <;> by_cases d : z - n < 0 <;> by_cases f : z % 18446744073709551616 < n % 18446744073709551616 + 0 <;> simp only [a, b, d, f, if_true, if_false] <;> omega
theorem sm_shr {n : Int} (h0 : -9223372036854775808 ≤ n) (h1 : n ≤ 9223372036854775807) : (n / 9223372036854775808) % 18446744073709551616 = smH n := by
  unfold smH; split <;> omega
set_option maxRecDepth 100000 in
theorem sumOf_any {n : Int} (h0 : -9223372036854775808 ≤ n) (h1 : n ≤ 9223372036854775807) (W : World) :
    Calls Try.prog 31 #[.int .i64 n] W fun e w' => e = .returned (smV n) ∧ W.grownBy w' none := by
  have hs := sm_shr h0 h1
  have HS := hid hs
  have HG := hid (World.grownBy_alloc W (.cells #[.int .u64 (smH n), .int .u64 (smL n)] 50) none)
  clear hs
  go_enter Try.func31, Try.ntmps31
  go_wp2
  have e1 : IntKind.u64.wrap (n / 9223372036854775808) = smH n := by rw [← HS.out]; simp [IntKind.wrap, IntKind.bits, IntKind.signed]
  have e2 : IntKind.u64.wrap n = smL n := by simp [IntKind.wrap, IntKind.bits, IntKind.signed, smL]
  rw [e1, e2]
  refine bodyPost_ret (v := smV n) (by simp [results, Try.results31, smV, go_sem]) rfl ?_
  exact ⟨rfl, HG.out⟩
set_option maxRecDepth 100000 in
theorem cut_any {z : Int} (h0 : 0 ≤ z) (h1 : z ≤ 4611686018427387904) (W : World) :
    Calls Try.prog 24 #[smV z] W fun e w' => e = .returned (.int .i64 z) ∧ W.grownBy w' none := by
  have hz : smL z = z := by unfold smL; omega
  have hh : smH z = 0 := by unfold smH; rw [if_neg (by omega)]
  unfold smV
  rw [hz, hh]
  have HG := hid (World.grownBy_alloc W (.cells #[.int .u64 0, .int .u64 z] 50) none)
  clear hz hh
  go_enter Try.func24, Try.ntmps24
  go_wp2
  go_ret
  exact ⟨rfl, HG.out⟩
set_option maxRecDepth 100000 in
theorem negative_any {z : Int} (W : World) :
    Calls Try.prog 34 #[smV z] W fun e w' => e = .returned (.bool (decide (z < 0))) ∧ W.grownBy w' none := by
  by_cases h : z < 0
  · have hh : smH z = 18446744073709551615 := by unfold smH; rw [if_pos h]
    have hd : decide (z < 0) = true := by simpa using h
    unfold smV
    rw [hh, hd]
    generalize smL z = y
    have HG := hid (World.grownBy_alloc W (.cells #[.int .u64 18446744073709551615, .int .u64 y] 50) none)
    clear hh hd h
    go_enter Try.func34, Try.ntmps34
    go_wp2
    go_ret
    exact ⟨rfl, HG.out⟩
  · have hh : smH z = 0 := by unfold smH; rw [if_neg h]
    have hd : decide (z < 0) = false := by simpa using h
    unfold smV
    rw [hh, hd]
    generalize smL z = y
    have HG := hid (World.grownBy_alloc W (.cells #[.int .u64 0, .int .u64 y] 50) none)
    clear hh hd h
    go_enter Try.func34, Try.ntmps34
    go_wp2
    go_ret
    exact ⟨rfl, HG.out⟩
theorem info_sm : (Try.prog.info? 50).map (·.size) = some 2 := by kernel_rfl
set_option maxRecDepth 100000 in
theorem plus_any {z n : Int} (h0 : -4611686018427387904 ≤ z) (h1 : z ≤ 4611686018427387904) (h2 : -4611686018427387904 ≤ n) (h3 : n ≤ 4611686018427387904) (W : World) :
    Calls Try.prog 28 #[smV z, .int .i64 n] W fun e w' => e = .returned (smV (z + n)) ∧ W.grownBy w' none := by
  obtain ⟨c, hc, c0, c1, hl, hh⟩ := sm_add h0 h1 h2 h3
  obtain ⟨bz1, bz2, bz3, bz4⟩ := sm_bd z
  obtain ⟨bn1, bn2, bn3, bn4⟩ := sm_bd n
  have Hso := hid (fun w => sumOf_any (n := n) (by omega) (by omega) w)
  have a1 := add64_run (smL z) (smL n) 0 bz3 bn3 (by decide) (by decide)
  have a2 := add64_run (smH z) (smH n) c bz1 bn1 c0 c1
  rw [hl, hc] at a1
  rw [hh] at a2
  have HA1 := hid a1
  have HA2 := hid a2
  unfold smV at Hso ⊢
  generalize smL z = zl at *
  generalize smH z = zh at *
  generalize smL n = nl at *
  generalize smH n = nh at *
  generalize smL (z + n) = ml at *
  generalize smH (z + n) = mh at *
  clear hc c0 c1 hl hh bz1 bz2 bz3 bz4 bn1 bn2 bn3 bn4 a1 a2 h0 h1 h2 h3
  have HZ := hid ((RwAt.new W 50 #[.int .u64 zh, .int .u64 zl]).alloc (.cells #[.int .u64 0, .int .u64 0] 50))
  have HR := hid (RwAt.new2 W (.cells #[.int .u64 zh, .int .u64 zl] 50) 50 #[.int .u64 0, .int .u64 0])
  have HG := hid (grown_alloc (World.grownBy_alloc W (.cells #[.int .u64 zh, .int .u64 zl] 50) none) (.cells #[.int .u64 0, .int .u64 0] 50))
  go_enter Try.func28, Try.ntmps28
  go_upto_region 1 with (fail)
  obtain ⟨G, hG⟩ : ∃ G, W.heap.size = G := ⟨_, rfl⟩
  have HGe := hid hG
  rw [hG] at HZ HR ⊢
  clear hG
  generalize ((W.alloc (.cells #[.int .u64 zh, .int .u64 zl] 50)).alloc (.cells #[.int .u64 0, .int .u64 0] 50)) = w1 at HZ HR HG ⊢
  go_wp2_with fail
  refine (Hso.out _).mono ?_
  rintro e w2 ⟨rfl, hg⟩
  have HN := hid (RwAt.new w2 50 #[.int .u64 nh, .int .u64 nl])
  have al := World.grownBy_alloc w2 (.cells #[.int .u64 nh, .int .u64 nl] 50) none
  have HZ2 := hid ((HZ.out.kept0 hg).kept0 al)
  have HR2 := hid ((HR.out.kept0 hg).kept0 al)
  have HG2 := hid (grown_trans (grown_trans HG.out hg) al)
  clear hg al HZ HR HG
  go_upto_region 2 with (fail)
  obtain ⟨N, hN⟩ : ∃ N, w2.heap.size = N := ⟨_, rfl⟩
  rw [hN] at HN ⊢
  clear hN
  generalize w2.alloc (.cells #[.int .u64 nh, .int .u64 nl] 50) = w3 at HN HZ2 HR2 HG2 ⊢
  have z0 := HZ2.out.cell 0 (v := .int .u64 zh) rfl
  have z1 := HZ2.out.cell 1 (v := .int .u64 zl) rfl
  have n0 := HN.out.cell 0 (v := .int .u64 nh) rfl
  have n1 := HN.out.cell 1 (v := .int .u64 nl) rfl
  have E := hid (HR2.out.row #[.int .u64 mh, .int .u64 ml])
  have EG := hid (grown_setRow HG2.out (by have := HGe.out; omega : W.heap.size ≤ G + 1) #[.int .u64 mh, .int .u64 ml])
  have k0 := E.out.cell 0 (v := .int .u64 mh) rfl
  have k1 := E.out.cell 1 (v := .int .u64 ml) rfl
  go_wp2_with (first
    | simp only [HA1.out]
    | simp only [HA2.out]
    | (refine wpList_store_rw rfl 50 _ _ rfl rfl rfl HR2.out info_sm rfl (by simp [Value.oneCell']) ?_)
    | fail)
  refine bodyPost_ret (v := .agg #[.int .u64 mh, .int .u64 ml]) (by simp [results, Try.results28, k0, k1, go_sem]) rfl ?_
  exact ⟨rfl, EG.out⟩
set_option maxRecDepth 100000 in
theorem minus_any {z n : Int} (h0 : -4611686018427387904 ≤ z) (h1 : z ≤ 4611686018427387904) (h2 : -4611686018427387904 ≤ n) (h3 : n ≤ 4611686018427387904) (W : World) :
    Calls Try.prog 29 #[smV z, smV n] W fun e w' => e = .returned (smV (z - n)) ∧ W.grownBy w' none := by
  obtain ⟨c, hc, c0, c1, hl, hh⟩ := sm_sub h0 h1 h2 h3
  obtain ⟨bz1, bz2, bz3, bz4⟩ := sm_bd z
  obtain ⟨bn1, bn2, bn3, bn4⟩ := sm_bd n
  have a1 := sub64_run (smL z) (smL n) 0 bz3 bn3 bn4 (by decide) (by decide)
  have a2 := sub64_run (smH z) (smH n) c bz1 bn1 bn2 c0 c1
  rw [hl, hc] at a1
  rw [hh] at a2
  have HA1 := hid a1
  have HA2 := hid a2
  unfold smV
  generalize smL z = zl at *
  generalize smH z = zh at *
  generalize smL n = nl at *
  generalize smH n = nh at *
  generalize smL (z - n) = ml at *
  generalize smH (z - n) = mh at *
  clear hc c0 c1 hl hh bz1 bz2 bz3 bz4 bn1 bn2 bn3 bn4 a1 a2 h0 h1 h2 h3
  have HZ := hid (((RwAt.new W 50 #[.int .u64 zh, .int .u64 zl]).alloc (.cells #[.int .u64 nh, .int .u64 nl] 50)).alloc (.cells #[.int .u64 0, .int .u64 0] 50))
  have HN := hid ((RwAt.new2 W (.cells #[.int .u64 zh, .int .u64 zl] 50) 50 #[.int .u64 nh, .int .u64 nl]).alloc (.cells #[.int .u64 0, .int .u64 0] 50))
  have HR := RwAt.new2 (W.alloc (.cells #[.int .u64 zh, .int .u64 zl] 50)) (.cells #[.int .u64 nh, .int .u64 nl] 50) 50 #[.int .u64 0, .int .u64 0]
  simp only [World.size_alloc] at HR
  have HR := hid HR
  have HG := hid (grown_alloc (grown_alloc (World.grownBy_alloc W (.cells #[.int .u64 zh, .int .u64 zl] 50) none) (.cells #[.int .u64 nh, .int .u64 nl] 50)) (.cells #[.int .u64 0, .int .u64 0] 50))
  go_enter Try.func29, Try.ntmps29
  go_upto_region 1 with (fail)
  obtain ⟨G, hG⟩ : ∃ G, W.heap.size = G := ⟨_, rfl⟩
  have HGe := hid hG
  rw [hG] at HZ HN HR ⊢
  clear hG
  generalize (((W.alloc (.cells #[.int .u64 zh, .int .u64 zl] 50)).alloc (.cells #[.int .u64 nh, .int .u64 nl] 50)).alloc (.cells #[.int .u64 0, .int .u64 0] 50)) = w3 at HZ HN HR HG ⊢
  have z0 := HZ.out.cell 0 (v := .int .u64 zh) rfl
  have z1 := HZ.out.cell 1 (v := .int .u64 zl) rfl
  have n0 := HN.out.cell 0 (v := .int .u64 nh) rfl
  have n1 := HN.out.cell 1 (v := .int .u64 nl) rfl
  have E := hid (HR.out.row #[.int .u64 mh, .int .u64 ml])
  have EG := hid (grown_setRow HG.out (by have := HGe.out; omega : W.heap.size ≤ G + 1 + 1) #[.int .u64 mh, .int .u64 ml])
  have k0 := E.out.cell 0 (v := .int .u64 mh) rfl
  have k1 := E.out.cell 1 (v := .int .u64 ml) rfl
  go_wp2_with (first
    | simp only [HA1.out]
    | simp only [HA2.out]
    | (refine wpList_store_rw rfl 50 _ _ rfl rfl rfl HR.out info_sm rfl (by simp [Value.oneCell']) ?_)
    | fail)
  refine bodyPost_ret (v := .agg #[.int .u64 mh, .int .u64 ml]) (by simp [results, Try.results29, k0, k1, go_sem]) rfl ?_
  exact ⟨rfl, EG.out⟩
end Go.Proofs.Ytmhkghkfpkekbaa

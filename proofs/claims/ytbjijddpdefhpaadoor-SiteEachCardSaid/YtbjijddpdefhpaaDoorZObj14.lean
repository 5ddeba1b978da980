/- Words behind bytes (package obj): contracts. (Made by gobj14.py.) -/
import Derived.Test.YtbjijddpdefhpaaDoorZObj13
import Derived.Test.YtbjijddpdefhpaaDoorZGObjA
import Derived.Lib.AppendStr
namespace Go.Proofs.YtbjijddpdefhpaaDoor
open Go.RowKit
theorem info_byte : ∃ i : TypeInfo, Tryd.prog.info? 5 = some i ∧ i.zero = some (.int .u8 0) ∧ i.size = 1 ∧ i.bytes = 1 := info_parts (P := Tryd.prog) (e := 5) (z := .int .u8 0) (size := 1) (bytes := 1) (by kernel_rfl)
/-- bytes of a call's own, at B and above -/
structure By (B : Nat) (w : World) (v : Value) (bs : List Int) : Prop where
  own : w.ownsRow B 5 1 v bs.length (bs.map (Value.int .u8))
  le : B ≤ w.heap.size
/-- behind an append: these bytes -/
def ByAt (B : Nat) (w : World) (bs : List Int) (e : Ending) (w' : World) : Prop := ∃ v, e = .returned v ∧ By B w' v bs ∧ Below B w w'
/-- only its own block was written, or new ones -/
structure Gw (w : World) (v : Value) (w1 : World) (v1 : Value) : Prop where
  grow : w.grownBy w1 v.ownBlock
  mine : Mine w v v1
def GyAt (B : Nat) (w : World) (v : Value) (bs : List Int) (e : Ending) (w' : World) : Prop := ∃ v', e = .returned v' ∧ By B w' v' bs ∧ Gw w v w' v'
theorem Gw.refl (w : World) (v : Value) : Gw w v w v := ⟨grown_refl _ _, .inl rfl⟩
theorem Gw.trans {w w1 w2 : World} {v v1 v2 : Value} (h : Gw w v w1 v1) (k : Gw w1 v1 w2 v2) : Gw w v w2 v2 := by
  have hg := h.grow
  have kg := k.grow
  refine ⟨⟨kg.os.trans hg.os, kg.tape.trans hg.tape, kg.output.trans hg.output, Nat.le_trans hg.size kg.size, fun i hi hr => ?_⟩, ?_⟩
  · refine (kg.block i (Nat.lt_of_lt_of_le hi hg.size) (fun e => ?_)).trans (hg.block i hi hr)
    rcases h.mine with m | m
    · exact hr (e.trans m)
    · have := m i e.symm; omega
  · rcases k.mine with m | m
    · rcases h.mine with m' | m'
      · exact .inl (m.trans m')
      · exact .inr (fun g hg' => m' g (m.symm.trans hg'))
    · exact .inr (fun g hg' => Nat.le_trans hg.size (m g hg'))
theorem By.below_of {B : Nat} {w w1 : World} {v : Value} {bs : List Int} (h : By B w v bs) (hg : w.grownBy w1 v.ownBlock) : Below B w w1 := by
  refine ⟨hg.os, hg.tape, hg.output, hg.size, fun k hk => hg.block k (Nat.lt_of_lt_of_le hk h.le) (fun e => ?_)⟩
  have := (h.own.lt k e.symm).1
  omega
theorem By.kept0 {B : Nat} {w w1 : World} {v : Value} {bs : List Int} (h : By B w v bs) (hg : w.grownBy w1 none) : By B w1 v bs := ⟨h.own.kept hg (by cases v.ownBlock <;> simp), Nat.le_trans h.le hg.size⟩
theorem By.nil (B : Nat) (w : World) (h : B ≤ w.heap.size) : By B w (.slice none 0 0) [] := ⟨World.ownsRow_nil _ _ _ _, h⟩
/-- the slice that is walked lies elsewhere -/
def Else (lv v : Value) : Prop := (∃ p c, lv = .slice p 0 c) ∨ ∀ g, lv.ownBlock = some g → v.ownBlock ≠ some g
theorem Else.of {p : Option Addr} {n c : Nat} {v : Value} (h : Else (.slice p n c) v) (hn : 0 < n) : ∀ g, (Value.slice p n c).ownBlock = some g → v.ownBlock ≠ some g := by
  rcases h with ⟨q, d, h⟩ | h
  · simp only [Value.slice.injEq] at h; omega
  · exact h
structure AWr (B : Nat) (w0 : World) (v0 : Value) (k : IntKind) (lv : Value) (xs bs : List Int) (v : Value) (t : Nat) (w : World) : Prop where
  by_ : By B w v (bs ++ wsB (xs.take t))
  gw : Gw w0 v0 w v
  sl : SlAt w k lv xs
  els : Else lv v

set_option maxRecDepth 100000 in
set_option maxHeartbeats 2000000 in
theorem appi_any {w : World} {B : Nat} {v lv : Value} {bs xs : List Int} (h : By B w v bs) (hl : SlAt w .i64 lv xs) (he : Else lv v) (hn : bs.length + 4 * xs.length ≤ 1099511627776) :
    Calls Tryd.prog 47 #[v, lv] w (GyAt B w v (bs ++ wsB xs)) := by
  obtain ⟨p, c, rfl⟩ := hl.len'
  obtain ⟨i, hi, hz0, hz1, hz2⟩ := info_byte
  have Hi := hid hi
  have Hz0 := hid hz0
  have Hz1 := hid hz1
  have Hz2 := hid hz2
  have HA : Hid (AWr B w v .i64 (.slice p xs.length c) xs bs v 0 w) := hid ⟨by simpa [wsB] using h, Gw.refl _ _, hl, he⟩
  have Hn := hid hn
  have nl : (xs.length : Int) ≤ 9223372036854775807 := by omega
  clear h hl he hn hi hz0 hz1 hz2
  go_enter Tryd.func47, Tryd.ntmps47
  go_wp2
  go_loopw [0, 10] (fun b i wr => ∃ k : Nat, k ≤ xs.length ∧ i = .int .i64 k ∧ Hid (AWr B w v .i64 (.slice p xs.length c) xs bs b k wr)) (fun _ i _ => xs.length - (intOf i).toNat)
  case atStart => exact ⟨0, Nat.zero_le _, rfl, HA⟩
  case round =>
    obtain ⟨k, hk, rfl, HR⟩ := hrel
    have k0 : (0 : Int) ≤ (k : Int) := by omega
    by_cases hlt : k < xs.length
    · have kn : (k : Int) < (xs.length : Int) := by omega
      obtain ⟨x, hx⟩ : ∃ x, xs[k]? = some x := ⟨_, List.getElem?_eq_getElem hlt⟩
      obtain ⟨b, o, c', hv, hb, hc⟩ := HR.out.sl.at_ (by omega)
      obtain ⟨rfl, rfl⟩ : p = some ⟨b, o, none⟩ ∧ c = c' := by simpa using hv
      have ex := hc k x hx
      have Hx := hid hx
      have Hlt := hid hlt
      obtain ⟨m, hm⟩ : ∃ m, x % 4294967296 = m := ⟨_, rfl⟩
      have hw : IntKind.u32.wrap x = m := by rw [IntKind.wrap_u32, hm]
      have m0 : 0 ≤ m := by omega
      have m1 : m < 4294967296 := by omega
      have Hm := hid hm
      clear hc hv hx hlt hm
      go_upto_region 5 with (fail)
      have b0 : IntKind.u8.wrap m = m % 256 := by rw [IntKind.wrap_u8]
      have b1 : IntKind.u8.wrap (m / 256) = m / 256 % 256 := by rw [IntKind.wrap_u8]
      have b2 : IntKind.u8.wrap (m / 65536) = m / 65536 % 256 := by rw [IntKind.wrap_u8]
      have b3 : IntKind.u8.wrap (m / 16777216) = m / 16777216 % 256 := by rw [IntKind.wrap_u8]
      have HB := hid (HR.out.by_.kept0 (World.grownBy_alloc wr (.cells #[.int .u8 (m % 256), .int .u8 (m / 256 % 256), .int .u8 (m / 65536 % 256), .int .u8 (m / 16777216 % 256)] 5) none))
      obtain ⟨L, HL⟩ : ∃ L, Hid ((bs ++ wsB (xs.take k)).length = L) := ⟨_, hid rfl⟩
      have HLn : Hid (L + 4 ≤ 1099511627776) := hid (by
        have h1 := HL.out
        have h2 := Hn.out
        have h3 := Hlt.out
        rw [List.length_append, wsB_length, List.length_take] at h1
        omega)
      have HBo := hid HB.out.own
      rw [HL.out] at HBo
      have Hnews : Hid (∀ j u, [Value.int .u8 (m % 256), .int .u8 (m / 256 % 256), .int .u8 (m / 65536 % 256), .int .u8 (m / 16777216 % 256)][j]? = some u → (wr.alloc (.cells #[.int .u8 (m % 256), .int .u8 (m / 256 % 256), .int .u8 (m / 65536 % 256), .int .u8 (m / 16777216 % 256)] 5)).cell? ((⟨wr.heap.size, 0, none⟩ : Addr).add j) = some u) := hid (World.news_of_block (heap_alloc_new wr _))
      go_wp2_with (first
        | (refine wpList_append_lies _ rfl _ _ 33 rfl B 5 i _ 1 1 Tryd.underlying33 Hi.out Hz0.out Hz1.out Hz2.out rfl (by decide) _ L _ rfl HBo.out ⟨wr.heap.size, 0, none⟩ 4 4 _ rfl rfl Hnews.out (by simp [Value.oneCell']) (by decide) (by have := HLn.out; unfold maxLen; omega) (by have := HLn.out; omega) HB.out.le _ rfl ?_; intro g cap w2 hown hgrow hat hlt2; have HO := hid hown; have HG := hid hgrow; have HT := hid hat; clear hown hgrow hat)
        | fail)
      go_roundw
      case rel =>
        refine ⟨k + 1, by omega, by go_num, hid ?_⟩
        have hx := Hx.out
        have hm := Hm.out
        have hww : wsB (xs.take (k + 1)) = wsB (xs.take k) ++ [m % 256, m / 256 % 256, m / 65536 % 256, m / 16777216 % 256] := by
          rw [List.take_add_one, hx, wsB_append]
          congr 1
          simp only [Option.toList, wsB, w4, List.append_nil, List.cons.injEq, and_true]
          omega
        have hL := HL.out
        refine ⟨⟨?_, Nat.le_trans HB.out.le HG.out.size⟩, ?_, ?_, ?_⟩
        · rw [hww, ← List.append_assoc, List.length_append, hL, List.map_append]
          exact HO.out
        · refine Gw.trans HR.out.gw ⟨grown_trans (World.grownBy_alloc wr _ _) HG.out, ?_⟩
          rcases HT.out with h1 | h1
          · left; exact h1.symm
          · right; intro g' hg'
            obtain rfl : g = g' := by simpa [Value.ownBlock] using hg'
            simp only [World.size_alloc] at h1; omega
        · refine (HR.out.sl.kept0 (World.grownBy_alloc _ _ _)).kept HG.out ?_
          right
          intro e
          have h1 := HR.out.els.of (by have := Hlt.out; omega) b rfl
          simp only [Value.ownBlock] at e
          exact h1 e.symm
        · right; intro g' hg' hgg
          obtain rfl : b = g' := by simpa [Value.ownBlock] using hg'
          obtain rfl : g = b := by simpa [Value.ownBlock] using hgg
          rcases HT.out with h1 | h1
          · exact HR.out.els.of (by have := Hlt.out; omega) g rfl h1
          · simp only [World.size_alloc] at h1; omega
      case measure => simp [intOf]; have := Hlt.out; omega
    · obtain rfl : k = xs.length := by omega
      clear hlt
      go_wp2
      go_ret
      have h1 := HR.out.by_
      rw [List.take_length] at h1
      exact ⟨_, rfl, h1, HR.out.gw⟩


set_option maxRecDepth 100000 in
set_option maxHeartbeats 2000000 in
theorem appl_any {w : World} {B : Nat} {v lv : Value} {bs xs : List Int} (h : By B w v bs) (hl : SlAt w .i64 lv xs) (he : Else lv v) (hn : bs.length + 4 * xs.length ≤ 1099511627776) :
    Calls Tryd.prog 48 #[v, lv] w (GyAt B w v (bs ++ wsB xs)) := by
  obtain ⟨p, c, rfl⟩ := hl.len'
  obtain ⟨i, hi, hz0, hz1, hz2⟩ := info_byte
  have Hi := hid hi
  have Hz0 := hid hz0
  have Hz1 := hid hz1
  have Hz2 := hid hz2
  have HA : Hid (AWr B w v .i64 (.slice p xs.length c) xs bs v 0 w) := hid ⟨by simpa [wsB] using h, Gw.refl _ _, hl, he⟩
  have Hn := hid hn
  have nl : (xs.length : Int) ≤ 9223372036854775807 := by omega
  clear h hl he hn hi hz0 hz1 hz2
  go_enter Tryd.func48, Tryd.ntmps48
  go_wp2
  go_loopw [0, 10] (fun b i wr => ∃ k : Nat, k ≤ xs.length ∧ i = .int .i64 k ∧ Hid (AWr B w v .i64 (.slice p xs.length c) xs bs b k wr)) (fun _ i _ => xs.length - (intOf i).toNat)
  case atStart => exact ⟨0, Nat.zero_le _, rfl, HA⟩
  case round =>
    obtain ⟨k, hk, rfl, HR⟩ := hrel
    have k0 : (0 : Int) ≤ (k : Int) := by omega
    by_cases hlt : k < xs.length
    · have kn : (k : Int) < (xs.length : Int) := by omega
      obtain ⟨x, hx⟩ : ∃ x, xs[k]? = some x := ⟨_, List.getElem?_eq_getElem hlt⟩
      obtain ⟨b, o, c', hv, hb, hc⟩ := HR.out.sl.at_ (by omega)
      obtain ⟨rfl, rfl⟩ : p = some ⟨b, o, none⟩ ∧ c = c' := by simpa using hv
      have ex := hc k x hx
      have Hx := hid hx
      have Hlt := hid hlt
      obtain ⟨m, hm⟩ : ∃ m, x % 4294967296 = m := ⟨_, rfl⟩
      have hw : IntKind.u32.wrap x = m := by rw [IntKind.wrap_u32, hm]
      have m0 : 0 ≤ m := by omega
      have m1 : m < 4294967296 := by omega
      have Hm := hid hm
      clear hc hv hx hlt hm
      go_upto_region 5 with (fail)
      have b0 : IntKind.u8.wrap m = m % 256 := by rw [IntKind.wrap_u8]
      have b1 : IntKind.u8.wrap (m / 256) = m / 256 % 256 := by rw [IntKind.wrap_u8]
      have b2 : IntKind.u8.wrap (m / 65536) = m / 65536 % 256 := by rw [IntKind.wrap_u8]
      have b3 : IntKind.u8.wrap (m / 16777216) = m / 16777216 % 256 := by rw [IntKind.wrap_u8]
      have HB := hid (HR.out.by_.kept0 (World.grownBy_alloc wr (.cells #[.int .u8 (m % 256), .int .u8 (m / 256 % 256), .int .u8 (m / 65536 % 256), .int .u8 (m / 16777216 % 256)] 5) none))
      obtain ⟨L, HL⟩ : ∃ L, Hid ((bs ++ wsB (xs.take k)).length = L) := ⟨_, hid rfl⟩
      have HLn : Hid (L + 4 ≤ 1099511627776) := hid (by
        have h1 := HL.out
        have h2 := Hn.out
        have h3 := Hlt.out
        rw [List.length_append, wsB_length, List.length_take] at h1
        omega)
      have HBo := hid HB.out.own
      rw [HL.out] at HBo
      have Hnews : Hid (∀ j u, [Value.int .u8 (m % 256), .int .u8 (m / 256 % 256), .int .u8 (m / 65536 % 256), .int .u8 (m / 16777216 % 256)][j]? = some u → (wr.alloc (.cells #[.int .u8 (m % 256), .int .u8 (m / 256 % 256), .int .u8 (m / 65536 % 256), .int .u8 (m / 16777216 % 256)] 5)).cell? ((⟨wr.heap.size, 0, none⟩ : Addr).add j) = some u) := hid (World.news_of_block (heap_alloc_new wr _))
      go_wp2_with (first
        | (refine wpList_append_lies _ rfl _ _ 33 rfl B 5 i _ 1 1 Tryd.underlying33 Hi.out Hz0.out Hz1.out Hz2.out rfl (by decide) _ L _ rfl HBo.out ⟨wr.heap.size, 0, none⟩ 4 4 _ rfl rfl Hnews.out (by simp [Value.oneCell']) (by decide) (by have := HLn.out; unfold maxLen; omega) (by have := HLn.out; omega) HB.out.le _ rfl ?_; intro g cap w2 hown hgrow hat hlt2; have HO := hid hown; have HG := hid hgrow; have HT := hid hat; clear hown hgrow hat)
        | fail)
      go_roundw
      case rel =>
        refine ⟨k + 1, by omega, by go_num, hid ?_⟩
        have hx := Hx.out
        have hm := Hm.out
        have hww : wsB (xs.take (k + 1)) = wsB (xs.take k) ++ [m % 256, m / 256 % 256, m / 65536 % 256, m / 16777216 % 256] := by
          rw [List.take_add_one, hx, wsB_append]
          congr 1
          simp only [Option.toList, wsB, w4, List.append_nil, List.cons.injEq, and_true]
          omega
        have hL := HL.out
        refine ⟨⟨?_, Nat.le_trans HB.out.le HG.out.size⟩, ?_, ?_, ?_⟩
        · rw [hww, ← List.append_assoc, List.length_append, hL, List.map_append]
          exact HO.out
        · refine Gw.trans HR.out.gw ⟨grown_trans (World.grownBy_alloc wr _ _) HG.out, ?_⟩
          rcases HT.out with h1 | h1
          · left; exact h1.symm
          · right; intro g' hg'
            obtain rfl : g = g' := by simpa [Value.ownBlock] using hg'
            simp only [World.size_alloc] at h1; omega
        · refine (HR.out.sl.kept0 (World.grownBy_alloc _ _ _)).kept HG.out ?_
          right
          intro e
          have h1 := HR.out.els.of (by have := Hlt.out; omega) b rfl
          simp only [Value.ownBlock] at e
          exact h1 e.symm
        · right; intro g' hg' hgg
          obtain rfl : b = g' := by simpa [Value.ownBlock] using hg'
          obtain rfl : g = b := by simpa [Value.ownBlock] using hgg
          rcases HT.out with h1 | h1
          · exact HR.out.els.of (by have := Hlt.out; omega) g rfl h1
          · simp only [World.size_alloc] at h1; omega
      case measure => simp [intOf]; have := Hlt.out; omega
    · obtain rfl : k = xs.length := by omega
      clear hlt
      go_wp2
      go_ret
      have h1 := HR.out.by_
      rw [List.take_length] at h1
      exact ⟨_, rfl, h1, HR.out.gw⟩


set_option maxRecDepth 100000 in
set_option maxHeartbeats 2000000 in
theorem appu_any {w : World} {B : Nat} {v lv : Value} {bs xs : List Int} (h : By B w v bs) (hl : SlAt w .u32 lv xs) (he : Else lv v) (hn : bs.length + 4 * xs.length ≤ 1099511627776) (hu : ∀ n ∈ xs, 0 ≤ n ∧ n < 4294967296) :
    Calls Tryd.prog 49 #[v, lv] w (GyAt B w v (bs ++ wsB xs)) := by
  obtain ⟨p, c, rfl⟩ := hl.len'
  obtain ⟨i, hi, hz0, hz1, hz2⟩ := info_byte
  have Hi := hid hi
  have Hz0 := hid hz0
  have Hz1 := hid hz1
  have Hz2 := hid hz2
  have HA : Hid (AWr B w v .u32 (.slice p xs.length c) xs bs v 0 w) := hid ⟨by simpa [wsB] using h, Gw.refl _ _, hl, he⟩
  have Hn := hid hn
  have nl : (xs.length : Int) ≤ 9223372036854775807 := by omega
  have Hu := hid hu
  clear h hl he hn hu hi hz0 hz1 hz2
  go_enter Tryd.func49, Tryd.ntmps49
  go_wp2
  go_loopw [0, 10] (fun b i wr => ∃ k : Nat, k ≤ xs.length ∧ i = .int .i64 k ∧ Hid (AWr B w v .u32 (.slice p xs.length c) xs bs b k wr)) (fun _ i _ => xs.length - (intOf i).toNat)
  case atStart => exact ⟨0, Nat.zero_le _, rfl, HA⟩
  case round =>
    obtain ⟨k, hk, rfl, HR⟩ := hrel
    have k0 : (0 : Int) ≤ (k : Int) := by omega
    by_cases hlt : k < xs.length
    · have kn : (k : Int) < (xs.length : Int) := by omega
      obtain ⟨x, hx⟩ : ∃ x, xs[k]? = some x := ⟨_, List.getElem?_eq_getElem hlt⟩
      obtain ⟨b, o, c', hv, hb, hc⟩ := HR.out.sl.at_ (by omega)
      obtain ⟨rfl, rfl⟩ : p = some ⟨b, o, none⟩ ∧ c = c' := by simpa using hv
      have ex := hc k x hx
      have Hx := hid hx
      have Hlt := hid hlt
      obtain ⟨m, hm⟩ : ∃ m, x % 4294967296 = m := ⟨_, rfl⟩
      have hw : x = m := by have := Hu.out x (List.mem_of_getElem? hx); omega
      have m0 : 0 ≤ m := by omega
      have m1 : m < 4294967296 := by omega
      have Hm := hid hm
      rw [hw] at ex
      clear hc hv hx hlt hm hw
      go_upto_region 5 with (fail)
      have b0 : IntKind.u8.wrap m = m % 256 := by rw [IntKind.wrap_u8]
      have b1 : IntKind.u8.wrap (m / 256) = m / 256 % 256 := by rw [IntKind.wrap_u8]
      have b2 : IntKind.u8.wrap (m / 65536) = m / 65536 % 256 := by rw [IntKind.wrap_u8]
      have b3 : IntKind.u8.wrap (m / 16777216) = m / 16777216 % 256 := by rw [IntKind.wrap_u8]
      have HB := hid (HR.out.by_.kept0 (World.grownBy_alloc wr (.cells #[.int .u8 (m % 256), .int .u8 (m / 256 % 256), .int .u8 (m / 65536 % 256), .int .u8 (m / 16777216 % 256)] 5) none))
      obtain ⟨L, HL⟩ : ∃ L, Hid ((bs ++ wsB (xs.take k)).length = L) := ⟨_, hid rfl⟩
      have HLn : Hid (L + 4 ≤ 1099511627776) := hid (by
        have h1 := HL.out
        have h2 := Hn.out
        have h3 := Hlt.out
        rw [List.length_append, wsB_length, List.length_take] at h1
        omega)
      have HBo := hid HB.out.own
      rw [HL.out] at HBo
      have Hnews : Hid (∀ j u, [Value.int .u8 (m % 256), .int .u8 (m / 256 % 256), .int .u8 (m / 65536 % 256), .int .u8 (m / 16777216 % 256)][j]? = some u → (wr.alloc (.cells #[.int .u8 (m % 256), .int .u8 (m / 256 % 256), .int .u8 (m / 65536 % 256), .int .u8 (m / 16777216 % 256)] 5)).cell? ((⟨wr.heap.size, 0, none⟩ : Addr).add j) = some u) := hid (World.news_of_block (heap_alloc_new wr _))
      go_wp2_with (first
        | (refine wpList_append_lies _ rfl _ _ 33 rfl B 5 i _ 1 1 Tryd.underlying33 Hi.out Hz0.out Hz1.out Hz2.out rfl (by decide) _ L _ rfl HBo.out ⟨wr.heap.size, 0, none⟩ 4 4 _ rfl rfl Hnews.out (by simp [Value.oneCell']) (by decide) (by have := HLn.out; unfold maxLen; omega) (by have := HLn.out; omega) HB.out.le _ rfl ?_; intro g cap w2 hown hgrow hat hlt2; have HO := hid hown; have HG := hid hgrow; have HT := hid hat; clear hown hgrow hat)
        | fail)
      go_roundw
      case rel =>
        refine ⟨k + 1, by omega, by go_num, hid ?_⟩
        have hx := Hx.out
        have hm := Hm.out
        have hww : wsB (xs.take (k + 1)) = wsB (xs.take k) ++ [m % 256, m / 256 % 256, m / 65536 % 256, m / 16777216 % 256] := by
          rw [List.take_add_one, hx, wsB_append]
          congr 1
          simp only [Option.toList, wsB, w4, List.append_nil, List.cons.injEq, and_true]
          omega
        have hL := HL.out
        refine ⟨⟨?_, Nat.le_trans HB.out.le HG.out.size⟩, ?_, ?_, ?_⟩
        · rw [hww, ← List.append_assoc, List.length_append, hL, List.map_append]
          exact HO.out
        · refine Gw.trans HR.out.gw ⟨grown_trans (World.grownBy_alloc wr _ _) HG.out, ?_⟩
          rcases HT.out with h1 | h1
          · left; exact h1.symm
          · right; intro g' hg'
            obtain rfl : g = g' := by simpa [Value.ownBlock] using hg'
            simp only [World.size_alloc] at h1; omega
        · refine (HR.out.sl.kept0 (World.grownBy_alloc _ _ _)).kept HG.out ?_
          right
          intro e
          have h1 := HR.out.els.of (by have := Hlt.out; omega) b rfl
          simp only [Value.ownBlock] at e
          exact h1 e.symm
        · right; intro g' hg' hgg
          obtain rfl : b = g' := by simpa [Value.ownBlock] using hg'
          obtain rfl : g = b := by simpa [Value.ownBlock] using hgg
          rcases HT.out with h1 | h1
          · exact HR.out.els.of (by have := Hlt.out; omega) g rfl h1
          · simp only [World.size_alloc] at h1; omega
      case measure => simp [intOf]; have := Hlt.out; omega
    · obtain rfl : k = xs.length := by omega
      clear hlt
      go_wp2
      go_ret
      have h1 := HR.out.by_
      rw [List.take_length] at h1
      exact ⟨_, rfl, h1, HR.out.gw⟩

end Go.Proofs.YtbjijddpdefhpaaDoor

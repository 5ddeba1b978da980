/- Bytes that came in; bytes copied one by one; one byte more (package facaderef): contracts. -/
import Derived.Test.YtfkecmcnhmlnoaaDoorZGMem
import Derived.Test.YtfkecmcnhmlnoaaDoorZObjX
import Derived.Test.YtfkecmcnhmlnoaaDoorZObjH
import Derived.Laws.MakeOwn
namespace Go.Proofs.YtfkecmcnhmlnoaaDoor
open Go.RowKit Go.WideShapes Go.ChangeShapes
section
variable {H : Type} {enc : TypeId × Value → H} {W : World} {P : Program}
/-- a slice of bytes that came in -/
theorem bv_of {t e : TypeId} {base : Nat} {v : Value} {d : DataW H} {ps : List MemPlace} (ht : P.underlying t = some (.slice e)) (he : P.underlying e = some (.int .u8)) (hc : P.cellsOf e = 1)
    (hv : Value.okWide P W .any base t v) (h : DataW.Trod enc P W 0 (fun _ => true) true t v d ps) :
    ∃ xs : List Int, BvAt W v xs ∧ BtB xs := by
  obtain ⟨p, len, cap, rfl⟩ := okWide_slice ht hv
  obtain ⟨fuel, hf⟩ := h
  have hf : DataW.trod enc P W 0 (fun _ => true) true fuel t [.slice p len cap] = some (d, ps) := by simpa [Value.cells] using hf
  rcases open_ints ht he hc hf with ⟨hcs, hx⟩ | ⟨a, len', cap', zs, hcs, _, hl, hm, hz, hx, hcell, hw⟩
  · simp only [List.cons.injEq, Value.slice.injEq, and_true] at hcs
    obtain ⟨rfl, rfl, rfl⟩ := hcs
    exact ⟨[], .inl ⟨_, _, rfl, rfl⟩, fun x hx => by cases hx⟩
  · simp only [List.cons.injEq, Value.slice.injEq, and_true] at hcs
    obtain ⟨rfl, rfl, rfl⟩ := hcs
    simp only [if_true] at hz
    have hlen : (zs.take len).length = len := by simp; omega
    refine ⟨zs.take len, ?_, fun n hn => ?_⟩
    · by_cases h0 : len = 0
      · subst h0
        exact .inl ⟨_, _, rfl, by simp⟩
      · obtain ⟨b, off, spot⟩ := a
        have hspot : spot = none := by simpa [Addr.add] using World.cell?_spot (hcell 0 (by omega))
        subst hspot
        have h00 := hcell 0 (by omega)
        refine .inr ⟨b, off, cap, by rw [hlen], by rw [hlen]; exact hl, by unfold maxLen at hm; omega, World.block_lt_of_cell? W _ h00, fun j x hx => ?_⟩
        have hj : j < len := by have := (List.getElem?_eq_some_iff.1 hx).1; omega
        rw [List.getElem?_take, if_pos hj] at hx
        have := hcell j (by omega)
        rw [Addr.add_mid] at this
        rw [this]
        simp [List.getD, hx]
    · have := hw n (List.mem_of_mem_take hn)
      have h' := (Bool.and_eq_true _ _).mp this
      have h0 : 0 ≤ n := of_decide_eq_true h'.1
      have h1 : n ≤ 255 := of_decide_eq_true h'.2
      exact ⟨h0, by omega⟩
end
theorem BvAt.sl {w : World} {v : Value} {l : List Int} (h : BvAt w v l) : SlAt w .u8 v l := by
  rcases h with ⟨p, c, rfl, rfl⟩ | ⟨b, o, c, rfl, _, _, hb, hc⟩
  · exact .inl ⟨⟨_, _, rfl⟩, rfl⟩
  · exact .inr ⟨b, o, c, rfl, hb, hc⟩
theorem By.bv {B : Nat} {w : World} {v : Value} {bs : List Int} (h : By B w v bs) : BvAt w v bs := by
  have hs := SlAt.own h.own
  rcases h.own.2 with ⟨rfl, h0⟩ | ⟨g, cap, cur, rfl, hB, hblk, hnc, hcm, _, _⟩
  · obtain rfl := List.eq_nil_of_length_eq_zero h0
    exact .inl ⟨_, _, rfl, rfl⟩
  · rcases hs with ⟨⟨p, c, hv⟩, rfl⟩ | ⟨b, o, c, hv, hb, hc⟩
    · exact .inl ⟨_, _, hv, rfl⟩
    · simp only [Value.slice.injEq, Option.some.injEq, Addr.mk.injEq, and_true] at hv
      obtain ⟨⟨rfl, rfl⟩, _, rfl⟩ := hv
      exact .inr ⟨g, 0, cap, rfl, by simpa using hnc, by unfold maxLen at hcm; omega, hb, hc⟩
/-- the first k of them -/
theorem BvAt.cut {w : World} {b o c n : Nat} {l : List Int} (h : BvAt w (.slice (some ⟨b, o, none⟩) n c) l) {k : Nat} (hk : k ≤ l.length) : BvAt w (.slice (some ⟨b, o, none⟩) k c) (l.take k) := by
  have hlen : (l.take k).length = k := by simp; omega
  rcases h with ⟨p, c', hv, rfl⟩ | ⟨b', o', c', hv, h1, h2, hb, hc⟩
  · have : k = 0 := by simpa using hk
    subst this
    exact .inl ⟨_, _, rfl, by simp⟩
  · simp only [Value.slice.injEq, Option.some.injEq, Addr.mk.injEq, and_true] at hv
    obtain ⟨⟨rfl, rfl⟩, _, rfl⟩ := hv
    refine .inr ⟨b, o, c, by rw [hlen], by omega, h2, hb, fun j x hx => ?_⟩
    have hj : j < k := by have := (List.getElem?_eq_some_iff.1 hx).1; omega
    rw [List.getElem?_take, if_pos hj] at hx
    exact hc j x hx
structure RBy (w0 : World) (lv : Value) (xs : List Int) (v : Value) (k : Nat) (w : World) : Prop where
  by_ : By w0.heap.size w v (xs.take k)
  g : w0.grownBy w none
  sl : SlAt w .u8 lv xs
set_option maxRecDepth 100000 in
set_option maxHeartbeats 2000000 in
theorem rbytes_any {w : World} {lv : Value} {xs : List Int} (hl : SlAt w .u8 lv xs) (hn : xs.length ≤ 1000000) :
    Calls Tryd.prog 19 #[lv] w fun e w' => ∃ v, e = .returned v ∧ By w.heap.size w' v xs ∧ w.grownBy w' none := by
  obtain ⟨p, c, rfl⟩ := hl.len'
  obtain ⟨i, hi, hz0, hz1, hz2⟩ := info_byte
  obtain ⟨w1, hmk, how, hgr⟩ := run_make_own (P := Tryd.prog) w w.heap.size 25 5 i _ 1 Tryd.underlying25 hi hz0 hz1 .i64 .i64 xs.length (by rw [hz2]; omega) (by unfold maxLen; omega) (Nat.le_refl _)
  have Hi := hid hi
  have Hz0 := hid hz0
  have Hz1 := hid hz1
  have Hz2 := hid hz2
  have HSl := hid hl
  have HA : Hid (RBy w (.slice p xs.length c) xs (.slice (some ⟨w.heap.size, 0, none⟩) 0 xs.length) 0 w1) := hid ⟨⟨by simpa using how, hgr.size⟩, hgr, hl.kept0 hgr⟩
  have Hn := hid hn
  have nl : (xs.length : Int) ≤ 9223372036854775807 := by omega
  clear hl hn hi hz0 hz1 hz2 how hgr
  go_enter Tryd.func19, Tryd.ntmps19
  go_wp2
  clear hmk
  go_loopw [3, 4] (fun b i wr => ∃ k : Nat, k ≤ xs.length ∧ i = .int .i64 k ∧ Hid (RBy w (.slice p xs.length c) xs b k wr)) (fun _ i _ => xs.length - (intOf i).toNat)
  case atStart => exact ⟨0, Nat.zero_le _, rfl, HA⟩
  case round =>
    obtain ⟨k, hk, rfl, HR⟩ := hrel
    have k0 : (0 : Int) ≤ (k : Int) := by omega
    by_cases hlt : k < xs.length
    · have kn : (k : Int) < (xs.length : Int) := by omega
      obtain ⟨x, hx⟩ : ∃ x, xs[k]? = some x := ⟨_, List.getElem?_eq_getElem hlt⟩
      obtain ⟨b, o, c', hv, hb, hc⟩ := HR.out.sl.at_ (by omega)
      obtain ⟨rfl, rfl⟩ : p = some ⟨b, o, none⟩ ∧ c = c' := by simpa using hv
      have ex := hc k x hx
      have Hx := hid hx
      have Hlt := hid hlt
      clear hc hv hx hlt
      have HB := hid (HR.out.by_.kept0 (World.grownBy_alloc wr (.cells #[.int .u8 x] 5) none))
      obtain ⟨L, HL⟩ : ∃ L, Hid ((xs.take k).length = L) := ⟨_, hid rfl⟩
      have HLn : Hid (L + 1 ≤ 1000000) := hid (by
        have h1 := HL.out
        have h2 := Hn.out
        have h3 := Hlt.out
        rw [List.length_take] at h1
        omega)
      have HBo := hid HB.out.own
      rw [HL.out] at HBo
      have Hnews : Hid (∀ j u, [Value.int .u8 x][j]? = some u → (wr.alloc (.cells #[.int .u8 x] 5)).cell? ((⟨wr.heap.size, 0, none⟩ : Addr).add j) = some u) := hid (World.news_of_block (heap_alloc_new wr _))
      go_wp2_with (first
        | (refine wpList_append_lies _ rfl _ _ 25 rfl w.heap.size 5 i _ 1 1 Tryd.underlying25 Hi.out Hz0.out Hz1.out Hz2.out rfl (by decide) _ L _ rfl HBo.out ⟨wr.heap.size, 0, none⟩ 1 1 _ rfl rfl Hnews.out (by simp [Value.oneCell']) (by decide) (by have := HLn.out; unfold maxLen; omega) (by have := HLn.out; omega) HB.out.le _ rfl ?_; intro g cap w2 hown hgrow hat hlt2; have HO := hid hown; have HG := hid hgrow; have HT := hid hat; clear hown hgrow hat)
        | fail)
      go_roundw
      case rel =>
        refine ⟨k + 1, by omega, by go_num, hid ?_⟩
        have hww : xs.take (k + 1) = xs.take k ++ [x] := by rw [List.take_add_one, Hx.out]; rfl
        have hL := HL.out
        have hgw : w.grownBy w2 none := grown_new' (grown_trans (grown_none HR.out.g) (grown_trans (World.grownBy_alloc wr _ _) HG.out)) (fun j hj => (HR.out.by_.own.lt j hj).1)
        refine ⟨⟨?_, hgw.size⟩, hgw, ?_⟩
        · rw [hww, List.length_append, hL, List.map_append]
          exact HO.out
        · exact HSl.out.kept0 hgw
      case measure => simp [intOf]; have := Hlt.out; omega
    · obtain rfl : k = xs.length := by omega
      clear hlt
      go_wp2
      go_ret
      have h1 := HR.out.by_
      rw [List.take_length] at h1
      exact ⟨_, rfl, h1, HR.out.g⟩
end Go.Proofs.YtfkecmcnhmlnoaaDoor

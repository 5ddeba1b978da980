/- Symbols behind bytes; the bytes of an object (package obj): contracts. (Made by gobj16.py.) -/
import Derived.Test.YtbjijddpdefhpaaDoorZObj15
namespace Go.Proofs.YtbjijddpdefhpaaDoor
open Go.RowKit
theorem strCells_of (s : ByteArray) : Go.Lib.strCells s = (strI s).map (Value.int .u8) := by simp [Go.Lib.strCells, strI, List.map_map]
set_option maxRecDepth 100000 in
set_option maxHeartbeats 4000000 in
theorem appsy_any {w w0 : World} {B : Nat} {v rv : Value} {bs : List Int} {l : List Sy} (h : By B w v bs) (hl : SyAt w0 rv l) (hB : w0.heap.size ≤ B) (hw : Below B w0 w) (hnm : ∀ s ∈ l, s.n.size ≤ 32) (hn : bs.length + 48 * l.length ≤ 1099511627776) :
    Calls Tryd.prog 51 #[v, rv] w (ByAt B w (bs ++ sysB l)) := by
  obtain ⟨p, c, rfl⟩ := hl.len
  obtain ⟨i, hi, hz0, hz1, hz2⟩ := info_byte
  have Hi := hid hi
  have Hz0 := hid hz0
  have Hz1 := hid hz1
  have Hz2 := hid hz2
  have HL := hid hl
  have HB := hid hB
  have HW := hid hw
  have HN := hid hnm
  have HA : Hid (ARr B w (bs ++ sysB (l.take 0)) v w) := hid ⟨by simpa [sysB] using h, Below.refl _ _⟩
  have Hn := hid hn
  have nl : (l.length : Int) ≤ 9223372036854775807 := by omega
  clear h hl hB hw hn hnm hi hz0 hz1 hz2
  go_enter Tryd.func51, Tryd.ntmps51
  go_wp2
  go_loopw [0, 10] (fun b i wr => ∃ k : Nat, k ≤ l.length ∧ i = .int .i64 k ∧ Hid (ARr B w (bs ++ sysB (l.take k)) b wr)) (fun _ i _ => l.length - (intOf i).toNat)
  case atStart => exact ⟨0, Nat.zero_le _, rfl, HA⟩
  case round =>
    obtain ⟨k, hk, rfl, HR⟩ := hrel
    have k0 : (0 : Int) ≤ (k : Int) := by omega
    by_cases hlt : k < l.length
    · have kn : (k : Int) < (l.length : Int) := by omega
      obtain ⟨⟨n, si, sv, sg⟩, hx⟩ : ∃ x, l[k]? = some x := ⟨_, List.getElem?_eq_getElem hlt⟩
      obtain ⟨b, o, c', hv, _, hb, hc⟩ := (HL.out.below HB.out (HW.out.trans HR.out.below)).at_ (by omega)
      obtain ⟨rfl, rfl⟩ : p = some ⟨b, o, none⟩ ∧ c = c' := by simpa using hv
      have h4 := SyAt.cells hc hx
      have e0 := h4.c0
      have e1 := h4.c1
      have e2 := h4.c2
      have e3 := h4.c3
      have Hx := hid hx
      have Hlt := hid hlt
      have Hns := hid (HN.out _ (List.mem_of_getElem? hx))
      clear hc h4 hv hx hlt
      have HY0 := hid (HR.out.by_.kept0 (World.grownBy_alloc wr (.cells #[.string n, .int .i64 si, .int .i64 sv, .bool sg] 44) none))
      have HT := hid (RwAt.new wr 44 #[.string n, .int .i64 si, .int .i64 sv, .bool sg])
      have HD0 := hid (HR.out.below.trans (below_alloc HR.out.by_.le (.cells #[.string n, .int .i64 si, .int .i64 sv, .bool sg] 44)))
      have HTn := hid (HR.out.by_.ne (Nat.le_refl _))
      go_upto_region 4 with (fail)
      clear e0 e1 e2 e3
      generalize wr.alloc (.cells #[.string n, .int .i64 si, .int .i64 sv, .bool sg] 44) = w1 at HY0 HT HD0 ⊢
      obtain ⟨B6, hB6⟩ : ∃ B, wr.heap.size = B := ⟨_, rfl⟩
      rw [hB6] at HT HTn ⊢
      have HE : Hid (Else (.slice (some ⟨w1.heap.size, 0, none⟩) 4 4) u0) := hid (.inr <| by
        intro g hg
        obtain rfl : _ = g := Option.some.inj hg
        exact HY0.out.ne (Nat.le_refl _))
      have HLn : ∀ q : Int, (bs ++ sysB (l.take k)).length + 4 * [si, sv, q, (n.size : Int)].length ≤ 1099511627776 ∧ (bs ++ sysB (l.take k)).length + 16 + 32 ≤ 1099511627776 := by
        intro q
        have h2 := Hn.out
        have h3 := Hlt.out
        have h4 := sysB_le (l.take k) 32 (fun s hs => HN.out s (List.mem_of_mem_take hs))
        rw [List.length_take] at h4
        rw [List.length_append]
        simp only [List.length_cons, List.length_nil]
        omega
      have HLn := hid HLn
      have f3 := HT.out.cell 3 rfl
      have f1 := HT.out.cell 1 rfl
      have f2 := HT.out.cell 2 rfl
      have f0 := HT.out.cell 0 rfl
      have nsz : (n.size : Int) ≤ 32 := by have := Hns.out; simp only at this; omega
      cases sg
      · have HY := hid (HY0.out.kept0 (World.grownBy_alloc w1 (.cells #[.int .i64 si, .int .i64 sv, .int .i64 0, .int .i64 n.size] 3) none))
        have HS := hid (slat4 w1 si sv 0 n.size)
        have HT1 := hid (HT.out.alloc (.cells #[.int .i64 si, .int .i64 sv, .int .i64 0, .int .i64 n.size] 3))
        have HD := hid (HD0.out.trans (below_alloc HY0.out.le (.cells #[.int .i64 si, .int .i64 sv, .int .i64 0, .int .i64 n.size] 3)))
        go_wp2_with fail
        refine (appi_any HY.out HS.out HE.out (HLn.out 0).1).mono ?_
        rintro e w2 ⟨v', rfl, hby, hgw⟩
        have HY2 := hid hby
        have HD2 := hid (HD.out.trans (hgw.below HY.out))
        have HT2 := hid (HT1.out.kept hgw.grow (fun e => HTn.out e.symm))
        clear hby hgw f0 f1 f2 f3
        have f0 := HT2.out.cell 0 rfl
        have HLL : Hid (((bs ++ sysB (l.take k)) ++ wsB [si, sv, 0, (n.size : Int)]).length + n.size ≤ 1099511627776) := hid (by
          have h1 := (HLn.out 0).2
          rw [List.length_append, wsB_length]
          simp only [List.length_cons, List.length_nil]
          omega)
        go_wp2_with (first
          | (refine Go.Lib.wpList_append_own_string _ rfl _ _ 33 9 rfl B 5 i Tryd.underlying33 Tryd.underlying9 Hi.out Hz0.out Hz1.out Hz2.out _ _ _ rfl HY2.out.own n rfl (by have := HLL.out; unfold maxLen; omega) (by have := HLL.out; omega) HY2.out.le ?_; intro v9 w9 hown hgrow _; have HO := hid hown; have HG := hid hgrow; clear hown hgrow)
          | fail)
        go_roundw
        case rel =>
          have h9 : By B w9 v9 (bs ++ sysB (l.take k) ++ wsB [si, sv, 0, (n.size : Int)] ++ strI n) := by
            refine ⟨?_, Nat.le_trans HY2.out.le HG.out.size⟩
            have := HO.out
            rw [strCells_of] at this
            rw [List.length_append, strI_length, List.map_append]
            exact this
          refine ⟨k + 1, by omega, by go_num, hid ⟨?_, HD2.out.trans (HY2.out.below_of HG.out)⟩⟩
          rw [List.take_add_one, Hx.out, sysB_append, ← List.append_assoc]
          have he : sysB [(⟨n, si, sv, false⟩ : Sy)] = wsB [si, sv, 0, (n.size : Int)] ++ strI n := by
            simp [sysB, syB, syI, bI]
          rw [show (some (⟨n, si, sv, false⟩ : Sy)).toList = [⟨n, si, sv, false⟩] from rfl, he, ← List.append_assoc]
          exact h9
        case measure => simp [intOf]; have := Hlt.out; omega
      · have HY := hid (HY0.out.kept0 (World.grownBy_alloc w1 (.cells #[.int .i64 si, .int .i64 sv, .int .i64 1, .int .i64 n.size] 3) none))
        have HS := hid (slat4 w1 si sv 1 n.size)
        have HT1 := hid (HT.out.alloc (.cells #[.int .i64 si, .int .i64 sv, .int .i64 1, .int .i64 n.size] 3))
        have HD := hid (HD0.out.trans (below_alloc HY0.out.le (.cells #[.int .i64 si, .int .i64 sv, .int .i64 1, .int .i64 n.size] 3)))
        go_wp2_with fail
        refine (appi_any HY.out HS.out HE.out (HLn.out 1).1).mono ?_
        rintro e w2 ⟨v', rfl, hby, hgw⟩
        have HY2 := hid hby
        have HD2 := hid (HD.out.trans (hgw.below HY.out))
        have HT2 := hid (HT1.out.kept hgw.grow (fun e => HTn.out e.symm))
        clear hby hgw f0 f1 f2 f3
        have f0 := HT2.out.cell 0 rfl
        have HLL : Hid (((bs ++ sysB (l.take k)) ++ wsB [si, sv, 1, (n.size : Int)]).length + n.size ≤ 1099511627776) := hid (by
          have h1 := (HLn.out 1).2
          rw [List.length_append, wsB_length]
          simp only [List.length_cons, List.length_nil]
          omega)
        go_wp2_with (first
          | (refine Go.Lib.wpList_append_own_string _ rfl _ _ 33 9 rfl B 5 i Tryd.underlying33 Tryd.underlying9 Hi.out Hz0.out Hz1.out Hz2.out _ _ _ rfl HY2.out.own n rfl (by have := HLL.out; unfold maxLen; omega) (by have := HLL.out; omega) HY2.out.le ?_; intro v9 w9 hown hgrow _; have HO := hid hown; have HG := hid hgrow; clear hown hgrow)
          | fail)
        go_roundw
        case rel =>
          have h9 : By B w9 v9 (bs ++ sysB (l.take k) ++ wsB [si, sv, 1, (n.size : Int)] ++ strI n) := by
            refine ⟨?_, Nat.le_trans HY2.out.le HG.out.size⟩
            have := HO.out
            rw [strCells_of] at this
            rw [List.length_append, strI_length, List.map_append]
            exact this
          refine ⟨k + 1, by omega, by go_num, hid ⟨?_, HD2.out.trans (HY2.out.below_of HG.out)⟩⟩
          rw [List.take_add_one, Hx.out, sysB_append, ← List.append_assoc]
          have he : sysB [(⟨n, si, sv, true⟩ : Sy)] = wsB [si, sv, 1, (n.size : Int)] ++ strI n := by
            simp [sysB, syB, syI, bI]
          rw [show (some (⟨n, si, sv, true⟩ : Sy)).toList = [⟨n, si, sv, true⟩] from rfl, he, ← List.append_assoc]
          exact h9
        case measure => simp [intOf]; have := Hlt.out; omega
    · obtain rfl : k = l.length := by omega
      clear hlt
      go_wp2
      go_ret
      have h1 := HR.out.by_
      rw [List.take_length] at h1
      exact ⟨_, rfl, h1, HR.out.below⟩
end Go.Proofs.YtbjijddpdefhpaaDoor

/- Relocations and symbols behind bytes (package obj): contracts. -/
import Derived.Test.YtbjijddpdefhpaaDoorZObj14
namespace Go.Proofs.YtbjijddpdefhpaaDoor
open Go.RowKit
theorem CsAt.below {B : Nat} {w0 w : World} {v : Value} {n : Nat} {cs : List Value} (h : CsAt w0 v n cs) (hB : w0.heap.size ≤ B) (hb : Below B w0 w) : CsAt w v n cs := by
  rcases h with h | ⟨b, o, c, rfl, hn, hlt, hc⟩
  · exact .inl h
  · exact .inr ⟨b, o, c, rfl, hn, Nat.lt_of_lt_of_le hlt hb.size, fun j u hu => (hb.cell (Nat.lt_of_lt_of_le hlt hB)).trans (hc j u hu)⟩
theorem SlAt.below {B : Nat} {w0 w : World} {v : Value} {k : IntKind} {xs : List Int} (h : SlAt w0 k v xs) (hB : w0.heap.size ≤ B) (hb : Below B w0 w) : SlAt w k v xs := by
  rcases h with h | ⟨b, o, c, rfl, hlt, hc⟩
  · exact .inl h
  · exact .inr ⟨b, o, c, rfl, Nat.lt_of_lt_of_le hlt hb.size, fun j u hu => (hb.cell (Nat.lt_of_lt_of_le hlt hB)).trans (hc j u hu)⟩
theorem Gw.below {B : Nat} {w w1 : World} {v v1 : Value} {bs : List Int} (h : Gw w v w1 v1) (hb : By B w v bs) : Below B w w1 := hb.below_of h.grow
theorem By.ne {B : Nat} {w : World} {v : Value} {bs : List Int} (h : By B w v bs) {g : Nat} (hg : w.heap.size ≤ g) : v.ownBlock ≠ some g := fun e => by have := (h.own.lt g e).2; omega
theorem below_alloc {B : Nat} {w : World} (h : B ≤ w.heap.size) (o : Obj) : Below B w (w.alloc o) := (Below.refl B w).alloc h o
theorem slat4 (w : World) (a b c d : Int) : SlAt (w.alloc (.cells #[.int .i64 a, .int .i64 b, .int .i64 c, .int .i64 d] 3)) .i64 (.slice (some ⟨w.heap.size, 0, none⟩) 4 4) [a, b, c, d] :=
  SlAt.whole (b := w.heap.size) (c := 4) (k := .i64) (xs := [a, b, c, d]) (t := 3) (by exact heap_alloc_last w _)
/-- at the head of a round -/
structure ARr (B : Nat) (w0 : World) (bs : List Int) (v : Value) (w : World) : Prop where
  by_ : By B w v bs
  below : Below B w0 w
set_option maxRecDepth 100000 in
set_option maxHeartbeats 2000000 in
theorem apprl_any {w w0 : World} {B : Nat} {v rv : Value} {bs : List Int} {l : List Rl} (h : By B w v bs) (hl : RlAt w0 rv l) (hB : w0.heap.size ≤ B) (hw : Below B w0 w) (hn : bs.length + 16 * l.length ≤ 1099511627776) :
    Calls Tryd.prog 50 #[v, rv] w (ByAt B w (bs ++ rlsB l)) := by
  obtain ⟨p, c, rfl⟩ := hl.len
  have HL := hid hl
  have HB := hid hB
  have HW := hid hw
  have HA : Hid (ARr B w (bs ++ rlsB (l.take 0)) v w) := hid ⟨by simpa [rlsB] using h, Below.refl _ _⟩
  have Hn := hid hn
  have nl : (l.length : Int) ≤ 9223372036854775807 := by omega
  clear h hl hB hw hn
  go_enter Tryd.func50, Tryd.ntmps50
  go_wp2
  go_loopw [0, 9] (fun b i wr => ∃ k : Nat, k ≤ l.length ∧ i = .int .i64 k ∧ Hid (ARr B w (bs ++ rlsB (l.take k)) b wr)) (fun _ i _ => l.length - (intOf i).toNat)
  case atStart => exact ⟨0, Nat.zero_le _, rfl, HA⟩
  case round =>
    obtain ⟨k, hk, rfl, HR⟩ := hrel
    have k0 : (0 : Int) ≤ (k : Int) := by omega
    by_cases hlt : k < l.length
    · have kn : (k : Int) < (l.length : Int) := by omega
      obtain ⟨⟨a, kd, sm, ad⟩, hx⟩ : ∃ x, l[k]? = some x := ⟨_, List.getElem?_eq_getElem hlt⟩
      obtain ⟨b, o, c', hv, _, hb, hc⟩ := (HL.out.below HB.out (HW.out.trans HR.out.below)).at_ (by omega)
      obtain ⟨rfl, rfl⟩ : p = some ⟨b, o, none⟩ ∧ c = c' := by simpa using hv
      have h4 := RlAt.cells hc hx
      have e0 := h4.c0
      have e1 := h4.c1
      have e2 := h4.c2
      have e3 := h4.c3
      have Hx := hid hx
      have Hlt := hid hlt
      clear hc h4 hv hx hlt
      have HY : Hid (By B ((wr.alloc (.cells #[.int .i64 a, .int .i64 kd, .int .i64 sm, .int .i64 ad] 46)).alloc (.cells #[.int .i64 a, .int .i64 kd, .int .i64 sm, .int .i64 ad] 3)) u0 (bs ++ rlsB (l.take k))) := hid ((HR.out.by_.kept0 (World.grownBy_alloc _ _ _)).kept0 (World.grownBy_alloc _ _ _))
      have HE : Hid (Else (.slice (some ⟨(wr.alloc (.cells #[.int .i64 a, .int .i64 kd, .int .i64 sm, .int .i64 ad] 46)).heap.size, 0, none⟩) 4 4) u0) := hid (.inr <| by
        intro g hg
        obtain rfl : _ = g := Option.some.inj hg
        exact HR.out.by_.ne (by simp))
      have HS := hid (slat4 (wr.alloc (.cells #[.int .i64 a, .int .i64 kd, .int .i64 sm, .int .i64 ad] 46)) a kd sm ad)
      have HD : Hid (Below B w ((wr.alloc (.cells #[.int .i64 a, .int .i64 kd, .int .i64 sm, .int .i64 ad] 46)).alloc (.cells #[.int .i64 a, .int .i64 kd, .int .i64 sm, .int .i64 ad] 3))) :=
        hid ((HR.out.below.trans (below_alloc HR.out.by_.le _)).trans (below_alloc (by have := HR.out.by_.le; simp; omega) _))
      have HLn : Hid ((bs ++ rlsB (l.take k)).length + 4 * [a, kd, sm, ad].length ≤ 1099511627776) := hid (by
        have h2 := Hn.out
        have h3 := Hlt.out
        rw [List.length_append, rlsB_length, List.length_take]
        simp only [List.length_cons, List.length_nil]
        omega)
      go_wp2_with fail
      simp only [World.size_alloc] at HE HS
      refine (appi_any HY.out HS.out HE.out HLn.out).mono ?_
      rintro e w2 ⟨v', rfl, hby, hgw⟩
      have HY2 := hid hby
      have HD2 := hid (HD.out.trans (hgw.below HY.out))
      clear hby hgw
      go_wp2
      go_roundw
      case rel =>
        refine ⟨k + 1, by omega, by go_num, hid ⟨?_, HD2.out⟩⟩
        rw [List.take_add_one, Hx.out, rlsB_append, ← List.append_assoc]
        simpa [rlsB, rlI] using HY2.out
      case measure => simp [intOf]; have := Hlt.out; omega
    · obtain rfl : k = l.length := by omega
      clear hlt
      go_wp2
      go_ret
      have h1 := HR.out.by_
      rw [List.take_length] at h1
      exact ⟨_, rfl, h1, HR.out.below⟩
end Go.Proofs.YtbjijddpdefhpaaDoor

/- The law's own 'other': items as the document has them: contract. -/
import Derived.Test.YtmhkghkfpkekbaaRelB
namespace Go.Proofs.Ytmhkghkfpkekbaa
open Go.RowKit
theorem info_item9 : ∃ i : TypeInfo, Try.prog.info? 52 = some i ∧ i.zero = some (.agg #[.int .i64 0, .int .i64 0, .bool false]) ∧ i.size = 3 ∧ i.bytes = 24 := info_parts (P := Try.prog) (e := 52) (z := .agg #[.int .i64 0, .int .i64 0, .bool false]) (size := 3) (bytes := 24) (by kernel_rfl)
structure OtW (W w : World) (v : Value) (n : Nat) (l : List RIt) : Prop where
  gr : W.grownBy w none
  own : w.ownsRow W.heap.size 52 3 v n (itsC l)
theorem OtW.kept0 {W w w1 : World} {v : Value} {n : Nat} {l : List RIt} (h : OtW W w v n l) (hg : w.grownBy w1 none) : OtW W w1 v n l := ⟨grown_trans h.gr hg, h.own.kept hg (by cases v.ownBlock <;> simp)⟩
set_option maxRecDepth 100000 in
set_option maxHeartbeats 4000000 in
theorem other_any {W : World} {v : Value} {L : List RIt} (h : RiAt W v L) (hL : L.length ≤ 1000000) :
    Calls Try.prog 14 #[v] W fun e w' => ∃ u, e = .returned u ∧ w'.ownsRow W.heap.size 52 3 u L.length (itsC L) ∧ W.grownBy w' none := by
  obtain ⟨p, c, hv⟩ := h.len
  subst hv
  have HA := hid h
  obtain ⟨n, hn⟩ : ∃ n, L.length = n := ⟨_, rfl⟩
  have HNe := hid hn
  rw [hn] at hL ⊢
  have n0 : (0 : Int) ≤ (n : Int) := by omega
  have n1 : (n : Int) ≤ 1000000 := by omega
  have Hn1 := hid hL
  have HP : Hid (OtW W W (.slice none 0 0) 0 (L.take 0)) := hid ⟨grown_refl _ _, World.ownsRow_nil _ _ _ _⟩
  obtain ⟨i, hi, hz0, hz1, hz2⟩ := info_item9
  have Hi := hid hi
  have Hz0 := hid hz0
  have Hz1 := hid hz1
  have Hz2 := hid hz2
  clear h hL hn hi hz0 hz1 hz2
  go_enter Try.func14, Try.ntmps14
  go_wp2
  go_loopw [3, 4] (fun u j wr => ∃ k : Nat, k ≤ n ∧ j = .int .i64 k ∧ Hid (OtW W wr u k (L.take k))) (fun _ j _ => n - (intOf j).toNat)
  case atStart => exact ⟨0, Nat.zero_le _, rfl, HP⟩
  case round =>
    obtain ⟨k, hk, rfl, HR⟩ := hrel
    clear HP
    have k0 : (0 : Int) ≤ (k : Int) := by omega
    obtain ⟨up, uc, rfl⟩ := own_slice HR.out.own
    by_cases hlt : k < n
    · have kn : (k : Int) < (n : Int) := by omega
      have Hlt := hid hlt
      obtain ⟨r, hr⟩ : ∃ r, L[k]? = some r := ⟨_, List.getElem?_eq_getElem (by have := HNe.out; omega)⟩
      have Htk : Hid (L.take (k + 1) = L.take k ++ [r]) := hid (by rw [List.take_add_one, hr]; rfl)
      have dr := grown_drew (grown_refl wr none)
      obtain ⟨b, o, c', hv, hb, c0, c1, c2⟩ := RiAt.item (HA.out.kept0 (grown_trans HR.out.gr dr)) hr
      simp only [Value.slice.injEq] at hv
      obtain ⟨rfl, -, -⟩ := hv
      obtain ⟨s, t, br⟩ := r
      simp only at c0 c1 c2
      have HRa := hid (HR.out.kept0 (grown_drew (World.grownBy_alloc wr (.cells #[.int .i64 s, .int .i64 t, .bool br] 52) none)))
      have HNw : Hid (∀ j u, [Value.int .i64 s, .int .i64 t, .bool br][j]? = some u → (wr.alloc (.cells #[.int .i64 s, .int .i64 t, .bool br] 52)).drew.cell? ((⟨wr.heap.size, 0, none⟩ : Addr).add j) = some u) := hid (World.news_of_block (heap_alloc_new wr _))
      clear hr hlt hk hb dr
      go_wp2
      go_region_law (first
        | (refine step_append_lies _ rfl (.tmp 11) (.tmp 28) 34 rfl W.heap.size 52 i _ 3 24 Try.underlying34 Hi.out Hz0.out Hz1.out Hz2.out rfl (by decide) (.slice up k uc) k (itsC (L.take k)) (by simp [Act.eval]) HRa.out.own ⟨wr.heap.size, 0, none⟩ 1 1 [.int .i64 s, .int .i64 t, .bool br] (by simp [Act.eval]) rfl HNw.out (by simp [Value.oneCell']) (by decide) (by have := Hlt.out; have := Hn1.out; unfold maxLen; omega) (by have := Hlt.out; have := Hn1.out; omega) HRa.out.gr.size _ rfl ?_
           intro g5 cap w5 hown hgrow hat hlt2
           have HO := hid hown
           have hgrow0 : (wr.alloc (.cells #[.int .i64 s, .int .i64 t, .bool br] 52)).drew.grownBy w5 (Value.slice up k uc).ownBlock := hgrow
           have hgw : wr.grownBy w5 (Value.slice up k uc).ownBlock := grown_trans (grown_drew (World.grownBy_alloc wr _ _)) hgrow0
           have hgW : W.grownBy w5 none := grown_new' (grown_trans (grown_none HR.out.gr) hgw) (fun j hj => (HR.out.own.lt j hj).1)
           have HGW := hid hgW
           clear hown hgrow hat hlt2 hgrow0 hgw hgW)
        | fail)
      all_goals
        go_wp2
        go_roundw
        case rel =>
          refine ⟨k + 1, Hlt.out, by go_num, hid ⟨HGW.out, ?_⟩⟩
          rw [Htk.out, itsC_append]
          exact HO.out
        case measure => simp [intOf]; have := Hlt.out; omega
    · obtain rfl : k = n := by omega
      clear hlt
      have kn : ¬ ((k : Int) < (k : Int)) := by omega
      go_wp2
      go_ret
      have h1 := HR.out.own
      rw [List.take_of_length_le (by rw [HNe.out]; exact Nat.le_refl _)] at h1
      exact ⟨_, rfl, h1, HR.out.gr⟩
end Go.Proofs.Ytmhkghkfpkekbaa

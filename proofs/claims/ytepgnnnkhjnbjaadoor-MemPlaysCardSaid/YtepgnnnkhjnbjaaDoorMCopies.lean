/- The walk of the law MemCopies. -/
import Derived.Test.YtepgnnnkhjnbjaaDoorMemF
namespace Go.Proofs.YtepgnnnkhjnbjaaDoor
open Go.RowKit
theorem diffB_symm {n : Nat} {xs ys : List Int} {f : Nat} : diffB n n xs ys f = diffB n n ys xs f := by
  unfold diffB
  congr 2
  simp only [eq_comm]
theorem diffs_symm (n : Nat) (xs ys : List Int) : ∀ k, diffs n n xs ys k = diffs n n ys xs k := by
  intro k
  unfold diffs
  congr 2
  funext f
  exact diffB_symm
/-- what word 3 may be -/
def Three (xs : List Int) (T : Int) : Prop := xs[3]? = some 5 ∨ xs[3]? = some T
theorem Three.set {xs : List Int} {T : Int} (h : Three xs T) (k : Nat) : Three (xs.set k T) T := by
  by_cases hk : k = 3
  · subst hk
    right
    have : 3 < xs.length := by
      rcases h with h | h <;> exact (List.getElem?_eq_some_iff.1 h).1
    rw [List.getElem?_set_self this]
  · unfold Three
    rw [List.getElem?_set_ne hk]
    exact h
structure CRel (w wr : World) (m b m2 b2 c2 : Nat) (xs ys : List Int) (T : Int) : Prop where
  first : MemAt wr m b 10 10 xs
  second : MemAt wr m2 b2 10 c2 ys
  three : Three ys T
  grown : w.grownBy wr none
theorem own_ne_mem {w : World} {base : Nat} {v : Value} {n : Nat} {l : List Value} {m b n' c : Nat} {xs : List Int} (h : w.ownsRow base 3 1 v n l) (hM : MemAt w m b n' c xs) : some m ≠ v.ownBlock ∧ some b ≠ v.ownBlock := by
  rcases h.2 with ⟨rfl, _⟩ | ⟨g, cap, cur, rfl, _, hg, _⟩
  · simp [Value.ownBlock]
  · obtain ⟨cu, hb, _⟩ := hM.hb
    have hm := hM.hm
    refine ⟨fun e => ?_, fun e => ?_⟩
    · obtain rfl : m = g := by simpa [Value.ownBlock] using e
      rw [hm] at hg
      simp at hg
    · obtain rfl : b = g := by simpa [Value.ownBlock] using e
      rw [hb] at hg
      simp at hg
set_option maxHeartbeats 4000000 in
theorem copies_walk (v : Value) (ls : List Int) (x : Int) (w : World) (hs : SlAt w .i64 v ls) (hw : ∀ n ∈ ls, (Lit.int .i64 n).wf = true) (hl0 : ls.length ≤ maxLen) (x0 : 0 ≤ x) (x1 : x ≤ 4294967295) :
    Calls Tryd.prog 3 #[v, .int .u32 x] w fun e w' => e = .returned (.bool true) ∧ Below w.heap.size w w' := by
  obtain ⟨p, c0, rfl⟩ := hs.len
  have Hs := hid hs
  have Hw := hid hw
  clear hs hw
  unfold maxLen at hl0
  obtain ⟨T, hT⟩ : ∃ T, bits .or .u32 x 1 = T := ⟨_, rfl⟩
  by_cases hl : ls.length ≤ 20
  · have hl2 : (ls.length : Int) ≤ 20 := by omega
    go_enter Tryd.func3, Tryd.ntmps3
    go_wp2_with fail
    refine (first_any _).mono ?_; rintro e w1 ⟨rfl, hg⟩
    have HG1 := hid hg; clear hg
    go_wp2_with fail
    refine (new_of _ 10 (by rfl) (by omega) (by omega)).mono ?_; rintro e w2 ⟨m, b, rfl, hm, hb, hM, hg⟩
    have HM2 := hid hM
    have HG2 := hid (grown_trans HG1.out hg)
    have Hb := hid (Nat.le_trans HG1.out.size hb)
    clear hM hg hb hm HG1
    go_wp2_with fail
    refine (write_of HM2.out _ 5 3 (by rfl) (by omega)).mono ?_; rintro e w3 ⟨rfl, hM, hg⟩
    have HM3 := hid hM
    have HG3 := hid (grown_new' (grown_trans (grown_none HG2.out) hg) (fun k hk => by obtain rfl := Option.some.inj hk; exact Hb.out))
    clear hM hg HM2 HG2
    go_wp2_with fail
    refine (clone_any HM3.out).mono ?_; rintro e w4 ⟨m2, b2, c2, rfl, hm2, hb2, hM, hg⟩
    have HC4 := hid hM
    have HM4 := hid (HM3.out.kept0 hg)
    have HG4 := hid (grown_trans HG3.out hg)
    have Hne : Hid (m ≠ b2 ∧ b ≠ b2 ∧ m2 ≠ b ∧ b2 ≠ b) := hid (by have := HM3.out.blt; have := HM3.out.mlt; omega)
    have Hb2 := hid (Nat.le_trans HG3.out.size hb2)
    clear hM hg hm2 hb2 HM3 HG3
    go_wp2
    go_loopw [10, 11] (fun i _ wr => ∃ k : Nat, k ≤ ls.length ∧ i = .int .i64 k ∧ Hid (∃ xs ys, CRel w wr m b m2 b2 c2 xs ys T)) (fun i _ _ => ls.length - (intOf i).toNat)
    case atStart => exact ⟨0, Nat.zero_le _, rfl, hid ⟨_, _, HM4.out, HC4.out, Or.inl (by rw [List.getElem?_set_self (by simp)]), HG4.out⟩⟩
    case round =>
      obtain ⟨k, hk, rfl, HR⟩ := hrel
      obtain ⟨xs, ys, hR⟩ := HR.out
      have HC := hid hR
      clear hR HR
      by_cases hlt : k < ls.length
      · rcases Hs.out with ⟨_, rfl⟩ | ⟨bl, o, c', he, hbl, hcl⟩
        · simp at hlt
        · have hp : p = some ⟨bl, o, none⟩ := by injection he
          obtain ⟨y, hy⟩ : ∃ y, ls[k]? = some y := ⟨_, List.getElem?_eq_getElem hlt⟩
          have hcy := (grown_cell (p := ⟨bl, o + k, none⟩) HC.out.grown hbl (by simp)).trans (hcl k y hy)
          obtain ⟨y0, y1⟩ := i64_bd (Hw.out y (List.mem_of_getElem? hy))
          obtain ⟨A, HA, hA⟩ : ∃ A, Hid (numB y 160 = A) ∧ A < 160 := ⟨_, hid rfl, numB_lt _ (by omega)⟩
          have hk0 : (0 : Int) ≤ (k : Int) := by omega
          have hk1 : (k : Int) < (ls.length : Int) := by omega
          clear he hcl hy
          subst hp
          by_cases hev : (k : Int) % 2 = 0
          · have hev2 : ((k : Int) % 2 == 0) = true := by simpa using hev
            clear hev
            go_wp2_with fail
            refine (number_of y 160 160 A (by rfl) HA.out (by omega) (by omega) y0 y1).mono ?_; rintro e w' ⟨rfl, rfl⟩
            go_wp2_with fail
            refine (write_of HC.out.first _ _ A rfl (by omega)).mono ?_; rintro e w' ⟨rfl, hM, hg⟩
            have HR' : Hid (CRel w w' m b m2 b2 c2 (xs.set A T) ys T) := hid ⟨hM, HC.out.second.kept hg (by simpa using Hne.out.2.2.1) (by simpa using Hne.out.2.2.2), HC.out.three, grown_new' (grown_trans (grown_none HC.out.grown) hg) (fun k hk => by obtain rfl := Option.some.inj hk; exact Hb.out)⟩
            clear hM hg
            go_wp2
            go_roundw
            case rel => exact ⟨k + 1, by omega, by go_num, hid ⟨_, _, HR'.out⟩⟩
            case measure => simp [intOf]; omega
          · have hev2 : ((k : Int) % 2 == 0) = false := by simpa using hev
            clear hev
            go_wp2_with fail
            refine (number_of y 160 160 A (by rfl) HA.out (by omega) (by omega) y0 y1).mono ?_; rintro e w' ⟨rfl, rfl⟩
            go_wp2_with fail
            refine (write_of HC.out.second _ _ A rfl (by omega)).mono ?_; rintro e w' ⟨rfl, hM, hg⟩
            have HR' : Hid (CRel w w' m b m2 b2 c2 xs (ys.set A T) T) := hid ⟨HC.out.first.kept hg (by simpa using Hne.out.1) (by simpa using Hne.out.2.1), hM, HC.out.three.set A, grown_new' (grown_trans (grown_none HC.out.grown) hg) (fun k hk => by obtain rfl := Option.some.inj hk; exact Hb2.out)⟩
            clear hM hg
            go_wp2
            go_roundw
            case rel => exact ⟨k + 1, by omega, by go_num, hid ⟨_, _, HR'.out⟩⟩
            case measure => simp [intOf]; omega
      · have hge : (ls.length : Int) ≤ (k : Int) := by omega
        go_wp2
        obtain ⟨iT, hi, hz0, hz1, hz2⟩ := info_parts (P := Tryd.prog) (e := 3) (z := .int .i64 0) (size := 1) (bytes := 8) (by kernel_rfl)
        have Hi := hid hi
        have Hz0 := hid hz0
        have Hz1 := hid hz1
        have Hz2 := hid hz2
        clear hi hz0 hz1 hz2
        go_loopw [9, 12, 13, 14, 15, 16] (fun v f _ _ _ _ wq => ∃ q : Nat, q ≤ 10 ∧ f = .int .i64 q ∧ Hid (CRel w wq m b m2 b2 c2 xs ys T) ∧ Hid (DRel w 10 10 xs ys v q wq)) (fun _ f _ _ _ _ _ => 10 - (intOf f).toNat)
        case atStart => exact ⟨0, by omega, rfl, HC, hid ⟨by simpa [diffs] using World.ownsRow_nil _ w.heap.size 3 1, HC.out.grown⟩⟩
        case round =>
          obtain ⟨q, hq, rfl, HQ, HD⟩ := hrel
          by_cases hlq : q < 10
          · have hq0 : (0 : Int) ≤ (q : Int) := by omega
            have hq1 : (q : Int) < 10 := by omega
            go_wp2_with fail
            refine (frame_of HQ.out.first _ q (by rfl) hlq).mono ?_; rintro e w5 ⟨g, rfl, hgn, hgh, hg⟩
            have HQ5 : Hid (CRel w w5 m b m2 b2 c2 xs ys T) := hid ⟨HQ.out.first.kept0 hg, HQ.out.second.kept0 hg, HQ.out.three, grown_trans HQ.out.grown hg⟩
            have HS5 := hid (SlAt.frame (frameOf_length HQ.out.first.len hlq) hgh 16)
            have HO5 := hid (own_kept0 HD.out.own hg)
            clear hgn hgh hg
            go_wp2_with fail
            refine (frame_of HQ5.out.second _ q (by rfl) hlq).mono ?_; rintro e w6 ⟨g2, rfl, hgn, hgh, hg⟩
            have HQ6 : Hid (CRel w w6 m b m2 b2 c2 xs ys T) := hid ⟨HQ5.out.first.kept0 hg, HQ5.out.second.kept0 hg, HQ5.out.three, grown_trans HQ5.out.grown hg⟩
            have HS6 := hid (SlAt.frame (frameOf_length HQ5.out.second.len hlq) hgh 16)
            have HS6' := hid (HS5.out.kept0 hg)
            have HO6 := hid (own_kept0 HO5.out hg)
            clear hgn hgh hg
            have Hl1 := hid (frameOf_length HQ5.out.first.len hlq)
            have Hl2 := hid (frameOf_length HQ5.out.second.len hlq)
            by_cases hfr : frameOf xs q = frameOf ys q
            · have Hf := hid hfr
              clear hfr
              go_wp2_with fail
              refine (sw_any HS6'.out HS6.out (by rw [Hl1.out]; omega) (by rw [Hl2.out]; omega) true (by simpa using Hf.out)).mono ?_; rintro e w7 ⟨rfl, hg⟩
              have HQ7 : Hid (CRel w w7 m b m2 b2 c2 xs ys T) := hid ⟨HQ6.out.first.kept0 hg, HQ6.out.second.kept0 hg, HQ6.out.three, grown_trans HQ6.out.grown hg⟩
              have HO7 := hid (own_kept0 HO6.out hg)
              clear hg
              go_wp2
              go_roundw
              case rel => exact ⟨q + 1, by omega, by go_num, HQ7, hid ⟨by rw [diffs_no (by unfold diffB; rw [Hf.out]; simp [hlq])]; exact HO7.out, HQ7.out.grown⟩⟩
              case measure => simp [intOf]; omega
            · have Hf := hid hfr
              clear hfr
              go_wp2_with fail
              refine (sw_any HS6'.out HS6.out (by rw [Hl1.out]; omega) (by rw [Hl2.out]; omega) false (by simpa using Hf.out)).mono ?_; rintro e w7 ⟨rfl, hg⟩
              have HQ7 : Hid (CRel w w7 m b m2 b2 c2 xs ys T) := hid ⟨HQ6.out.first.kept0 hg, HQ6.out.second.kept0 hg, HQ6.out.three, grown_trans HQ6.out.grown hg⟩
              have HO7 := hid (own_kept0 (own_kept0 HO6.out hg) (World.grownBy_alloc w7 (.cells #[.int .i64 q] 3) none))
              have Hlen := hid (diffs_length 10 10 xs ys q)
              have Hnew := hid (one_new w7 (.int .i64 q) 3)
              have H63 : Hid ((diffs 10 10 xs ys q).length + 1 ≤ maxLen) := hid (by have := Hlen.out; unfold maxLen; omega)
              have Hby : Hid (((diffs 10 10 xs ys q).length + 1) * 8 ≤ 140737488355328) := hid (by have := Hlen.out; omega)
              have Hba : Hid (w.heap.size ≤ (w7.alloc (.cells #[.int .i64 q] 3)).heap.size) := hid (by have := HQ7.out.grown.size; simp; omega)
              have HQ7' : Hid (CRel w (w7.alloc (.cells #[.int .i64 q] 3)) m b m2 b2 c2 xs ys T) := hid ⟨HQ7.out.first.kept0 (World.grownBy_alloc _ _ _), HQ7.out.second.kept0 (World.grownBy_alloc _ _ _), HQ7.out.three, grown_alloc HQ7.out.grown _⟩
              clear hg
              go_wp2_with (refine wpList_append_own _ rfl _ _ 22 rfl w.heap.size 3 iT _ 1 8 Tryd.underlying22 Hi.out Hz0.out Hz1.out Hz2.out rfl (by decide) _ _ _ rfl HO7.out ⟨w7.heap.size, 0, none⟩ 1 1 [.int .i64 q] rfl rfl Hnew.out (by simp [Value.oneCell']) H63.out Hby.out Hba.out ?_; intro v' w8 hown8 hgrow8 _; have HO8 := hid hown8; have HG8 := hid hgrow8; clear hown8 hgrow8)
              have HQ8 : Hid (CRel w w8 m b m2 b2 c2 xs ys T) := hid ⟨HQ7'.out.first.kept HG8.out (own_ne_mem HO7.out HQ7'.out.first).1 (own_ne_mem HO7.out HQ7'.out.first).2, HQ7'.out.second.kept HG8.out (own_ne_mem HO7.out HQ7'.out.second).1 (own_ne_mem HO7.out HQ7'.out.second).2, HQ7'.out.three, grown_new' (grown_trans (grown_none HQ7'.out.grown) HG8.out) (fun g hg => (HO7.out.lt g hg).1)⟩
              go_roundw
              case rel => exact ⟨q + 1, by omega, by go_num, HQ8, hid ⟨by rw [diffs_yes (by unfold diffB; simp [Hf.out])]; exact own_append HO8.out, HQ8.out.grown⟩⟩
              case measure => simp [intOf]; omega
          · have hge : 10 ≤ (q : Int) := by omega
            obtain rfl : q = 10 := by omega
            have HS := hid (SlAt.own HD.out.own)
            have h3 : ys[3]? = some 5 ∨ (ys[3]? = some T ∧ T ≠ 5) := by
              rcases HQ.out.three with h | h
              · exact .inl h
              · by_cases e : T = 5
                · rw [e] at h; exact .inl h
                · exact .inr ⟨h, e⟩
            rcases h3 with h3 | ⟨h3, h5⟩
            · have H3 := hid h3
              clear h3
              go_wp2_with fail
              refine (read_of HQ.out.second _ 3 5 (by rfl) H3.out).mono ?_; rintro e w' ⟨rfl, rfl⟩
              go_wp2_with fail
              refine (differ_any HQ.out.first HQ.out.second).mono ?_; rintro e w5 ⟨v5, rfl, hs5, hg⟩
              rw [Nat.max_self] at hs5
              have HQ5 : Hid (CRel w w5 m b m2 b2 c2 xs ys T) := hid ⟨HQ.out.first.kept0 hg, HQ.out.second.kept0 hg, HQ.out.three, grown_trans HQ.out.grown hg⟩
              have HS5 := hid (HS.out.kept0 hg)
              have HD5 := hid hs5
              clear hs5 hg
              go_wp2_with fail
              refine (si_any HD5.out HS5.out (by have := diffs_length 10 10 xs ys 10; omega) (by have := diffs_length 10 10 xs ys 10; omega) true (by simp)).mono ?_; rintro e w6 ⟨rfl, hg⟩
              have HQ6 : Hid (CRel w w6 m b m2 b2 c2 xs ys T) := hid ⟨HQ5.out.first.kept0 hg, HQ5.out.second.kept0 hg, HQ5.out.three, grown_trans HQ5.out.grown hg⟩
              have HS6 := hid (HS5.out.kept0 hg)
              clear hg
              go_wp2_with fail
              refine (differ_any HQ6.out.second HQ6.out.first).mono ?_; rintro e w7 ⟨v7, rfl, hs7, hg⟩
              rw [Nat.max_self, diffs_symm] at hs7
              have HG7 := hid (grown_trans HQ6.out.grown hg)
              have HS7 := hid (HS6.out.kept0 hg)
              have HD7 := hid hs7
              clear hs7 hg
              go_wp2_with fail
              refine (si_any HD7.out HS7.out (by have := diffs_length 10 10 xs ys 10; omega) (by have := diffs_length 10 10 xs ys 10; omega) true (by simp)).mono ?_; rintro e w8 ⟨rfl, hg⟩
              have HG8 := hid (grown_trans HG7.out hg)
              clear hg
              go_wp2
              go_ret
              exact ⟨rfl, grown_below HG8.out⟩
            · have H3 := hid h3
              have h55 : (T == 5) = false := by simpa using h5
              clear h3 h5
              go_wp2_with fail
              refine (read_of HQ.out.second _ 3 T (by rfl) H3.out).mono ?_; rintro e w' ⟨rfl, rfl⟩
              go_wp2_with fail
              refine (differ_any HQ.out.first HQ.out.second).mono ?_; rintro e w5 ⟨v5, rfl, hs5, hg⟩
              rw [Nat.max_self] at hs5
              have HQ5 : Hid (CRel w w5 m b m2 b2 c2 xs ys T) := hid ⟨HQ.out.first.kept0 hg, HQ.out.second.kept0 hg, HQ.out.three, grown_trans HQ.out.grown hg⟩
              have HS5 := hid (HS.out.kept0 hg)
              have HD5 := hid hs5
              clear hs5 hg
              go_wp2_with fail
              refine (si_any HD5.out HS5.out (by have := diffs_length 10 10 xs ys 10; omega) (by have := diffs_length 10 10 xs ys 10; omega) true (by simp)).mono ?_; rintro e w6 ⟨rfl, hg⟩
              have HQ6 : Hid (CRel w w6 m b m2 b2 c2 xs ys T) := hid ⟨HQ5.out.first.kept0 hg, HQ5.out.second.kept0 hg, HQ5.out.three, grown_trans HQ5.out.grown hg⟩
              have HS6 := hid (HS5.out.kept0 hg)
              clear hg
              go_wp2_with fail
              refine (differ_any HQ6.out.second HQ6.out.first).mono ?_; rintro e w7 ⟨v7, rfl, hs7, hg⟩
              rw [Nat.max_self, diffs_symm] at hs7
              have HG7 := hid (grown_trans HQ6.out.grown hg)
              have HS7 := hid (HS6.out.kept0 hg)
              have HD7 := hid hs7
              clear hs7 hg
              go_wp2_with fail
              refine (si_any HD7.out HS7.out (by have := diffs_length 10 10 xs ys 10; omega) (by have := diffs_length 10 10 xs ys 10; omega) true (by simp)).mono ?_; rintro e w8 ⟨rfl, hg⟩
              have HG8 := hid (grown_trans HG7.out hg)
              clear hg
              go_wp2
              go_ret
              exact ⟨rfl, grown_below HG8.out⟩
  · have hl2 : ¬ (ls.length : Int) ≤ 20 := by omega
    go_enter Tryd.func3, Tryd.ntmps3
    go_wp2_with fail
    refine (first_any _).mono ?_; rintro e w1 ⟨rfl, hg⟩
    have HG1 := hid hg; clear hg
    go_wp2
    go_ret
    exact ⟨rfl, grown_below HG1.out⟩
end Go.Proofs.YtepgnnnkhjnbjaaDoor

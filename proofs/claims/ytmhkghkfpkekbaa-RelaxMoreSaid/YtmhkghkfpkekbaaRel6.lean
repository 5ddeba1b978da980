/- Package relax: Do: contracts. -/
import Derived.Test.YtmhkghkfpkekbaaRel5
namespace Go.Proofs.Ytmhkghkfpkekbaa
open Go.RowKit
/-- these made long -/
def stR (B : List Bool) : List Int → List Bool
  | [] => B
  | x :: l => stR (B.set x.toNat true) l
theorem stR_length : ∀ (l : List Int) (B : List Bool), (stR B l).length = B.length
  | [], _ => rfl
  | x :: l, B => by rw [stR, stR_length l, List.length_set]
theorem stR_snoc : ∀ (l : List Int) (B : List Bool) (x : Int), stR B (l ++ [x]) = (stR B l).set x.toNat true
  | [], _, _ => rfl
  | y :: l, B, x => by rw [List.cons_append, stR, stR, stR_snoc l]
theorem stR_get : ∀ (l : List Int) (B : List Bool) (k : Nat), k < B.length → (∀ x ∈ l, 0 ≤ x) → (stR B l).getD k false = (B.getD k false || decide ((k : Int) ∈ l))
  | [], B, k, _, _ => by simp [stR]
  | x :: l, B, k, hk, hl => by
    rw [stR, stR_get l _ k (by rw [List.length_set]; exact hk) (fun y hy => hl y (List.mem_cons_of_mem _ hy))]
    have hx := hl x (List.mem_cons_self ..)
    obtain ⟨m, rfl⟩ := Int.eq_ofNat_of_zero_le hx
    by_cases e : k = m
    · subst e
      simp [List.getD_eq_getElem?_getD, hk]
    · have e2 : ¬ ((k : Int) = (m : Int)) := by omega
      simp [List.getD_eq_getElem?_getD, Ne.symm e, e2]
theorem stR_next {L : List RIt} {B : List Bool} (hB : B.length = L.length) : stR B (farR L B L.length) = nextR L B := by
  apply List.ext_getElem?
  intro k
  by_cases hk : k < L.length
  · have h1 := stR_get (farR L B L.length) B k (by omega) (fun x hx => by obtain ⟨j, _, rfl, _⟩ := farR_mem.1 hx; omega)
    have h2 := nextR_getD hk (B := B)
    have h3 : decide ((k : Int) ∈ farR L B L.length) = tooB L B k := by
      cases e : tooB L B k with
      | true => rw [decide_eq_true_eq]; exact farR_mem.2 ⟨k, hk, rfl, e⟩
      | false =>
        rw [decide_eq_false_iff_not]
        intro h
        obtain ⟨j, _, h5, h6⟩ := farR_mem.1 h
        obtain rfl : k = j := by omega
        rw [e] at h6; cases h6
    rw [h3, ← h2, List.getD_eq_getElem?_getD, List.getD_eq_getElem?_getD] at h1
    rw [List.getElem?_eq_getElem (by rw [stR_length]; omega), List.getElem?_eq_getElem (by rw [nextR_length]; exact hk)] at h1 ⊢
    simpa using h1
  · rw [List.getElem?_eq_none (by rw [stR_length]; omega), List.getElem?_eq_none (by rw [nextR_length]; omega)]
theorem info_boolR : ∃ i : TypeInfo, Try.prog.info? 4 = some i ∧ i.zero = some (.bool false) ∧ i.size = 1 ∧ i.bytes = 1 := info_parts (P := Try.prog) (e := 4) (z := .bool false) (size := 1) (bytes := 1) (by kernel_rfl)
structure DoW (W w : World) (g n : Nat) (B : List Bool) (fv : Value) (F : List Int) : Prop where
  gr : W.grownBy w none
  own : w.ownsRow W.heap.size 4 1 (.slice (some ⟨g, 0, none⟩) n n) n (B.map Value.bool)
  far : SlAt w .i64 fv F
  ne : fv.ownBlock ≠ some g
  ge : W.heap.size ≤ g
theorem DoW.bl {W w : World} {g n : Nat} {B : List Bool} {fv : Value} {F : List Int} (h : DoW W w g n B fv F) (hB : B.length = n) : BlAt w (.slice (some ⟨g, 0, none⟩) n n) B := by
  unfold BlAt; rw [hB]; exact CsAt.own h.own
theorem DoW.set {W w : World} {g n : Nat} {B : List Bool} {fv : Value} {F : List Int} (h : DoW W w g n B fv F) (k : Nat) : DoW W (w.setCell ⟨g, k, none⟩ (.bool true)) g n (B.set k true) fv F := by
  obtain ⟨h1, h2⟩ := h.own.stored k (.bool true)
  refine ⟨grown_new' (grown_trans (grown_none h.gr) h2) (fun j hj => by obtain rfl := Option.some.inj hj; exact h.ge), ?_, h.far.kept h2 (.inr h.ne), h.ne, h.ge⟩
  rw [List.map_set]
  exact h1
theorem DoW.next {W w w1 : World} {g n : Nat} {B : List Bool} {fv u : Value} {F F' : List Int} (h : DoW W w g n B fv F) (ho : w1.ownsRow w.heap.size 3 1 u F'.length (F'.map (Value.int .i64))) (hg : w.grownBy w1 none) : DoW W w1 g n B u F' := by
  refine ⟨grown_trans h.gr hg, h.own.kept hg (by simp [Value.ownBlock]), SlAt.own ho, fun e => ?_, h.ge⟩
  have h1 := (ho.lt g e).1
  have h2 := (h.own.lt g rfl).2
  omega
set_option maxRecDepth 100000 in
set_option maxHeartbeats 8000000 in
theorem do_yesR {W : World} {v : Value} {L : List RIt} {K : Nat} (h : RiAt W v L) (hv : validR L = true) (hK : RndR L K) :
    Calls Try.prog 10 #[v] W fun e w' => ∃ g, e = .returned (.tuple #[.slice (some ⟨g, 0, none⟩) L.length L.length, .int .i64 K, .bool true]) ∧ w'.ownsRow W.heap.size 4 1 (.slice (some ⟨g, 0, none⟩) L.length L.length) L.length ((itR L K).map Value.bool) ∧ W.grownBy w' none := by
  have hv2 := hv
  unfold validR at hv2
  rw [Bool.and_eq_true, decide_eq_true_eq] at hv2
  have hL := hv2.1
  have HO := hid hv2.2
  obtain ⟨p, c, hvv⟩ := h.len
  subst hvv
  have hmay := may_any h (by omega)
  rw [hv] at hmay
  have HMay := hid hmay
  have HA := hid h
  have HK := hid hK
  have HKb := hid (rnd_bound hK)
  obtain ⟨n, hn⟩ : ∃ n, L.length = n := ⟨_, rfl⟩
  have HNe := hid hn
  rw [hn] at hL HMay ⊢
  have n0 : (0 : Int) ≤ (n : Int) := by omega
  have n1 : (n : Int) ≤ 4096 := by omega
  have Hn1 := hid hL
  have HTf : Hid (∀ (w : World) (vb : Value) (B : List Bool), W.grownBy w none → BlAt w vb B → B.length = n → Calls Try.prog 22 #[.slice p n c, vb] w fun e w' => ∃ u, e = .returned u ∧ w'.ownsRow w.heap.size 3 1 u (farR L B n).length ((farR L B n).map (Value.int .i64)) ∧ w.grownBy w' none) := hid (fun w vb B hg hb hB => by
    have := tooFar_rel (HA.out.kept0 hg) hb (by rw [HNe.out]; exact hB) HO.out (by rw [HNe.out]; omega)
    rw [HNe.out] at this
    exact this)
  obtain ⟨i, hi, hz0, hz1, hz2⟩ := info_boolR
  have Hi := hid hi
  have Hz0 := hid hz0
  have Hz1 := hid hz1
  have Hz2 := hid hz2
  clear h hv hv2 hK hmay hL hn hi hz0 hz1 hz2
  go_enter Try.func10, Try.ntmps10
  go_wp2_with fail
  refine HMay.out.mono ?_
  rintro e w1 ⟨rfl, hg⟩
  have HG := hid hg
  clear hg HMay
  go_wp2_with (first
    | (refine wpList_make_full _ rfl _ _ 24 rfl W.heap.size 4 i _ 1 Try.underlying24 Hi.out Hz0.out Hz1.out .i64 .i64 _ _ n rfl rfl (by first | rfl | omega) (by first | rfl | omega) (by rw [Hz2.out]; have := Hn1.out; omega) (by have := Hn1.out; unfold maxLen; omega) HG.out.size ?_
       intro w3 hmk hgr
       rw [show (Value.bool false).cells = Array.replicate 1 (.bool false) from rfl, toList_madeZero _ _ 1 (by omega), Array.toList_replicate, Nat.mul_one] at hmk
       have HD : Hid (DoW W w3 w1.heap.size n (itR L 0) (.slice none 0 0) []) := hid ⟨grown_trans HG.out hgr, by
         unfold itR; rw [List.map_replicate, HNe.out]; exact hmk, .inl ⟨⟨_, _, rfl⟩, rfl⟩, by simp [Value.ownBlock], HG.out.size⟩
       clear hmk hgr)
    | fail)
  obtain ⟨g, hg⟩ : ∃ g, w1.heap.size = g := ⟨_, rfl⟩
  rw [hg] at HD ⊢
  clear hg HG
  refine (HTf.out _ _ _ HD.out.gr (HD.out.bl (by rw [itR_length, HNe.out])) (by rw [itR_length, HNe.out])).mono ?_
  rintro e w4 ⟨u, rfl, ho, hg⟩
  have HP := hid (HD.out.next ho hg)
  clear ho hg HD
  go_wp2
  go_loopw [6, 7] (fun r fv wr => ∃ j : Nat, j ≤ K ∧ r = .int .i64 j ∧ Hid (DoW W wr g n (itR L j) fv (farR L (itR L j) n))) (fun r _ _ => K - (intOf r).toNat)
  case atStart => exact ⟨0, Nat.zero_le _, rfl, HP⟩
  case round =>
    obtain ⟨j, hj, rfl, HR⟩ := hrel
    clear HP
    have j0 : (0 : Int) ≤ (j : Int) := by omega
    have j1 : (j : Int) ≤ 4096 := by have := HKb.out; have := HNe.out; omega
    obtain ⟨M, hM⟩ : ∃ M, (farR L (itR L j) n).length = M := ⟨_, rfl⟩
    obtain ⟨fp, fc, hfv⟩ := HR.out.far.len'
    subst hfv
    have HM := hid hM
    have HMb : Hid (M ≤ 4096) := hid (by have := farR_length (L := L) (B := itR L j) n; have := Hn1.out; omega)
    rw [hM] at HR ⊢
    by_cases hlt : j < K
    · have Hlt := hid hlt
      have hne := HK.out.2 j hlt
      have HMp : Hid (0 < M) := hid (by
        rw [HNe.out] at hne
        rw [← hM]
        exact List.length_pos_iff.2 hne)
      have M0 : (0 : Int) < (M : Int) := by have := HMp.out; omega
      have M1 : (M : Int) ≤ 4096 := by have := HMb.out; omega
      have HD0 : Hid (DoW W wr g n (stR (itR L j) ((farR L (itR L j) n).take 0)) (.slice fp M fc) (farR L (itR L j) n)) := hid HR.out
      clear hM hlt hne hj
      go_wp2
      go_loopw [27] (fun i w2 => ∃ m : Nat, m ≤ M ∧ i = .int .i64 m ∧ Hid (DoW W w2 g n (stR (itR L j) ((farR L (itR L j) n).take m)) (.slice fp M fc) (farR L (itR L j) n))) (fun i _ => M - (intOf i).toNat)
      case atStart => exact ⟨0, Nat.zero_le _, rfl, HD0⟩
      case round =>
        obtain ⟨m, hm, rfl, HI⟩ := hrel
        clear HD0 HR
        have m0 : (0 : Int) ≤ (m : Int) := by omega
        by_cases hml : m < M
        · have mM : (m : Int) < (M : Int) := by omega
          obtain ⟨x, hx⟩ : ∃ x, (farR L (itR L j) n)[m]? = some x := ⟨_, List.getElem?_eq_getElem (by have := HM.out; omega)⟩
          obtain ⟨k, hk, rfl, _⟩ := farR_mem.1 (List.mem_of_getElem? hx)
          obtain ⟨b, o, c', hvv, hb, hc⟩ := HI.out.far.at_ (by have := HM.out; have := HMp.out; omega)
          simp only [Value.slice.injEq] at hvv
          obtain ⟨rfl, -, -⟩ := hvv
          have ex := hc m _ hx
          have k0 : (0 : Int) ≤ (k : Int) := by omega
          have kn : (k : Int) < (n : Int) := by omega
          have HI2 := hid (HI.out.set k)
          obtain ⟨cc, ec⟩ : ∃ cc, _ = some (Value.bool cc) := ⟨_, (HI.out.own.cellAt k (by omega)).trans (by rw [List.getElem?_map, List.getElem?_eq_getElem (by rw [stR_length, itR_length, HNe.out]; exact hk), Option.map_some])⟩
          have fz := HI.out.own.frozenAt k
          have Hx := hid hx
          have Hml := hid hml
          clear hx hk hb hc hml HI hm
          go_wp2
          go_roundw
          case rel =>
            refine ⟨m + 1, Hml.out, by go_num, hid ?_⟩
            rw [List.take_add_one, Hx.out, Option.toList_some, stR_snoc, Int.toNat_natCast]
            exact HI2.out
          case measure => simp [intOf]; have := Hml.out; omega
        · obtain rfl : m = M := by omega
          have mM : ¬ ((m : Int) < (m : Int)) := by omega
          have HI2 := HI.out
          rw [List.take_of_length_le (by rw [HM.out]; exact Nat.le_refl _), show farR L (itR L j) n = farR L (itR L j) L.length by rw [HNe.out], stR_next (itR_length j)] at HI2
          have HI3 : Hid (DoW W _ g n (itR L (j + 1)) (.slice fp m fc) (farR L (itR L j) L.length)) := hid HI2
          clear HI2 HI hml hm
          go_wp2_with fail
          refine (HTf.out _ _ _ HI3.out.gr (HI3.out.bl (by rw [itR_length, HNe.out])) (by rw [itR_length, HNe.out])).mono ?_
          rintro e w4 ⟨u, rfl, ho, hg⟩
          have HP := hid (HI3.out.next ho hg)
          clear ho hg
          go_wp2
          go_roundw
          case rel => exact ⟨j + 1, Hlt.out, by go_num, HP⟩
          case measure => simp [intOf]; have := Hlt.out; omega
    · obtain rfl : j = K := by omega
      have h1 := HK.out.1
      rw [HNe.out] at h1
      rw [h1] at hM
      obtain rfl : M = 0 := by rw [← hM]; rfl
      clear hlt hM
      go_wp2
      refine bodyPost_ret (v := .tuple #[.slice (some ⟨g, 0, none⟩) n n, .int .i64 j, .bool true]) (by simp [results, Try.results10, go_sem]) rfl ?_
      exact ⟨g, rfl, HR.out.own, HR.out.gr⟩
set_option maxRecDepth 100000 in
theorem do_noR {W : World} {v : Value} {L : List RIt} (h : RiAt W v L) (hL : L.length ≤ 1000000) (hv : validR L = false) :
    Calls Try.prog 10 #[v] W fun e w' => e = .returned (.tuple #[.slice none 0 0, .int .i64 0, .bool false]) ∧ W.grownBy w' none := by
  have hmay := may_any h hL
  rw [hv] at hmay
  have HMay := hid hmay
  obtain ⟨p, c, hvv⟩ := h.len
  subst hvv
  clear h hmay hv
  go_enter Try.func10, Try.ntmps10
  go_wp2_with fail
  refine HMay.out.mono ?_
  rintro e w1 ⟨rfl, hg⟩
  have HG := hid hg
  clear hg
  go_wp2
  refine bodyPost_ret (v := .tuple #[.slice none 0 0, .int .i64 0, .bool false]) (by simp [results, Try.results10, go_sem]) rfl ?_
  exact ⟨rfl, HG.out⟩
end Go.Proofs.Ytmhkghkfpkekbaa

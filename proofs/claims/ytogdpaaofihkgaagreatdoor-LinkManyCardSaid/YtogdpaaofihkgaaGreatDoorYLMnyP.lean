/- LinkMany on plain data: many objects of plain instructions, a name each. -/
import Derived.Test.YtogdpaaofihkgaaGreatDoorYNmP
namespace Go.Proofs.YtogdpaaofihkgaaGreatDoor
def nmM (i : Nat) : ByteArray := if i = 0 then nmMainL else nmF i
theorem nmM_inj {i j : Nat} (hi : i < 100) (hj : j < 100) (h : nmM i = nmM j) : i = j := by
  unfold nmM at h
  split at h <;> split at h
  · omega
  · exact absurd h.symm (nmF_main j)
  · exact absurd h (nmF_main i)
  · exact nmF_inj hi hj h
theorem nmM_size (i : Nat) : 1 ≤ (nmM i).size ∧ (nmM i).size ≤ 4 := by
  unfold nmM
  split
  · decide
  · have : (nmF i).size = (dgt i).length + 1 := by simp [nmF, ByteArray.size]
    rw [this]
    unfold dgt
    split
    · simp
    · split <;> simp
def lsMn (w i : Nat) : List Lx := atL (nmM i) :: List.replicate (w + 1) (opL 1 0)
def obMn (w i : Nat) : PO := ⟨[], List.replicate (w + 1) 16777216, List.replicate (w + 1) 1, [], [], [⟨nmM i, 2, 0, true⟩]⟩
theorem nmM_ne (i : Nat) : nmM i ≠ ByteArray.empty := by
  intro h
  have := congrArg (fun b : ByteArray => b.data.size) h
  unfold nmM nmMainL nmF at this
  split at this <;> simp at this
theorem obMn_is (w i : Nat) : objX [] (lsMn w i) = obMn w i := by
  unfold objX lsMn
  rw [List.foldl_cons]
  have h0 : lxD (poX []) (atL (nmM i)) = ⟨[], [], [], [], [], [⟨nmM i, 2, 0, true⟩]⟩ := by
    have e1 : syIx [] (nmM i) = 0 := rfl
    have e2 : syS [] (nmM i) = [⟨nmM i, 3, 0, true⟩] := rfl
    unfold lxD atL poX
    rw [if_pos (nmM_ne i)]
    simp only [e1, e2]
    rfl
  rw [h0, lxs_ops _ rfl, show wordV 1 0 0 0 0 = 16777216 by kernel_rfl]
  simp [obMn]
theorem obMn_len (w i : Nat) : (obMn w i).C.length = w + 1 := by simp [obMn]
theorem valMn {w i : Nat} (hw : w ≤ 1000) : validP (woC (obMn w i)) = none := by
  rw [woC_ones (w + 1) rfl]
  have hC := obMn_len w i
  have hM : ∀ j, j < w + 1 → mapN (obMn w i) j = 1 := by
    intro j hj
    unfold mapN obMn
    simp only
    rw [List.getD_eq_getElem?_getD, List.getElem?_replicate, if_pos hj]; rfl
  have hO : ∀ j, j < w + 1 → opN (obMn w i) j = 1 := by
    intro j hj
    unfold opN
    rw [if_pos (hM j hj)]
    unfold obMn
    simp only
    rw [List.getD_eq_getElem?_getD, List.getElem?_replicate, if_pos hj]
    exact opW_ends.2
  unfold validP
  rw [if_neg (by unfold manyB; rw [hC]; simp [obMn]; omega), if_neg (by rw [hC]; simp [obMn])]
  rw [scanF_none, scanF_none, scanF_none, scanF_none, scanF_none]
  · intro j hj
    rw [hC] at hj
    unfold unrF
    rw [hO j hj]; rfl
  · intro j hj
    exact absurd hj (by simp [obMn])
  · intro j hj
    exact absurd hj (by simp [obMn])
  · intro j hj
    obtain rfl : j = 0 := by have : (obMn w i).S.length = 1 := rfl; omega
    have hs : standsB (obMn w i) ⟨nmM i, 2, 0, true⟩ = true := by
      unfold standsB
      simp only [hC]
      rw [hM _ (by simp)]
      simp
    unfold symF
    rw [show symN (obMn w i) 0 = ⟨nmM i, 2, 0, true⟩ from rfl, hs]
    have ht : twiceB (obMn w i) 0 = false := rfl
    rw [ht]
    have := nmM_size i
    simp only
    rw [if_neg (by omega)]
    rfl
  · intro j hj
    rw [hC] at hj
    unfold wordF firstF
    rw [if_pos (hM j hj), hO j hj]; rfl
def xsMn (w n : Nat) : List PO := (List.range n).map (obMn w)
def mpMn (w n : Nat) : Mp := (List.range n).map fun i => (nmM i, ⟨2, (i * (w + 1) : Nat)⟩)
def jnMn (w n : Nat) : Jn := ⟨(List.range n).map (fun i => ⟨obMn w i, 0, i * (w + 1)⟩), 0, n * (w + 1), mpMn w n⟩
theorem mpMn_none (w : Nat) {j : Nat} (hj : j < 100) : ∀ n, n ≤ j → lkp (mpMn w n) (nmM j) = none := by
  intro n hn
  unfold lkp mpMn
  rw [List.find?_eq_none.2]
  · rfl
  · intro p hp
    obtain ⟨i, hi, rfl⟩ := List.mem_map.1 hp
    rw [List.mem_range] at hi
    simp only [decide_eq_true_eq]
    intro e
    have := nmM_inj (by omega) hj e
    omega
theorem jnRun_app : ∀ (xs ys : List PO) (J J' : Jn), jnRun xs J = (none, J') → jnRun (xs ++ ys) J = jnRun ys J'
  | [], ys, J, J', h => by cases h; rfl
  | x :: xs, ys, J, J', h => by
    cases ha : jnAdd J x with
    | inl f =>
      rw [jnRun_no ha] at h
      have := congrArg Prod.fst h
      have hne : f ≠ none := by
        intro e
        subst e
        unfold jnAdd at ha
        split at ha
        · cases ha
        · split at ha <;> cases ha
      cases f with
      | none => exact absurd rfl hne
      | some f => obtain ⟨c, p⟩ := f; cases this
    | inr J1 =>
      rw [jnRun_yes ha] at h
      rw [List.cons_append, jnRun_yes ha]
      exact jnRun_app xs ys J1 J' h
theorem addMn {w n : Nat} (hw : w ≤ 1000) (hn : n < 100) : jnAdd (jnMn w n) (obMn w n) = .inr (jnMn w (n + 1)) := by
  unfold jnAdd
  rw [valMn hw]
  simp only
  have hS : (obMn w n).S = [⟨nmM n, 2, 0, true⟩] := rfl
  have h1 : addS ⟨obMn w n, (jnMn w n).d, (jnMn w n).c⟩ (obMn w n).S (jnMn w n).M = some (mpMn w (n + 1)) := by
    rw [hS]
    unfold addS
    rw [show globB ⟨nmM n, 2, 0, true⟩ = true from rfl, if_neg (by decide), show (jnMn w n).M = mpMn w n from rfl, mpMn_none w hn n (Nat.le_refl _), if_neg (by decide)]
    unfold addS mpMn
    rw [List.range_succ, List.map_append]
    unfold ptSp
    simp [jnMn]
  rw [h1]
  simp only
  congr 1
  unfold jnMn
  simp only
  rw [List.range_succ, List.map_append, obMn_len, Nat.succ_mul, show (obMn w n).D.length = 0 from rfl]
  simp
theorem runMn {w : Nat} (hw : w ≤ 1000) : ∀ n, n ≤ 100 → jnRun (xsMn w n) jn0 = (none, jnMn w n)
  | 0, _ => by unfold xsMn jnMn mpMn jn0; simp [jnRun]
  | n + 1, hn => by
    have ih := runMn hw n (by omega)
    have e : xsMn w (n + 1) = xsMn w n ++ [obMn w n] := by unfold xsMn; rw [List.range_succ, List.map_append]; rfl
    rw [e, jnRun_app _ _ _ _ ih, jnRun_yes (addMn hw (by omega))]
    rfl
theorem joinMn {w n : Nat} (hw : w ≤ 1000) (h0 : 0 < n) (hn : n ≤ 16) : joinP (xsMn w n) = (none, jnMn w n) := by
  unfold joinP
  rw [if_neg (by simp [xsMn]; omega), runMn hw n (by omega)]
  simp only
  have h1 : (jnMn w n).ps.findIdx? (missB (jnMn w n).M) = none := by
    rw [List.findIdx?_eq_none_iff]
    intro p hp
    obtain ⟨i, _, rfl⟩ := List.mem_map.1 hp
    simp [missB, obMn]
  have h2 : (jnMn w n).ps.findIdx? (leadB (jnMn w n).M) = none := by
    rw [List.findIdx?_eq_none_iff]
    intro p hp
    obtain ⟨i, _, rfl⟩ := List.mem_map.1 hp
    simp [leadB, obMn]
  have h3 : (lkD (jnMn w n).M nmMainL).i = 2 := by
    obtain ⟨m, rfl⟩ : ∃ m, n = m + 1 := ⟨n - 1, by omega⟩
    have : (jnMn w (m + 1)).M = (nmM 0, ⟨2, ((0 * (w + 1) : Nat) : Int)⟩) :: (List.range m).map (fun i => (nmM (i + 1), ⟨2, ((i + 1) * (w + 1) : Nat)⟩)) := by
      show mpMn w (m + 1) = _
      unfold mpMn
      rw [List.range_succ_eq_map, List.map_cons, List.map_map]
      rfl
    rw [this]
    have h : lkp ((nmM 0, (⟨2, ((0 * (w + 1) : Nat) : Int)⟩ : Sp)) :: (List.range m).map (fun i => (nmM (i + 1), (⟨2, ((i + 1) * (w + 1) : Nat)⟩ : Sp)))) nmMainL = some ⟨2, ((0 * (w + 1) : Nat) : Int)⟩ := by
      rw [lkp_cons]; exact if_pos rfl
    rw [lkD_some h]
  rw [h1, h2]
  simp only
  rw [if_pos h3]
theorem joinMn_many {w n : Nat} (hn : 16 < n) : joinP (xsMn w n) = (some (3, none, none), jn0) := by
  unfold joinP
  rw [if_pos (by simp [xsMn]; omega)]
/-! ### all as one -/
theorem flat_rep {α : Type} (f : Nat → List α) (a : α) (k : Nat) (h : ∀ i, f i = List.replicate k a) : ∀ n, ((List.range n).map f).flatten = List.replicate (n * k) a
  | 0 => by simp
  | n + 1 => by rw [List.range_succ, List.map_append, List.flatten_append, flat_rep f a k h n]; simp [h, Nat.succ_mul]
theorem whMn (w n : Nat) : whP (jnMn w n) = ⟨[], List.replicate (n * (w + 1)) 16777216, List.replicate (n * (w + 1)) 1, [], []⟩ := by
  have hC := whP_C (jnMn w n)
  have hD := whP_D (jnMn w n)
  have hK := whP_K (jnMn w n)
  have hR := whP_R (jnMn w n)
  have hQ := whP_Q (jnMn w n)
  have hps : (jnMn w n).ps = (List.range n).map (fun i => (⟨obMn w i, 0, i * (w + 1)⟩ : Pt)) := rfl
  rw [hps, List.map_map] at hC hD hK hR hQ
  have hC := hC.trans (flat_rep (fun i => (obMn w i).C) 16777216 (w + 1) (fun i => rfl) n)
  have hK := hK.trans (flat_rep (fun i => (obMn w i).M) 1 (w + 1) (fun i => rfl) n)
  have hD := hD.trans (flat_rep (fun i => (obMn w i).D) 0 0 (fun i => rfl) n)
  have e : ∀ m, ((List.range m).map (fun _ : Nat => ([] : List Fx))).flatten = [] := by
    intro m
    induction m with
    | zero => rfl
    | succ m ih => rw [List.range_succ, List.map_append, List.flatten_append, ih]; rfl
  have hR' : (whP (jnMn w n)).R = [] := by rw [hR]; exact e n
  have hQ' : (whP (jnMn w n)).Q = [] := by rw [hQ]; exact e n
  rw [Nat.mul_zero] at hD
  cases hw : whP (jnMn w n) with
  | mk D C K R Q =>
    rw [hw] at hC hD hK hR' hQ'
    simp only at hC hD hK hR' hQ'
    subst hC hD hK hR' hQ'
    rfl
theorem itsMn (w n : Nat) : itsP (whP (jnMn w n)) = List.replicate (n * (w + 1)) ⟨1, 0, false⟩ := by
  rw [whMn]
  unfold itsP
  simp only [List.foldl_nil, List.length_replicate]
  exact itW_ones _ _ (Nat.le_refl _)
theorem tooMn (w n : Nat) : ∀ k, k < (itsP (whP (jnMn w n))).length → tooB (itsP (whP (jnMn w n))) (itR (itsP (whP (jnMn w n))) 0) k = false := by
  intro k _
  refine tooB_plain fun it h => ?_
  rw [itsMn] at h
  have := List.mem_of_getElem? h
  rw [List.mem_replicate] at this
  rw [this.2]
theorem rndMn {w n K : Nat} (h : RndR (itsP (whP (jnMn w n))) K) : K = 0 := rnd_zero h (tooMn w n)
theorem ldMn (w n : Nat) {j : Nat} (hj : j ≤ n * (w + 1)) : ldN (whP (jnMn w n)) (itR (itsP (whP (jnMn w n))) 0) j = (j : Int) := by
  have hone : ∀ i, i < n * (w + 1) → sR (itsP (whP (jnMn w n)))[i]? = 1 := by
    intro i hi
    rw [itsMn, List.getElem?_replicate, if_pos hi]; rfl
  have hb : ∀ i, i < n * (w + 1) → (itR (itsP (whP (jnMn w n))) 0).getD i false = false := by
    intro i hi
    show (List.replicate (itsP (whP (jnMn w n))).length false).getD i false = false
    rw [List.getD_eq_getElem?_getD, List.getElem?_replicate]
    split <;> rfl
  have hp := plR_ones hone hb j hj
  have hC : (whP (jnMn w n)).C.length = n * (w + 1) := by rw [whMn]; simp
  have hK : (whP (jnMn w n)).K = List.replicate (n * (w + 1)) 1 := by rw [whMn]
  have hl : (itsP (whP (jnMn w n))).length = n * (w + 1) := by rw [itsMn]; simp
  unfold ldN
  rw [hC]
  by_cases e : j < n * (w + 1)
  · rw [if_pos e, hK, itOf_ones _ j e, hp, if_neg (by rw [List.getD_eq_getElem?_getD, List.getElem?_replicate, if_pos e]; decide)]
    simp
  · obtain rfl : j = n * (w + 1) := by omega
    rw [if_neg e, hl, hp]
theorem lngMn {w n : Nat} (h : n * (w + 1) ≤ 4096) : lngB (whP (jnMn w n)) 0 = decide (2048 < n * (w + 1)) := by
  have hv : validR (itsP (whP (jnMn w n))) = true := by
    rw [itsMn]
    unfold validR okR
    simp only [List.length_replicate, Bool.and_eq_true, decide_eq_true_eq, List.all_eq_true]
    refine ⟨h, fun it hit => ?_⟩
    rw [(List.mem_replicate.1 hit).2]
    unfold okRI
    simp
  have hC : (whP (jnMn w n)).C.length = n * (w + 1) := by rw [whMn]; simp
  have hD : (whP (jnMn w n)).D.length = 0 := by rw [whMn]; rfl
  unfold lngB
  rw [hv, hC, hD, ldMn w n (Nat.le_refl _)]
  clear hv hC hD
  generalize n * (w + 1) = T at h ⊢
  by_cases e : 2048 < T
  · rw [decide_eq_true e]; simp; omega
  · rw [decide_eq_false e]; simp; omega
theorem imS_ones {W : Wh} {l : Nat → Int} : ∀ m, (∀ k, k < m → W.K.getD k 0 = 1) → (imS W l m).length = m
  | 0, _ => rfl
  | m + 1, h => by
    unfold imS
    rw [if_pos (h m (by omega)), List.length_append, imS_ones m (fun k hk => h k (by omega))]; rfl
theorem imgMn (w n : Nat) : (imgP (jnMn w n) 0).C.length = n * (w + 1) ∧ (imgP (jnMn w n) 0).st.length = n * (w + 1) := by
  have hC : (whP (jnMn w n)).C.length = n * (w + 1) := by rw [whMn]; simp
  have hK : (whP (jnMn w n)).K = List.replicate (n * (w + 1)) 1 := by rw [whMn]
  have hQ : (whP (jnMn w n)).Q = [] := by rw [whMn]
  have hl : plcP (jnMn w n) 0 (whP (jnMn w n)).C.length = ((n * (w + 1) : Nat) : Int) := by
    rw [hC]; exact ldMn w n (Nat.le_refl _)
  unfold imgP
  rw [imP_is, hQ]
  refine ⟨?_, ?_⟩
  · show (imC (whP (jnMn w n)) (plcP (jnMn w n) 0) (whP (jnMn w n)).C.length).length = _
    rw [imC_length, hl]; exact Int.toNat_natCast _
  · show (imS (whP (jnMn w n)) (plcP (jnMn w n) 0) (whP (jnMn w n)).C.length).length = _
    rw [hC]
    refine imS_ones _ (fun k hk => ?_)
    rw [hK, List.getD_eq_getElem?_getD, List.getElem?_replicate, if_pos hk]; rfl
theorem obMn_b {w i : Nat} (hw : w ≤ 1000) : ObB (obMn w i) := by
  refine ⟨⟨?_, ?_, ?_, ?_⟩, ?_, ?_⟩
  · intro y hy; cases hy
  · intro y hy
    have := (List.mem_replicate.1 hy).2
    subst this; omega
  · intro y hy
    have := (List.mem_replicate.1 hy).2
    subst this; omega
  · unfold maxLen; simp [obMn]; omega
  · simp [obMn]; omega
  · intro r hr; cases hr
end Go.Proofs.YtogdpaaofihkgaaGreatDoor

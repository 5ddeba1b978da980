/- LinkFar on plain data: a branch over many plain instructions. -/
import Derived.Test.YteanjchbnaoopaaDoorYLnkN
import Derived.Test.YteanjchbnaoopaaDoorYLnkX
namespace Go.Proofs.YteanjchbnaoopaaDoor
def nmEndL : ByteArray := ⟨#[101, 110, 100]⟩
def toL (o a : Int) (n : ByteArray) : Lx := ⟨o, a, 0, 0, 0, ByteArray.empty, n, false⟩
def brO (k : Nat) : Int := 16 + k
def brA (k : Nat) : Int := if k = 0 then 0 else 4
def lsFar (n k : Nat) : List Lx := [atL nmMainL, toL (brO k) (brA k) nmEndL] ++ List.replicate n (opL 1 0) ++ [atL nmEndL, opL 32 1]
def brW (k : Nat) : Int := brO k * 16777216 + brA k * 65536
def obFar (n k : Nat) : PO := ⟨[], brW k :: (List.replicate n 16777216 ++ [536936448]), List.replicate (n + 2) 1, [], [⟨0, 2, 1, 0⟩], [⟨nmMainL, 2, 0, true⟩, ⟨nmEndL, 2, (n : Int) + 1, true⟩]⟩
theorem obFar_is (n k : Nat) (hk : k < 3) : objX [] (lsFar n k) = obFar n k := by
  unfold objX lsFar
  rw [List.foldl_append, List.foldl_append]
  have h0 : [atL nmMainL, toL (brO k) (brA k) nmEndL].foldl lxD (poX []) = ⟨[], [brW k], [1], [], [⟨0, 2, 1, 0⟩], [⟨nmMainL, 2, 0, true⟩, ⟨nmEndL, 3, 0, true⟩]⟩ := by
    obtain rfl | rfl | rfl : k = 0 ∨ k = 1 ∨ k = 2 := by omega
    all_goals kernel_rfl
  rw [h0, lxs_ops _ rfl]
  have h1 : ∀ C M, lxD ⟨[], C, M, [], [⟨0, 2, 1, 0⟩], [⟨nmMainL, 2, 0, true⟩, ⟨nmEndL, 3, 0, true⟩]⟩ (atL nmEndL) = ⟨[], C, M, [], [⟨0, 2, 1, 0⟩], [⟨nmMainL, 2, 0, true⟩, ⟨nmEndL, 2, C.length, true⟩]⟩ := by
    intro C M
    kernel_rfl
  simp only [List.foldl_cons, List.foldl_nil]
  rw [h1, lxD_op _ rfl]
  have hw : wordV 1 0 0 0 0 = 16777216 := by kernel_rfl
  have hw2 : wordV 32 1 0 0 0 = 536936448 := by kernel_rfl
  unfold obFar
  rw [hw, hw2]
  have hm : [1] ++ List.replicate n 1 ++ [1] = List.replicate (n + 2) (1 : Int) := by
    rw [List.singleton_append, ← List.replicate_succ, ← List.replicate_succ']
  rw [hm]
  simp
def jnFar (n k : Nat) : Jn := ⟨[⟨obFar n k, 0, 0⟩], 0, n + 2, [(nmMainL, ⟨2, 0⟩), (nmEndL, ⟨2, (n : Int) + 1⟩)]⟩
theorem woC_ones {x : PO} (n : Nat) (h : x.M = List.replicate n 1) : woC x = x := by
  have hc : ∀ k, calB x k = false := by
    intro k
    unfold calB
    by_cases hk : k + 1 < min x.C.length x.M.length
    · have : x.M.getD (k + 1) 0 = 1 := by
        rw [h] at hk ⊢
        rw [List.length_replicate] at hk
        rw [List.getD_eq_getElem?_getD, List.getElem?_replicate, if_pos (by omega)]; rfl
      rw [this]; simp
    · simp [hk]
  have h1 : woCn x x.C.length = x.C := by
    unfold woCn
    apply List.ext_getElem?
    intro k
    by_cases hk : k < x.C.length
    · simp [hk, woW, hc]
    · simp [hk]
  have h2 : woQn x x.Q.length = x.Q := by
    unfold woQn
    have : ∀ r, woQ x r = r := by
      intro r
      unfold woQ calI
      simp [hc]
    rw [List.take_length, List.drop_length, List.append_nil]
    conv => rhs; rw [← List.map_id x.Q]
    exact List.map_congr_left fun r _ => this r
  unfold woC
  rw [h1, h2]
theorem opW_br {k : Nat} (hk : k < 3) : opW (brW k) = brO k := by
  obtain rfl | rfl | rfl : k = 0 ∨ k = 1 ∨ k = 2 := by omega
  all_goals decide
theorem opW_ends : opW 536936448 = 32 ∧ opW 16777216 = 1 := by decide
theorem opFar {n k j : Nat} (hk : k < 3) (hj : j < n + 2) : opN (obFar n k) j = if j = 0 then brO k else if j = n + 1 then 32 else 1 := by
  have hm : mapN (obFar n k) j = 1 := by
    unfold mapN obFar
    simp only
    rw [List.getD_eq_getElem?_getD, List.getElem?_replicate, if_pos hj]; rfl
  unfold opN
  rw [if_pos hm]
  unfold obFar
  simp only
  cases j with
  | zero =>
    rw [if_pos rfl]
    exact opW_br hk
  | succ j =>
    rw [if_neg (by omega), List.getD_cons_succ, List.getD_eq_getElem?_getD]
    by_cases e : j = n
    · subst e
      rw [if_pos rfl, List.getElem?_append_right (by simp)]
      simp only [List.length_replicate, Nat.sub_self, List.getElem?_cons_zero, Option.getD_some]
      exact opW_ends.1
    · rw [if_neg (by omega), List.getElem?_append_left (by simp; omega), List.getElem?_replicate, if_pos (by omega)]
      exact opW_ends.2
theorem valFar {n k : Nat} (hn : n < 160) (hk : k < 3) : validP (woC (obFar n k)) = none := by
  rw [woC_ones (n + 2) rfl]
  have hC : (obFar n k).C.length = n + 2 := by simp [obFar]
  have hM : ∀ j, j < n + 2 → mapN (obFar n k) j = 1 := by
    intro j hj
    unfold mapN obFar
    simp only
    rw [List.getD_eq_getElem?_getD, List.getElem?_replicate, if_pos hj]; rfl
  have hb : brO k = 16 ∨ brO k = 17 ∨ brO k = 18 := by unfold brO; omega
  unfold validP
  rw [if_neg (by unfold manyB; rw [hC]; simp [obFar]; omega), if_neg (by rw [hC]; simp [obFar])]
  rw [scanF_none, scanF_none, scanF_none, scanF_none, scanF_none]
  · intro j hj
    rw [hC] at hj
    unfold unrF
    rw [opFar hk hj]
    by_cases e : j = 0
    · subst e
      rcases hb with h | h | h
      all_goals rw [if_pos rfl, h]; kernel_rfl
    · rw [if_neg e]
      by_cases e2 : j = n + 1
      · rw [if_pos e2]; rfl
      · rw [if_neg e2]; rfl
  · intro j hj
    obtain rfl : j = 0 := by have : (obFar n k).Q.length = 1 := rfl; omega
    have h0 := opFar (n := n) hk (j := 0) (by omega)
    rw [if_pos rfl] at h0
    unfold codeF
    have hi : inB (obFar n k) (obFar n k).Q 0 ((obFar n k).C.length : Int) = true := by
      rw [hC]; unfold inB; simp [rlN, obFar]; omega
    have hr : rlN (obFar n k).Q 0 = ⟨0, 2, 1, 0⟩ := rfl
    rw [hi, hr]
    have hp : repB (obFar n k) ⟨0, 2, 1, 0⟩ = true := by
      unfold repB
      rw [if_pos rfl, show (0 : Int).toNat = 0 from rfl, h0]
      rcases hb with h | h | h <;> rw [h] <;> rfl
    rw [hp]
    rfl
  · intro j hj
    exact absurd hj (by simp [obFar])
  · intro j hj
    have : (obFar n k).S.length = 2 := rfl
    have hs : standsB (obFar n k) ⟨nmMainL, 2, 0, true⟩ = true ∧ standsB (obFar n k) ⟨nmEndL, 2, (n : Int) + 1, true⟩ = true := by
      unfold standsB
      simp only [hC]
      rw [hM _ (by simp), hM _ (by omega)]
      constructor <;> simp <;> omega
    unfold symF
    obtain rfl | rfl : j = 0 ∨ j = 1 := by omega
    · rw [show symN (obFar n k) 0 = ⟨nmMainL, 2, 0, true⟩ from rfl, hs.1]; rfl
    · rw [show symN (obFar n k) 1 = ⟨nmEndL, 2, (n : Int) + 1, true⟩ from rfl, hs.2]
      have ht : twiceB (obFar n k) 1 = false := by kernel_rfl
      rw [ht]
      rfl
  · intro j hj
    rw [hC] at hj
    unfold wordF firstF
    rw [if_pos (hM j hj), opFar hk hj]
    by_cases e : j = 0
    · subst e
      rcases hb with h | h | h
      all_goals rw [if_pos rfl, h]; rfl
    · rw [if_neg e]
      by_cases e2 : j = n + 1
      · rw [if_pos e2]; rfl
      · rw [if_neg e2]; rfl
theorem jnFar_is {n k : Nat} (hn : n < 160) (hk : k < 3) : joinP [obFar n k] = (none, jnFar n k) := by
  have hC : (obFar n k).C.length = n + 2 := by simp [obFar]
  have hM : addS ⟨obFar n k, 0, 0⟩ (obFar n k).S [] = some [(nmMainL, ⟨2, 0⟩), (nmEndL, ⟨2, (n : Int) + 1⟩)] := by
    have h1 : (lkp [(nmMainL, (⟨2, 0⟩ : Sp))] nmEndL).isSome = false := by kernel_rfl
    have hp0 : ptSp ⟨obFar n k, 0, 0⟩ ⟨nmMainL, 2, 0, true⟩ = ⟨2, 0⟩ := by unfold ptSp; simp
    have hp1 : ptSp ⟨obFar n k, 0, 0⟩ ⟨nmEndL, 2, (n : Int) + 1, true⟩ = ⟨2, (n : Int) + 1⟩ := by unfold ptSp; simp
    show addS ⟨obFar n k, 0, 0⟩ [⟨nmMainL, 2, 0, true⟩, ⟨nmEndL, 2, (n : Int) + 1, true⟩] [] = _
    have g0 : globB ⟨nmMainL, 2, 0, true⟩ = true := rfl
    have g1 : globB ⟨nmEndL, 2, (n : Int) + 1, true⟩ = true := rfl
    unfold addS
    rw [g0, if_neg (by decide), if_neg (by decide), hp0]
    unfold addS
    rw [g1, if_neg (by decide), List.nil_append, h1, if_neg (by decide), hp1]
    rfl
  have hA : jnAdd jn0 (obFar n k) = .inr (jnFar n k) := by
    unfold jnAdd
    rw [valFar hn hk]
    have hM' : addS ⟨obFar n k, jn0.d, jn0.c⟩ (obFar n k).S jn0.M = some [(nmMainL, ⟨2, 0⟩), (nmEndL, ⟨2, (n : Int) + 1⟩)] := hM
    simp only
    rw [hM']
    show Sum.inr _ = _
    rw [hC, show jn0.c + (n + 2) = n + 2 from Nat.zero_add _]
    rfl
  have hR : jnRun [obFar n k] jn0 = (none, jnFar n k) := by
    unfold jnRun
    rw [hA]
    rfl
  unfold joinP
  rw [if_neg (by simp), hR]
  have h1 : missB (jnFar n k).M ⟨obFar n k, 0, 0⟩ = false := by kernel_rfl
  have h2 : leadB (jnFar n k).M ⟨obFar n k, 0, 0⟩ = false := by kernel_rfl
  have hp : (jnFar n k).ps = [⟨obFar n k, 0, 0⟩] := rfl
  have h3 : (lkD (jnFar n k).M nmMainL).i = 2 := by kernel_rfl
  simp only [hp, List.findIdx?_cons, h1, h2, List.findIdx?_nil, Bool.false_eq_true, if_false, Option.map_none, h3, if_true]
def itsFar (n : Nat) : List RIt := ⟨1, (n : Int) + 1, true⟩ :: List.replicate (n + 1) ⟨1, 0, false⟩
theorem whFar (n k : Nat) : whP (jnFar n k) = ⟨[], (obFar n k).C, List.replicate (n + 2) 1, [], [fxOf (jnFar n k).M ⟨obFar n k, 0, 0⟩ 0 ⟨0, 2, 1, 0⟩]⟩ := rfl
theorem fxFar (n k : Nat) : fxOf (jnFar n k).M ⟨obFar n k, 0, 0⟩ 0 ⟨0, 2, 1, 0⟩ = ⟨0, 2, ⟨2, (n : Int) + 1⟩, 0⟩ := by
  have h : spOf (jnFar n k).M ⟨obFar n k, 0, 0⟩ ⟨nmEndL, 2, (n : Int) + 1, true⟩ = ⟨2, (n : Int) + 1⟩ := by
    unfold spOf ptSp
    simp
  show (⟨((0 : Nat) : Int) + 0, 2, spOf (jnFar n k).M ⟨obFar n k, 0, 0⟩ ⟨nmEndL, 2, (n : Int) + 1, true⟩, 0⟩ : Fx) = _
  rw [h]
  rfl
theorem itsFar_is (n k : Nat) : itsP (whP (jnFar n k)) = itsFar n := by
  have hC : (obFar n k).C.length = n + 2 := by simp [obFar]
  rw [whFar, fxFar]
  unfold itsP
  simp only [List.foldl_cons, List.foldl_nil]
  rw [hC, itW_ones _ _ (Nat.le_refl _)]
  unfold itBr
  rw [if_pos rfl]
  simp only
  rw [show ((n : Int) + 1).toNat = n + 1 by omega, show (0 : Int).toNat = 0 from rfl, itOf_ones _ 0 (by omega), itOf_ones _ (n + 1) (by omega), List.replicate_succ]
  unfold itsFar
  simp
theorem itsF_len (n : Nat) : (itsFar n).length = n + 2 := by simp [itsFar]
theorem itsF_one (n : Nat) : ∀ i, i < n + 2 → sR (itsFar n)[i]? = 1 := by
  intro i hi
  unfold itsFar
  cases i with
  | zero => rfl
  | succ i =>
    rw [List.getElem?_cons_succ, List.getElem?_replicate, if_pos (by omega)]
    rfl
theorem itsF_plain (n : Nat) (B : List Bool) : ∀ k, 0 < k → tooB (itsFar n) B k = false := by
  intro k hk
  refine tooB_plain fun it h => ?_
  unfold itsFar at h
  obtain ⟨j, rfl⟩ : ∃ j, k = j + 1 := ⟨k - 1, by omega⟩
  rw [List.getElem?_cons_succ] at h
  have := List.mem_of_getElem? h
  rw [List.mem_replicate] at this
  rw [this.2]
theorem itsF_pl0 (n : Nat) {j : Nat} (h : j ≤ n + 2) : plR (itsFar n) (itR (itsFar n) 0) j = (j : Int) :=
  plR_ones (itsF_one n) (fun i hi => by
    show (List.replicate (itsFar n).length false).getD i false = false
    rw [List.getD_eq_getElem?_getD, List.getElem?_replicate]
    split <;> rfl) j h
theorem itsF_too0 (n : Nat) : tooB (itsFar n) (itR (itsFar n) 0) 0 = decide (127 < n + 1) := by
  have h : (itsFar n)[0]? = some ⟨1, (n : Int) + 1, true⟩ := rfl
  have hb : (itR (itsFar n) 0).getD 0 false = false := by kernel_rfl
  unfold tooB
  simp only [h, hb]
  rw [show ((n : Int) + 1).toNat = n + 1 by omega, itsF_pl0 n (by omega), itsF_pl0 n (j := 0) (by omega)]
  unfold nearR
  by_cases e : 127 < n + 1
  · rw [decide_eq_true e]; simp; omega
  · rw [decide_eq_false e]; simp; omega
/-- near: no round; the branch stays as it is -/
theorem rndF_near {n K : Nat} (hn : n ≤ 126) (h : RndR (itsFar n) K) : K = 0 := rnd_zero h fun k _ => by
  by_cases e : k = 0
  · subst e; rw [itsF_too0]; simp; omega
  · exact itsF_plain n _ k (by omega)
theorem itF_one {n : Nat} (hn : 126 < n) : (itR (itsFar n) 1).getD 0 false = true ∧ ∀ i, 0 < i → i < n + 2 → (itR (itsFar n) 1).getD i false = false := by
  have h0 : ∀ i, (itR (itsFar n) 0).getD i false = false := by
    intro i
    show (List.replicate (itsFar n).length false).getD i false = false
    rw [List.getD_eq_getElem?_getD, List.getElem?_replicate]
    split <;> rfl
  constructor
  · show (nextR (itsFar n) (itR (itsFar n) 0)).getD 0 false = true
    rw [nextR_getD (by rw [itsF_len]; omega), h0, itsF_too0]
    simp; omega
  · intro i hi hi2
    show (nextR (itsFar n) (itR (itsFar n) 0)).getD i false = false
    rw [nextR_getD (by rw [itsF_len]; omega), h0, itsF_plain n _ i hi]
    rfl
theorem rndF_far {n K : Nat} (hn : 126 < n) (h : RndR (itsFar n) K) : K = 1 := rnd_one h (j := 0) (by rw [itsF_len]; omega) (by rw [itsF_too0]; simp; omega) fun k _ => by
  by_cases e : k = 0
  · subst e
    unfold tooB
    rw [show (itsFar n)[0]? = some ⟨1, (n : Int) + 1, true⟩ from rfl]
    simp only [(itF_one hn).1]
    rfl
  · exact itsF_plain n _ k (by omega)
theorem itsF_pl1 {n : Nat} (hn : 126 < n) {j : Nat} (h : j ≤ n + 2) : plR (itsFar n) (itR (itsFar n) 1) j = (j : Int) + (if 0 < j then 1 else 0) :=
  plR_long (itsF_one n) (itF_one hn).1 (fun i hi h0 => (itF_one hn).2 i (by omega) hi) j h
/-- where word j stands -/
theorem ldFar {n k : Nat} {L : List Bool} {j : Nat} (h : j ≤ n + 2) : ldN (whP (jnFar n k)) L j = plR (itsFar n) L j := by
  have hC : (whP (jnFar n k)).C.length = n + 2 := by rw [whFar]; simp [obFar]
  unfold ldN
  rw [itsFar_is, hC]
  by_cases e : j < n + 2
  · have hK : (whP (jnFar n k)).K = List.replicate (n + 2) 1 := rfl
    rw [if_pos e, hK, itOf_ones _ j e, if_neg (by rw [List.getD_eq_getElem?_getD, List.getElem?_replicate, if_pos e]; decide)]
    simp
  · obtain rfl : j = n + 2 := by omega
    rw [if_neg e, itsF_len]
theorem plcF_near {n k j : Nat} (h : j ≤ n + 2) : plcP (jnFar n k) 0 j = (j : Int) := by
  show ldN (whP (jnFar n k)) (itR (itsP (whP (jnFar n k))) 0) j = _
  rw [ldFar h, itsFar_is, itsF_pl0 n h]
theorem plcF_far {n k j : Nat} (hn : 126 < n) (h : j ≤ n + 2) : plcP (jnFar n k) 1 j = (j : Int) + (if 0 < j then 1 else 0) := by
  show ldN (whP (jnFar n k)) (itR (itsP (whP (jnFar n k))) 1) j = _
  rw [ldFar h, itsFar_is, itsF_pl1 hn h]
theorem whF_C (n k : Nat) : (whP (jnFar n k)).C = (obFar n k).C := rfl
theorem obF_len (n k : Nat) : (obFar n k).C.length = n + 2 := by simp [obFar]
theorem imgF_is (n k K : Nat) : imgP (jnFar n k) K = fxC (whP (jnFar n k)) (plcP (jnFar n k) K) ⟨adP (plcP (jnFar n k) K) (lkD (jnFar n k).M nmMainL), [], imC (whP (jnFar n k)) (plcP (jnFar n k) K) (whP (jnFar n k)).C.length, [], [], imS (whP (jnFar n k)) (plcP (jnFar n k) K) (whP (jnFar n k)).C.length⟩ ⟨0, 2, ⟨2, (n : Int) + 1⟩, 0⟩ := by
  have h := fxFar n k
  have hq : (whP (jnFar n k)).Q = [fxOf (jnFar n k).M ⟨obFar n k, 0, 0⟩ 0 ⟨0, 2, 1, 0⟩] := rfl
  show (whP (jnFar n k)).Q.foldl _ _ = _
  rw [hq, h]
  rfl
/-- near: the branch names its way -/
theorem imgF_near {n k : Nat} (h0 : 0 < n) : (imgP (jnFar n k) 0).C.length = n + 2 ∧ (imgP (jnFar n k) 0).C[0]? = some (brW k / 256 * 256 + ((n : Int) + 1) % 256) ∧ (imgP (jnFar n k) 0).C[1]? = some 16777216 ∧ (imgP (jnFar n k) 0).pl = [] := by
  have hl : LInc (plcP (jnFar n k) 0) (whP (jnFar n k)).C.length := ⟨by rw [plcF_near (by omega)]; exact Int.natCast_nonneg _, fun i j hij hj => by
    rw [whF_C, obF_len] at hj
    rw [plcF_near (by omega), plcF_near (by omega)]; omega⟩
  have hlen := imC_length (whP (jnFar n k)) (plcP (jnFar n k) 0) (n + 2)
  have hg := imC_get hl (n + 2) (by rw [whF_C, obF_len]; omega) 1 (by omega)
  rw [plcF_near (by omega)] at hg
  rw [whF_C, obF_len, plcF_near (by omega)] at hlen
  have hc1 : (whP (jnFar n k)).C.getD 1 0 = 16777216 := by
    obtain ⟨m, rfl⟩ : ∃ m, n = m + 1 := ⟨n - 1, by omega⟩
    rfl
  rw [hc1] at hg
  rw [imgF_is, whF_C, obF_len]
  unfold fxC
  rw [if_neg (by simp)]
  simp only
  rw [show (0 : Int).toNat = 0 from rfl, plcF_near (j := 0 + 1) (by omega), plcF_near (j := 0) (by omega), if_neg (by omega)]
  simp only
  rw [show ((n : Int) + 1).toNat = n + 1 by omega, plcF_near (j := n + 1) (by omega), show (((0 : Nat) : Int)).toNat = 0 from rfl]
  refine ⟨by rw [List.length_set, hlen]; omega, ?_, ?_, by first | rfl | trivial⟩
  · rw [List.getElem?_set_self (by rw [hlen]; omega)]
    have : (whP (jnFar n k)).C.getD 0 0 = brW k := rfl
    rw [this]
    rw [show ((n + 1 : Nat) : Int) - ((0 : Nat) : Int) = (n : Int) + 1 by omega]
  · rw [List.getElem?_set_ne (by omega)]
    exact hg
/-- far: the branch is a jump -/
theorem imgF_far {n k : Nat} (hn : 126 < n) (hn2 : n < 160) : (imgP (jnFar n k) 1).C.length = n + 3 ∧ (imgP (jnFar n k) 1).C[0]? = some (lgW (brW k)) ∧ (imgP (jnFar n k) 1).C[1]? = some (2048 + (n : Int) + 2) ∧ (imgP (jnFar n k) 1).pl = [1] := by
  have hlen := imC_length (whP (jnFar n k)) (plcP (jnFar n k) 1) (n + 2)
  rw [whF_C, obF_len, plcF_far hn (by omega), if_pos (by omega)] at hlen
  rw [imgF_is, whF_C, obF_len]
  unfold fxC
  rw [if_neg (by simp)]
  simp only
  rw [show (0 : Int).toNat = 0 from rfl, plcF_far hn (j := 0 + 1) (by omega), plcF_far hn (j := 0) (by omega), if_pos (by omega), if_neg (by omega), show (((0 : Nat) : Int) + 0).toNat = 0 from rfl]
  simp only
  unfold wdP adP
  rw [if_neg (by simp)]
  simp only
  rw [show ((n : Int) + 1).toNat = n + 1 by omega, plcF_far hn (j := n + 1) (by omega), if_pos (by omega)]
  rw [show 0 + 1 = 1 from rfl]
  refine ⟨by rw [List.length_set, List.length_set, hlen]; omega, ?_, ?_, by first | rfl | simp⟩
  · rw [List.getElem?_set_ne (by simp), List.getElem?_set_self (by rw [hlen]; simp; omega)]
    rfl
  · rw [List.getElem?_set_self (by rw [List.length_set, hlen]; simp; omega)]
    congr 1
    omega
theorem lngF_near {n k : Nat} (hn : n < 160) : lngB (whP (jnFar n k)) 0 = false := by
  unfold lngB
  rw [itsFar_is]
  have hv : validR (itsFar n) = true := by
    unfold validR okR itsFar
    simp [okRI]
    omega
  have hl := plcF_near (n := n) (k := k) (j := n + 2) (Nat.le_refl _)
  unfold plcP at hl
  rw [itsFar_is] at hl
  rw [hv, whF_C, obF_len, hl]
  have hD : (whP (jnFar n k)).D.length = 0 := rfl
  rw [hD]
  simp
  omega
theorem lngF_far {n k : Nat} (hn : 126 < n) (hn2 : n < 160) : lngB (whP (jnFar n k)) 1 = false := by
  unfold lngB
  rw [itsFar_is]
  have hv : validR (itsFar n) = true := by
    unfold validR okR itsFar
    simp [okRI]
    omega
  have hl := plcF_far (n := n) (k := k) (j := n + 2) hn (Nat.le_refl _)
  unfold plcP at hl
  rw [itsFar_is, if_pos (by omega)] at hl
  rw [hv, whF_C, obF_len, hl]
  have hD : (whP (jnFar n k)).D.length = 0 := rfl
  rw [hD]
  simp
  omega
/-- the words at the front, read -/
theorem wF_near {n k : Nat} (hk : k < 3) (hn : n < 127) {x : Int} (h : brW k / 256 * 256 + ((n : Int) + 1) % 256 = x) : (0 ≤ x ∧ x < 4294967296) ∧ x / 16777216 = brO k ∧ x / 65536 % 256 = brA k ∧ x % 256 = (n : Int) + 1 ∧ twoB (x / 16777216) = false ∧ ∀ imm, insB (x / 16777216) (x / 65536 % 256) (x / 256 % 256) (x % 256) (wantImm (x / 16777216) imm) = true := by
  have e1 : x / 16777216 = brO k := by subst h; unfold brW brO brA; split <;> omega
  have e2 : x / 65536 % 256 = brA k := by subst h; unfold brW brO brA; split <;> omega
  have e3 : x / 256 % 256 = 0 := by subst h; unfold brW brO brA; split <;> omega
  have e4 : x % 256 = (n : Int) + 1 := by subst h; unfold brW brO brA; split <;> omega
  have hb : 0 ≤ x ∧ x < 4294967296 := by subst h; unfold brW brO brA; split <;> omega
  have ht : twoB (x / 16777216) = false := by
    rw [e1]
    obtain rfl | rfl | rfl : k = 0 ∨ k = 1 ∨ k = 2 := by omega
    all_goals rfl
  refine ⟨hb, e1, e2, e4, ht, fun imm => ?_⟩
  rw [wantImm_no ht, e1, e2, e3, e4]
  obtain ⟨m, hm⟩ : ∃ m : Int, (n : Int) + 1 = m := ⟨_, rfl⟩
  rw [hm]
  have m0 : 0 ≤ m ∧ m ≤ 255 := by omega
  obtain rfl | rfl | rfl : k = 0 ∨ k = 1 ∨ k = 2 := by omega
  all_goals
    simp [insB, brO, brA, clsI, hasA, hasB, hasC, alwB, twoB]
    try omega
theorem wF_far : ∀ k, k < 3 → (0 ≤ lgW (brW k) ∧ lgW (brW k) < 4294967296) ∧ lgW (brW k) / 16777216 = 19 + k ∧ lgW (brW k) / 65536 % 256 = brA k ∧ twoB (lgW (brW k) / 16777216) = true := by
  intro k hk
  obtain rfl | rfl | rfl : k = 0 ∨ k = 1 ∨ k = 2 := by omega
  all_goals decide
theorem iF_far {k : Nat} (hk : k < 3) (imm : Int) : insB (lgW (brW k) / 16777216) (lgW (brW k) / 65536 % 256) (lgW (brW k) / 256 % 256) (lgW (brW k) % 256) (wantImm (lgW (brW k) / 16777216) imm) = true := by
  rw [wantImm_yes (wF_far k hk).2.2.2]
  have h : ∀ k, k < 3 → insB (lgW (brW k) / 16777216) (lgW (brW k) / 65536 % 256) (lgW (brW k) / 256 % 256) (lgW (brW k) % 256) 0 = true ∧ twoB (lgW (brW k) / 16777216) = true := by
    intro k hk
    obtain rfl | rfl | rfl : k = 0 ∨ k = 1 ∨ k = 2 := by omega
    all_goals decide
  obtain ⟨h1, h2⟩ := h k hk
  unfold insB at h1 ⊢
  rw [h2] at h1 ⊢
  simpa using h1
theorem obFar_b {n k : Nat} (hn : n < 160) (hk : k < 3) : ObB (obFar n k) := by
  have hw : 0 ≤ brW k ∧ brW k < 4294967296 := by unfold brW brO brA; split <;> omega
  refine ⟨⟨?_, ?_, ?_, ?_⟩, ?_, ?_⟩
  · intro y hy; cases hy
  · intro y hy
    unfold obFar at hy
    simp only [List.mem_cons, List.mem_append, List.mem_replicate, List.not_mem_nil, or_false] at hy
    rcases hy with rfl | ⟨_, rfl⟩ | rfl
    all_goals omega
  · intro y hy
    have := (List.mem_replicate.1 hy).2
    subst this
    omega
  · unfold maxLen; simp [obFar]; omega
  · simp [obFar]; omega
  · intro r hr
    obtain rfl := List.mem_singleton.1 hr
    exact ⟨by decide, by decide⟩
end Go.Proofs.YteanjchbnaoopaaDoor

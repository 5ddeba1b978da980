/- Code as items on plain data: how many begin, which item a word is of; no program is named here. -/
import Derived.Test.YtogdpaaofihkgaaGreatDoorYRvB
import Derived.Test.YtogdpaaofihkgaaGreatDoorYLnk6
import Derived.Test.YtogdpaaofihkgaaGreatDoorYLnk2
import Derived.Test.YtogdpaaofihkgaaGreatDoorYLnk4
import Derived.Deep.RegionHeld3
namespace Go.Proofs.YtogdpaaofihkgaaGreatDoor
open Go.RowKit
theorem itN_zero (K : List Int) : itN K 0 = 0 := by simp [itN]
theorem itN_succ {K : List Int} {n : Nat} {m : Int} (h : K[n]? = some m) : itN K (n + 1) = itN K n + (if m = 0 then 0 else 1) := by
  unfold itN
  rw [List.take_add_one, h, List.filter_append, List.length_append]
  by_cases e : m = 0 <;> simp [e]
theorem itN_le (K : List Int) (n : Nat) : itN K n ≤ n := by
  unfold itN
  have h := List.length_filter_le (fun m : Int => !decide (m = 0)) (K.take n)
  rw [List.length_take] at h
  omega
theorem itN_mono (K : List Int) {a b : Nat} (h : a ≤ b) : itN K a ≤ itN K b := by
  unfold itN
  have : K.take a = (K.take b).take a := by rw [List.take_take, Nat.min_eq_left h]
  rw [this]
  exact (List.Sublist.filter _ (List.take_sublist a (K.take b))).length_le
theorem getD_of {K : List Int} {n : Nat} {m : Int} (h : K[n]? = some m) : K.getD n 0 = m := by rw [List.getD, h]; rfl
theorem itW_length {K : List Int} : ∀ {n : Nat}, n ≤ K.length → (itW K n).length = itN K n
  | 0, _ => by simp [itW, itN]
  | n + 1, h => by
    obtain ⟨m, hm⟩ : ∃ m, K[n]? = some m := ⟨_, List.getElem?_eq_getElem (by omega)⟩
    have ih := itW_length (K := K) (n := n) (by omega)
    unfold itW
    rw [itN_succ hm, getD_of hm]
    by_cases e : m = 0
    · rw [if_pos e, if_pos e, List.length_modify, ih]; omega
    · rw [if_neg e, if_neg e, List.length_append, ih]; rfl
/-- the first word of all is no second one -/
theorem itN_pos {K : List Int} (h0 : K[0]? ≠ some 0) {n : Nat} (hn : n < K.length) : 0 < itN K (n + 1) := by
  obtain ⟨m, hm⟩ : ∃ m, K[0]? = some m := ⟨_, List.getElem?_eq_getElem (by omega)⟩
  have h1 : itN K 1 = 1 := by
    rw [itN_succ hm, itN_zero, if_neg (by rintro rfl; exact h0 hm)]
  have := itN_mono K (show 1 ≤ n + 1 by omega)
  omega
theorem itOf_lt {K : List Int} (h0 : K[0]? ≠ some 0) {n : Nat} (hn : n < K.length) : itOf K n < itN K K.length := by
  have h1 := itN_pos h0 hn
  have h2 := itN_mono K (show n + 1 ≤ K.length by omega)
  unfold itOf; omega
/-- a word more: an item begins -/
theorem itW_new {K : List Int} {n : Nat} {m : Int} (h : K[n]? = some m) (hm : m ≠ 0) : itW K (n + 1) = itW K n ++ [⟨1, 0, false⟩] := by
  show (if K.getD n 0 = 0 then _ else _) = _
  rw [getD_of h, if_neg hm]
theorem itW_more {K : List Int} {n : Nat} (h : K[n]? = some 0) : itW K (n + 1) = (itW K n).modify (itOf K n) (fun r => ⟨r.s + 1, r.t, r.b⟩) := by
  show (if K.getD n 0 = 0 then _ else _) = _
  rw [getD_of h, if_pos rfl]
theorem itOf_new {K : List Int} {n : Nat} {m : Int} (h : K[n]? = some m) (hm : m ≠ 0) : itOf K n = itN K n := by
  unfold itOf; rw [itN_succ h, if_neg hm]; omega
theorem itOf_more {K : List Int} {n : Nat} (h : K[n]? = some 0) : itOf K n = itN K n - 1 := by
  unfold itOf; rw [itN_succ h, if_pos rfl]; rfl
/-- which item each of the first n words is of; the others are not told yet -/
def ofL (K : List Int) (N n : Nat) : List Int := (List.range N).map fun k => if k < n then (itOf K k : Int) else 0
theorem ofL_length (K : List Int) (N n : Nat) : (ofL K N n).length = N := by simp [ofL]
theorem ofL_zero (K : List Int) (N : Nat) : ofL K N 0 = List.replicate N 0 := by
  apply List.ext_getElem?
  intro k
  unfold ofL
  by_cases h : k < N
  · rw [List.getElem?_map, List.getElem?_range h, List.getElem?_replicate, if_pos h]; rfl
  · rw [List.getElem?_eq_none (by simp; omega), List.getElem?_eq_none (by simp; omega)]
theorem ofL_get {K : List Int} {N n k : Nat} (h : k < N) : (ofL K N n)[k]? = some (if k < n then (itOf K k : Int) else 0) := by
  unfold ofL; rw [List.getElem?_map, List.getElem?_range h]; rfl
theorem ofL_set {K : List Int} {N n : Nat} : (ofL K N n).set n (itOf K n : Int) = ofL K N (n + 1) := by
  apply List.ext_getElem?
  intro k
  by_cases h : k < N
  · rw [List.getElem?_set, ofL_get h, ofL_get h, ofL_length]
    by_cases e : n = k
    · subst e; rw [if_pos rfl, if_pos h, if_pos (by omega)]
    · rw [if_neg e]
      by_cases a : k < n
      · rw [if_pos a, if_pos (by omega)]
      · rw [if_neg a, if_neg (by omega)]
  · rw [List.getElem?_eq_none (by simp [ofL_length]; omega), List.getElem?_eq_none (by rw [ofL_length]; omega)]
/-- branches, the first n repairs -/
def itB (W : Wh) (n : Nat) : List RIt := (W.Q.take n).foldl (itBr W.K) (itW W.K W.C.length)
theorem itB_zero (W : Wh) : itB W 0 = itW W.K W.C.length := rfl
theorem itB_all (W : Wh) : itB W W.Q.length = itsP W := by unfold itB itsP; rw [List.take_length]
theorem itB_succ {W : Wh} {n : Nat} {r : Fx} (h : W.Q[n]? = some r) : itB W (n + 1) = itBr W.K (itB W n) r := by
  unfold itB; rw [List.take_add_one, h, List.foldl_append]; rfl
theorem itBr_length (K : List Int) (I : List RIt) (r : Fx) : (itBr K I r).length = I.length := by
  unfold itBr; split
  · rw [List.length_modify]
  · rfl
theorem itB_length {W : Wh} (hk : W.C.length ≤ W.K.length) : ∀ n, (itB W n).length = itN W.K W.C.length
  | 0 => by rw [itB_zero, itW_length hk]
  | n + 1 => by
    by_cases h : n < W.Q.length
    · rw [itB_succ (List.getElem?_eq_getElem h), itBr_length, itB_length hk n]
    · have e : itB W (n + 1) = itB W n := by unfold itB; rw [List.take_of_length_le (by omega), List.take_of_length_le (by omega)]
      rw [e, itB_length hk n]
/-! ### laid out -/
theorem rngL_set {N i : Nat} {f g : Nat → Int} {v : Int} (h : ∀ j, j < N → g j = if j = i then v else f j) : ((List.range N).map f).set i v = (List.range N).map g := by
  apply List.ext_getElem?
  intro j
  by_cases hj : j < N
  · rw [List.getElem?_set, List.getElem?_map, List.getElem?_map, List.getElem?_range hj]
    have := h j hj
    by_cases e : i = j
    · subst e
      rw [if_pos rfl] at this
      simp [hj, this]
    · rw [if_neg (Ne.symm e)] at this
      simp [e, this]
  · rw [List.getElem?_eq_none (by simp; omega), List.getElem?_eq_none (by simp; omega)]
/-- the first n places told -/
def ldF (W : Wh) (L : List Bool) (n : Nat) : List Int := (List.range (W.C.length + 1)).map fun k => if k < n then ldN W L k else 0
theorem ldF_length (W : Wh) (L : List Bool) (n : Nat) : (ldF W L n).length = W.C.length + 1 := by simp [ldF]
theorem ldF_zero (W : Wh) (L : List Bool) : ldF W L 0 = List.replicate (W.C.length + 1) 0 := by
  apply List.ext_getElem?
  intro k
  unfold ldF
  by_cases h : k < W.C.length + 1
  · rw [List.getElem?_map, List.getElem?_range h, List.getElem?_replicate, if_pos h]; rfl
  · rw [List.getElem?_eq_none (by simp; omega), List.getElem?_eq_none (by simp; omega)]
theorem ldF_get {W : Wh} {L : List Bool} {n k : Nat} (h : k < W.C.length + 1) : (ldF W L n)[k]? = some (if k < n then ldN W L k else 0) := by
  unfold ldF; rw [List.getElem?_map, List.getElem?_range h]; rfl
theorem ldF_set {W : Wh} {L : List Bool} {n : Nat} : (ldF W L n).set n (ldN W L n) = ldF W L (n + 1) := by
  apply rngL_set
  intro j _
  by_cases e : j = n
  · subst e; rw [if_pos rfl, if_pos (by omega)]
  · rw [if_neg e]
    by_cases a : j < n
    · rw [if_pos a, if_pos (by omega)]
    · rw [if_neg a, if_neg (by omega)]
/-- a place put first, then one more -/
theorem ldF_set2 {W : Wh} {L : List Bool} {n : Nat} (v : Int) : ((ldF W L n).set n v).set n (ldN W L n) = ldF W L (n + 1) := by
  rw [List.set_set, ldF_set]
theorem ldF_all (W : Wh) (L : List Bool) : ldF W L (W.C.length + 1) = ldL W L := by
  unfold ldF ldL
  refine List.map_congr_left fun k hk => ?_
  rw [if_pos (List.mem_range.1 hk)]
theorem ldN_in {W : Wh} {L : List Bool} {k : Nat} (h : k < W.C.length) : ldN W L k = plR (itsP W) L (itOf W.K k) + (if W.K.getD k 0 = 0 then 1 else 0) := by unfold ldN; rw [if_pos h]
theorem ldN_end (W : Wh) (L : List Bool) : ldN W L W.C.length = plR (itsP W) L (itsP W).length := by unfold ldN; rw [if_neg (by omega)]
end Go.Proofs.YtogdpaaofihkgaaGreatDoor
namespace Go.Proofs.YtogdpaaofihkgaaGreatDoor
open Go.RowKit
/-- too long, once laid out -/
def lngB (X : Wh) (K : Nat) : Bool := !validR (itsP X) || (decide (2048 < ldN X (itR (itsP X) K) X.C.length) || decide (2048 < X.D.length))
/-- the item of a word has so many words at least -/
theorem itW_size {K : List Int} (h0 : K[0]? ≠ some 0) : ∀ n, n ≤ K.length → ∀ k, k < n → ∃ r, (itW K n)[itOf K k]? = some r ∧ (if K.getD k 0 = 0 then (2 : Int) else 1) ≤ r.s
  | 0, _, k, hk => by omega
  | n + 1, hn, k, hk => by
    obtain ⟨m, hm⟩ : ∃ m, K[n]? = some m := ⟨_, List.getElem?_eq_getElem (by omega)⟩
    have ih := itW_size h0 n (by omega)
    by_cases e : m = 0
    · subst e
      rw [itW_more hm]
      rcases Nat.lt_succ_iff_lt_or_eq.1 hk with h | rfl
      · obtain ⟨r, hr, hs⟩ := ih k h
        refine ⟨_, by rw [List.getElem?_modify, hr]; rfl, ?_⟩
        dsimp only
        by_cases q : itOf K n = itOf K k
        · rw [if_pos q]; simp only; omega
        · rw [if_neg q]; exact hs
      · have k1 : 1 ≤ k := by
          rcases Nat.eq_zero_or_pos k with rfl | h
          · exact absurd hm h0
          · exact h
        have hq : itOf K k = itOf K (k - 1) := by rw [itOf_more hm]; unfold itOf; rw [show k - 1 + 1 = k by omega]
        obtain ⟨r, hr, hs⟩ := ih (k - 1) (by omega)
        rw [← hq] at hr
        refine ⟨_, by rw [List.getElem?_modify, hr]; rfl, ?_⟩
        dsimp only
        rw [if_pos rfl, getD_of hm, if_pos rfl]
        simp only
        split at hs <;> omega
    · rw [itW_new hm e]
      rcases Nat.lt_succ_iff_lt_or_eq.1 hk with h | rfl
      · obtain ⟨r, hr, hs⟩ := ih k h
        exact ⟨r, by rw [List.getElem?_append_left (List.getElem?_eq_some_iff.1 hr).1, hr], hs⟩
      · refine ⟨⟨1, 0, false⟩, ?_, by rw [getD_of hm, if_neg e]; exact Int.le_refl _⟩
        rw [itOf_new hm e, ← itW_length (K := K) (n := k) (by omega), List.getElem?_append_right (Nat.le_refl _), Nat.sub_self]; rfl
theorem itBr_size (K : List Int) (I : List RIt) (r : Fx) (k : Nat) {x : RIt} (h : I[k]? = some x) : ∃ y, (itBr K I r)[k]? = some y ∧ y.s = x.s := by
  unfold itBr
  by_cases e : r.k = 2
  · rw [if_pos e, List.getElem?_modify, h]
    refine ⟨_, rfl, ?_⟩
    split <;> rfl
  · rw [if_neg e]; exact ⟨x, h, rfl⟩
theorem itsP_size {X : Wh} (h0 : X.K[0]? ≠ some 0) (hl : X.K.length = X.C.length) {k : Nat} (hk : k < X.C.length) : ∃ r, (itsP X)[itOf X.K k]? = some r ∧ (if X.K.getD k 0 = 0 then (2 : Int) else 1) ≤ r.s := by
  have h1 : ∀ (Q : List Fx) (I : List RIt), (∃ r, I[itOf X.K k]? = some r ∧ (if X.K.getD k 0 = 0 then (2 : Int) else 1) ≤ r.s) → ∃ r, (Q.foldl (itBr X.K) I)[itOf X.K k]? = some r ∧ (if X.K.getD k 0 = 0 then (2 : Int) else 1) ≤ r.s := by
    intro Q
    induction Q with
    | nil => exact fun I h => h
    | cons q Q ih =>
      intro I ⟨r, hr, hs⟩
      obtain ⟨y, hy, e⟩ := itBr_size X.K I q _ hr
      exact ih _ ⟨y, hy, by rw [e]; exact hs⟩
  exact h1 X.Q _ (itW_size h0 _ (by omega) k hk)
/-- places: from 0 on, each word's ahead of the end -/
theorem ldN_bd {X : Wh} {L : List Bool} (h0 : X.K[0]? ≠ some 0) (hl : X.K.length = X.C.length) (hv : validR (itsP X) = true) {k : Nat} (hk : k ≤ X.C.length) : 0 ≤ ldN X L k ∧ ldN X L k ≤ ldN X L X.C.length ∧ (k < X.C.length → ldN X L k + 1 ≤ ldN X L X.C.length) := by
  have hok : okR (itsP X) = true := by unfold validR at hv; rw [Bool.and_eq_true] at hv; exact hv.2
  rcases Nat.lt_or_eq_of_le hk with h | rfl
  · obtain ⟨r, hr, hs⟩ := itsP_size h0 hl h
    have hlt := (List.getElem?_eq_some_iff.1 hr).1
    have h1 := plR_mono (B := L) hok (Nat.succ_le_of_lt hlt)
    have h2 : plR (itsP X) L (itOf X.K k).succ = plR (itsP X) L (itOf X.K k) + szR (itsP X) L (itOf X.K k) := plR_succ _
    have h3 : r.s ≤ szR (itsP X) L (itOf X.K k) := by unfold szR sR; rw [hr]; simp only; split <;> omega
    have h4 := (plR_bd (B := L) hok (itOf X.K k)).1
    rw [ldN_end, ldN_in h]
    split <;> rename_i e <;> simp only [e] at hs <;> simp at hs <;> omega
  · have h4 := (plR_bd (B := L) hok (itsP X).length).1
    rw [ldN_end]
    exact ⟨h4, Int.le_refl _, fun h => by omega⟩
/-- where a repair goes: to data, or to a word of code -/
def TgtOk (n : Nat) (t : Sp) : Prop := (t.i = 1 → 0 ≤ t.a ∧ t.a ≤ 1000000) ∧ (t.i ≠ 1 → t.i = 2 ∧ ∃ k : Nat, t.a = k ∧ k < n)
theorem ptSp_tgt {J : Jn} (h : JnOk J) {p : Pt} (hp : p ∈ J.ps) (ho : PtOk p) {s : Sy} (hs : s ∈ p.x.S) (h3 : s.i ≠ 3) : TgtOk J.c (ptSp p s) := by
  obtain ⟨⟨v0, v1⟩, hi, _, _⟩ := ho.s s hs
  have hd := ho.dc.1
  rcases hi with h1 | h2 | h4
  · refine ⟨fun _ => ?_, fun e => absurd ?_ e⟩
    · unfold ptSp; rw [if_pos h1]; simp only; omega
    · unfold ptSp; rw [if_pos h1]; exact h1
  · refine ⟨fun e => ?_, fun _ => ⟨?_, ptSp_code h hp ho hs h2⟩⟩
    · unfold ptSp at e; rw [if_neg (by omega)] at e; simp only at e; omega
    · unfold ptSp; rw [if_neg (by omega)]; exact h2
  · exact absurd h4 h3
theorem lkp_tgt {J : Jn} (h : JnOk J) (ho : ∀ p ∈ J.ps, PtOk p) {n : ByteArray} {q : Sp} (hq : lkp J.M n = some q) : TgtOk J.c q := by
  obtain ⟨e, he, rfl⟩ := lkp_mem hq
  obtain ⟨p', hp', s', hs', hg, hq'⟩ := h.m e he
  have hs3 : s'.i ≠ 3 := by unfold globB at hg; simp at hg; exact hg.2
  rw [hq']
  exact ptSp_tgt h hp' (ho p' hp') hs' hs3
theorem spOf_tgt {J : Jn} (h : JnOk J) (ho : ∀ p ∈ J.ps, PtOk p) (hm : J.ps.any (missB J.M) = false) {p : Pt} (hp : p ∈ J.ps) {s : Sy} (hs : s ∈ p.x.S) : TgtOk J.c (spOf J.M p s) := by
  unfold spOf
  by_cases i3 : s.i = 3
  · rw [if_pos i3]
    rw [List.any_eq_false] at hm
    have hm1 := hm p hp
    unfold missB at hm1
    rw [Bool.not_eq_true, List.any_eq_false] at hm1
    have hm2 := hm1 s hs
    simp only [i3, decide_true, Bool.and_true, Bool.not_eq_true', Bool.not_eq_false] at hm2
    obtain ⟨q, hq⟩ := Option.isSome_iff_exists.1 hm2
    rw [lkD_some hq]
    exact lkp_tgt h ho hq
  · rw [if_neg i3]
    exact ptSp_tgt h hp (ho p hp) hs i3
theorem symN_mem {x : PO} {k : Int} (h0 : 0 ≤ k) (h1 : k < x.S.length) : symN x k.toNat ∈ x.S := by
  obtain ⟨s, hs⟩ : ∃ s, x.S[k.toNat]? = some s := ⟨_, List.getElem?_eq_getElem (by omega)⟩
  have hsn : symN x k.toNat = s := by unfold symN; rw [List.getD_eq_getElem?_getD, hs]; rfl
  rw [hsn]; exact List.mem_of_getElem? hs
/-- a repair of all data, of all code -/
structure FxOk (n N : Nat) (r : Fx) : Prop where
  a : ∃ k : Nat, r.a = k ∧ k < N
  k : r.k = 1 ∨ r.k = 2
  t : TgtOk n r.t
  d : -65536 ≤ r.d ∧ r.d ≤ 65536
theorem whP_Rok {J : Jn} (h : JnOk J) (ho : ∀ p ∈ J.ps, PtOk p) (hm : J.ps.any (missB J.M) = false) : ∀ r ∈ (whP J).R, FxOk (whP J).C.length (whP J).D.length r := by
  intro r hr
  rw [whP_Cl h, whP_Dl h]
  rw [whP_R] at hr
  obtain ⟨l, hl1, hr⟩ := List.mem_flatten.1 hr
  obtain ⟨p, hp, rfl⟩ := List.mem_map.1 hl1
  obtain ⟨r0, hr0, rfl⟩ := List.mem_map.1 hr
  obtain ⟨⟨a0, a1⟩, ⟨s0, s1⟩, hk, hd⟩ := (ho p hp).r r0 hr0
  have hin := (in_total h hp).2
  refine ⟨⟨p.d + r0.a.toNat, ?_, by omega⟩, .inl hk, spOf_tgt h ho hm hp (symN_mem s0 s1), hd⟩
  show ((p.d : Nat) : Int) + r0.a = _
  omega
theorem whP_Qok {J : Jn} (h : JnOk J) (ho : ∀ p ∈ J.ps, PtOk p) (hm : J.ps.any (missB J.M) = false) : ∀ r ∈ (whP J).Q, FxOk (whP J).C.length (whP J).C.length r := by
  intro r hr
  rw [whP_Cl h]
  rw [whP_Q] at hr
  obtain ⟨l, hl1, hr⟩ := List.mem_flatten.1 hr
  obtain ⟨p, hp, rfl⟩ := List.mem_map.1 hl1
  obtain ⟨r0, hr0, rfl⟩ := List.mem_map.1 hr
  obtain ⟨⟨a0, a1⟩, ⟨s0, s1⟩, hk, _, hd⟩ := (ho p hp).q r0 hr0
  have hin := (in_total h hp).1
  refine ⟨⟨p.c + r0.a.toNat, ?_, by omega⟩, hk, spOf_tgt h ho hm hp (symN_mem s0 s1), hd⟩
  show ((p.c : Nat) : Int) + r0.a = _
  omega
/-- a branch goes to code -/
theorem whP_Qbr {J : Jn} (h : JnOk J) (ho : ∀ p ∈ J.ps, PtOk p) (hm : J.ps.any (missB J.M) = false) (hl : J.ps.any (leadB J.M) = false) : ∀ r ∈ (whP J).Q, r.k = 2 → ∃ c : Nat, r.t.a = c ∧ c < (whP J).C.length := by
  intro r hr h2
  obtain ⟨a, c, _, _, h3, h4⟩ := branch_ok h ho hm hl r hr h2
  exact ⟨c, h3, h4⟩
theorem lkD_tgt {J : Jn} (h : JnOk J) (ho : ∀ p ∈ J.ps, PtOk p) (hi : (lkD J.M nmMainL).i = 2) : (lkp J.M nmMainL).isSome = true ∧ TgtOk (whP J).C.length (lkD J.M nmMainL) := by
  cases hq : lkp J.M nmMainL with
  | none => unfold lkD at hi; rw [hq] at hi; exact absurd hi (by decide)
  | some q =>
    refine ⟨rfl, ?_⟩
    rw [lkD_some hq, whP_Cl h]
    exact lkp_tgt h ho hq
/-! ### the image, word by word -/
theorem imC_length (X : Wh) (l : Nat → Int) : ∀ n, (imC X l n).length = (l X.C.length).toNat
  | 0 => by simp [imC]
  | n + 1 => by unfold imC; rw [List.length_set, imC_length X l n]
theorem imS_length (X : Wh) (l : Nat → Int) : ∀ n, (imS X l n).length ≤ n
  | 0 => by simp [imS]
  | n + 1 => by
    have := imS_length X l n
    unfold imS
    split
    · rw [List.length_append, List.length_singleton]; omega
    · omega
theorem imS_yes {X : Wh} {l : Nat → Int} {n : Nat} (h : X.K[n]? = some 1) : imS X l (n + 1) = imS X l n ++ [l n] := by
  show (if X.K.getD n 0 = 1 then _ else _) = _
  rw [getD_of h, if_pos rfl]
theorem imS_no {X : Wh} {l : Nat → Int} {n : Nat} {m : Int} (h : X.K[n]? = some m) (hm : m ≠ 1) : imS X l (n + 1) = imS X l n := by
  show (if X.K.getD n 0 = 1 then _ else _) = _
  rw [getD_of h, if_neg hm]
theorem imC_succ {X : Wh} {l : Nat → Int} {n : Nat} {w : Int} (h : X.C[n]? = some w) : imC X l (n + 1) = (imC X l n).set (l n).toNat w := by
  show (imC X l n).set (l n).toNat (X.C.getD n 0) = _
  rw [getD_of h]
end Go.Proofs.YtogdpaaofihkgaaGreatDoor
namespace Go.Proofs.YtogdpaaofihkgaaGreatDoor
open Go.RowKit
/-! ### second words -/
def secOk (L : List Int) : Prop := ∀ k : Nat, L[k]? = some 0 → ∃ j : Nat, k = j + 1 ∧ L[j]? = some 1
theorem secOk_flat : ∀ (l : List (List Int)), (∀ p ∈ l, secOk p) → secOk l.flatten
  | [], _ => by intro k h; simp at h
  | p :: l, h => by
    intro k hk
    rw [List.flatten_cons] at hk ⊢
    by_cases e : k < p.length
    · rw [List.getElem?_append_left e] at hk
      obtain ⟨j, rfl, hj⟩ := h p List.mem_cons_self k hk
      exact ⟨j, rfl, by rw [List.getElem?_append_left (by omega)]; exact hj⟩
    · rw [List.getElem?_append_right (by omega)] at hk
      obtain ⟨j, hj1, hj2⟩ := secOk_flat l (fun q hq => h q (List.mem_cons_of_mem _ hq)) _ hk
      refine ⟨j + p.length, by omega, ?_⟩
      rw [List.getElem?_append_right (by omega), Nat.add_sub_cancel]; exact hj2
theorem mapN_get {x : PO} {k : Nat} {m : Int} (h : x.M[k]? = some m) : mapN x k = m := by unfold mapN; rw [List.getD, h]; rfl
theorem sec_word {x : PO} (hv : validP (woC x) = none) (hl : x.M.length = x.C.length) : secOk x.M := by
  intro k hk
  have hok := valid_ok hv
  have hkl := (List.getElem?_eq_some_iff.1 hk).1
  have hCl : (woC x).C.length = x.C.length := woCn_length x _
  have hw := hok.word k (by omega)
  have hm : mapN (woC x) k = 0 := mapN_get hk
  unfold wordF at hw
  rw [hm] at hw
  simp only [show ¬ (0 : Int) = 1 by decide, if_false, if_true] at hw
  have h2 : twoB (opB (woC x) k) = true := by
    by_cases e : twoB (opB (woC x) k) = true
    · exact e
    · rw [if_neg e] at hw; cases hw
  unfold opB at h2
  by_cases k0 : k = 0
  · rw [if_pos k0] at h2; exact absurd h2 (by decide)
  · rw [if_neg k0] at h2
    unfold opN at h2
    refine ⟨k - 1, by omega, ?_⟩
    by_cases m1 : mapN (woC x) (k - 1) = 1
    · obtain ⟨m, hm'⟩ : ∃ m, x.M[k - 1]? = some m := ⟨_, List.getElem?_eq_getElem (by omega)⟩
      have : mapN (woC x) (k - 1) = m := mapN_get hm'
      rw [hm', ← this, m1]
    · rw [if_neg m1] at h2; exact absurd h2 (by decide)
theorem whP_sec {J : Jn} (ho : ∀ p ∈ J.ps, PtOk p) (h : JnOk J) : secOk (whP J).K := by
  rw [whP_K]
  refine secOk_flat _ (fun q hq => ?_)
  obtain ⟨p, hp, rfl⟩ := List.mem_map.1 hq
  exact sec_word (h.v p hp) (ho p hp).len
/-! ### sizes -/
section
variable {X : Wh} {L : List Bool}
/-- places rise -/
theorem ldN_lt (h0 : X.K[0]? ≠ some 0) (hl : X.K.length = X.C.length) (hv : validR (itsP X) = true) (hs : secOk X.K) {k : Nat} (hk : k < X.C.length) : ldN X L k < ldN X L (k + 1) := by
  have hok : okR (itsP X) = true := by unfold validR at hv; rw [Bool.and_eq_true] at hv; exact hv.2
  by_cases e : k + 1 < X.C.length
  · obtain ⟨m, hm⟩ : ∃ m, X.K[k + 1]? = some m := ⟨_, List.getElem?_eq_getElem (by omega)⟩
    obtain ⟨q, hq⟩ : ∃ m, X.K[k]? = some m := ⟨_, List.getElem?_eq_getElem (by omega)⟩
    rw [ldN_in e, ldN_in hk, getD_of hm, getD_of hq]
    by_cases m0 : m = 0
    · subst m0
      obtain ⟨j, hj, hj1⟩ := hs _ hm
      obtain rfl : j = k := by omega
      obtain rfl : q = 1 := by rw [hj1] at hq; exact (Option.some.inj hq).symm
      rw [itOf_more hm, itOf_new hj1 (by decide), itN_succ hj1, if_neg (by decide), if_neg (by decide), if_pos rfl, Nat.add_sub_cancel]
      omega
    · have hq1 : itOf X.K (k + 1) = itOf X.K k + 1 := by
        have := itN_pos h0 (n := k) (by omega)
        rw [itOf_new hm m0]; unfold itOf; omega
      obtain ⟨r, hr, hsz⟩ := itsP_size h0 hl hk
      have h3 : r.s ≤ szR (itsP X) L (itOf X.K k) := by unfold szR sR; rw [hr]; simp only; split <;> omega
      rw [hq1, plR_succ, if_neg m0]
      rw [getD_of hq] at hsz
      split <;> rename_i hh <;> simp only [hh] at hsz <;> simp at hsz <;> omega
  · have e1 : k + 1 = X.C.length := by omega
    have := (ldN_bd (L := L) h0 hl hv (k := k) (by omega)).2.2 hk
    rw [e1]; omega
theorem ldN_lt' (h0 : X.K[0]? ≠ some 0) (hl : X.K.length = X.C.length) (hv : validR (itsP X) = true) (hs : secOk X.K) {j k : Nat} (hjk : j < k) (hk : k ≤ X.C.length) : ldN X L j < ldN X L k := by
  induction k with
  | zero => omega
  | succ k ih =>
    have h1 := ldN_lt (L := L) h0 hl hv hs (k := k) (by omega)
    rcases Nat.lt_succ_iff_lt_or_eq.1 hjk with h | rfl
    · have := ih h (by omega); omega
    · exact h1
end
end Go.Proofs.YtogdpaaofihkgaaGreatDoor
namespace Go.Proofs.YtogdpaaofihkgaaGreatDoor
open Go.RowKit
/-- places that rise -/
structure LInc (l : Nat → Int) (n : Nat) : Prop where
  z : 0 ≤ l 0
  i : ∀ j k, j < k → k ≤ n → l j < l k
theorem LInc.nn {l : Nat → Int} {n : Nat} (h : LInc l n) {k : Nat} (hk : k ≤ n) : 0 ≤ l k := by
  rcases Nat.eq_zero_or_pos k with rfl | e
  · exact h.z
  · have := h.i 0 k e hk; have := h.z; omega
theorem LInc.le {l : Nat → Int} {n : Nat} (h : LInc l n) {j k : Nat} (hj : j ≤ k) (hk : k ≤ n) : l j ≤ l k := by
  rcases Nat.lt_or_eq_of_le hj with e | rfl
  · have := h.i j k e hk; omega
  · exact Int.le_refl _
theorem LInc.ge {l : Nat → Int} {n : Nat} (h : LInc l n) : ∀ {k : Nat}, k ≤ n → (k : Int) ≤ l k
  | 0, _ => h.z
  | k + 1, hk => by
    have h1 := h.ge (k := k) (by omega)
    have h2 := h.i k (k + 1) (by omega) hk
    omega
/-- the code, a repair done -/
def cfx (X : Wh) (l : Nat → Int) (C : List Int) (r : Fx) : List Int :=
  if r.k = 1 then C.set (l r.a.toNat).toNat (wdP l r)
  else if l (r.a.toNat + 1) - l r.a.toNat = 2 then (C.set (l r.a.toNat).toNat (lgW (X.C.getD r.a.toNat 0))).set ((l r.a.toNat).toNat + 1) (wdP l r)
  else C.set (l r.a.toNat).toNat (X.C.getD r.a.toNat 0 / 256 * 256 + (l r.t.a.toNat - l r.a.toNat) % 256)
/-- the places that a repair tells -/
def pfx (l : Nat → Int) (r : Fx) : List Int :=
  if r.k = 1 then (if r.t.i = 2 then [l r.a.toNat] else [])
  else if l (r.a.toNat + 1) - l r.a.toNat = 2 then [l r.a.toNat + 1] else []
section
variable {X : Wh} {l : Nat → Int} {n : Nat}
theorem fxC_is (I : Im) (r : Fx) : fxC X l I r = ⟨I.e, I.D, cfx X l I.C r, I.dr, I.pl ++ pfx l r, I.st⟩ := by
  unfold fxC cfx pfx
  split
  · split <;> simp
  · split <;> simp
theorem foldC_is : ∀ (Q : List Fx) (I : Im), Q.foldl (fxC X l) I = ⟨I.e, I.D, Q.foldl (cfx X l) I.C, I.dr, I.pl ++ Q.flatMap (pfx l), I.st⟩
  | [], I => by simp
  | r :: Q, I => by rw [List.foldl_cons, fxC_is, foldC_is Q, List.foldl_cons, List.flatMap_cons, List.append_assoc]
theorem foldD_is : ∀ (R : List Fx) (I : Im), R.foldl (fxD l) I = ⟨I.e, R.foldl (fun D r => D.set r.a.toNat (wdP l r)) I.D, I.C, I.dr ++ R.flatMap (fun r => if r.t.i = 2 then [r.a] else []), I.pl, I.st⟩
  | [], I => by simp
  | r :: R, I => by
    rw [List.foldl_cons, foldD_is R, List.foldl_cons, List.flatMap_cons]
    unfold fxD
    split <;> simp
/-- the image, part by part -/
theorem imP_is (M : Mp) : imP X M l = ⟨adP l (lkD M nmMainL), X.R.foldl (fun D r => D.set r.a.toNat (wdP l r)) X.D, X.Q.foldl (cfx X l) (imC X l X.C.length), X.R.flatMap (fun r => if r.t.i = 2 then [r.a] else []), X.Q.flatMap (pfx l), imS X l X.C.length⟩ := by
  unfold imP
  rw [foldD_is, foldC_is]
  simp
theorem cfx_length (C : List Int) (r : Fx) : (cfx X l C r).length = C.length := by
  unfold cfx
  split
  · rw [List.length_set]
  · split <;> simp
end
end Go.Proofs.YtogdpaaofihkgaaGreatDoor
namespace Go.Proofs.YtogdpaaofihkgaaGreatDoor
theorem nat_high (n : Nat) (h : n < 4294967296) : n &&& 4294967040 = n / 256 * 256 := by
  apply Nat.eq_of_testBit_eq
  intro i
  rw [show (4294967040 : Nat) = (2 ^ 24 - 1) <<< 8 from rfl, show n / 256 * 256 = (n >>> 8) <<< 8 by rw [Nat.shiftRight_eq_div_pow, Nat.shiftLeft_eq], Nat.testBit_and, Nat.testBit_shiftLeft, Nat.testBit_shiftLeft, Nat.testBit_shiftRight, Nat.testBit_two_pow_sub_one]
  by_cases e : 8 ≤ i
  · rw [show 8 + (i - 8) = i by omega]
    by_cases f : i - 8 < 24
    · simp [e, f]
    · have h2 : n.testBit i = false := Nat.testBit_lt_two_pow (Nat.lt_of_lt_of_le h (Nat.pow_le_pow_right (n := 2) (by omega) (show 32 ≤ i by omega)))
      simp [e, f, h2]
  · simp [e]
theorem andNot255 {x : Int} (h0 : 0 ≤ x) (h1 : x < 4294967296) : bits BinOp.andNot IntKind.u32 x 255 = x / 256 * 256 := by
  obtain ⟨z, rfl⟩ := Int.eq_ofNat_of_zero_le h0
  show IntKind.u32.wrap ((BitVec.ofInt 32 (z : Int) &&& ~~~BitVec.ofInt 32 ((255 : Nat) : Int)).toNat : Int) = _
  rw [BitVec.ofInt_natCast, BitVec.ofInt_natCast]
  have e : (BitVec.ofNat 32 z &&& ~~~(BitVec.ofNat 32 255)).toNat = z / 256 * 256 := by
    rw [BitVec.toNat_and, BitVec.toNat_not, BitVec.toNat_ofNat, BitVec.toNat_ofNat, show 2 ^ 32 - 1 - 255 % 2 ^ 32 = 4294967040 by decide, Nat.mod_eq_of_lt (show z < 2 ^ 32 by omega), nat_high z (by omega)]
  rw [e]
  have e2 : ((z / 256 * 256 : Nat) : Int) % 2 ^ 32 = ((z / 256 * 256 : Nat) : Int) := Int.emod_eq_of_lt (by omega) (by omega)
  simp only [IntKind.wrap, IntKind.bits, IntKind.signed, e2]
  simp
theorem and255 {y : Int} (h0 : 0 ≤ y) (h1 : y < 4294967296) : bits BinOp.and IntKind.u32 y 255 = y % 256 := by
  obtain ⟨n, rfl⟩ := Int.eq_ofNat_of_zero_le h0
  rw [show (255 : Int) = ((255 : Nat) : Int) from rfl, u32_and_nat n 255 (by omega) (by omega), show (255 : Nat) = 2 ^ 8 - 1 from rfl, Nat.and_two_pow_sub_one_eq_mod]
  rfl
theorem or256 {x d : Int} (h0 : 0 ≤ x) (h1 : x < 4294967296) : bits BinOp.or IntKind.u32 (x / 256 * 256) (d % 256) = x / 256 * 256 + d % 256 := by
  obtain ⟨n, hn⟩ := Int.eq_ofNat_of_zero_le (show 0 ≤ x / 256 by omega)
  obtain ⟨m, hm⟩ := Int.eq_ofNat_of_zero_le (show 0 ≤ d % 256 by omega)
  have hm2 : m < 256 := by omega
  rw [hn, hm, show ((n : Nat) : Int) * 256 = ((2 ^ 8 * n : Nat) : Int) by omega, u32_or_nat (2 ^ 8 * n) m (by omega) (by omega), ← Nat.two_pow_add_eq_or_of_lt (i := 8) (b := m) (by omega) n]
  omega
theorem dist256 (t a : Int) : IntKind.u32.wrap (t - a) % 256 = (t - a) % 256 := by
  rw [IntKind.wrap_u32]
  omega
end Go.Proofs.YtogdpaaofihkgaaGreatDoor
namespace Go.Proofs.YtogdpaaofihkgaaGreatDoor
open Go.RowKit
theorem u32_wrap (x : Int) : IntKind.u32.wrap x = x % 4294967296 := by rw [IntKind.wrap_u32]
def cadI (a : Int) : Int := (2048 + a) % 4294967296
set_option maxRecDepth 100000 in
set_option maxHeartbeats 2000000 in
theorem cadr_any (W : World) (a : Int) (h0 : 0 ≤ a) (h1 : a ≤ 1000000) :
    Calls Tryz.prog 46 #[.int .i64 a] W fun e w' => e = .returned (.int .u32 (cadI a)) ∧ W.grownBy w' none := by
  obtain ⟨A, hA⟩ : ∃ A : Int, 2048 + a = A := ⟨_, rfl⟩
  have a0 : 0 ≤ A := by omega
  have a1 : A ≤ 1002048 := by omega
  have Hw : Hid (cadI a = A) := hid (by unfold cadI; omega)
  have hw : IntKind.u32.wrap A = A := by rw [u32_wrap]; omega
  go_enter Tryz.func46, Tryz.ntmps46
  go_wp2
  go_ret
  exact ⟨ret_i Hw.out.symm, grown_refl W none⟩
/-- a program's value -/
abbrev pgV (v1 v2 v3 v4 v5 ld mv : Value) : Array Value := #[v1, v2, v3, v4, v5, ld, mv]
set_option maxRecDepth 100000 in
set_option maxHeartbeats 2000000 in
theorem adr_any (W : World) (v1 v2 v3 v4 v5 ld mv : Value) (l : Nat → Int) (n : Nat) (h : SlAt W .i64 ld ((List.range n).map l)) (s : Sp) (h1 : s.i = 1 → 0 ≤ s.a ∧ s.a ≤ 1000000) (h2 : s.i ≠ 1 → ∃ k : Nat, s.a = k ∧ k < n ∧ 0 ≤ l k ∧ l k ≤ 1000000) :
    Calls Tryz.prog 34 #[.agg (pgV v1 v2 v3 v4 v5 ld mv), sptV s] W fun e w' => e = .returned (.int .u32 (adP l s)) ∧ W.grownBy w' none := by
  obtain ⟨i, a⟩ := s
  have H2 := hid (two_boxes (W := W) (a := #[v1, v2, v3, v4, v5, ld, mv]) (b := #[.int .i64 i, .int .i64 a]) (t := 71) (u := 93))
  have HL := hid (h.kept0 H2.out.2.2)
  have Hr : Hid (adP l ⟨i, a⟩ = if i = 1 then a % 4294967296 else (2048 + l a.toNat) % 4294967296) := hid rfl
  simp only at h1 h2
  clear h
  unfold sptV
  go_enter Tryz.func34, Tryz.ntmps34
  go_upto_region 1 with (fail)
  generalize (W.alloc (.cells #[v1, v2, v3, v4, v5, ld, mv] 71)).alloc (.cells #[.int .i64 i, .int .i64 a] 93) = w1 at H2 HL ⊢
  obtain ⟨b1, hb1⟩ : ∃ b, W.heap.size = b := ⟨_, rfl⟩
  obtain ⟨b2, hb2⟩ : ∃ b, b1 + 1 = b := ⟨_, rfl⟩
  rw [hb1, hb2] at H2 ⊢
  clear hb1 hb2
  have s0 := H2.out.2.1.cell 0 (v := .int .i64 i) rfl
  have s1 := H2.out.2.1.cell 1 (v := .int .i64 a) rfl
  by_cases hi : i = 1
  · have hb : (i == 1) = true := by simpa using hi
    obtain ⟨a0, a1⟩ := h1 hi
    rw [if_pos hi] at Hr
    have hw : IntKind.u32.wrap a = a := by rw [u32_wrap]; omega
    have Hw : Hid (a % 4294967296 = a) := hid (by omega)
    clear h1 h2 hi
    go_wp2
    go_ret
    exact ⟨ret_i (by rw [Hr.out, Hw.out]), H2.out.2.2⟩
  · have hb : (i == 1) = false := by simpa using hi
    obtain ⟨k, rfl, hk, l0, l1⟩ := h2 hi
    rw [if_neg hi, Int.toNat_natCast] at Hr
    obtain ⟨b, o, c, hv, hbs, hc⟩ := HL.out.at_ (by simp; omega)
    rw [List.length_map, List.length_range] at hv
    subst hv
    have e1 := hc k (l k) (by rw [List.getElem?_map, List.getElem?_range hk]; rfl)
    have k0 : (0 : Int) ≤ (k : Int) := by omega
    have kn : (k : Int) < (n : Int) := by omega
    have p5 := H2.out.1.cell 5 (v := .slice (some ⟨b, o, none⟩) n c) rfl
    have HC := hid (fun W => cadr_any W (l k) l0 l1)
    obtain ⟨x, hx⟩ : ∃ x, l k = x := ⟨_, rfl⟩
    rw [hx] at e1 HC Hr
    clear h1 h2 hi hc hbs l0 l1 hx
    go_wp2_with fail
    refine (HC.out _).mono ?_
    rintro e w2 ⟨rfl, hg⟩
    have HG := hid (grown_trans H2.out.2.2 hg)
    clear hg
    go_wp2
    go_ret
    exact ⟨ret_i (by rw [Hr.out]; rfl), HG.out⟩
end Go.Proofs.YtogdpaaofihkgaaGreatDoor
namespace Go.Proofs.YtogdpaaofihkgaaGreatDoor
open Go.RowKit
def fxL (r : Fx) : List Value := [.int .i64 r.a, .int .i64 r.k, .int .i64 r.t.i, .int .i64 r.t.a, .int .i64 r.d]
theorem fxL_length (r : Fx) : (fxL r).length = 5 := rfl
abbrev fxsL (l : List Fx) : List Value := csL fxL l
def fx0 : Fx := ⟨0, 0, ⟨0, 0⟩, 0⟩
theorem info_repair : ∃ i : TypeInfo, Tryz.prog.info? 95 = some i ∧ i.zero = some (.agg #[.int .i64 0, .int .i64 0, .int .i64 0, .int .i64 0, .int .i64 0]) ∧ i.size = 5 ∧ i.bytes = 40 := info_parts (P := Tryz.prog) (e := 95) (z := .agg #[.int .i64 0, .int .i64 0, .int .i64 0, .int .i64 0, .int .i64 0]) (size := 5) (bytes := 40) (by kernel_rfl)
theorem build_repair (a k i s d : Int) (w : World) : (Instr.build 95 #[(0, .int .i64 a), (1, .int .i64 k), (2, .agg #[.int .i64 i, .int .i64 s]), (3, .int .i64 d)]).run Tryz.prog w = .ok (.agg #[.int .i64 a, .int .i64 k, .int .i64 i, .int .i64 s, .int .i64 d]) w := by kernel_rfl
/-- the repairs, so far filled in -/
def fxsF (M : Mp) (p : Pt) (b : Nat) (l : List Rl) (k : Nat) : List Fx := (l.take k).map (fxOf M p b) ++ List.replicate (l.length - k) fx0
theorem fxsF_zero (M : Mp) (p : Pt) (b : Nat) (l : List Rl) : fxsF M p b l 0 = List.replicate l.length fx0 := by simp [fxsF]
theorem fxsF_all (M : Mp) (p : Pt) (b : Nat) (l : List Rl) : fxsF M p b l l.length = l.map (fxOf M p b) := by simp [fxsF]
theorem fxsF_length (M : Mp) (p : Pt) (b : Nat) (l : List Rl) {k : Nat} (h : k ≤ l.length) : (fxsF M p b l k).length = l.length := by simp [fxsF]; omega
theorem fxsF_set (M : Mp) (p : Pt) (b : Nat) (l : List Rl) {k : Nat} {r : Rl} (h : l[k]? = some r) : (fxsF M p b l k).set k (fxOf M p b r) = fxsF M p b l (k + 1) := by
  have hk := (List.getElem?_eq_some_iff.1 h).1
  unfold fxsF
  rw [List.set_append_right _ _ (by simp; omega), List.take_add_one, h]
  obtain ⟨m, hm⟩ : ∃ m, l.length - k = m + 1 := ⟨l.length - k - 1, by omega⟩
  rw [hm, show l.length - (k + 1) = m by omega, List.length_map, List.length_take, Nat.min_eq_left (by omega), Nat.sub_self, List.replicate_succ, List.set_cons_zero, List.map_append, List.append_assoc]
  rfl
theorem fxs_zero : ∀ N, fxsL (List.replicate N fx0) = List.replicate (N * 5) (.int .i64 0)
  | 0 => rfl
  | n + 1 => by
    show fxL fx0 ++ fxsL (List.replicate n fx0) = _
    rw [fxs_zero n, show (n + 1) * 5 = 5 + n * 5 by omega, ← List.replicate_append_replicate]; rfl
/-- where the loop over the relocations stands -/
structure RpW (W w : World) (G B b g n : Nat) (V : OV) (p : Pt) (pv : Value) (dd cc : Int) (M : Mp) (F : List Fx) : Prop where
  g0 : W.grownBy w none
  bx : RwAt w b 109 #[V.d, V.c, V.m, V.r, V.q, V.s, .int .i64 (p.d : Int), .int .i64 (p.c : Int)]
  m : MrAt w G B pv dd cc M
  own : w.ownsRow (b + 1) 95 5 (.slice (some ⟨g, 0, none⟩) n n) n (fxsL F)
  lt : W.heap.size ≤ b ∧ G < b ∧ B < b
theorem RpW.kept0 {W w w1 : World} {G B b g n : Nat} {V : OV} {p : Pt} {pv : Value} {dd cc : Int} {M : Mp} {F : List Fx} (h : RpW W w G B b g n V p pv dd cc M F) (hg : w.grownBy w1 none) : RpW W w1 G B b g n V p pv dd cc M F :=
  ⟨grown_trans h.g0 hg, h.bx.kept0 hg, h.m.kept0 hg, h.own.kept hg (.inr (fun e => by cases e)), h.lt⟩
theorem fxsL_len : ∀ F : List Fx, (fxsL F).length = F.length * 5
  | [] => rfl
  | x :: l => by show (fxL x ++ fxsL l).length = _; rw [List.length_append, fxsL_len l, List.length_cons, fxL_length]; omega
theorem cell_five {w : World} {p : Addr} {g : Nat} {u : Value} (h : w.cell? p = some u) (hn : p.block ≠ g) (k : Nat) (a b c d e : Value) :
    (((((w.setCell ⟨g, k, none⟩ a).setCell ⟨g, k + 1, none⟩ b).setCell ⟨g, k + 2, none⟩ c).setCell ⟨g, k + 3, none⟩ d).setCell ⟨g, k + 4, none⟩ e).cell? p = some u := by
  rw [World.cell?_of_block (heap_setCell_other _ _ _ _ hn), World.cell?_of_block (heap_setCell_other _ _ _ _ hn), World.cell?_of_block (heap_setCell_other _ _ _ _ hn), World.cell?_of_block (heap_setCell_other _ _ _ _ hn), World.cell?_of_block (heap_setCell_other _ _ _ _ hn)]
  exact h
/-- five cells of a row of repairs, written -/
theorem fxs_store {w : World} {b g n k : Nat} {F : List Fx} (h : w.ownsRow b 95 5 (.slice (some ⟨g, 0, none⟩) n n) n (fxsL F)) (hk : k < F.length) (r : Fx) :
    (((((w.setCell ⟨g, k * 5, none⟩ (.int .i64 r.a)).setCell ⟨g, k * 5 + 1, none⟩ (.int .i64 r.k)).setCell ⟨g, k * 5 + 2, none⟩ (.int .i64 r.t.i)).setCell ⟨g, k * 5 + 3, none⟩ (.int .i64 r.t.a)).setCell ⟨g, k * 5 + 4, none⟩ (.int .i64 r.d)).ownsRow b 95 5 (.slice (some ⟨g, 0, none⟩) n n) n (fxsL (F.set k r)) := by
  have h1 := (h.stored (k * 5) (.int .i64 r.a)).1
  have h2 := (h1.stored (k * 5 + 1) (.int .i64 r.k)).1
  have h3 := (h2.stored (k * 5 + 2) (.int .i64 r.t.i)).1
  have h4 := (h3.stored (k * 5 + 3) (.int .i64 r.t.a)).1
  have h5 := (h4.stored (k * 5 + 4) (.int .i64 r.d)).1
  have e : (((((fxsL F).set (k * 5) (.int .i64 r.a)).set (k * 5 + 1) (.int .i64 r.k)).set (k * 5 + 2) (.int .i64 r.t.i)).set (k * 5 + 3) (.int .i64 r.t.a)).set (k * 5 + 4) (.int .i64 r.d) = fxsL (F.set k r) := by
    clear h h1 h2 h3 h4 h5
    induction F generalizing k with
    | nil => simp at hk
    | cons x l ih =>
      cases k with
      | zero => rfl
      | succ k =>
        have h := ih (by simpa using hk)
        have hx : fxsL (x :: l) = fxL x ++ fxsL l := rfl
        have hl : (fxL x).length = 5 := rfl
        rw [hx, List.set_cons_succ, show fxsL (x :: l.set k r) = fxL x ++ fxsL (l.set k r) from rfl, ← h]
        simp only [Nat.succ_mul]
        rw [show k * 5 + 5 = (fxL x).length + k * 5 by rw [hl]; omega]
        simp only [Nat.add_assoc, List.set_append_right _ _ (Nat.le_add_right _ _), Nat.add_sub_cancel_left]
  rw [e] at h5
  exact h5
theorem RpW.put {W w : World} {G B b g n k b0 : Nat} {V : OV} {p : Pt} {pv : Value} {dd cc : Int} {M : Mp} {l : List Rl} {r : Rl} {e1 e2 e3 e4 e5 : Int} (h : RpW W w G B b g n V p pv dd cc M (fxsF M p b0 l k)) (hn : l.length = n) (hk : k < n) (hr : l[k]? = some r) (hf : fxOf M p b0 r = ⟨e1, e2, ⟨e3, e4⟩, e5⟩) :
    RpW W (((((w.setCell ⟨g, k * 5, none⟩ (.int .i64 e1)).setCell ⟨g, k * 5 + 1, none⟩ (.int .i64 e2)).setCell ⟨g, k * 5 + 2, none⟩ (.int .i64 e3)).setCell ⟨g, k * 5 + 3, none⟩ (.int .i64 e4)).setCell ⟨g, k * 5 + 4, none⟩ (.int .i64 e5)) G B b g n V p pv dd cc M (fxsF M p b0 l (k + 1)) := by
  have hge := (h.own.lt g rfl).1
  have hlt := h.lt
  have hs : w.grownBy (((((w.setCell ⟨g, k * 5, none⟩ (.int .i64 e1)).setCell ⟨g, k * 5 + 1, none⟩ (.int .i64 e2)).setCell ⟨g, k * 5 + 2, none⟩ (.int .i64 e3)).setCell ⟨g, k * 5 + 3, none⟩ (.int .i64 e4)).setCell ⟨g, k * 5 + 4, none⟩ (.int .i64 e5)) (some g) := by
    have s1 := grown_setCell (grown_refl w (some g)) (k * 5) (.int .i64 e1)
    have s2 := grown_setCell s1 (k * 5 + 1) (.int .i64 e2)
    have s3 := grown_setCell s2 (k * 5 + 2) (.int .i64 e3)
    have s4 := grown_setCell s3 (k * 5 + 3) (.int .i64 e4)
    exact grown_setCell s4 (k * 5 + 4) (.int .i64 e5)
  have ho := fxs_store h.own (k := k) (by rw [fxsF_length M p b0 l (by omega)]; omega) ⟨e1, e2, ⟨e3, e4⟩, e5⟩
  dsimp only at ho
  rw [← hf, fxsF_set M p b0 l hr] at ho
  exact ⟨grown_new' (grown_trans (grown_none h.g0) hs) (fun j hj => by obtain rfl := Option.some.inj hj; omega), h.bx.kept hs (fun e => by have := Option.some.inj e; omega), ⟨h.m.row.kept hs (fun e => by have := Option.some.inj e; omega), h.m.mp.kept hs (fun e => by have := Option.some.inj e; omega)⟩, ho, hlt⟩
set_option maxRecDepth 100000 in
set_option maxHeartbeats 8000000 in
theorem lrepairs_any (W : World) (V : OV) (p : Pt) {G B : Nat} {pv : Value} {dd cc : Int} {M : Mp} {lv : Value} {l : List Rl} (b0 : Nat) (h : OAt W V p.x) (hM : MrAt W G B pv dd cc M) (hl : RlAt W lv l) (hp : PtOk p) (hb : b0 ≤ 100000) (hn : l.length ≤ 1000000)
    (hok : ∀ r ∈ l, (0 ≤ r.a ∧ r.a ≤ 1000000) ∧ 0 ≤ r.s ∧ r.s < p.x.S.length) :
    Calls Tryz.prog 42 #[.pointer (some ⟨G, 0, none⟩), ptV V p, lv, .int .i64 (b0 : Int)] W fun e w' => ∃ u, e = .returned u ∧ w'.ownsRow W.heap.size 95 5 u l.length (fxsL (l.map (fxOf M p b0))) ∧ W.grownBy w' none := by
  obtain ⟨x, pd, pc⟩ := p
  have hone := oat_one h
  obtain ⟨p1, n1, c1, p2, n2, c2, p3, n3, c3, p4, n4, c4, p5, n5, c5, p6, N, c6, rfl⟩ := OAt.cells h
  have HO := hid h
  have HP := hid hp
  have HL := hid hl
  have Hok := hid hok
  have Hone := hid hone
  have Hb := hid hb
  obtain ⟨n, hn2⟩ : ∃ n, l.length = n := ⟨_, rfl⟩
  have Hn := hid hn2
  obtain ⟨lp, lc, hlv⟩ := hl.len
  subst hlv
  have HN : Hid (x.S.length = N) := hid (by
    obtain ⟨q1, q2, hq⟩ := h.s.len
    simp only [Value.slice.injEq] at hq
    exact hq.2.1.symm)
  have HGlt := hid (And.intro hM.row.lt hM.mp.lt)
  rw [hn2] at hn ⊢
  have n0 : (0 : Int) ≤ (n : Int) := by omega
  have n1' : (n : Int) ≤ 1000000 := by omega
  have N0 : (0 : Int) ≤ (N : Int) := by omega
  have N1 : (N : Int) ≤ 1000000 := by have h : x.S.length ≤ 1000000 := hp.b.len.2.2.2.2.2; have := HN.out; omega
  have b0' : (0 : Int) ≤ (b0 : Int) := by omega
  have b1' : (b0 : Int) ≤ 100000 := by omega
  have Hnb : Hid (n ≤ 1000000) := hid hn
  have hal := World.grownBy_alloc W (.cells #[.slice p1 n1 c1, .slice p2 n2 c2, .slice p3 n3 c3, .slice p4 n4 c4, .slice p5 n5 c5, .slice p6 N c6, .int .i64 (pd : Int), .int .i64 (pc : Int)] 109) none
  have HX0 := hid (RwAt.new W 109 #[.slice p1 n1 c1, .slice p2 n2 c2, .slice p3 n3 c3, .slice p4 n4 c4, .slice p5 n5 c5, .slice p6 N c6, .int .i64 (pd : Int), .int .i64 (pc : Int)])
  have HM0 := hid (hM.kept0 hal)
  have HG0 := hid hal
  have HS0 : Hid ((W.alloc (.cells #[.slice p1 n1 c1, .slice p2 n2 c2, .slice p3 n3 c3, .slice p4 n4 c4, .slice p5 n5 c5, .slice p6 N c6, .int .i64 (pd : Int), .int .i64 (pc : Int)] 109)).heap.size = W.heap.size + 1) := hid (by simp)
  obtain ⟨i, hi, hz0, hz1, hz2⟩ := info_repair
  have Hi := hid hi
  have Hz0 := hid hz0
  have Hz1 := hid hz1
  have Hz2 := hid hz2
  clear h hM hl hp hb hn hok hn2 hal hi hz0 hz1 hz2 hone
  unfold ptV
  go_enter Tryz.func42, Tryz.ntmps42
  go_upto_region 1 with (fail)
  obtain ⟨b, hbb⟩ : ∃ b, W.heap.size = b := ⟨_, rfl⟩
  have HBe := hid hbb
  rw [hbb] at HX0 HS0 HGlt ⊢
  clear hbb
  generalize W.alloc (.cells #[.slice p1 n1 c1, .slice p2 n2 c2, .slice p3 n3 c3, .slice p4 n4 c4, .slice p5 n5 c5, .slice p6 N c6, .int .i64 (pd : Int), .int .i64 (pc : Int)] 109) = w1 at HX0 HM0 HG0 HS0 ⊢
  go_wp2_with (first
    | (refine wpList_make_full _ rfl _ _ 66 rfl (b + 1) 95 i _ 5 Tryz.underlying66 Hi.out Hz0.out Hz1.out .i64 .i64 _ _ n rfl rfl (by first | rfl | omega) (by first | rfl | omega) (by rw [Hz2.out]; have := Hnb.out; omega) (by have := Hnb.out; unfold maxLen; omega) (by have := HS0.out; omega) ?_
       intro w3 hmk hgr
       rw [show (Value.agg #[.int .i64 0, .int .i64 0, .int .i64 0, .int .i64 0, .int .i64 0]).cells = Array.replicate 5 (.int .i64 0) from rfl, toList_madeZero _ _ 5 (by omega), Array.toList_replicate] at hmk
       have HR0 : Hid (RpW W w3 G B b w1.heap.size n ⟨.slice p1 n1 c1, .slice p2 n2 c2, .slice p3 n3 c3, .slice p4 n4 c4, .slice p5 n5 c5, .slice p6 N c6⟩ ⟨x, pd, pc⟩ pv dd cc M (fxsF M ⟨x, pd, pc⟩ b0 l 0)) := hid ⟨grown_trans HG0.out hgr, HX0.out.kept0 hgr, HM0.out.kept0 hgr, by rw [fxsF_zero, Hn.out, fxs_zero]; exact hmk, Nat.le_of_eq HBe.out, HGlt.out.1, HGlt.out.2⟩
       clear hmk hgr)
    | fail)
  obtain ⟨g, hg⟩ : ∃ g, w1.heap.size = g := ⟨_, rfl⟩
  rw [hg] at HR0 ⊢
  clear hg HX0 HM0 HG0 HS0 HGlt
  go_loopw [17] (fun i wr => ∃ k : Nat, k ≤ n ∧ i = .int .i64 k ∧ Hid (RpW W wr G B b g n ⟨.slice p1 n1 c1, .slice p2 n2 c2, .slice p3 n3 c3, .slice p4 n4 c4, .slice p5 n5 c5, .slice p6 N c6⟩ ⟨x, pd, pc⟩ pv dd cc M (fxsF M ⟨x, pd, pc⟩ b0 l k))) (fun i _ => n - (intOf i).toNat)
  case atStart => exact ⟨0, Nat.zero_le _, rfl, HR0⟩
  case round =>
    obtain ⟨k, hk, rfl, HR⟩ := hrel
    clear HR0
    have k0 : (0 : Int) ≤ (k : Int) := by omega
    by_cases hlt : k < n
    · have kn : (k : Int) < (n : Int) := by omega
      have Hlt := hid hlt
      obtain ⟨⟨ra, rk, rs, rd⟩, hr⟩ : ∃ r, l[k]? = some r := ⟨_, List.getElem?_eq_getElem (by rw [Hn.out]; exact hlt)⟩
      have Hr := hid hr
      have hokr := Hok.out _ (List.mem_of_getElem? hr)
      obtain ⟨bq, oq, cq, hv, hbq, g0, g1, g2, g3⟩ := rl_item (HL.out.kept0 HR.out.g0) hr
      rw [Hn.out] at hv
      simp only [Value.slice.injEq, true_and] at hv
      obtain ⟨rfl, rfl⟩ := hv
      obtain ⟨⟨a0, a1⟩, s0, s1⟩ := hokr
      simp only at a0 a1 s0 s1
      obtain ⟨j, rfl⟩ := Int.eq_ofNat_of_zero_le s0
      have hal := World.grownBy_alloc wr (.cells #[.int .i64 ra, .int .i64 rk, .int .i64 (j : Int), .int .i64 rd] 62) none
      have HR6 := hid (HR.out.kept0 hal)
      have HX := hid (RwAt.new wr 62 #[.int .i64 ra, .int .i64 rk, .int .i64 (j : Int), .int .i64 rd])
      clear hal hr hbq hlt
      go_upto_region 5 with (fail)
      clear g0 g1 g2 g3
      obtain ⟨X, hX⟩ : ∃ X, wr.heap.size = X := ⟨_, rfl⟩
      have HXg : Hid (g < X) := hid (by have := (HR.out.own.lt g rfl).2; omega)
      rw [hX] at HX ⊢
      clear hX HR
      generalize wr.alloc (.cells #[.int .i64 ra, .int .i64 rk, .int .i64 (j : Int), .int .i64 rd] 62) = w6 at HR6 HX ⊢
      obtain ⟨⟨sn, si, sv, sg⟩, hs⟩ : ∃ s, x.S[j]? = some s := ⟨_, List.getElem?_eq_getElem (by omega)⟩
      have Hs := hid (show symN x (j : Int).toNat = ⟨sn, si, sv, sg⟩ by unfold symN; rw [Int.toNat_natCast, List.getD_eq_getElem?_getD, hs]; rfl)
      have Hsok := hid (HP.out.s _ (List.mem_of_getElem? hs))
      have HRd := hid (HR6.out.kept0 (grown_drew (grown_refl w6 none)))
      have HXd := hid (HX.out.kept0 (grown_drew (grown_refl w6 none)))
      obtain ⟨bs, os, cs, hv, hbs, z0, z1, z2, z3⟩ := sy_item (HO.out.kept0 HRd.out.g0).s hs
      obtain ⟨bs', os', cs', hv', hbs', _⟩ := sy_item HO.out.s hs
      have Hzl : Hid (bs < w6.drew.heap.size) := hid hbs
      rw [HN.out] at hv
      simp only [Value.slice.injEq, true_and] at hv
      obtain ⟨rfl, rfl⟩ := hv
      have Hbs : Hid (bs < W.heap.size) := hid (by
        simp only [Value.slice.injEq, Option.some.injEq, Addr.mk.injEq] at hv'
        rw [hv'.1.1]; exact hbs')
      clear hv' hbs'
      have jN : (j : Int) < (N : Int) := by rw [HN.out] at s1; exact s1
      obtain ⟨⟨qi, qa⟩, hq⟩ : ∃ q, spOf M ⟨x, pd, pc⟩ ⟨sn, si, sv, sg⟩ = q := ⟨_, rfl⟩
      have Hq := hid hq
      have Hcall : Hid (∀ W', w6.grownBy W' none → Calls Tryz.prog 56 #[.pointer (some ⟨G, 0, none⟩), .agg #[.slice p1 n1 c1, .slice p2 n2 c2, .slice p3 n3 c3, .slice p4 n4 c4, .slice p5 n5 c5, .slice (some ⟨bs, os, none⟩) N c6, .int .i64 (pd : Int), .int .i64 (pc : Int)], .agg #[.string sn, .int .i64 si, .int .i64 sv, .bool sg]] W' fun e w' => e = .returned (.agg #[.int .i64 qi, .int .i64 qa]) ∧ W'.grownBy w' none) := hid (by
        intro W' hW
        have hv := Hsok.out.1
        have hd1 := HP.out.dc.1
        have hd2 := HP.out.dc.2
        have h := jspot_any W' ⟨.slice p1 n1 c1, .slice p2 n2 c2, .slice p3 n3 c3, .slice p4 n4 c4, .slice p5 n5 c5, .slice (some ⟨bs, os, none⟩) N c6⟩ ⟨x, pd, pc⟩ ⟨sn, si, sv, sg⟩ (HR6.out.kept0 hW).m (Nat.le_trans hd1 (by decide)) (Nat.le_trans hd2 (by decide)) ⟨hv.1, Int.le_trans hv.2 (by decide)⟩ Hone.out
        rw [hq] at h
        exact h)
      have x0 := HXd.out.cell 0 (v := .int .i64 ra) rfl
      have x1 := HXd.out.cell 1 (v := .int .i64 rk) rfl
      have x2 := HXd.out.cell 2 (v := .int .i64 (j : Int)) rfl
      have x3 := HXd.out.cell 3 (v := .int .i64 rd) rfl
      have y0 := HRd.out.bx.cell 0 (v := .slice p1 n1 c1) rfl
      have y1 := HRd.out.bx.cell 1 (v := .slice p2 n2 c2) rfl
      have y2 := HRd.out.bx.cell 2 (v := .slice p3 n3 c3) rfl
      have y3 := HRd.out.bx.cell 3 (v := .slice p4 n4 c4) rfl
      have y4 := HRd.out.bx.cell 4 (v := .slice p5 n5 c5) rfl
      have y5 := HRd.out.bx.cell 5 (v := .slice (some ⟨bs, os, none⟩) N c6) rfl
      have y6 := HRd.out.bx.cell 6 (v := .int .i64 (pd : Int)) rfl
      have y7 := HRd.out.bx.cell 7 (v := .int .i64 (pc : Int)) rfl
      have hbld := fun a k i s d w => build_repair a k i s d w
      have Hcel : Hid (∀ W', w6.grownBy W' none → (∃ u, W'.cell? ⟨g, k * 5, none⟩ = some u) ∧ (∃ u, W'.cell? ⟨g, k * 5 + 1, none⟩ = some u) ∧ (∃ u, W'.cell? ⟨g, k * 5 + 2, none⟩ = some u) ∧ (∃ u, W'.cell? ⟨g, k * 5 + 3, none⟩ = some u) ∧ (∃ u, W'.cell? ⟨g, k * 5 + 4, none⟩ = some u) ∧ (∀ j, W'.frozen? ⟨g, j, none⟩ = false)) := hid (by
        intro W' hW
        have h := (HR6.out.kept0 hW).own
        have hle := Hlt.out
        have hnn := Hn.out
        have hl := fxsF_length M ⟨x, pd, pc⟩ b0 l (k := k) (by omega)
        have hl2 : ∀ F : List Fx, (fxsL F).length = F.length * 5 := fxsL_len
        have hc : ∀ j, j < n * 5 → ∃ u, W'.cell? ⟨g, j, none⟩ = some u := fun j hj => ⟨_, (h.cellAt j hj).trans (List.getElem?_eq_getElem (by rw [hl2, hl, hnn]; exact hj))⟩
        exact ⟨hc _ (by omega), hc _ (by omega), hc _ (by omega), hc _ (by omega), hc _ (by omega), fun j => h.frozenAt j⟩)
      simp only at z0 z1 z2 z3
      clear hq hs hbs
      have Hne : Hid (X ≠ g ∧ b ≠ g ∧ bs ≠ g) := hid (by
        have h1 := HR6.out.own.lt g rfl
        have h2 := HR6.out.lt
        have h3 := HXg.out
        exact ⟨fun e => by omega, fun e => by omega, fun e => by have := Hbs.out; omega⟩)
      go_region_held3 (fun W => W.cell? ⟨X, 0, none⟩ = some (.int .i64 ra) ∧ W.cell? ⟨X, 1, none⟩ = some (.int .i64 rk) ∧ W.cell? ⟨X, 2, none⟩ = some (.int .i64 (j : Int)) ∧ W.cell? ⟨X, 3, none⟩ = some (.int .i64 rd) ∧ W.cell? ⟨b, 0, none⟩ = some (.slice p1 n1 c1) ∧ W.cell? ⟨b, 1, none⟩ = some (.slice p2 n2 c2) ∧ W.cell? ⟨b, 2, none⟩ = some (.slice p3 n3 c3) ∧ W.cell? ⟨b, 3, none⟩ = some (.slice p4 n4 c4) ∧ W.cell? ⟨b, 4, none⟩ = some (.slice p5 n5 c5) ∧ W.cell? ⟨b, 5, none⟩ = some (.slice (some ⟨bs, os, none⟩) N c6) ∧ W.cell? ⟨b, 6, none⟩ = some (.int .i64 (pd : Int)) ∧ W.cell? ⟨b, 7, none⟩ = some (.int .i64 (pc : Int)) ∧ W.cell? ⟨bs, os + j * 4, none⟩ = some (.string sn) ∧ W.cell? ⟨bs, os + j * 4 + 1, none⟩ = some (.int .i64 si) ∧ W.cell? ⟨bs, os + j * 4 + 2, none⟩ = some (.int .i64 sv) ∧ W.cell? ⟨bs, os + j * 4 + 3, none⟩ = some (.bool sg))
        (first | (with_reducible exact ⟨x0, x1, x2, x3, y0, y1, y2, y3, y4, y5, y6, y7, z0, z1, z2, z3⟩) | (with_reducible exact ⟨x09, x19, x29, x39, y09, y19, y29, y39, y49, y59, y69, y79, z09, z19, z29, z39⟩) | (with_reducible exact ⟨x08, x18, x28, x38, y08, y18, y28, y38, y48, y58, y68, y78, z08, z18, z28, z38⟩))
        (first
          | (go_at_call 56
             refine (Hcall.out _ (grown_drew (grown_refl w6 none))).mono ?_
             rintro e w9 ⟨rfl, hg⟩
             have hg2 : w6.grownBy w9 none := grown_trans (grown_drew (grown_refl w6 none)) hg
             have HR9 := hid (HR6.out.kept0 hg2)
             have x09 := (HX.out.kept0 hg2).cell 0 (v := .int .i64 ra) rfl
             have x19 := (HX.out.kept0 hg2).cell 1 (v := .int .i64 rk) rfl
             have x29 := (HX.out.kept0 hg2).cell 2 (v := .int .i64 (j : Int)) rfl
             have x39 := (HX.out.kept0 hg2).cell 3 (v := .int .i64 rd) rfl
             have y09 := HR9.out.bx.cell 0 (v := .slice p1 n1 c1) rfl
             have y19 := HR9.out.bx.cell 1 (v := .slice p2 n2 c2) rfl
             have y29 := HR9.out.bx.cell 2 (v := .slice p3 n3 c3) rfl
             have y39 := HR9.out.bx.cell 3 (v := .slice p4 n4 c4) rfl
             have y49 := HR9.out.bx.cell 4 (v := .slice p5 n5 c5) rfl
             have y59 := HR9.out.bx.cell 5 (v := .slice (some ⟨bs, os, none⟩) N c6) rfl
             have y69 := HR9.out.bx.cell 6 (v := .int .i64 (pd : Int)) rfl
             have y79 := HR9.out.bx.cell 7 (v := .int .i64 (pc : Int)) rfl
             have z09 := (grown_cell hg (p := ⟨bs, os + j * 4, none⟩) Hzl.out (by simp)).trans z0
             have z19 := (grown_cell hg (p := ⟨bs, os + j * 4 + 1, none⟩) Hzl.out (by simp)).trans z1
             have z29 := (grown_cell hg (p := ⟨bs, os + j * 4 + 2, none⟩) Hzl.out (by simp)).trans z2
             have z39 := (grown_cell hg (p := ⟨bs, os + j * 4 + 3, none⟩) Hzl.out (by simp)).trans z3
             have x08 := cell_five x09 (g := g) Hne.out.1 (k * 5) (.int .i64 (IntKind.i64.wrap ((b0 : Int) + ra))) (.int .i64 rk) (.int .i64 qi) (.int .i64 qa) (.int .i64 rd)
             have x18 := cell_five x19 (g := g) Hne.out.1 (k * 5) (.int .i64 (IntKind.i64.wrap ((b0 : Int) + ra))) (.int .i64 rk) (.int .i64 qi) (.int .i64 qa) (.int .i64 rd)
             have x28 := cell_five x29 (g := g) Hne.out.1 (k * 5) (.int .i64 (IntKind.i64.wrap ((b0 : Int) + ra))) (.int .i64 rk) (.int .i64 qi) (.int .i64 qa) (.int .i64 rd)
             have x38 := cell_five x39 (g := g) Hne.out.1 (k * 5) (.int .i64 (IntKind.i64.wrap ((b0 : Int) + ra))) (.int .i64 rk) (.int .i64 qi) (.int .i64 qa) (.int .i64 rd)
             have y08 := cell_five y09 (g := g) Hne.out.2.1 (k * 5) (.int .i64 (IntKind.i64.wrap ((b0 : Int) + ra))) (.int .i64 rk) (.int .i64 qi) (.int .i64 qa) (.int .i64 rd)
             have y18 := cell_five y19 (g := g) Hne.out.2.1 (k * 5) (.int .i64 (IntKind.i64.wrap ((b0 : Int) + ra))) (.int .i64 rk) (.int .i64 qi) (.int .i64 qa) (.int .i64 rd)
             have y28 := cell_five y29 (g := g) Hne.out.2.1 (k * 5) (.int .i64 (IntKind.i64.wrap ((b0 : Int) + ra))) (.int .i64 rk) (.int .i64 qi) (.int .i64 qa) (.int .i64 rd)
             have y38 := cell_five y39 (g := g) Hne.out.2.1 (k * 5) (.int .i64 (IntKind.i64.wrap ((b0 : Int) + ra))) (.int .i64 rk) (.int .i64 qi) (.int .i64 qa) (.int .i64 rd)
             have y48 := cell_five y49 (g := g) Hne.out.2.1 (k * 5) (.int .i64 (IntKind.i64.wrap ((b0 : Int) + ra))) (.int .i64 rk) (.int .i64 qi) (.int .i64 qa) (.int .i64 rd)
             have y58 := cell_five y59 (g := g) Hne.out.2.1 (k * 5) (.int .i64 (IntKind.i64.wrap ((b0 : Int) + ra))) (.int .i64 rk) (.int .i64 qi) (.int .i64 qa) (.int .i64 rd)
             have y68 := cell_five y69 (g := g) Hne.out.2.1 (k * 5) (.int .i64 (IntKind.i64.wrap ((b0 : Int) + ra))) (.int .i64 rk) (.int .i64 qi) (.int .i64 qa) (.int .i64 rd)
             have y78 := cell_five y79 (g := g) Hne.out.2.1 (k * 5) (.int .i64 (IntKind.i64.wrap ((b0 : Int) + ra))) (.int .i64 rk) (.int .i64 qi) (.int .i64 qa) (.int .i64 rd)
             have z08 := cell_five z09 (g := g) Hne.out.2.2 (k * 5) (.int .i64 (IntKind.i64.wrap ((b0 : Int) + ra))) (.int .i64 rk) (.int .i64 qi) (.int .i64 qa) (.int .i64 rd)
             have z18 := cell_five z19 (g := g) Hne.out.2.2 (k * 5) (.int .i64 (IntKind.i64.wrap ((b0 : Int) + ra))) (.int .i64 rk) (.int .i64 qi) (.int .i64 qa) (.int .i64 rd)
             have z28 := cell_five z29 (g := g) Hne.out.2.2 (k * 5) (.int .i64 (IntKind.i64.wrap ((b0 : Int) + ra))) (.int .i64 rk) (.int .i64 qi) (.int .i64 qa) (.int .i64 rd)
             have z38 := cell_five z39 (g := g) Hne.out.2.2 (k * 5) (.int .i64 (IntKind.i64.wrap ((b0 : Int) + ra))) (.int .i64 rk) (.int .i64 qi) (.int .i64 qa) (.int .i64 rd)
             obtain ⟨⟨u0, c09⟩, ⟨u1, c19⟩, ⟨u2, c29⟩, ⟨u3, c39⟩, ⟨u4, c49⟩, cf9⟩ := Hcel.out _ hg2
             clear hg hg2))
      go_split_ands
      have HN8 : Hid (RpW W (((((w9.setCell ⟨g, k * 5, none⟩ (.int .i64 ((b0 : Int) + ra))).setCell ⟨g, k * 5 + 1, none⟩ (.int .i64 rk)).setCell ⟨g, k * 5 + 2, none⟩ (.int .i64 qi)).setCell ⟨g, k * 5 + 3, none⟩ (.int .i64 qa)).setCell ⟨g, k * 5 + 4, none⟩ (.int .i64 rd)) G B b g n ⟨.slice p1 n1 c1, .slice p2 n2 c2, .slice p3 n3 c3, .slice p4 n4 c4, .slice p5 n5 c5, .slice (some ⟨bs, os, none⟩) N c6⟩ ⟨x, pd, pc⟩ pv dd cc M (fxsF M ⟨x, pd, pc⟩ b0 l (k + 1))) := hid (by
        refine HR9.out.put Hn.out Hlt.out Hr.out ?_
        show (⟨(b0 : Int) + ra, rk, spOf M ⟨x, pd, pc⟩ (symN x (j : Int).toNat), rd⟩ : Fx) = _
        rw [Hs.out, Hq.out])
      clear x08 x18 x28 x38 y08 y18 y28 y38 y48 y58 y68 y78 z08 z18 z28 z38 x09 x19 x29 x39 y09 y19 y29 y39 y49 y59 y69 y79 z09 z19 z29 z39 x0 x1 x2 x3 y0 y1 y2 y3 y4 y5 y6 y7 z0 z1 z2 z3 c09 c19 c29 c39 c49 cf9 hbld
      go_wp2
      go_roundw
      case rel => exact ⟨k + 1, Hlt.out, by go_num, HN8⟩
      case measure => simp [intOf]; have := Hlt.out; omega
    · obtain rfl : k = n := by omega
      have kn : ¬ ((k : Int) < (k : Int)) := by omega
      clear hlt
      go_wp2
      go_ret
      exact ⟨_, rfl, by rw [HBe.out, ← fxsF_all M ⟨x, pd, pc⟩ b0 l, Hn.out]; exact own_base HR.out.own (by omega), HR.out.g0⟩
end Go.Proofs.YtogdpaaofihkgaaGreatDoor

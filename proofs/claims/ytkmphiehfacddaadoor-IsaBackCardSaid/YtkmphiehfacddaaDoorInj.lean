/- Unlike instructions have unlike texts: plain facts. -/
import Derived.Test.YtkmphiehfacddaaDoorTxt
namespace Go.Proofs.YtkmphiehfacddaaDoor

theorem sB_app (x y : List UInt8) : sB x ++ sB y = sB (x ++ y) := by
  apply ByteArray.ext; simp [sB, ByteArray.data_append]
theorem sB_inj {x y : List UInt8} (h : sB x = sB y) : x = y := by
  have := congrArg (fun b : ByteArray => b.data.toList) h
  simpa [sB] using this
/-- an operand's words -/
def opW (k : Int) (n : Nat) : List (List UInt8) := if k = 1 then [114 :: Lib.decDigits n] else if k = 2 then [Lib.decDigits n] else []
def sps (ws : List (List UInt8)) : List UInt8 := ws.flatMap fun v => 32 :: v
theorem sps_app (x y : List (List UInt8)) : sps (x ++ y) = sps x ++ sps y := by simp [sps]
theorem kt_eq (k : Int) (n : Nat) : ktB k n = sB (sps (opW k n)) := by
  unfold ktB opW decB
  repeat' split
  · rw [sB_app]; simp [sps]
  · rw [sB_app]; simp [sps]
  · rfl
def wordsL (o a b c i : Nat) : List (List UInt8) := opW (hasA o) a ++ (opW (hasB o) b ++ (opW (hasC o) c ++ (if twoB o = true then [48 :: 120 :: hexL i] else [])))
theorem text_words (o a b c i : Nat) : textB o a b c i = sB (nameL o ++ sps (wordsL o a b c i)) := by
  unfold textB wordsL nameB hexB
  simp only [kt_eq, sB_app]
  split
  · simp [sps]
  · simp [sps]

/-! no blank in a word -/
theorem nosp_name (o : Nat) : (32 : UInt8) ∉ nameL o := by
  unfold nameL; split <;> decide
theorem dig_not (d : Nat) (h : d < 10) : UInt8.ofNat (48 + d) ≠ 32 := by
  match d, h with
  | 0, _ => decide
  | 1, _ => decide
  | 2, _ => decide
  | 3, _ => decide
  | 4, _ => decide
  | 5, _ => decide
  | 6, _ => decide
  | 7, _ => decide
  | 8, _ => decide
  | 9, _ => decide
theorem nosp_dec (n : Nat) : (32 : UInt8) ∉ Lib.decDigits n := by
  induction n using Nat.strongRecOn with
  | ind n ih =>
    rw [Lib.decDigits]
    split
    · rename_i h
      intro q
      exact dig_not n h (List.mem_singleton.1 q).symm
    · rename_i h
      intro q
      rw [List.mem_append] at q
      rcases q with q | q
      · exact ih (n / 10) (by omega) q
      · exact dig_not (n % 10) (by omega) (List.mem_singleton.1 q).symm
theorem hx_not : ∀ d : Fin 16, hx d.val ≠ 32 := by decide
theorem hx_inj : ∀ d e : Fin 16, hx d.val = hx e.val → d = e := by decide
theorem nosp_hex (n : Nat) : (32 : UInt8) ∉ hexL n := by
  induction n using Nat.strongRecOn with
  | ind n ih =>
    by_cases h : n < 16
    · rw [hex_lo h]
      intro q
      simp at q
      exact hx_not ⟨n, h⟩ q.symm
    · rw [hex_hi (by omega)]
      intro q
      rw [List.mem_append] at q
      rcases q with q | q
      · exact ih (n / 16) (by omega) q
      · simp at q
        exact hx_not ⟨n % 16, by omega⟩ q.symm
theorem nosp_op (k : Int) (n : Nat) : ∀ v ∈ opW k n, (32 : UInt8) ∉ v := by
  unfold opW
  have := nosp_dec n
  repeat' split
  all_goals simp [this]
theorem nosp_words (o a b c i : Nat) : ∀ v ∈ wordsL o a b c i, (32 : UInt8) ∉ v := by
  intro v hv
  unfold wordsL at hv
  rw [List.mem_append, List.mem_append, List.mem_append] at hv
  rcases hv with h | h | h | h
  · exact nosp_op _ _ v h
  · exact nosp_op _ _ v h
  · exact nosp_op _ _ v h
  · split at h
    · simp at h; subst h
      have := nosp_hex i
      simp [this]
    · simp at h

/-! reading the words back -/
theorem cut_one : ∀ (x x' y y' : List UInt8), (32 : UInt8) ∉ x → (32 : UInt8) ∉ x' → (y = [] ∨ ∃ t, y = 32 :: t) → (y' = [] ∨ ∃ t, y' = 32 :: t) → x ++ y = x' ++ y' → x = x' ∧ y = y'
  | [], [], y, y', _, _, _, _, h => ⟨rfl, h⟩
  | [], a :: x', y, y', _, hx', hy, _, h => by
    rcases hy with rfl | ⟨t, rfl⟩
    · simp at h
    · simp only [List.nil_append, List.cons_append, List.cons.injEq] at h
      exact absurd (by rw [← h.1]; simp) hx'
  | a :: x, [], y, y', hx, _, _, hy', h => by
    rcases hy' with rfl | ⟨t, rfl⟩
    · simp at h
    · simp only [List.nil_append, List.cons_append, List.cons.injEq] at h
      exact absurd (by rw [h.1]; simp) hx
  | a :: x, b :: x', y, y', hx, hx', hy, hy', h => by
    simp only [List.cons_append, List.cons.injEq] at h
    have := cut_one x x' y y' (fun q => hx (List.mem_cons_of_mem _ q)) (fun q => hx' (List.mem_cons_of_mem _ q)) hy hy' h.2
    exact ⟨by rw [h.1, this.1], this.2⟩
theorem sps_head (ws : List (List UInt8)) : sps ws = [] ∨ ∃ t, sps ws = 32 :: t := by
  cases ws with
  | nil => left; rfl
  | cons v r => right; exact ⟨v ++ sps r, by simp [sps]⟩
theorem sps_inj : ∀ (ws ws' : List (List UInt8)), (∀ v ∈ ws, (32 : UInt8) ∉ v) → (∀ v ∈ ws', (32 : UInt8) ∉ v) → sps ws = sps ws' → ws = ws'
  | [], [], _, _, _ => rfl
  | [], v :: r, _, _, h => by simp [sps] at h
  | v :: r, [], _, _, h => by simp [sps] at h
  | v :: r, v' :: r', hw, hw', h => by
    have h' : v ++ sps r = v' ++ sps r' := by simpa [sps] using h
    have := cut_one v v' _ _ (hw v (by simp)) (hw' v' (by simp)) (sps_head r) (sps_head r') h'
    rw [this.1, sps_inj r r' (fun u q => hw u (by simp [q])) (fun u q => hw' u (by simp [q])) this.2]
theorem snoc_inj {x y : List UInt8} {c d : UInt8} (h : x ++ [c] = y ++ [d]) : x = y ∧ c = d := by
  have := List.append_inj' h rfl
  exact ⟨this.1, by simpa using this.2⟩
theorem ofNat_inj {d e : Nat} (hd : d < 10) (he : e < 10) (h : UInt8.ofNat (48 + d) = UInt8.ofNat (48 + e)) : d = e := by
  have := congrArg UInt8.toNat h
  simp at this
  omega
theorem dec_one {n : Nat} (h : n < 10) : Lib.decDigits n = [UInt8.ofNat (48 + n)] := by rw [Lib.decDigits, dif_pos h]
theorem dec_more {n : Nat} (h : ¬ n < 10) : Lib.decDigits n = Lib.decDigits (n / 10) ++ [UInt8.ofNat (48 + n % 10)] := by rw [Lib.decDigits, dif_neg h]
theorem dec_ne (n : Nat) : Lib.decDigits n ≠ [] := by
  by_cases h : n < 10
  · rw [dec_one h]; simp
  · rw [dec_more h]; simp
theorem dec_inj : ∀ (n m : Nat), Lib.decDigits n = Lib.decDigits m → n = m := by
  intro n
  induction n using Nat.strongRecOn with
  | ind n ih =>
    intro m h
    by_cases hn : n < 10
    · by_cases hm : m < 10
      · rw [dec_one hn, dec_one hm] at h
        exact ofNat_inj hn hm (by simpa using h)
      · rw [dec_one hn, dec_more hm] at h
        have := snoc_inj (x := []) h
        exact absurd this.1.symm (dec_ne _)
    · by_cases hm : m < 10
      · rw [dec_more hn, dec_one hm] at h
        have := snoc_inj (y := []) h
        exact absurd this.1 (dec_ne _)
      · rw [dec_more hn, dec_more hm] at h
        have q := snoc_inj h
        have e1 := ih (n / 10) (by omega) (m / 10) q.1
        have e2 := ofNat_inj (by omega) (by omega) q.2
        omega
theorem hex_ne (n : Nat) : hexL n ≠ [] := by
  by_cases h : n < 16
  · rw [hex_lo h]; simp
  · rw [hex_hi (by omega)]; simp
theorem hex_inj : ∀ (n m : Nat), hexL n = hexL m → n = m := by
  intro n
  induction n using Nat.strongRecOn with
  | ind n ih =>
    intro m h
    by_cases hn : n < 16
    · by_cases hm : m < 16
      · rw [hex_lo hn, hex_lo hm] at h
        have := hx_inj ⟨n, hn⟩ ⟨m, hm⟩ (by simpa using h)
        exact congrArg Fin.val this
      · rw [hex_lo hn, hex_hi (u := m) (by omega)] at h
        have := snoc_inj (x := []) h
        exact absurd this.1.symm (hex_ne _)
    · by_cases hm : m < 16
      · rw [hex_hi (u := n) (by omega), hex_lo hm] at h
        have := snoc_inj (y := []) h
        exact absurd this.1 (hex_ne _)
      · rw [hex_hi (u := n) (by omega), hex_hi (u := m) (by omega)] at h
        have q := snoc_inj h
        have e1 := ih (n / 16) (by omega) (m / 16) q.1
        have e2 := congrArg Fin.val (hx_inj ⟨n % 16, by omega⟩ ⟨m % 16, by omega⟩ q.2)
        simp only at e2
        omega
theorem name_inj : ∀ d e : Fin 97, clsI (d.val : Int) ≠ 0 → clsI (e.val : Int) ≠ 0 → nameL d.val = nameL e.val → d = e := by decide +kernel
theorem name_len : ∀ d : Fin 97, clsI (d.val : Int) ≠ 0 → 2 ≤ (nameL d.val).length := by decide +kernel
theorem op_inj {k : Int} {n m : Nat} (hn : alwB k n = true) (hm : alwB k m = true) (h : opW k n = opW k m) : n = m := by
  unfold opW at h
  by_cases h1 : k = 1
  · simp only [h1, if_true, List.cons.injEq, true_and, and_true] at h
    exact dec_inj _ _ h
  · by_cases h2 : k = 2
    · simp [h2] at h
      exact dec_inj _ _ h
    · unfold alwB at hn hm
      rw [if_neg h1, if_neg h2] at hn hm
      have := of_decide_eq_true hn
      have := of_decide_eq_true hm
      omega
theorem op_len (k : Int) (n m : Nat) : (opW k n).length = (opW k m).length := by
  unfold opW; repeat' split
  all_goals simp
theorem text_inj {o a b c i o' a' b' c' i' : Nat} (h : insB o a b c i = true) (h' : insB o' a' b' c' i' = true) (ht : textB o a b c i = textB o' a' b' c' i') :
    o = o' ∧ a = a' ∧ b = b' ∧ c = c' ∧ i = i' := by
  rw [text_words, text_words] at ht
  have q := cut_one _ _ _ _ (nosp_name o) (nosp_name o') (sps_head _) (sps_head _) (sB_inj ht)
  obtain ⟨k1, k2, k3, k4, k5⟩ := ins_parts h
  obtain ⟨j1, j2, j3, j4, j5⟩ := ins_parts h'
  have b1 := cls_bd k1
  have b2 := cls_bd j1
  have e0 := congrArg Fin.val (name_inj ⟨o, by omega⟩ ⟨o', by omega⟩ k1 j1 q.1)
  simp only at e0
  subst e0
  have hw := sps_inj _ _ (nosp_words _ _ _ _ _) (nosp_words _ _ _ _ _) q.2
  unfold wordsL at hw
  have c1 := List.append_inj hw (op_len _ _ _)
  have c2 := List.append_inj c1.2 (op_len _ _ _)
  have c3 := List.append_inj c2.2 (op_len _ _ _)
  refine ⟨rfl, op_inj k2 j2 c1.1, op_inj k3 j3 c2.1, op_inj k4 j4 c3.1, ?_⟩
  cases hq : twoB (o : Int)
  · rw [hq] at k5 j5
    simp at k5 j5
    omega
  · have := c3.2
    rw [if_pos hq, if_pos hq] at this
    exact hex_inj _ _ (by simpa using this)

theorem text_two_up {o a b c i : Nat} (h : insB o a b c i = true) : 2 ≤ (textB o a b c i).size := by
  have hn : 2 ≤ (nameL o).length := by
    obtain ⟨k1, _⟩ := ins_parts h
    have b1 := cls_bd k1
    have := name_len ⟨o, by omega⟩ k1
    simpa using this
  rw [text_words]
  simp [sB, ByteArray.size]; omega
theorem wrd_inj {o a b c o' a' b' c' : Int} (h1 : 0 ≤ a ∧ a ≤ 255) (h2 : 0 ≤ b ∧ b ≤ 255) (h3 : 0 ≤ c ∧ c ≤ 255) (g1 : 0 ≤ a' ∧ a' ≤ 255) (g2 : 0 ≤ b' ∧ b' ≤ 255) (g3 : 0 ≤ c' ∧ c' ≤ 255)
    (h : wrdI o a b c = wrdI o' a' b' c') : o = o' ∧ a = a' ∧ b = b' ∧ c = c' := by
  unfold wrdI at h; omega
theorem want_same {o a b c i : Int} (h : insB o a b c i = true) : wantImm o i = i := by
  obtain ⟨_, _, _, _, k⟩ := ins_parts h
  unfold wantImm
  split
  · rfl
  · rcases k with k | k
    · exact k.symm
    · contradiction
end Go.Proofs.YtkmphiehfacddaaDoor

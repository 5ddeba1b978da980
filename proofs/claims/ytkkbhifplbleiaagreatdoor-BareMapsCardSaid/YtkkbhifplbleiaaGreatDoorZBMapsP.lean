/- Plain facts of the law BareMaps: its code, and how it runs. -/
import Derived.Test.YtkkbhifplbleiaaGreatDoorZBQueueP
namespace Go.Proofs.YtkkbhifplbleiaaGreatDoor
open Go.RowKit
section
variable {xs : List Int} {P : Nat}
/-- the entry of a page of the first half -/
theorem page_at (hP : P < 128) (hr : xs[P / 16]? = some (bitV (((P / 16 : Nat) : Int) + 1) true true true)) {w : Int} (hw : xs[16 + P]? = some w) : pageO xs 40 0 (P : Int) = liveO w := by
  obtain ⟨hl, hd⟩ := bitV_tab (f := ((P / 16 : Nat) : Int) + 1) (by omega) (by omega) true true
  have e1 : wordI xs (0 * 16 + (P : Int) / 16) = bitV (((P / 16 : Nat) : Int) + 1) true true true := word_get hr (by omega)
  have e2 : wordI xs ((((P / 16 : Nat) : Int) + 1) * 16 + (P : Int) % 16) = w := word_get hw (by omega)
  unfold pageO
  rw [if_pos (by omega), e1, if_pos ⟨hl, by rw [hd]; omega⟩, hd, e2]
theorem upd_at (hP : P < 128) (hr : xs[P / 16]? = some (bitV (((P / 16 : Nat) : Int) + 1) true true true)) (w : Int) : updP 40 xs ((P : Int), w) = xs.set (16 + P) w := by
  obtain ⟨hl, hd⟩ := bitV_tab (f := ((P / 16 : Nat) : Int) + 1) (by omega) (by omega) true true
  have e1 : wordI xs (((P : Int), w).1 / 16) = bitV (((P / 16 : Nat) : Int) + 1) true true true := word_get hr (by show (P : Int) / 16 = _; omega)
  unfold updP
  rw [e1, if_pos ⟨hl, by rw [hd]; omega⟩, hd]
  rw [show ((((P / 16 : Nat) : Int) + 1) * 16 + ((P : Int), w).1 % 16).toNat = 16 + P by show ((((P / 16 : Nat) : Int) + 1) * 16 + (P : Int) % 16).toNat = _; omega]
theorem at_frame {F : Nat} (hF : F < 24) (hp : pageO xs 40 0 (P : Int) = liveO ((F : Int) * 256 + 3)) {k : Nat} (hk : k < 16) (wr : Bool) :
    atB xs ((24 + 16 : Nat) : Int) 0 (16 * (P : Int) + (k : Int)) wr false = true ∧ atV xs ((24 + 16 : Nat) : Int) 0 (16 * (P : Int) + (k : Int)) wr false = ((F * 16 + k : Nat) : Int) := by
  have hl : liveB ((F : Int) * 256 + 3) = true := by unfold liveB; rw [decide_eq_true_eq]; omega
  have hB : atB xs ((24 + 16 : Nat) : Int) 0 (16 * (P : Int) + (k : Int)) wr false = true := by
    unfold atB
    rw [show (16 * (P : Int) + (k : Int)) / 16 = (P : Int) by omega]
    show wayB (pageO xs 40 0 (P : Int)) 40 wr false = true
    rw [hp, liveO_yes hl]
    unfold wayB wB
    simp
    omega
  refine ⟨hB, ?_⟩
  unfold atV wayV
  unfold atB at hB
  rw [if_pos hB, show (16 * (P : Int) + (k : Int)) / 16 = (P : Int) by omega]
  show oF (pageO xs 40 0 (P : Int)) * 16 + _ = _
  rw [hp, liveO_yes hl]
  show ((F : Int) * 256 + 3) / 256 * 16 + _ = _
  omega
end
section
variable {q' : Int} {code xs : List Int} {i : Nat} {ie : Bool} {l Q S : List Int} {sn : List Sn} {t : Int} {ws : List (Int × Int)} {M : Mc}
theorem once_move (h : Is xs i ie l Q S sn t ws M) (C : CodeIn 24 code xs) (hi : i < code.length) {op a b c : Int} (hx : code.getD i 0 = wrdI op a b c) (hok : insB op a b c 0 = true) (ho : op = 12 ∨ op = 13) :
    onceP M.xs ((24 + 16 : Nat) : Int) 0 M.c false = moveP M.xs ((24 + 16 : Nat) : Int) 0 M.c false op a b c 0 1 := by
  have hf := fetch_w1 (xs := M.xs) (by rw [h.xs]; exact C) hi h.pc hx hok (by rcases ho with rfl | rfl <;> decide)
  unfold onceP doP innP
  rw [hf]
  rcases ho with rfl | rfl <;> rfl
theorem is_st (h : Is xs i ie l Q S sn t ws M) (hc : Q = [] ∨ ie = false) (C : CodeIn 24 code xs) (hi : i < code.length) {a b c : Int} (hx : code.getD i 0 = wrdI 13 a b c) (hok : insB 13 a b c 0 = true)
    {A : Int} (hA : (regI l b + c) % 4294967296 = A) {k : Nat} (hB : atB xs ((24 + 16 : Nat) : Int) 0 A true false = true) (hV : atV xs ((24 + 16 : Nat) : Int) 0 A true false = (k : Int)) :
    Is (xs.set k (regI l a)) (i + 1) ie l Q S sn (t + 1) ws (stepP (24 + 16) q' M) := by
  have hm := once_move h C hi hx hok (.inr rfl)
  have e : addrI M.c b c = A := by unfold addrI; rw [h.l]; exact hA
  unfold moveP at hm
  rw [e, h.xs, show ((13 : Int) == 13) = true from rfl, if_pos hB, if_pos rfl, hV] at hm
  rw [← h.xs] at hm
  rw [step_calm h.ov (h.calm hc), ins_go hm]
  exact ⟨by rw [← h.l]; show M.xs.set _ _ = _; rw [h.xs]; rfl, h.pc1 C hi, h.ie, h.l, h.tv, h.Q, h.S, h.af, h.sn, congrArg (· + 1) h.now, h.ws, h.ov⟩
theorem is_ld (h : Is xs i ie l Q S sn t ws M) (hc : Q = [] ∨ ie = false) (C : CodeIn 24 code xs) (hi : i < code.length) {a b c : Int} (hx : code.getD i 0 = wrdI 12 a b c) (hok : insB 12 a b c 0 = true)
    {A : Int} (hA : (regI l b + c) % 4294967296 = A) {k : Nat} (hB : atB xs ((24 + 16 : Nat) : Int) 0 A false false = true) (hV : atV xs ((24 + 16 : Nat) : Int) 0 A false false = (k : Int)) {y : Int} (hy : xs[k]? = some y) :
    Is xs (i + 1) ie (l.set a.toNat y) Q S sn (t + 1) ws (stepP (24 + 16) q' M) := by
  have hm := once_move h C hi hx hok (.inl rfl)
  have e : addrI M.c b c = A := by unfold addrI; rw [h.l]; exact hA
  have er : rdV xs ((24 + 16 : Nat) : Int) 0 A false = y := by unfold rdV; rw [if_pos hB]; exact word_get hy hV
  unfold moveP at hm
  rw [e, h.xs, show ((12 : Int) == 13) = false from rfl, if_pos hB, if_neg (by decide)] at hm
  unfold ldX at hm
  rw [e, er] at hm
  rw [← h.xs] at hm
  rw [step_calm h.ov (h.calm hc), ins_go hm]
  exact ⟨h.xs, h.pc1 C hi, h.ie, by rw [← h.l]; rfl, h.tv, h.Q, h.S, h.af, h.sn, congrArg (· + 1) h.now, h.ws, h.ov⟩
/-- a load that is not there, and nobody takes the trap -/
theorem is_ld_no (h : Is xs i ie l Q S sn t ws M) (hc : Q = [] ∨ ie = false) (C : CodeIn 24 code xs) (hi : i < code.length) {a b c : Int} (hx : code.getD i 0 = wrdI 12 a b c) (hok : insB 12 a b c 0 = true)
    {A : Int} (hA : (regI l b + c) % 4294967296 = A) (hB : atB xs ((24 + 16 : Nat) : Int) 0 A false false = false) :
    (stepP (24 + 16) q' M).ov = true ∧ (stepP (24 + 16) q' M).d.sn = sn ++ [(4, 1, 0)] ∧ (stepP (24 + 16) q' M).now = t + 1 := by
  have hm := once_move h C hi hx hok (.inl rfl)
  have e : addrI M.c b c = A := by unfold addrI; rw [h.l]; exact hA
  unfold moveP at hm
  rw [e, h.xs, show ((12 : Int) == 13) = false from rfl, if_neg (by rw [hB]; decide)] at hm
  rw [← h.xs] at hm
  rw [step_calm h.ov (h.calm hc), ins_trap hm (.inl rfl)]
  unfold takeP
  rw [if_pos h.tv]
  exact ⟨rfl, by rw [← h.sn]; rfl, congrArg (· + 1) h.now⟩
end
def codeM (P F : Nat) (v : Int) : List Int := [234946560, (P : Int), 235012096, (F : Int) * 256 + 3, 687931904, 235077632, ((P + 1 : Nat) : Int), 688062976, 704643072, 235143168, 16 * (P : Int), 235208704, v, 218432519, 201720855, 587595776, 235339776, 0, 688064256, 704643072, 201851927]
def machM (P F : Nat) (v : Int) : Mc := initM (memW8 24 [] (codeM P F v)) (pcP 2048 0)
set_option maxHeartbeats 4000000 in
theorem maps_run {P F : Nat} {v : Int} (p0 : 3 ≤ P) (p1 : P ≤ 102) (f0 : 17 ≤ F) (f1 : F < 24) :
    (iterP (24 + 16) 24 15 (machM P F v)).ov = true ∧ (iterP (24 + 16) 24 15 (machM P F v)).d.sn = [(1, 0, v), (4, 1, 0)] := by
  have hL : (codeM P F v).length = 21 := rfl
  have C0 : CodeIn 24 (codeM P F v) (memW8 24 [] (codeM P F v)) := code_mem8 (by decide) (by decide) [] (by rw [hL]; decide)
  obtain ⟨xs0, hx0⟩ : ∃ xs0, memW8 24 [] (codeM P F v) = xs0 := ⟨_, rfl⟩
  have hlen : xs0.length = 640 := by rw [← hx0, memW8_len]
  have hroot : ∀ j : Nat, j < 16 → xs0[j]? = some (bitV ((j : Int) + 1) true true true) := fun j hj => by rw [← hx0]; exact mem8_root (by decide) [] _ hj
  have h0 := is_init 24 [] (codeM P F v)
  have hmach : machM P F v = initM (memW8 24 [] (codeM P F v)) (pcP 2048 0) := rfl
  rw [← hmach, hx0, ← show iterP (24 + 16) 24 0 (machM P F v) = machM P F v from rfl] at h0
  rw [hx0] at C0
  clear hx0 hmach
  have hm3 : mayW 24 ((F : Int) * 256 + 3) = true := by rw [may_f (by omega) (by omega), decide_eq_true (by omega)]
  have h1 := is_li (q' := 24) (a := 1) (v := (P : Int)) h0 (.inl rfl) C0 (by rw [hL]; decide) (by decide) rfl rfl
  rw [← iter_snoc] at h1
  have h2 := is_li (q' := 24) (a := 2) (v := (F : Int) * 256 + 3) h1 (.inl rfl) C0 (by rw [hL]; decide) (by decide) rfl rfl
  rw [← iter_snoc] at h2
  have h3 := is_spte (q' := 24) (a := 1) (b := 2) h2 (.inl rfl) C0 (by rw [hL]; decide) (by decide) rfl (xs' := xs0) (ws' := [((P : Int), (F : Int) * 256 + 3)]) (fun X e1 e2 => by
    refine (put_room (q := 24) (P : Int) ((F : Int) * 256 + 3) ⟨by omega, hm3⟩ (by rw [e2]; simp)).trans ?_
    rw [e1, e2]; rfl)
  rw [← iter_snoc] at h3
  have h4 := is_li (q' := 24) (a := 3) (v := ((P + 1 : Nat) : Int)) h3 (.inl rfl) C0 (by rw [hL]; decide) (by decide) rfl rfl
  rw [← iter_snoc] at h4
  have h5 := is_spte (q' := 24) (a := 3) (b := 2) h4 (.inl rfl) C0 (by rw [hL]; decide) (by decide) rfl (xs' := xs0) (ws' := [((P : Int), (F : Int) * 256 + 3), (((P + 1 : Nat) : Int), (F : Int) * 256 + 3)]) (fun X e1 e2 => by
    refine (put_room (q := 24) ((P + 1 : Nat) : Int) ((F : Int) * 256 + 3) ⟨by omega, hm3⟩ (by rw [e2]; simp)).trans ?_
    rw [e1, e2]; rfl)
  rw [← iter_snoc] at h5
  have h6 := is_sync (q' := 24) h5 (.inl rfl) C0 (by rw [hL]; decide) rfl
  rw [← iter_snoc] at h6
  have er1 : ∀ (k : Nat) (y : Int), 16 ≤ k → (xs0.set k y)[(P + 1) / 16]? = some (bitV ((((P + 1) / 16 : Nat) : Int) + 1) true true true) := fun k y hk => by
    rw [List.getElem?_set_ne (by omega)]; exact hroot _ (by omega)
  have e6 : flushP (24 + 16) xs0 [((P : Int), (F : Int) * 256 + 3), (((P + 1 : Nat) : Int), (F : Int) * 256 + 3)] = (xs0.set (16 + P) ((F : Int) * 256 + 3)).set (16 + (P + 1)) ((F : Int) * 256 + 3) := by
    show updP 40 (updP 40 xs0 _) _ = _
    rw [upd_at (by omega) (hroot _ (by omega)), upd_at (by omega) (er1 _ _ (by omega))]
  rw [e6] at h6
  obtain ⟨xs1, hx1⟩ : ∃ xs1, (xs0.set (16 + P) ((F : Int) * 256 + 3)).set (16 + (P + 1)) ((F : Int) * 256 + 3) = xs1 := ⟨_, rfl⟩
  have C1 : CodeIn 24 (codeM P F v) xs1 := by rw [← hx1]; exact (C0.set (by omega) (by omega) (by omega) _).set (by omega) (by omega) (by omega) _
  have hroot1 : ∀ j : Nat, j < 16 → xs1[j]? = some (bitV ((j : Int) + 1) true true true) := fun j hj => by
    rw [← hx1, List.getElem?_set_ne (by omega), List.getElem?_set_ne (by omega)]; exact hroot j hj
  have hlen1 : xs1.length = 640 := by rw [← hx1]; simp [hlen]
  have hw1 : xs1[16 + P]? = some ((F : Int) * 256 + 3) := by rw [← hx1, List.getElem?_set_ne (by omega), List.getElem?_set_self (by omega)]
  have hw2 : xs1[16 + (P + 1)]? = some ((F : Int) * 256 + 3) := by rw [← hx1, List.getElem?_set_self (by simp; omega)]
  rw [hx1] at h6
  clear hx1
  have h7 := is_li (q' := 24) (a := 4) (v := 16 * (P : Int)) h6 (.inl rfl) C1 (by rw [hL]; decide) (by decide) rfl rfl
  rw [← iter_snoc] at h7
  have h8 := is_li (q' := 24) (a := 5) (v := v) h7 (.inl rfl) C1 (by rw [hL]; decide) (by decide) rfl rfl
  rw [← iter_snoc] at h8
  obtain ⟨b1, b2⟩ := at_frame f1 (page_at (by omega) (hroot1 _ (by omega)) hw1) (k := 7) (by decide) true
  have h9 := is_st (q' := 24) (a := 5) (b := 4) (c := 7) h8 (.inl rfl) C1 (by rw [hL]; decide) rfl (by decide) (A := 16 * (P : Int) + ((7 : Nat) : Int)) (by show (16 * (P : Int) + 7) % 4294967296 = _; omega) b1 b2
  rw [← iter_snoc] at h9
  have e9 : ∀ (a : Int) (l : List Int), regI l a = v → xs1.set (F * 16 + 7) (regI l a) = xs1.set (F * 16 + 7) v := fun a l h => by rw [h]
  rw [e9 5 _ rfl] at h9
  obtain ⟨xs2, hx2⟩ : ∃ xs2, xs1.set (F * 16 + 7) v = xs2 := ⟨_, rfl⟩
  have C2 : CodeIn 24 (codeM P F v) xs2 := by rw [← hx2]; exact C1.set (by omega) (by omega) (by omega) _
  have hroot2 : ∀ j : Nat, j < 16 → xs2[j]? = some (bitV ((j : Int) + 1) true true true) := fun j hj => by
    rw [← hx2, List.getElem?_set_ne (by omega)]; exact hroot1 j hj
  have hw3 : xs2[16 + (P + 1)]? = some ((F : Int) * 256 + 3) := by rw [← hx2, List.getElem?_set_ne (by omega)]; exact hw2
  have hv2 : xs2[F * 16 + 7]? = some v := by rw [← hx2, List.getElem?_set_self (by omega)]
  have hlen2 : xs2.length = 640 := by rw [← hx2]; simp [hlen1]
  rw [hx2] at h9
  clear hx2
  obtain ⟨b3, b4⟩ := at_frame f1 (page_at (P := P + 1) (by omega) (hroot2 _ (by omega)) hw3) (k := 7) (by decide) false
  have h10 := is_ld (q' := 24) (a := 6) (b := 4) (c := 23) h9 (.inl rfl) C2 (by rw [hL]; decide) rfl (by decide) (A := 16 * ((P + 1 : Nat) : Int) + ((7 : Nat) : Int)) (by show (16 * (P : Int) + 23) % 4294967296 = _; omega) b3 b4 hv2
  rw [← iter_snoc] at h10
  have h11 := is_out (q' := 24) (a := 6) h10 (.inl rfl) C2 (by rw [hL]; decide) (by decide) rfl
  rw [← iter_snoc] at h11
  have h12 := is_li (q' := 24) (a := 7) (v := 0) h11 (.inl rfl) C2 (by rw [hL]; decide) (by decide) rfl rfl
  rw [← iter_snoc] at h12
  have h13 := is_spte (q' := 24) (a := 3) (b := 7) h12 (.inl rfl) C2 (by rw [hL]; decide) (by decide) rfl (xs' := xs2) (ws' := [(((P + 1 : Nat) : Int), 0)]) (fun X e1 e2 => by
    refine (put_room (q := 24) ((P + 1 : Nat) : Int) 0 ⟨by omega, by decide⟩ (by rw [e2]; simp)).trans ?_
    rw [e1, e2]; rfl)
  rw [← iter_snoc] at h13
  have h14 := is_sync (q' := 24) h13 (.inl rfl) C2 (by rw [hL]; decide) rfl
  rw [← iter_snoc] at h14
  have e14 : flushP (24 + 16) xs2 [(((P + 1 : Nat) : Int), 0)] = xs2.set (16 + (P + 1)) 0 := by
    show updP 40 xs2 _ = _
    rw [upd_at (by omega) (hroot2 _ (by omega))]
  rw [e14] at h14
  have C3 : CodeIn 24 (codeM P F v) (xs2.set (16 + (P + 1)) 0) := C2.set (by omega) (by omega) (by omega) _
  have hp3 : pageO (xs2.set (16 + (P + 1)) 0) 40 0 ((P + 1 : Nat) : Int) = liveO 0 := page_at (by omega) (by rw [List.getElem?_set_ne (by omega)]; exact hroot2 _ (by omega)) (by rw [List.getElem?_set_self (by omega)])
  have hno : atB (xs2.set (16 + (P + 1)) 0) ((24 + 16 : Nat) : Int) 0 (16 * ((P + 1 : Nat) : Int) + 7) false false = false := by
    unfold atB
    rw [show (16 * ((P + 1 : Nat) : Int) + 7) / 16 = ((P + 1 : Nat) : Int) by omega]
    show wayB (pageO _ 40 0 _) 40 false false = false
    rw [hp3]
    rfl
  obtain ⟨z1, z2, _⟩ := is_ld_no (q' := 24) (a := 8) (b := 4) (c := 23) h14 (.inl rfl) C3 (by rw [hL]; decide) rfl (by decide) (A := 16 * ((P + 1 : Nat) : Int) + 7) (by show (16 * (P : Int) + 23) % 4294967296 = _; omega) hno
  rw [← iter_snoc] at z1 z2
  simp only [Nat.reduceAdd] at z1 z2 ⊢
  rw [z1, z2]
  refine ⟨rfl, ?_⟩
  have e6 : ∀ (l : List Int) (y : Int), l.length = 16 → regI (l.set (6 : Int).toNat y) 6 = y := fun l y hl => reg_set (a := 6) (by omega) y
  rw [e6 _ _ rfl]
  rfl
end Go.Proofs.YtkkbhifplbleiaaGreatDoor

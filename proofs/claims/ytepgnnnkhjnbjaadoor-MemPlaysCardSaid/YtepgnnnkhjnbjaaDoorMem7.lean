/- What package mem's call Differ does: a contract. (Made by genDiffer.py.) -/
import Derived.Test.YtepgnnnkhjnbjaaDoorMem6
namespace Go.Proofs.YtepgnnnkhjnbjaaDoor
open Go.RowKit
/-- the frames in which two memories differ -/
def diffB (n n' : Nat) (xs ys : List Int) (f : Nat) : Bool := !(decide (f < n)) || (!(decide (f < n')) || !(decide (frameOf xs f = frameOf ys f)))
def diffs (n n' : Nat) (xs ys : List Int) (k : Nat) : List Int := ((List.range k).filter (diffB n n' xs ys)).map Int.ofNat
theorem diffs_yes {n n' : Nat} {xs ys : List Int} {k : Nat} (h : diffB n n' xs ys k = true) : diffs n n' xs ys (k + 1) = diffs n n' xs ys k ++ [(k : Int)] := by
  unfold diffs
  rw [List.range_succ, List.filter_append, List.map_append]
  simp [h]
theorem diffs_no {n n' : Nat} {xs ys : List Int} {k : Nat} (h : diffB n n' xs ys k = false) : diffs n n' xs ys (k + 1) = diffs n n' xs ys k := by
  unfold diffs
  rw [List.range_succ, List.filter_append, List.map_append]
  simp [h]
theorem diffs_length (n n' : Nat) (xs ys : List Int) (k : Nat) : (diffs n n' xs ys k).length ≤ k := by
  unfold diffs
  rw [List.length_map]
  exact Nat.le_trans (List.length_filter_le _ _) (by simp)
def DiffAt (w : World) (ls : List Int) (e : Ending) (w' : World) : Prop := ∃ v, e = .returned v ∧ SlAt w' .i64 v ls ∧ w.grownBy w' none
/-- what a round's head knows -/
structure DRel (w : World) (n n' : Nat) (xs ys : List Int) (v : Value) (k : Nat) (wr : World) : Prop where
  own : wr.ownsRow w.heap.size 3 1 v (diffs n n' xs ys k).length ((diffs n n' xs ys k).map (Value.int .i64))
  grown : w.grownBy wr none
theorem own_append {w : World} {base : Nat} {v : Value} {l : List Int} {k : Int} (h : w.ownsRow base 3 1 v (l.length + 1) (l.map (Value.int .i64) ++ [Value.int .i64 k])) : w.ownsRow base 3 1 v (l ++ [k]).length ((l ++ [k]).map (Value.int .i64)) := by
  simpa using h
theorem own_kept0 {w w1 : World} {base : Nat} {e : TypeId} {size : Nat} {v : Value} {n : Nat} {xs : List Value} (h : w.ownsRow base e size v n xs) (hg : w.grownBy w1 none) : w1.ownsRow base e size v n xs :=
  h.kept hg (by cases v.ownBlock <;> simp)
theorem one_new (W : World) (v : Value) (t : TypeId) : ∀ j u, [v][j]? = some u → (W.alloc (.cells #[v] t)).cell? ((⟨W.heap.size, 0, none⟩ : Addr).add j) = some u := by
  intro j u hj
  match j, hj with
  | 0, hj => simp at hj; subst hj; simp [Addr.add]
theorem run_eq_frame (l k : List Int) (hl : l.length = 16) (hk : k.length = 16) (w : World) : (Op.equalIn 10000 61 (.agg (wA l)) (.agg (wA k))).run Tryd.prog w = .ok (decide (l = k)) w := by
  obtain ⟨i, hi⟩ : ∃ i, Tryd.prog.info? 23 = some i := by
    have : (Tryd.prog.info? 23).isSome = true := by kernel_rfl
    exact Option.isSome_iff_exists.1 this
  have hc : Tryd.prog.cellsOf 23 = 1 := by kernel_rfl
  rw [run_equalIn_array w 9999 _ _ Tryd.underlying61 hi, hc, run_eqItems_words 9998 l k w _ (by intro i hi; rw [List.mem_range] at hi; omega)]
  rw [eq_of_range hl hk]
/-- in a region that only reads: a frame is loaded; two are compared; 'has' is asked -/
theorem quiet_load_frame {o : Oper} {a : Act} {K : Act → Prop} (W : World) (x : Operand) (ho : o.op = .load 61 x) (b off : Nat) (hx : a.eval x = .pointer (some ⟨b, off, none⟩)) (l : List Int) (hl : l.length = 16)
    (hc : W.rangeAt b off (l.map (Value.int .u32))) (hk : K (a.put o.dst (.agg (wA l)))) : o.quiet Tryd.prog a (fun w' => ∃ n, w' = W.drewN n) K :=
  ⟨_, fun w ⟨n, hn⟩ => by
    subst hn
    unfold Oper.quietAt execOp
    have hc' : (W.drewN n).rangeAt b off (l.map (Value.int .u32)) := hc
    simp only [ho, hx, Instr.loadAt, Instr.sureAddr, Sem.run_bind, Sem.run_pure, Result.andThen_ok, run_loadVar_mid (W.drewN n) b off 61 _ _ hc' Tryd.underlying61 rfl (by rw [frame_info]; simp [hl])]
    exact ⟨rfl, rfl⟩, hk⟩
theorem frame_guard : Tryd.prog.eqGuardType Tryd.prog.depth 61 = false := by kernel_rfl
theorem quiet_neq_frame {o : Oper} {a : Act} {K : Act → Prop} (W : World) (x y : Operand) (ho : o.op = .binOp .neq 61 x y 61) (l k : List Int) (hx : a.eval x = .agg (wA l)) (hy : a.eval y = .agg (wA k)) (hl : l.length = 16) (hl' : k.length = 16)
    (r : Bool) (hr : decide (l = k) = r) (hk : K (a.put o.dst (.bool (!r)))) : o.quiet Tryd.prog a (fun w' => ∃ n, w' = W.drewN n) K :=
  ⟨_, fun w _ => by
    unfold Oper.quietAt execOp
    simp [ho, hx, hy, run_eqGuard_agg w .neq 61 x y _ _ frame_guard, run_neq_frame l k hl hl' w, hr, Result.andThen, Oper.quietUpon], hk⟩
theorem has_q {m b n c : Nat} {xs : List Int} {W : World} (h : MemAt W m b n c xs) (f : Int) (r : Bool) (hr : decide (0 ≤ f ∧ f < (n : Int)) = r) (N : Nat) :
    Calls Tryd.prog 27 #[.pointer (some ⟨m, 0, none⟩), .int .i64 f] (W.drewN N) fun e w'' => e = .returned (.bool r) ∧ ∃ q, w'' = W.drewN q :=
  (has_any (h.kept0 (grown_drewN (grown_refl _ _) N)) f r hr).mono fun _ _ ⟨he, hw⟩ => ⟨he, N, hw.symm⟩

set_option maxHeartbeats 4000000 in
theorem differ_lt {m b n c m' b' n' c' : Nat} {xs ys : List Int} {w : World} (h : MemAt w m b n c xs) (h' : MemAt w m' b' n' c' ys) (hl : n < n') :
    Calls Tryd.prog 16 #[.pointer (some ⟨m, 0, none⟩), .pointer (some ⟨m', 0, none⟩)] w (DiffAt w (diffs n n' xs ys n')) := by
  have hn := h.n2
  have hn' := h'.n2
  have H := hid h
  have H' := hid h'
  obtain ⟨i, hi, hz0, hz1, hz2⟩ := info_parts (P := Tryd.prog) (e := 3) (z := .int .i64 0) (size := 1) (bytes := 8) (by kernel_rfl)
  have Hi := hid hi
  have Hz0 := hid hz0
  have Hz1 := hid hz1
  have Hz2 := hid hz2
  have Hu := hid Tryd.underlying61
  clear hi hz0 hz1 hz2 h h'
  go_enter Tryd.func16, Tryd.ntmps16
  go_wp2_with (first
    | (go_at_call 24; refine (frames_any H.out).mono ?_; rintro e w' ⟨rfl, rfl⟩)
    | (go_at_call 24; refine (frames_any H'.out).mono ?_; rintro e w' ⟨rfl, rfl⟩))
  go_loopw [5, 6, 12] (fun v _ i wr => ∃ k : Nat, k ≤ n' ∧ i = .int .i64 k ∧ Hid (DRel w n n' xs ys v k wr)) (fun _ _ i _ => 1024 - (intOf i).toNat)
  case atStart => exact ⟨0, Nat.zero_le _, rfl, hid ⟨by simpa [diffs] using World.ownsRow_nil w w.heap.size 3 1, grown_refl _ _⟩⟩
  case round =>
    obtain ⟨k, hk, rfl, HR⟩ := hrel
    by_cases hlt : k < n'
    · have HM := hid (H.out.kept0 HR.out.grown)
      have HM' := hid (H'.out.kept0 HR.out.grown)
      have hm := HM.out.mcell
      have hm' := HM'.out.mcell
      have hk0 : (0 : Int) ≤ (k : Int) := by omega
      by_cases h1 : k < n
      · have Hd1 : Hid (decide (0 ≤ (k : Int) ∧ (k : Int) < (n : Int)) = true) := hid (by simp; omega)
        by_cases h2 : k < n'
        · have Hd2 : Hid (decide (0 ≤ (k : Int) ∧ (k : Int) < (n' : Int)) = true) := hid (by simp; omega)
          have r1 := hid (HM.out.range k)
          have r2 := hid (HM'.out.range k)
          have Hl1 := hid (frameOf_length H.out.len h1)
          have Hl2 := hid (frameOf_length H'.out.len h2)
          by_cases hfr : frameOf xs k = frameOf ys k
          · have Hf := hid hfr
            have Hdf : Hid (decide (frameOf xs k = frameOf ys k) = true) := hid (by simpa using hfr)
            clear hfr
            go_wp2
            refine wp_region_quiet_lit (by kernel_rfl) (by kernel_rfl) ?_
            repeat (first | go_big_quiet_skip | (go_big_quiet_want; first | (refine quiet_load_frame wr _ rfl b (k * 16) rfl _ Hl1.out r1.out ?_; simp only [Act.put, List.setIfInBounds_toArray, List.set_cons_zero, List.set_cons_succ]; go_big_quiet_on) | (refine quiet_load_frame wr _ rfl b' (k * 16) rfl _ Hl2.out r2.out ?_; simp only [Act.put, List.setIfInBounds_toArray, List.set_cons_zero, List.set_cons_succ]; go_big_quiet_on) | (refine quiet_neq_frame wr _ _ rfl _ _ rfl rfl Hl1.out Hl2.out true Hdf.out ?_; simp only [Act.put, List.setIfInBounds_toArray, List.set_cons_zero, List.set_cons_succ]; go_big_quiet_on) | (go_big_quiet_op; first | go_big_quiet_on | go_big_quiet_call ((first | (with_reducible exact (has_q HM.out _ _ Hd1.out _)) | (with_reducible exact (has_q HM'.out _ _ Hd2.out _)))))))
            refine wpQuiet_nil ?_
            intro _ hw'
            obtain ⟨nq, hw''⟩ := hw'
            subst hw''
            go_wp2
            go_roundw
            case rel => exact ⟨k + 1, by omega, by go_num, hid ⟨by rw [diffs_no (by unfold diffB; rw [Hf.out]; simp [h1, h2])]; exact own_kept0 HR.out.own (grown_drewN (grown_refl _ none) _), grown_drewN HR.out.grown _⟩⟩
            case measure => simp [intOf]; omega
          · have Hf := hid hfr
            have Hdf : Hid (decide (frameOf xs k = frameOf ys k) = false) := hid (by simpa using hfr)
            clear hfr
            go_wp2
            refine wp_region_quiet_lit (by kernel_rfl) (by kernel_rfl) ?_
            repeat (first | go_big_quiet_skip | (go_big_quiet_want; first | (refine quiet_load_frame wr _ rfl b (k * 16) rfl _ Hl1.out r1.out ?_; simp only [Act.put, List.setIfInBounds_toArray, List.set_cons_zero, List.set_cons_succ]; go_big_quiet_on) | (refine quiet_load_frame wr _ rfl b' (k * 16) rfl _ Hl2.out r2.out ?_; simp only [Act.put, List.setIfInBounds_toArray, List.set_cons_zero, List.set_cons_succ]; go_big_quiet_on) | (refine quiet_neq_frame wr _ _ rfl _ _ rfl rfl Hl1.out Hl2.out false Hdf.out ?_; simp only [Act.put, List.setIfInBounds_toArray, List.set_cons_zero, List.set_cons_succ]; go_big_quiet_on) | (go_big_quiet_op; first | go_big_quiet_on | go_big_quiet_call ((first | (with_reducible exact (has_q HM.out _ _ Hd1.out _)) | (with_reducible exact (has_q HM'.out _ _ Hd2.out _)))))))
            refine wpQuiet_nil ?_
            intro _ hw'
            obtain ⟨nq, hw''⟩ := hw'
            subst hw''
            have Hown := hid (own_kept0 (own_kept0 HR.out.own (grown_drewN (grown_refl wr none) nq)) (World.grownBy_alloc (wr.drewN nq) (.cells #[.int .i64 k] 3) none))
            have Hlen := hid (diffs_length n n' xs ys k)
            have Hnew := hid (one_new (wr.drewN nq) (.int .i64 k) 3)
            have H63 : Hid ((diffs n n' xs ys k).length + 1 ≤ maxLen) := hid (by have := Hlen.out; unfold maxLen; omega)
            have Hby : Hid (((diffs n n' xs ys k).length + 1) * 8 ≤ 140737488355328) := hid (by have := Hlen.out; omega)
            have Hba : Hid (w.heap.size ≤ ((wr.drewN nq).alloc (.cells #[.int .i64 k] 3)).heap.size) := hid (by have := HR.out.grown.size; simp; omega)
            go_wp2_with (refine wpList_append_own _ rfl _ _ 22 rfl w.heap.size 3 i _ 1 8 Tryd.underlying22 Hi.out Hz0.out Hz1.out Hz2.out rfl (by decide) _ _ _ rfl Hown.out ⟨wr.heap.size, 0, none⟩ 1 1 [.int .i64 k] rfl rfl Hnew.out (by simp [Value.oneCell']) H63.out Hby.out Hba.out ?_; intro v' w2 hown2 hgrow2 _; have HO := hid hown2; have HG := hid hgrow2; clear hown2 hgrow2)
            go_roundw
            case rel =>
              refine ⟨k + 1, by omega, by go_num, hid ⟨?_, ?_⟩⟩
              · rw [diffs_yes (by unfold diffB; simp [Hf.out])]; exact own_append HO.out
              · exact grown_new' (grown_trans (grown_none (grown_alloc (grown_drewN HR.out.grown nq) _)) HG.out) (fun g hg => (HR.out.own.lt g hg).1)
            case measure => simp [intOf]; omega
        · exact absurd hlt h2
      · have Hd1 : Hid (decide (0 ≤ (k : Int) ∧ (k : Int) < (n : Int)) = false) := hid (by simp; omega)
        go_wp2
        refine wp_region_quiet_lit (by kernel_rfl) (by kernel_rfl) ?_
        repeat (first | go_big_quiet_skip | (go_big_quiet_want; first | (go_big_quiet_op; first | go_big_quiet_on | go_big_quiet_call ((first | (with_reducible exact (has_q HM.out _ _ Hd1.out _)))))))
        refine wpQuiet_nil ?_
        intro _ hw'
        obtain ⟨nq, hw''⟩ := hw'
        subst hw''
        have Hown := hid (own_kept0 (own_kept0 HR.out.own (grown_drewN (grown_refl wr none) nq)) (World.grownBy_alloc (wr.drewN nq) (.cells #[.int .i64 k] 3) none))
        have Hlen := hid (diffs_length n n' xs ys k)
        have Hnew := hid (one_new (wr.drewN nq) (.int .i64 k) 3)
        have H63 : Hid ((diffs n n' xs ys k).length + 1 ≤ maxLen) := hid (by have := Hlen.out; unfold maxLen; omega)
        have Hby : Hid (((diffs n n' xs ys k).length + 1) * 8 ≤ 140737488355328) := hid (by have := Hlen.out; omega)
        have Hba : Hid (w.heap.size ≤ ((wr.drewN nq).alloc (.cells #[.int .i64 k] 3)).heap.size) := hid (by have := HR.out.grown.size; simp; omega)
        go_wp2_with (refine wpList_append_own _ rfl _ _ 22 rfl w.heap.size 3 i _ 1 8 Tryd.underlying22 Hi.out Hz0.out Hz1.out Hz2.out rfl (by decide) _ _ _ rfl Hown.out ⟨wr.heap.size, 0, none⟩ 1 1 [.int .i64 k] rfl rfl Hnew.out (by simp [Value.oneCell']) H63.out Hby.out Hba.out ?_; intro v' w2 hown2 hgrow2 _; have HO := hid hown2; have HG := hid hgrow2; clear hown2 hgrow2)
        go_roundw
        case rel =>
          refine ⟨k + 1, by omega, by go_num, hid ⟨?_, ?_⟩⟩
          · rw [diffs_yes (by unfold diffB; simp [h1])]; exact own_append HO.out
          · exact grown_new' (grown_trans (grown_none (grown_alloc (grown_drewN HR.out.grown nq) _)) HG.out) (fun g hg => (HR.out.own.lt g hg).1)
        case measure => simp [intOf]; omega
    · go_wp2
      go_ret
      obtain rfl : k = n' := by omega
      exact ⟨_, rfl, SlAt.own HR.out.own, HR.out.grown⟩

set_option maxHeartbeats 4000000 in
theorem differ_ge {m b n c m' b' n' c' : Nat} {xs ys : List Int} {w : World} (h : MemAt w m b n c xs) (h' : MemAt w m' b' n' c' ys) (hl : ¬ n < n') :
    Calls Tryd.prog 16 #[.pointer (some ⟨m, 0, none⟩), .pointer (some ⟨m', 0, none⟩)] w (DiffAt w (diffs n n' xs ys n)) := by
  have hn := h.n2
  have hn' := h'.n2
  have H := hid h
  have H' := hid h'
  obtain ⟨i, hi, hz0, hz1, hz2⟩ := info_parts (P := Tryd.prog) (e := 3) (z := .int .i64 0) (size := 1) (bytes := 8) (by kernel_rfl)
  have Hi := hid hi
  have Hz0 := hid hz0
  have Hz1 := hid hz1
  have Hz2 := hid hz2
  have Hu := hid Tryd.underlying61
  clear hi hz0 hz1 hz2 h h'
  go_enter Tryd.func16, Tryd.ntmps16
  go_wp2_with (first
    | (go_at_call 24; refine (frames_any H.out).mono ?_; rintro e w' ⟨rfl, rfl⟩)
    | (go_at_call 24; refine (frames_any H'.out).mono ?_; rintro e w' ⟨rfl, rfl⟩))
  go_loopw [5, 6, 12] (fun v _ i wr => ∃ k : Nat, k ≤ n ∧ i = .int .i64 k ∧ Hid (DRel w n n' xs ys v k wr)) (fun _ _ i _ => 1024 - (intOf i).toNat)
  case atStart => exact ⟨0, Nat.zero_le _, rfl, hid ⟨by simpa [diffs] using World.ownsRow_nil w w.heap.size 3 1, grown_refl _ _⟩⟩
  case round =>
    obtain ⟨k, hk, rfl, HR⟩ := hrel
    by_cases hlt : k < n
    · have HM := hid (H.out.kept0 HR.out.grown)
      have HM' := hid (H'.out.kept0 HR.out.grown)
      have hm := HM.out.mcell
      have hm' := HM'.out.mcell
      have hk0 : (0 : Int) ≤ (k : Int) := by omega
      by_cases h1 : k < n
      · have Hd1 : Hid (decide (0 ≤ (k : Int) ∧ (k : Int) < (n : Int)) = true) := hid (by simp; omega)
        by_cases h2 : k < n'
        · have Hd2 : Hid (decide (0 ≤ (k : Int) ∧ (k : Int) < (n' : Int)) = true) := hid (by simp; omega)
          have r1 := hid (HM.out.range k)
          have r2 := hid (HM'.out.range k)
          have Hl1 := hid (frameOf_length H.out.len h1)
          have Hl2 := hid (frameOf_length H'.out.len h2)
          by_cases hfr : frameOf xs k = frameOf ys k
          · have Hf := hid hfr
            have Hdf : Hid (decide (frameOf xs k = frameOf ys k) = true) := hid (by simpa using hfr)
            clear hfr
            go_wp2
            refine wp_region_quiet_lit (by kernel_rfl) (by kernel_rfl) ?_
            repeat (first | go_big_quiet_skip | (go_big_quiet_want; first | (refine quiet_load_frame wr _ rfl b (k * 16) rfl _ Hl1.out r1.out ?_; simp only [Act.put, List.setIfInBounds_toArray, List.set_cons_zero, List.set_cons_succ]; go_big_quiet_on) | (refine quiet_load_frame wr _ rfl b' (k * 16) rfl _ Hl2.out r2.out ?_; simp only [Act.put, List.setIfInBounds_toArray, List.set_cons_zero, List.set_cons_succ]; go_big_quiet_on) | (refine quiet_neq_frame wr _ _ rfl _ _ rfl rfl Hl1.out Hl2.out true Hdf.out ?_; simp only [Act.put, List.setIfInBounds_toArray, List.set_cons_zero, List.set_cons_succ]; go_big_quiet_on) | (go_big_quiet_op; first | go_big_quiet_on | go_big_quiet_call ((first | (with_reducible exact (has_q HM.out _ _ Hd1.out _)) | (with_reducible exact (has_q HM'.out _ _ Hd2.out _)))))))
            refine wpQuiet_nil ?_
            intro _ hw'
            obtain ⟨nq, hw''⟩ := hw'
            subst hw''
            go_wp2
            go_roundw
            case rel => exact ⟨k + 1, by omega, by go_num, hid ⟨by rw [diffs_no (by unfold diffB; rw [Hf.out]; simp [h1, h2])]; exact own_kept0 HR.out.own (grown_drewN (grown_refl _ none) _), grown_drewN HR.out.grown _⟩⟩
            case measure => simp [intOf]; omega
          · have Hf := hid hfr
            have Hdf : Hid (decide (frameOf xs k = frameOf ys k) = false) := hid (by simpa using hfr)
            clear hfr
            go_wp2
            refine wp_region_quiet_lit (by kernel_rfl) (by kernel_rfl) ?_
            repeat (first | go_big_quiet_skip | (go_big_quiet_want; first | (refine quiet_load_frame wr _ rfl b (k * 16) rfl _ Hl1.out r1.out ?_; simp only [Act.put, List.setIfInBounds_toArray, List.set_cons_zero, List.set_cons_succ]; go_big_quiet_on) | (refine quiet_load_frame wr _ rfl b' (k * 16) rfl _ Hl2.out r2.out ?_; simp only [Act.put, List.setIfInBounds_toArray, List.set_cons_zero, List.set_cons_succ]; go_big_quiet_on) | (refine quiet_neq_frame wr _ _ rfl _ _ rfl rfl Hl1.out Hl2.out false Hdf.out ?_; simp only [Act.put, List.setIfInBounds_toArray, List.set_cons_zero, List.set_cons_succ]; go_big_quiet_on) | (go_big_quiet_op; first | go_big_quiet_on | go_big_quiet_call ((first | (with_reducible exact (has_q HM.out _ _ Hd1.out _)) | (with_reducible exact (has_q HM'.out _ _ Hd2.out _)))))))
            refine wpQuiet_nil ?_
            intro _ hw'
            obtain ⟨nq, hw''⟩ := hw'
            subst hw''
            have Hown := hid (own_kept0 (own_kept0 HR.out.own (grown_drewN (grown_refl wr none) nq)) (World.grownBy_alloc (wr.drewN nq) (.cells #[.int .i64 k] 3) none))
            have Hlen := hid (diffs_length n n' xs ys k)
            have Hnew := hid (one_new (wr.drewN nq) (.int .i64 k) 3)
            have H63 : Hid ((diffs n n' xs ys k).length + 1 ≤ maxLen) := hid (by have := Hlen.out; unfold maxLen; omega)
            have Hby : Hid (((diffs n n' xs ys k).length + 1) * 8 ≤ 140737488355328) := hid (by have := Hlen.out; omega)
            have Hba : Hid (w.heap.size ≤ ((wr.drewN nq).alloc (.cells #[.int .i64 k] 3)).heap.size) := hid (by have := HR.out.grown.size; simp; omega)
            go_wp2_with (refine wpList_append_own _ rfl _ _ 22 rfl w.heap.size 3 i _ 1 8 Tryd.underlying22 Hi.out Hz0.out Hz1.out Hz2.out rfl (by decide) _ _ _ rfl Hown.out ⟨wr.heap.size, 0, none⟩ 1 1 [.int .i64 k] rfl rfl Hnew.out (by simp [Value.oneCell']) H63.out Hby.out Hba.out ?_; intro v' w2 hown2 hgrow2 _; have HO := hid hown2; have HG := hid hgrow2; clear hown2 hgrow2)
            go_roundw
            case rel =>
              refine ⟨k + 1, by omega, by go_num, hid ⟨?_, ?_⟩⟩
              · rw [diffs_yes (by unfold diffB; simp [Hf.out])]; exact own_append HO.out
              · exact grown_new' (grown_trans (grown_none (grown_alloc (grown_drewN HR.out.grown nq) _)) HG.out) (fun g hg => (HR.out.own.lt g hg).1)
            case measure => simp [intOf]; omega
        · have Hd2 : Hid (decide (0 ≤ (k : Int) ∧ (k : Int) < (n' : Int)) = false) := hid (by simp; omega)
          go_wp2
          refine wp_region_quiet_lit (by kernel_rfl) (by kernel_rfl) ?_
          repeat (first | go_big_quiet_skip | (go_big_quiet_want; first | (go_big_quiet_op; first | go_big_quiet_on | go_big_quiet_call ((first | (with_reducible exact (has_q HM.out _ _ Hd1.out _)) | (with_reducible exact (has_q HM'.out _ _ Hd2.out _)))))))
          refine wpQuiet_nil ?_
          intro _ hw'
          obtain ⟨nq, hw''⟩ := hw'
          subst hw''
          have Hown := hid (own_kept0 (own_kept0 HR.out.own (grown_drewN (grown_refl wr none) nq)) (World.grownBy_alloc (wr.drewN nq) (.cells #[.int .i64 k] 3) none))
          have Hlen := hid (diffs_length n n' xs ys k)
          have Hnew := hid (one_new (wr.drewN nq) (.int .i64 k) 3)
          have H63 : Hid ((diffs n n' xs ys k).length + 1 ≤ maxLen) := hid (by have := Hlen.out; unfold maxLen; omega)
          have Hby : Hid (((diffs n n' xs ys k).length + 1) * 8 ≤ 140737488355328) := hid (by have := Hlen.out; omega)
          have Hba : Hid (w.heap.size ≤ ((wr.drewN nq).alloc (.cells #[.int .i64 k] 3)).heap.size) := hid (by have := HR.out.grown.size; simp; omega)
          go_wp2_with (refine wpList_append_own _ rfl _ _ 22 rfl w.heap.size 3 i _ 1 8 Tryd.underlying22 Hi.out Hz0.out Hz1.out Hz2.out rfl (by decide) _ _ _ rfl Hown.out ⟨wr.heap.size, 0, none⟩ 1 1 [.int .i64 k] rfl rfl Hnew.out (by simp [Value.oneCell']) H63.out Hby.out Hba.out ?_; intro v' w2 hown2 hgrow2 _; have HO := hid hown2; have HG := hid hgrow2; clear hown2 hgrow2)
          go_roundw
          case rel =>
            refine ⟨k + 1, by omega, by go_num, hid ⟨?_, ?_⟩⟩
            · rw [diffs_yes (by unfold diffB; simp [h2])]; exact own_append HO.out
            · exact grown_new' (grown_trans (grown_none (grown_alloc (grown_drewN HR.out.grown nq) _)) HG.out) (fun g hg => (HR.out.own.lt g hg).1)
          case measure => simp [intOf]; omega
      · exact absurd hlt h1
    · go_wp2
      go_ret
      obtain rfl : k = n := by omega
      exact ⟨_, rfl, SlAt.own HR.out.own, HR.out.grown⟩

theorem differ_any {m b n c m' b' n' c' : Nat} {xs ys : List Int} {w : World} (h : MemAt w m b n c xs) (h' : MemAt w m' b' n' c' ys) :
    Calls Tryd.prog 16 #[.pointer (some ⟨m, 0, none⟩), .pointer (some ⟨m', 0, none⟩)] w (DiffAt w (diffs n n' xs ys (max n n'))) := by
  by_cases hl : n < n'
  · rw [Nat.max_eq_right (by omega)]; exact differ_lt h h' hl
  · rw [Nat.max_eq_left (by omega)]; exact differ_ge h h' hl
end Go.Proofs.YtepgnnnkhjnbjaaDoor

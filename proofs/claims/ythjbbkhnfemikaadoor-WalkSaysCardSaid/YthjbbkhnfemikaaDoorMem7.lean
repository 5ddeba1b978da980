/- What package mem's call Differ does: a contract. (Made by genDiffer.py.) -/
import Derived.Test.YthjbbkhnfemikaaDoorMem6
namespace Go.Proofs.YthjbbkhnfemikaaDoor
open Go.RowKit
/-- the frames in which two memories differ -/
def diffB (n n' : Nat) (xs ys : List Int) (f : Nat) : Bool := !(decide (f < n)) || (!(decide (f < n')) || !(decide (frameOf xs f = frameOf ys f)))
def diffs (n n' : Nat) (xs ys : List Int) (k : Nat) : List Int := ((List.range k).filter (diffB n n' xs ys)).map Int.ofNat
theorem diffs_yes {n n' : Nat} {xs ys : List Int} {k : Nat} (h : diffB n n' xs ys k = true) : diffs n n' xs ys (k + 1) = diffs n n' xs ys k ++ [(k : Int)] := by
  unfold diffs
  rw [List.range_succ, List.filter_append, List.map_append]
  simp [h]
theorem diffs_no {n n' : Nat} {xs ys : List Int} {k : Nat} (h : diffB n n' xs ys k = false) : diffs n n' xs ys (k + 1) = diffs n n' xs ys k := by
  unfold diffs
  rw [List.range_succ, List.filter_append, List.map_append]
  simp [h]
theorem diffs_length (n n' : Nat) (xs ys : List Int) (k : Nat) : (diffs n n' xs ys k).length ≤ k := by
  unfold diffs
  rw [List.length_map]
  exact Nat.le_trans (List.length_filter_le _ _) (by simp)
def DiffAt (w : World) (ls : List Int) (e : Ending) (w' : World) : Prop := ∃ v, e = .returned v ∧ SlAt w' .i64 v ls ∧ w.grownBy w' none
/-- what a round's head knows -/
structure DRel (w : World) (n n' : Nat) (xs ys : List Int) (v : Value) (k : Nat) (wr : World) : Prop where
  own : wr.ownsRow w.heap.size 3 1 v (diffs n n' xs ys k).length ((diffs n n' xs ys k).map (Value.int .i64))
  grown : w.grownBy wr none
theorem own_append {w : World} {base : Nat} {v : Value} {l : List Int} {k : Int} (h : w.ownsRow base 3 1 v (l.length + 1) (l.map (Value.int .i64) ++ [Value.int .i64 k])) : w.ownsRow base 3 1 v (l ++ [k]).length ((l ++ [k]).map (Value.int .i64)) := by
  simpa using h
theorem own_kept0 {w w1 : World} {base : Nat} {e : TypeId} {size : Nat} {v : Value} {n : Nat} {xs : List Value} (h : w.ownsRow base e size v n xs) (hg : w.grownBy w1 none) : w1.ownsRow base e size v n xs :=
  h.kept hg (by cases v.ownBlock <;> simp)
theorem one_new (W : World) (v : Value) (t : TypeId) : ∀ j u, [v][j]? = some u → (W.alloc (.cells #[v] t)).cell? ((⟨W.heap.size, 0, none⟩ : Addr).add j) = some u := by
  intro j u hj
  match j, hj with
  | 0, hj => simp at hj; subst hj; simp [Addr.add]
theorem run_eq_frame (l k : List Int) (hl : l.length = 16) (hk : k.length = 16) (w : World) : (Op.equalIn 10000 66 (.agg (wA l)) (.agg (wA k))).run Tryd.prog w = .ok (decide (l = k)) w := by
  obtain ⟨i, hi⟩ : ∃ i, Tryd.prog.info? 28 = some i := by
    have : (Tryd.prog.info? 28).isSome = true := by kernel_rfl
    exact Option.isSome_iff_exists.1 this
  have hc : Tryd.prog.cellsOf 28 = 1 := by kernel_rfl
  rw [run_equalIn_array w 9999 _ _ Tryd.underlying66 hi, hc, run_eqItems_words 9998 l k w _ (by intro i hi; rw [List.mem_range] at hi; omega)]
  rw [eq_of_range hl hk]
/-- in a region that only reads: a frame is loaded; two are compared; 'has' is asked -/
theorem quiet_load_frame {o : Oper} {a : Act} {K : Act → Prop} (W : World) (x : Operand) (ho : o.op = .load 66 x) (b off : Nat) (hx : a.eval x = .pointer (some ⟨b, off, none⟩)) (l : List Int) (hl : l.length = 16)
    (hc : W.rangeAt b off (l.map (Value.int .u32))) (hk : K (a.put o.dst (.agg (wA l)))) : o.quiet Tryd.prog a (fun w' => ∃ n, w' = W.drewN n) K :=
  ⟨_, fun w ⟨n, hn⟩ => by
    subst hn
    unfold Oper.quietAt execOp
    have hc' : (W.drewN n).rangeAt b off (l.map (Value.int .u32)) := hc
    simp only [ho, hx, Instr.loadAt, Instr.sureAddr, Sem.run_bind, Sem.run_pure, Result.andThen_ok, run_loadVar_mid (W.drewN n) b off 66 _ _ hc' Tryd.underlying66 rfl (by rw [frame_info]; simp [hl])]
    exact ⟨rfl, rfl⟩, hk⟩
theorem frame_guard : Tryd.prog.eqGuardType Tryd.prog.depth 66 = false := by kernel_rfl
theorem quiet_neq_frame {o : Oper} {a : Act} {K : Act → Prop} (W : World) (x y : Operand) (ho : o.op = .binOp .neq 66 x y 66) (l k : List Int) (hx : a.eval x = .agg (wA l)) (hy : a.eval y = .agg (wA k)) (hl : l.length = 16) (hl' : k.length = 16)
    (r : Bool) (hr : decide (l = k) = r) (hk : K (a.put o.dst (.bool (!r)))) : o.quiet Tryd.prog a (fun w' => ∃ n, w' = W.drewN n) K :=
  ⟨_, fun w _ => by
    unfold Oper.quietAt execOp
    simp [ho, hx, hy, run_eqGuard_agg w .neq 66 x y _ _ frame_guard, run_neq_frame l k hl hl' w, hr, Result.andThen, Oper.quietUpon], hk⟩
theorem has_q {m b n c : Nat} {xs : List Int} {W : World} (h : MemAt W m b n c xs) (f : Int) (r : Bool) (hr : decide (0 ≤ f ∧ f < (n : Int)) = r) (N : Nat) :
    Calls Tryd.prog 29 #[.pointer (some ⟨m, 0, none⟩), .int .i64 f] (W.drewN N) fun e w'' => e = .returned (.bool r) ∧ ∃ q, w'' = W.drewN q :=
  (has_any (h.kept0 (grown_drewN (grown_refl _ _) N)) f r hr).mono fun _ _ ⟨he, hw⟩ => ⟨he, N, hw.symm⟩



end Go.Proofs.YthjbbkhnfemikaaDoor

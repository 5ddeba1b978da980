/- Package link: the word that a repair is by: contracts. (Made by golnk10.py.) -/
import Derived.Test.YtogdpaaofihkgaaGreatDoorYLnkQ
import Derived.Test.YtogdpaaofihkgaaGreatDoorYBase
import Derived.Test.YtogdpaaofihkgaaGreatDoorYOWr0
import Derived.Test.YtogdpaaofihkgaaGreatDoorYIsa2
import Derived.Deep.AppendLies
import Derived.Laws.OwnMore
namespace Go.Proofs.YtogdpaaofihkgaaGreatDoor
open Go.RowKit
theorem info_program : (Tryz.prog.info? 71).map (·.size) = some 7 := by kernel_rfl
theorem wd_wrap (l : Nat → Int) (r : Fx) : IntKind.u32.wrap (adP l r.t + IntKind.u32.wrap r.d) = wdP l r := by
  rw [u32_wrap, u32_wrap]; unfold wdP; omega
theorem rep_spot {w : World} {B : Nat} {t : TypeId} {a k i s d : Value} (h : RwAt w B t #[a, k, i, s, d]) : w.rangeAt B 2 [i, s] := by
  intro j v hv
  refine h.cell (2 + j) ?_
  match j, hv with
  | 0, hv => exact hv
  | 1, hv => exact hv
set_option maxRecDepth 100000 in
set_option maxHeartbeats 4000000 in
theorem word_lnk (W : World) (v1 v2 v3 v4 v5 ld mv : Value) (l : Nat → Int) (n : Nat) (h : SlAt W .i64 ld ((List.range n).map l)) (r : Fx) (h1 : r.t.i = 1 → 0 ≤ r.t.a ∧ r.t.a ≤ 1000000) (h2 : r.t.i ≠ 1 → ∃ k : Nat, r.t.a = k ∧ k < n ∧ 0 ≤ l k ∧ l k ≤ 1000000) :
    Calls Tryz.prog 35 #[.agg (pgV v1 v2 v3 v4 v5 ld mv), .agg (fxL r).toArray] W fun e w' => e = .returned (.int .u32 (wdP l r)) ∧ W.grownBy w' none := by
  have Hr := hid (wd_wrap l r)
  have HA := hid (fun W h => adr_any W v1 v2 v3 v4 v5 ld mv l n h r.t h1 h2)
  obtain ⟨a, k, ⟨i, s⟩, d⟩ := r
  simp only at HA Hr
  have H2 := hid (two_boxes (W := W) (a := #[v1, v2, v3, v4, v5, ld, mv]) (b := #[.int .i64 a, .int .i64 k, .int .i64 i, .int .i64 s, .int .i64 d]) (t := 71) (u := 95))
  have HL := hid (h.kept0 H2.out.2.2)
  clear h h1 h2
  unfold fxL
  go_enter Tryz.func35, Tryz.ntmps35
  go_upto_region 1 with (fail)
  generalize (W.alloc (.cells #[v1, v2, v3, v4, v5, ld, mv] 71)).alloc (.cells #[.int .i64 a, .int .i64 k, .int .i64 i, .int .i64 s, .int .i64 d] 95) = w1 at H2 HL ⊢
  obtain ⟨b1, hb1⟩ : ∃ b, W.heap.size = b := ⟨_, rfl⟩
  obtain ⟨b2, hb2⟩ : ∃ b, b1 + 1 = b := ⟨_, rfl⟩
  rw [hb1, hb2] at H2 ⊢
  clear hb1 hb2
  have hg0 : w1.grownBy w1.drew none := grown_drew (grown_refl _ none)
  refine wp_region_held_drew (S := fun W => RwAt W b1 71 #[v1, v2, v3, v4, v5, ld, mv] ∧ RwAt W b2 95 #[.int .i64 a, .int .i64 k, .int .i64 i, .int .i64 s, .int .i64 d]) (by kernel_rfl) ⟨H2.out.1.kept0 hg0, H2.out.2.1.kept0 hg0⟩ (fun hS0 => ?_)
  replace HL := hid (HL.out.kept0 hg0)
  have HG := hid (grown_trans H2.out.2.2 hg0)
  clear hg0 H2
  generalize w1.drew = w2 at HL HG hS0 ⊢
  refine wpAnyH_take (i := 0) (v := .agg #[v1, v2, v3, v4, v5, ld, mv]) rfl (by kernel_rfl) (by kernel_rfl) (by kernel_rfl) (fun _ _ _ h => h) (Or.inl ⟨by kernel_rfl, fun W hW => run_load_row _ _ rfl rfl hW.1.blk rfl Tryz.underlying71 info_program⟩) hS0 ?_
  try simp only [Act.put, List.setIfInBounds_toArray, List.set_cons_zero, List.set_cons_succ, List.getElem_toArray, List.getElem_cons_zero]
  refine wpAnyH_take (i := 1) (v := ?_) rfl (by kernel_rfl) (by kernel_rfl) (by kernel_rfl) (fun _ _ _ h => h) (Or.inl ⟨by kernel_rfl, ?_⟩) hS0 ?_
  rotate_left
  · (intro W hSw; clear hSw; go_simp; try with_reducible rfl)
  try simp only [Act.put, List.setIfInBounds_toArray, List.set_cons_zero, List.set_cons_succ, List.getElem_toArray, List.getElem_cons_succ, List.getElem_cons_zero]
  refine wpAnyH_take (i := 2) (v := .agg #[.int .i64 i, .int .i64 s]) rfl (by kernel_rfl) (by kernel_rfl) (by kernel_rfl) (fun _ _ _ h => h) (yieldsIf_load_mid (by kernel_rfl) 93 _ rfl b2 2 rfl _ _ (fun W hW => rep_spot hW.2) Tryz.underlying93 rfl info_spot) hS0 ?_
  try simp only [Act.put, List.setIfInBounds_toArray, List.set_cons_zero, List.set_cons_succ, List.getElem_toArray, List.getElem_cons_succ, List.getElem_cons_zero]
  refine wpAnyH_take (i := 4) (v := ?_) rfl (by kernel_rfl) (by kernel_rfl) (by kernel_rfl) (fun _ _ _ h => h) (Or.inl ⟨by kernel_rfl, ?_⟩) hS0 ?_
  rotate_left
  · (intro W hSw; clear hSw; go_simp; try with_reducible rfl)
  try simp only [Act.put, List.setIfInBounds_toArray, List.set_cons_zero, List.set_cons_succ, List.getElem_toArray, List.getElem_cons_succ, List.getElem_cons_zero]
  refine wpAnyH_take (i := 5) (v := ?_) rfl (by kernel_rfl) (by kernel_rfl) (by kernel_rfl) (fun _ _ _ h => h) (Or.inl ⟨by kernel_rfl, ?_⟩) hS0 ?_
  rotate_left
  · (intro W hSw; have hc := hSw.2.cell 4 (v := .int .i64 d) rfl; clear hSw; go_simp; try with_reducible rfl)
  try simp only [Act.put, List.setIfInBounds_toArray, List.set_cons_zero, List.set_cons_succ, List.getElem_toArray, List.getElem_cons_succ, List.getElem_cons_zero]
  refine wpAnyH_take (i := 6) (v := ?_) rfl (by kernel_rfl) (by kernel_rfl) (by kernel_rfl) (fun _ _ _ h => h) (Or.inl ⟨by kernel_rfl, ?_⟩) hS0 ?_
  rotate_left
  · (intro W hSw; clear hSw; go_simp; try with_reducible rfl)
  try simp only [Act.put, List.setIfInBounds_toArray, List.set_cons_zero, List.set_cons_succ, List.getElem_toArray, List.getElem_cons_succ, List.getElem_cons_zero]
  refine wpAnyH_ready (rs := [3]) (by kernel_rfl) (by simp) ?_
  refine AllReadyH.cons rfl (fun KK hKK => ?_) AllReadyH.nil
  go_simp
  refine (HA.out _ HL.out).mono ?_; rintro e' w3 ⟨rfl, hg⟩
  have hS1 : RwAt w3 b1 71 #[v1, v2, v3, v4, v5, ld, mv] ∧ RwAt w3 b2 95 #[.int .i64 a, .int .i64 k, .int .i64 i, .int .i64 s, .int .i64 d] := ⟨hS0.1.kept0 hg, hS0.2.kept0 hg⟩
  replace HG := hid (grown_trans HG.out hg)
  clear hg hS0
  have hS0 := hS1
  refine hKK.out _ _ hS1 (fun _ => ?_)
  clear hKK KK hS1
  try simp only [Act.put, List.setIfInBounds_toArray, List.set_cons_zero, List.set_cons_succ, List.getElem_toArray, List.getElem_cons_succ, List.getElem_cons_zero]
  refine wpAnyH_take (i := 7) (v := ?_) rfl (by kernel_rfl) (by kernel_rfl) (by kernel_rfl) (fun _ _ _ h => h) (Or.inl ⟨by kernel_rfl, ?_⟩) hS0 ?_
  rotate_left
  · (intro W hSw; clear hSw; go_simp; try with_reducible rfl)
  try simp only [Act.put, List.setIfInBounds_toArray, List.set_cons_zero, List.set_cons_succ, List.getElem_toArray, List.getElem_cons_succ, List.getElem_cons_zero]
  refine wpAnyH_take (i := 8) (v := ?_) rfl (by kernel_rfl) (by kernel_rfl) (by kernel_rfl) (fun _ _ _ h => h) (Or.inl ⟨by kernel_rfl, ?_⟩) hS0 ?_
  rotate_left
  · (intro W hSw; clear hSw; go_simp; try with_reducible rfl)
  try simp only [Act.put, List.setIfInBounds_toArray, List.set_cons_zero, List.set_cons_succ, List.getElem_toArray, List.getElem_cons_succ, List.getElem_cons_zero]
  refine wpAnyH_done (by kernel_rfl) ?_ _
  go_wp2
  go_ret
  exact ⟨ret_i Hr.out, HG.out⟩
end Go.Proofs.YtogdpaaofihkgaaGreatDoor
namespace Go.Proofs.YtogdpaaofihkgaaGreatDoor
open Go.RowKit
theorem info_insL : (Tryz.prog.info? 27).map (·.size) = some 5 := by kernel_rfl
/-- an instruction of a word: its parts -/
def OfF (W : World) (x : Int) (e : Ending) (w' : World) : Prop :=
  ∃ t : Bool, e = .returned (.tuple #[.agg #[.int .i64 (opW x), .int .i64 (if opW x = 0 then 0 else x / 65536 % 256), .int .i64 (if opW x = 0 then 0 else x / 256 % 256), .int .i64 (if opW x = 0 then 0 else x % 256), .int .u32 0], .bool t]) ∧ W.grownBy w' none
theorem of_full (x : Int) (W : World) (h : 0 ≤ x ∧ x < 4294967296) : Calls Tryz.prog 62 #[.int .u32 x, .int .u32 0] W (OfF W x) := by
  unfold OfF opW
  by_cases hi : insB (x / 16777216) (x / 65536 % 256) (x / 256 % 256) (x % 256) 0 = true
  · have h0 : x / 16777216 ≠ 0 := by
      intro h0
      rw [h0] at hi
      revert hi
      unfold insB
      simp [clsI]
    rw [if_pos hi, if_neg h0, if_neg h0, if_neg h0]
    refine (of_yes x 0 W h.1 h.2 (by rw [wantImm_zero]; exact hi)).mono ?_
    rintro e w' ⟨rfl, hb⟩
    exact ⟨_, by rw [wantImm_zero], below_is_grown hb⟩
  · rw [if_neg hi]
    refine (of_no x 0 W h.1 h.2 (by rw [wantImm_zero]; simpa using hi)).mono ?_
    rintro e w' ⟨rfl, hb⟩
    exact ⟨_, rfl, below_is_grown hb⟩
set_option maxRecDepth 100000 in
set_option maxHeartbeats 4000000 in
theorem long_any (W : World) (x : Int) (h : 0 ≤ x ∧ x < 4294967296) :
    Calls Tryz.prog 47 #[.int .u32 x] W fun e w' => e = .returned (.int .u32 (lgW x)) ∧ W.grownBy w' none := by
  have HO := hid (of_full x W h)
  obtain ⟨A, hA⟩ : ∃ A : Int, (if opW x = 0 then 0 else x / 65536 % 256) = A := ⟨_, rfl⟩
  obtain ⟨B, hB⟩ : ∃ A : Int, (if opW x = 0 then 0 else x / 256 % 256) = A := ⟨_, rfl⟩
  obtain ⟨C, hC⟩ : ∃ A : Int, (if opW x = 0 then 0 else x % 256) = A := ⟨_, rfl⟩
  obtain ⟨o, ho⟩ : ∃ o, opW x = o := ⟨_, rfl⟩
  have Hr : Hid (lgW x = wordV (if o = 16 then 19 else if o = 17 then 20 else if o = 18 then 21 else o) A B 0 0) := hid (by rw [← hA, ← hB, ← ho]; rfl)
  unfold OfF at HO
  rw [hA, hB, hC, ho] at HO
  clear hA hB hC ho h
  go_enter Tryz.func47, Tryz.ntmps47
  go_upto_region 1 with (fail)
  go_wp2_with fail
  refine HO.out.mono ?_
  rintro e w2 ⟨t, rfl, hg⟩
  have Hzi := zero_ins9
  have HI := hid (RwAt.new w2 27 #[.int .i64 o, .int .i64 A, .int .i64 B, .int .i64 C, .int .u32 0])
  have HX := hid hg.size
  have HG := hid (grown_trans hg (World.grownBy_alloc w2 (.cells #[.int .i64 o, .int .i64 A, .int .i64 B, .int .i64 C, .int .u32 0] 27) none))
  clear hg HO
  go_upto_region 2 with (fail)
  obtain ⟨X, hX⟩ : ∃ X, w2.heap.size = X := ⟨_, rfl⟩
  rw [hX] at HI HX ⊢
  clear hX Hzi
  generalize w2.alloc (.cells #[.int .i64 o, .int .i64 A, .int .i64 B, .int .i64 C, .int .u32 0] 27) = w3 at HI HG ⊢
  have k0 := HI.out.cell 0 (v := .int .i64 o) rfl
  have k3 := HI.out.cell 3 (v := .int .i64 C) rfl
  have z0 := HI.out.free 0
  have z3 := HI.out.free 3
  by_cases h16 : o = 16
  · have Hr2 : Hid (lgW x = wordV 19 A B 0 0) := hid (by rw [Hr.out, if_pos h16])
    subst h16
    clear Hr
    have HW := hid (fun W => word_any 19 A B 0 0 W)
    have E := hid ((HI.out.set 0 (.int .i64 19)).set 3 (.int .i64 0))
    have EG : Hid (W.grownBy ((w3.setCell ⟨X, 0, none⟩ (.int .i64 19)).setCell ⟨X, 3, none⟩ (.int .i64 0)) none) := hid (grown_new' (grown_trans (grown_none HG.out) (grown_setCell (grown_setCell (grown_refl w3 _) _ _) _ _)) (fun k hk => by obtain rfl := Option.some.inj hk; exact HX.out))
    clear HI HG HX
    go_wp2_with (first
      | (refine wpList_load_rw rfl 27 _ rfl rfl E.out rfl Tryz.underlying27 info_insL ?_)
      | fail)
    refine (HW.out _).mono ?_
    rintro e w4 ⟨rfl, hb⟩
    have HG4 := hid (grown_trans EG.out (below_is_grown hb))
    clear hb EG E
    go_wp2
    go_ret
    exact ⟨ret_i Hr2.out.symm, HG4.out⟩
  · have hb16 : (o == 16) = false := by simpa using h16
    by_cases h17 : o = 17
    · have Hr2 : Hid (lgW x = wordV 20 A B 0 0) := hid (by rw [Hr.out, if_neg h16, if_pos h17])
      subst h17
      clear Hr
      have HW := hid (fun W => word_any 20 A B 0 0 W)
      have E := hid ((HI.out.set 0 (.int .i64 20)).set 3 (.int .i64 0))
      have EG : Hid (W.grownBy ((w3.setCell ⟨X, 0, none⟩ (.int .i64 20)).setCell ⟨X, 3, none⟩ (.int .i64 0)) none) := hid (grown_new' (grown_trans (grown_none HG.out) (grown_setCell (grown_setCell (grown_refl w3 _) _ _) _ _)) (fun k hk => by obtain rfl := Option.some.inj hk; exact HX.out))
      clear HI HG HX
      go_wp2_with (first
        | (refine wpList_load_rw rfl 27 _ rfl rfl E.out rfl Tryz.underlying27 info_insL ?_)
        | fail)
      refine (HW.out _).mono ?_
      rintro e w4 ⟨rfl, hb⟩
      have HG4 := hid (grown_trans EG.out (below_is_grown hb))
      clear hb EG E
      go_wp2
      go_ret
      exact ⟨ret_i Hr2.out.symm, HG4.out⟩
    · have hb17 : (o == 17) = false := by simpa using h17
      by_cases h18 : o = 18
      · have Hr2 : Hid (lgW x = wordV 21 A B 0 0) := hid (by rw [Hr.out, if_neg h16, if_neg h17, if_pos h18])
        subst h18
        clear Hr
        have HW := hid (fun W => word_any 21 A B 0 0 W)
        have E := hid ((HI.out.set 0 (.int .i64 21)).set 3 (.int .i64 0))
        have EG : Hid (W.grownBy ((w3.setCell ⟨X, 0, none⟩ (.int .i64 21)).setCell ⟨X, 3, none⟩ (.int .i64 0)) none) := hid (grown_new' (grown_trans (grown_none HG.out) (grown_setCell (grown_setCell (grown_refl w3 _) _ _) _ _)) (fun k hk => by obtain rfl := Option.some.inj hk; exact HX.out))
        clear HI HG HX
        go_wp2_with (first
          | (refine wpList_load_rw rfl 27 _ rfl rfl E.out rfl Tryz.underlying27 info_insL ?_)
          | fail)
        refine (HW.out _).mono ?_
        rintro e w4 ⟨rfl, hb⟩
        have HG4 := hid (grown_trans EG.out (below_is_grown hb))
        clear hb EG E
        go_wp2
        go_ret
        exact ⟨ret_i Hr2.out.symm, HG4.out⟩
      · have hb18 : (o == 18) = false := by simpa using h18
        have Hr2 : Hid (lgW x = wordV o A B 0 0) := hid (by rw [Hr.out, if_neg h16, if_neg h17, if_neg h18])
        clear h16 h17 h18 Hr
        have HW := hid (fun W => word_any o A B 0 0 W)
        have E := hid (HI.out.set 3 (.int .i64 0))
        have EG : Hid (W.grownBy (w3.setCell ⟨X, 3, none⟩ (.int .i64 0)) none) := hid (grown_new' (grown_trans (grown_none HG.out) (grown_setCell (grown_refl w3 _) _ _)) (fun k hk => by obtain rfl := Option.some.inj hk; exact HX.out))
        clear HI HG HX
        go_wp2_with (first
          | (refine wpList_load_rw rfl 27 _ rfl rfl E.out rfl Tryz.underlying27 info_insL ?_)
          | fail)
        refine (HW.out _).mono ?_
        rintro e w4 ⟨rfl, hb⟩
        have HG4 := hid (grown_trans EG.out (below_is_grown hb))
        clear hb EG E
        go_wp2
        go_ret
        exact ⟨ret_i Hr2.out.symm, HG4.out⟩
end Go.Proofs.YtogdpaaofihkgaaGreatDoor
namespace Go.Proofs.YtogdpaaofihkgaaGreatDoor
open Go.RowKit
/-- m elements of so many cells, in a slice that may be nil -/
def SrcOf (w : World) (x : Value) (m size : Nat) (news : List Value) : Prop :=
  news.length = m * size ∧ (∀ u ∈ news, u.oneCell' = true) ∧
  ((∃ a c, x = .slice (some a) m c ∧ ∀ j u, news[j]? = some u → w.cell? (a.add j) = some u) ∨ (∃ c, x = .slice none 0 c ∧ m = 0))
theorem run_append_nil {w : World} (base : Nat) (t ty e : TypeId) (i : TypeInfo) (size : Nat) (ht : Tryz.prog.underlying t = some (.slice e)) (hi : Tryz.prog.info? e = some i)
    (v : Value) (n : Nat) (xs : List Value) (c : Nat) (hown : w.ownsRow base e size v n xs) :
    (Builtin.append_ #[t, t] ty #[v, .slice none 0 c]).run Tryz.prog w = .ok v w := by
  rcases hown.2 with ⟨rfl, rfl⟩ | ⟨g, cap, cur, rfl, _, _, hnc, _⟩
  · simp [Builtin.append_, run_underlying ht, sizeOf, typeInfo, hi, Builtin.lenOf, Builtin.firstCells]
  · simp [Builtin.append_, run_underlying ht, sizeOf, typeInfo, hi, Builtin.lenOf, Builtin.firstCells, hnc, storeCells]
theorem run_append_any {w : World} (t ty : TypeId) (base : Nat) (e : TypeId) (i : TypeInfo) (z : Value) (size bytes : Nat) (ht : Tryz.prog.underlying t = some (.slice e)) (hi : Tryz.prog.info? e = some i) (hz : i.zero = some z)
    (hsize : i.size = size) (hby : i.bytes = bytes) (hzs : z.cells.size = size) (hsz : 0 < size)
    (v : Value) (n : Nat) (xs : List Value) (hown : w.ownsRow base e size v n xs) (x : Value) (m : Nat) (news : List Value) (hs : SrcOf w x m size news)
    (h63 : n + m ≤ maxLen) (hbytes : (n + m) * bytes ≤ 140737488355328) (hbase : base ≤ w.heap.size) :
    ∃ v' w', (Builtin.append_ #[t, t] ty #[v, x]).run Tryz.prog w = .ok v' w' ∧ w'.ownsRow base e size v' (n + m) (xs ++ news) ∧ w.grownBy w' v.ownBlock ∧ (v'.ownBlock = v.ownBlock ∨ v'.ownBlock = some w.heap.size) := by
  obtain ⟨hl, h1, ⟨a, c, rfl, hc⟩ | ⟨c, rfl, rfl⟩⟩ := hs
  · obtain ⟨v', w', hr, h2, h3, _, h5⟩ := run_append_own_at (P := Tryz.prog) (w := w) base t ty e i z size bytes ht hi hz hsize hby hzs hsz v n xs hown a m c news hl hc h1 h63 hbytes hbase
    exact ⟨v', w', hr, h2, h3, h5⟩
  · have hn : news = [] := List.length_eq_zero_iff.1 (by rw [hl, Nat.zero_mul])
    subst hn
    refine ⟨v, w, run_append_nil base t ty e i size ht hi v n xs c hown, ?_, ⟨rfl, rfl, rfl, Nat.le_refl _, fun _ _ _ => rfl⟩, .inl rfl⟩
    rw [List.append_nil, Nat.add_zero]
    exact hown
theorem wp_append_any {w : World} {o : Oper} {a : Act} {K : Act → World → Prop} {Q : Exit → Act → World → Prop} (s x : Operand) (t : TypeId)
    (ho : o.op = .call { callee := .builtin .append, args := #[s, x], argTypes := #[t, t] })
    (base : Nat) (e : TypeId) (i : TypeInfo) (z : Value) (size bytes : Nat) (ht : Tryz.prog.underlying t = some (.slice e)) (hi : Tryz.prog.info? e = some i) (hz : i.zero = some z)
    (hsize : i.size = size) (hby : i.bytes = bytes) (hzs : z.cells.size = size) (hsz : 0 < size)
    (v : Value) (n : Nat) (xs : List Value) (hs : a.eval s = v) (hown : w.ownsRow base e size v n xs)
    (y : Value) (m : Nat) (news : List Value) (hx : a.eval x = y) (hsrc : SrcOf w y m size news)
    (h63 : n + m ≤ maxLen) (hbytes : (n + m) * bytes ≤ 140737488355328) (hbase : base ≤ w.heap.size)
    (h : ∀ v' w', w'.ownsRow base e size v' (n + m) (xs ++ news) → w.grownBy w' v.ownBlock → (v'.ownBlock = v.ownBlock ∨ v'.ownBlock = some w.heap.size) → K (a.put o.dst v') w') : o.wp Tryz.prog a w K Q := by
  obtain ⟨v', w', hr, h2, h3, h4⟩ := run_append_any (w := w) t o.type base e i z size bytes ht hi hz hsize hby hzs hsz v n xs hown y m news hsrc h63 hbytes hbase
  unfold Oper.wp execOp
  simp only [ho, resolve, invoke, builtin, Sem.run_bind, Sem.run_pure, Result.andThen_ok, List.map_toArray, List.map_cons, List.map_nil, hs, hx, hr]
  exact h v' w' h2 h3 h4
theorem wpList_append_any {w : World} {ops : Array Oper} {rest : List Oper} {o : Oper} {a : Act} {Q : Exit → Act → World → Prop} (hgd : o.guard = none) (s x : Operand) (t : TypeId)
    (ho : o.op = .call { callee := .builtin .append, args := #[s, x], argTypes := #[t, t] })
    (base : Nat) (e : TypeId) (i : TypeInfo) (z : Value) (size bytes : Nat) (ht : Tryz.prog.underlying t = some (.slice e)) (hi : Tryz.prog.info? e = some i) (hz : i.zero = some z)
    (hsize : i.size = size) (hby : i.bytes = bytes) (hzs : z.cells.size = size) (hsz : 0 < size)
    (v : Value) (n : Nat) (xs : List Value) (hs : a.eval s = v) (hown : w.ownsRow base e size v n xs)
    (y : Value) (m : Nat) (news : List Value) (hx : a.eval x = y) (hsrc : SrcOf w y m size news)
    (h63 : n + m ≤ maxLen) (hbytes : (n + m) * bytes ≤ 140737488355328) (hbase : base ≤ w.heap.size)
    (h : ∀ v' w', w'.ownsRow base e size v' (n + m) (xs ++ news) → w.grownBy w' v.ownBlock → (v'.ownBlock = v.ownBlock ∨ v'.ownBlock = some w.heap.size) → wpList Tryz.prog ops Q rest (a.put o.dst v') w') : wpList Tryz.prog ops Q (o :: rest) a w :=
  wpList_plain hgd fun _ hK => wp_append_any s x t ho base e i z size bytes ht hi hz hsize hby hzs hsz v n xs hs hown y m news hx hsrc h63 hbytes hbase fun v' w' h2 h3 h4 => hK _ _ (h v' w' h2 h3 h4)
theorem SlAt.src {w : World} {k : IntKind} {v : Value} {xs : List Int} (h : SlAt w k v xs) : SrcOf w v xs.length 1 (xs.map (Value.int k)) := by
  refine ⟨by simp, fun u hu => ?_, ?_⟩
  · obtain ⟨_, _, rfl⟩ := List.mem_map.1 hu; rfl
  · rcases h with ⟨⟨p, c, rfl⟩, rfl⟩ | ⟨b, o, c, rfl, _, hc⟩
    · cases p with
      | none => exact .inr ⟨c, rfl, rfl⟩
      | some a => exact .inl ⟨a, c, rfl, fun j u hj => by simp at hj⟩
    · refine .inl ⟨_, c, rfl, fun j u hj => ?_⟩
      rw [List.getElem?_map] at hj
      cases hx : xs[j]? with
      | none => rw [hx] at hj; cases hj
      | some y => rw [hx] at hj; cases hj; rw [Addr.add_mid]; exact hc j y hx
theorem own_src {w : World} {base : Nat} {e : TypeId} {size : Nat} {v : Value} {n : Nat} {xs : List Value} (h : w.ownsRow base e size v n xs) (h1 : ∀ u ∈ xs, u.oneCell' = true) : SrcOf w v n size xs := by
  refine ⟨h.1, h1, ?_⟩
  rcases h.2 with ⟨rfl, rfl⟩ | ⟨g, cap, cur, rfl, _⟩
  · exact .inr ⟨0, rfl, rfl⟩
  · exact .inl ⟨⟨g, 0, none⟩, cap, rfl, h.cells rfl⟩
theorem SrcOf.kept0 {w w1 : World} {x : Value} {m size : Nat} {news : List Value} (h : SrcOf w x m size news) (hg : w.grownBy w1 none) (hb : ∀ b, x.ownBlock = some b → b < w.heap.size) : SrcOf w1 x m size news := by
  obtain ⟨hl, h1, ⟨a, c, rfl, hc⟩ | h2⟩ := h
  · exact ⟨hl, h1, .inl ⟨a, c, rfl, fun j u hj => (grown_cell hg (by have := hb a.block rfl; unfold Addr.add; split <;> exact this) (by simp)).trans (hc j u hj)⟩⟩
  · exact ⟨hl, h1, .inr h2⟩
end Go.Proofs.YtogdpaaofihkgaaGreatDoor
namespace Go.Proofs.YtogdpaaofihkgaaGreatDoor
open Go.RowKit
/-- a row: the slice, its elements' type and cells, how many, and what they are -/
structure Ro where
  v : Value
  e : TypeId
  z : Nat
  n : Nat
  xs : List Value
structure RosAt (w : World) (base H : Nat) (t : TypeId) (L : List Ro) : Prop where
  row : RwAt w H t (L.map (·.v)).toArray
  own : ∀ r ∈ L, w.ownsRow base r.e r.z r.v r.n r.xs
  neH : ∀ r ∈ L, r.v.ownBlock ≠ some H
  ap : ∀ (i j : Nat) (a b : Ro), i ≠ j → L[i]? = some a → L[j]? = some b → ∀ g, a.v.ownBlock = some g → b.v.ownBlock ≠ some g
  ge : base ≤ H
theorem RosAt.at_ {w : World} {base H k : Nat} {t : TypeId} {L : List Ro} {r : Ro} (h : RosAt w base H t L) (hk : L[k]? = some r) : w.ownsRow base r.e r.z r.v r.n r.xs := h.own r (List.mem_of_getElem? hk)
theorem RosAt.kept0 {w w1 : World} {base H : Nat} {t : TypeId} {L : List Ro} (h : RosAt w base H t L) (hg : w.grownBy w1 none) : RosAt w1 base H t L :=
  ⟨h.row.kept0 hg, fun r hr => (h.own r hr).kept hg (by cases r.v.ownBlock <;> simp), h.neH, h.ap, h.ge⟩
theorem RosAt.size {w : World} {base H : Nat} {t : TypeId} {L : List Ro} (h : RosAt w base H t L) : base ≤ w.heap.size := Nat.le_trans h.ge (Nat.le_of_lt h.row.lt)
/-- a row has grown, and its field is written -/
theorem RosAt.step {w w1 : World} {base H k n' : Nat} {t : TypeId} {L : List Ro} {r : Ro} {v' : Value} {xs' : List Value} (h : RosAt w base H t L) (hk : L[k]? = some r) (ho : w1.ownsRow base r.e r.z v' n' xs') (hg : w.grownBy w1 r.v.ownBlock) (hat : v'.ownBlock = r.v.ownBlock ∨ v'.ownBlock = some w.heap.size) :
    RosAt (w1.setCell ⟨H, k, none⟩ v') base H t (L.set k ⟨v', r.e, r.z, n', xs'⟩) := by
  have hkl := (List.getElem?_eq_some_iff.1 hk).1
  have hH := h.row.lt
  have hv' : v'.ownBlock ≠ some H := by
    rcases hat with e | e
    · rw [e]; exact h.neH r (List.mem_of_getElem? hk)
    · rw [e]; intro e2; have := Option.some.inj e2; omega
  have hlt : ∀ (i : Nat) (a : Ro) (g : Nat), L[i]? = some a → a.v.ownBlock = some g → g < w.heap.size := fun i a g hi hg => ((h.at_ hi).lt g hg).2
  have hrow : RwAt w1 H t (L.map (·.v)).toArray := h.row.kept hg (Ne.symm (h.neH r (List.mem_of_getElem? hk)))
  refine ⟨?_, ?_, ?_, ?_, h.ge⟩
  · have := hrow.set k v'
    have e : (L.set k ⟨v', r.e, r.z, n', xs'⟩).map (·.v) = (L.map (·.v)).set k v' := by rw [List.map_set]
    rw [e]
    simpa using this
  · intro a ha
    obtain ⟨i, hi⟩ := List.getElem?_of_mem ha
    by_cases hik : k = i
    · subst hik
      rw [List.getElem?_set_self hkl] at hi
      cases hi
      exact (ho.kept (grown_setCell (grown_refl w1 (some H)) k v') (.inr hv'))
    · rw [List.getElem?_set_ne hik] at hi
      have h1 := h.at_ hi
      have h2 : w1.ownsRow base a.e a.z a.v a.n a.xs := h1.kept hg (by
        cases ha : a.v.ownBlock with
        | none => exact .inl rfl
        | some g => exact .inr (fun e => h.ap i k a r (Ne.symm hik) hi hk g ha e.symm))
      exact h2.kept (grown_setCell (grown_refl w1 (some H)) k v') (.inr (h.neH a (List.mem_of_getElem? hi)))
  · intro a ha
    rcases List.mem_or_eq_of_mem_set ha with h1 | rfl
    · exact h.neH a h1
    · exact hv'
  · intro i j a b hij ha hb g hga
    by_cases hik : k = i
    · subst hik
      rw [List.getElem?_set_self hkl] at ha
      cases ha
      rw [List.getElem?_set_ne hij] at hb
      rcases hat with e | e
      · exact h.ap k j r b hij hk hb g (e ▸ hga)
      · intro hbg
        have h1 := hlt j b g hb hbg
        have : v'.ownBlock = some g := hga
        rw [e] at this
        have := Option.some.inj this
        omega
    · rw [List.getElem?_set_ne hik] at ha
      by_cases hjk : k = j
      · subst hjk
        rw [List.getElem?_set_self hkl] at hb
        cases hb
        rcases hat with e | e
        · show v'.ownBlock ≠ some g
          rw [e]; exact h.ap i k a r hij ha hk g hga
        · show v'.ownBlock ≠ some g
          have h1 := hlt i a g ha hga
          rw [e]; intro e2
          have := Option.some.inj e2
          omega
      · rw [List.getElem?_set_ne hjk] at hb
        exact h.ap i j a b hij ha hb g hga
theorem RosAt.grown {w w1 : World} {base H k : Nat} {t : TypeId} {L : List Ro} {r : Ro} {v' : Value} {W : World} (h : RosAt w base H t L) (hW : W.grownBy w none) (hb : W.heap.size ≤ base) (hk : L[k]? = some r) (hg : w.grownBy w1 r.v.ownBlock) : W.grownBy (w1.setCell ⟨H, k, none⟩ v') none := by
  have h1 : W.grownBy w1 none := grown_new' (grown_trans (grown_none hW) hg) (fun g e => by have := ((h.at_ hk).lt g e).1; omega)
  exact grown_new' (grown_trans (grown_none h1) (grown_setCell (grown_refl w1 (some H)) k v')) (fun g e => by have := Option.some.inj e; have := h.ge; omega)
end Go.Proofs.YtogdpaaofihkgaaGreatDoor
namespace Go.Proofs.YtogdpaaofihkgaaGreatDoor
open Go.RowKit
theorem own_some {w : World} {base z n : Nat} {e : TypeId} {v : Value} {xs : List Value} (h : w.ownsRow base e z v n xs) (hn : 0 < n) : ∃ g c, v = .slice (some ⟨g, 0, none⟩) n c := by
  rcases h.2 with ⟨rfl, rfl⟩ | ⟨g, cap, cur, rfl, _⟩
  · exact absurd hn (by omega)
  · exact ⟨g, cap, rfl⟩
/-- the struct lies in block H: plain fields, then the rows L; the rows R beside it are only read; all is newer than the world w0 -/
structure RosB (w0 w : World) (base H : Nat) (t : TypeId) (pre : List Value) (L R : List Ro) : Prop where
  g : w0.grownBy w none
  lt : w0.heap.size ≤ base
  ge : base ≤ H
  row : RwAt w H t (pre ++ L.map (·.v)).toArray
  own : ∀ r ∈ L, w.ownsRow base r.e r.z r.v r.n r.xs
  neH : ∀ r ∈ L, r.v.ownBlock ≠ some H
  ap : ∀ (i j : Nat) (a b : Ro), i ≠ j → L[i]? = some a → L[j]? = some b → ∀ g, a.v.ownBlock = some g → b.v.ownBlock ≠ some g
  rd : ∀ r ∈ R, w.ownsRow base r.e r.z r.v r.n r.xs
  rH : ∀ r ∈ R, r.v.ownBlock ≠ some H
  ra : ∀ r ∈ R, ∀ a ∈ L, ∀ g, a.v.ownBlock = some g → r.v.ownBlock ≠ some g
section
variable {w0 w w1 : World} {base H k n' : Nat} {t : TypeId} {pre : List Value} {L R : List Ro} {r : Ro} {v' : Value} {xs' : List Value}
theorem RosB.at_ (h : RosB w0 w base H t pre L R) (hk : L[k]? = some r) : w.ownsRow base r.e r.z r.v r.n r.xs := h.own r (List.mem_of_getElem? hk)
theorem RosB.kept0 (h : RosB w0 w base H t pre L R) (hg : w.grownBy w1 none) : RosB w0 w1 base H t pre L R :=
  ⟨grown_trans h.g hg, h.lt, h.ge, h.row.kept0 hg, fun r hr => (h.own r hr).kept hg (by cases r.v.ownBlock <;> simp), h.neH, h.ap, fun r hr => (h.rd r hr).kept hg (by cases r.v.ownBlock <;> simp), h.rH, h.ra⟩
theorem RosB.size (h : RosB w0 w base H t pre L R) : base ≤ w.heap.size := Nat.le_trans h.ge (Nat.le_of_lt h.row.lt)
/-- a row is another one now, of the same block or of a new one -/
theorem RosB.put (h : RosB w0 w base H t pre L R) (hk : L[k]? = some r) (ho : w1.ownsRow base r.e r.z v' n' xs') (hg : w.grownBy w1 r.v.ownBlock) (hat : v'.ownBlock = r.v.ownBlock ∨ v'.ownBlock = some w.heap.size) :
    w0.grownBy w1 none ∧ RwAt w1 H t (pre ++ L.map (·.v)).toArray ∧ (∀ a ∈ L.set k ⟨v', r.e, r.z, n', xs'⟩, w1.ownsRow base a.e a.z a.v a.n a.xs) ∧ (∀ a ∈ L.set k ⟨v', r.e, r.z, n', xs'⟩, a.v.ownBlock ≠ some H) ∧
    (∀ (i j : Nat) (a b : Ro), i ≠ j → (L.set k ⟨v', r.e, r.z, n', xs'⟩)[i]? = some a → (L.set k ⟨v', r.e, r.z, n', xs'⟩)[j]? = some b → ∀ g, a.v.ownBlock = some g → b.v.ownBlock ≠ some g) ∧
    (∀ a ∈ R, w1.ownsRow base a.e a.z a.v a.n a.xs) ∧ (∀ r' ∈ R, ∀ a ∈ L.set k ⟨v', r.e, r.z, n', xs'⟩, ∀ g, a.v.ownBlock = some g → r'.v.ownBlock ≠ some g) := by
  have hkl := (List.getElem?_eq_some_iff.1 hk).1
  have hkm := List.mem_of_getElem? hk
  have hH := h.row.lt
  have hv' : v'.ownBlock ≠ some H := by
    rcases hat with e | e
    · rw [e]; exact h.neH r hkm
    · rw [e]; intro e2; have := Option.some.inj e2; omega
  have hlt : ∀ (i : Nat) (a : Ro) (g : Nat), L[i]? = some a → a.v.ownBlock = some g → g < w.heap.size := fun i a g hi hg => ((h.at_ hi).lt g hg).2
  refine ⟨?_, h.row.kept hg (Ne.symm (h.neH r hkm)), ?_, ?_, ?_, ?_, ?_⟩
  · exact grown_new' (grown_trans (grown_none h.g) hg) (fun g e => by have := ((h.at_ hk).lt g e).1; have := h.lt; omega)
  · intro a ha
    obtain ⟨i, hi⟩ := List.getElem?_of_mem ha
    by_cases hik : k = i
    · subst hik
      rw [List.getElem?_set_self hkl] at hi
      cases hi
      exact ho
    · rw [List.getElem?_set_ne hik] at hi
      refine (h.at_ hi).kept hg ?_
      cases ha : a.v.ownBlock with
      | none => exact .inl rfl
      | some g => exact .inr (fun e => h.ap i k a r (Ne.symm hik) hi hk g ha e.symm)
  · intro a ha
    rcases List.mem_or_eq_of_mem_set ha with h1 | rfl
    · exact h.neH a h1
    · exact hv'
  · intro i j a b hij ha hb g hga
    by_cases hik : k = i
    · subst hik
      rw [List.getElem?_set_self hkl] at ha
      cases ha
      rw [List.getElem?_set_ne hij] at hb
      rcases hat with e | e
      · exact h.ap k j r b hij hk hb g (e ▸ hga)
      · intro hbg
        have h1 := hlt j b g hb hbg
        have : v'.ownBlock = some g := hga
        rw [e] at this
        have := Option.some.inj this
        omega
    · rw [List.getElem?_set_ne hik] at ha
      by_cases hjk : k = j
      · subst hjk
        rw [List.getElem?_set_self hkl] at hb
        cases hb
        rcases hat with e | e
        · show v'.ownBlock ≠ some g
          rw [e]; exact h.ap i k a r hij ha hk g hga
        · show v'.ownBlock ≠ some g
          have h1 := hlt i a g ha hga
          rw [e]; intro e2
          have := Option.some.inj e2
          omega
      · rw [List.getElem?_set_ne hjk] at hb
        exact h.ap i j a b hij ha hb g hga
  · intro a ha
    refine (h.rd a ha).kept hg ?_
    cases hr : r.v.ownBlock with
    | none => cases a.v.ownBlock <;> simp
    | some g => exact .inr (fun e => h.ra a ha r hkm g hr e)
  · intro r' hr' a ha g hga
    rcases List.mem_or_eq_of_mem_set ha with h1 | rfl
    · exact h.ra r' hr' a h1 g hga
    · rcases hat with e | e
      · exact h.ra r' hr' r hkm g (e ▸ hga)
      · have hga' : v'.ownBlock = some g := hga
        rw [e] at hga'
        obtain rfl := Option.some.inj hga'
        intro e2
        have := ((h.rd r' hr').lt _ e2).2
        omega
/-- a row has grown, and its field is written -/
theorem RosB.step (h : RosB w0 w base H t pre L R) (hk : L[k]? = some r) (ho : w1.ownsRow base r.e r.z v' n' xs') (hg : w.grownBy w1 r.v.ownBlock) (hat : v'.ownBlock = r.v.ownBlock ∨ v'.ownBlock = some w.heap.size) :
    RosB w0 (w1.setCell ⟨H, pre.length + k, none⟩ v') base H t pre (L.set k ⟨v', r.e, r.z, n', xs'⟩) R := by
  obtain ⟨a1, a2, a3, a4, a5, a6, a7⟩ := h.put hk ho hg hat
  have hs : w1.grownBy (w1.setCell ⟨H, pre.length + k, none⟩ v') (some H) := grown_setCell (grown_refl w1 (some H)) _ v'
  refine ⟨grown_new' (grown_trans (grown_none a1) hs) (fun g e => by have := Option.some.inj e; have := h.ge; have := h.lt; omega), h.lt, h.ge, ?_, ?_, a4, a5, ?_, h.rH, a7⟩
  · have := a2.set (pre.length + k) v'
    have e : pre ++ (L.set k ⟨v', r.e, r.z, n', xs'⟩).map (·.v) = (pre ++ L.map (·.v)).set (pre.length + k) v' := by
      rw [List.map_set, List.set_append_right _ _ (by omega), Nat.add_sub_cancel_left]
    rw [e]
    simpa using this
  · exact fun a ha => (a3 a ha).kept hs (.inr (a4 a ha))
  · exact fun a ha => (a6 a ha).kept hs (.inr (h.rH a ha))
/-- a cell of a row is written -/
theorem RosB.store {g cap n : Nat} {e : TypeId} {z : Nat} {xs : List Value} (h : RosB w0 w base H t pre L R) (hk : L[k]? = some ⟨.slice (some ⟨g, 0, none⟩) n cap, e, z, n, xs⟩) (j : Nat) (u : Value) :
    RosB w0 (w.setCell ⟨g, j, none⟩ u) base H t pre (L.set k ⟨.slice (some ⟨g, 0, none⟩) n cap, e, z, n, xs.set j u⟩) R := by
  have hs := (h.at_ hk).stored j u
  obtain ⟨a1, a2, a3, a4, a5, a6, a7⟩ := h.put (v' := .slice (some ⟨g, 0, none⟩) n cap) hk hs.1 hs.2 (.inl rfl)
  refine ⟨a1, h.lt, h.ge, ?_, a3, a4, a5, a6, h.rH, a7⟩
  have e1 : (L.set k (⟨.slice (some ⟨g, 0, none⟩) n cap, e, z, n, xs.set j u⟩ : Ro)).map (·.v) = L.map (·.v) := by
    apply List.ext_getElem?
    intro i
    rw [List.map_set, List.getElem?_set]
    by_cases hi : k = i
    · subst hi
      rw [if_pos rfl, List.getElem?_map, hk, List.length_map, if_pos (List.getElem?_eq_some_iff.1 hk).1]; rfl
    · rw [if_neg hi]
  rw [e1]; exact a2
theorem RosB.drop (h : RosB w0 w base H t pre L R) {R' : List Ro} (hs : ∀ r ∈ R', r ∈ R) : RosB w0 w base H t pre L R' :=
  { h with rd := fun r hr => h.rd r (hs r hr), rH := fun r hr => h.rH r (hs r hr), ra := fun r hr => h.ra r (hs r hr) }
/-- a box more beside it -/
theorem RosB.box (h : RosB w0 w base H t pre L R) (cs : Array Value) (T : TypeId) (n sz : Nat) (hn : n ≤ maxLen) (hz : cs.size = n * sz) :
    RosB w0 (w.alloc (.cells cs T)) base H t pre L (⟨.slice (some ⟨w.heap.size, 0, none⟩) n n, T, sz, n, cs.toList⟩ :: R) := by
  have al := World.grownBy_alloc w (.cells cs T) none
  have h1 := h.kept0 al
  refine { h1 with rd := fun r hr => ?_, rH := fun r hr => ?_, ra := fun r hr a ha g hg => ?_ }
  · rcases List.mem_cons.1 hr with rfl | hr
    · exact World.ownsRow_lit w cs n h.size hn hz
    · exact h1.rd r hr
  · rcases List.mem_cons.1 hr with rfl | hr
    · intro e; have e1 : w.heap.size = H := Option.some.inj e; have := h.row.lt; omega
    · exact h1.rH r hr
  · rcases List.mem_cons.1 hr with rfl | hr
    · intro e; have e1 : w.heap.size = g := Option.some.inj e; have := ((h.own a ha).lt g hg).2; omega
    · exact h1.ra r hr a ha g hg
theorem RosB.rdc {g cap n : Nat} {e : TypeId} {z : Nat} {xs : List Value} (h : RosB w0 w base H t pre L R) (hr : (⟨.slice (some ⟨g, 0, none⟩) n cap, e, z, n, xs⟩ : Ro) ∈ R) (j : Nat) {v : Value} (hj : xs[j]? = some v) : w.cell? ⟨g, j, none⟩ = some v := by
  have ho : w.ownsRow base e z (.slice (some ⟨g, 0, none⟩) n cap) n xs := h.rd _ hr
  have hl : xs.length = n * z := ho.1
  have hjl := (List.getElem?_eq_some_iff.1 hj).1
  rw [← hj]
  exact ho.cellAt j (by omega)
end
end Go.Proofs.YtogdpaaofihkgaaGreatDoor

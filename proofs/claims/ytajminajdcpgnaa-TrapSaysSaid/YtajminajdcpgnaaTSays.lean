/- The walk of the law TrapSays. (Made by genTSays.py.) -/
import Derived.Test.YtajminajdcpgnaaTrap1
import Derived.Test.YtajminajdcpgnaaRBoth
import Derived.Deep.RegionHeld3
namespace Go.Proofs.Ytajminajdcpgnaa
open Go.RowKit
/-- a whole processor, loaded in a world of which it is known -/
theorem cpu_yields {o : Oper} {a : Act} {w : World} (p : Operand) (ho : o.op = .load 26 p) {g : Nat} {y : Cp} (hx : a.eval p = .pointer (some ⟨g, 0, none⟩)) (hr : CpuAt w g y) :
    (execOp a.eval o).run Try.prog w = .ok (.value (.agg (cpuC y))) w := by
  have hv := run_loadVar_row (P := Try.prog) _ _ _ 26 _ _ _ hr.blk Try.underlying26 rfl (cpu_size_info hr.len)
  unfold execOp
  simp only [ho, hx, Instr.loadAt, Instr.sureAddr, Sem.run_bind, Sem.run_pure, Result.andThen_ok, hv]
/-- what the last region holds fast -/
structure QAt (W : World) (c a b : Nat) (x y : Cp) (B d e : Nat) (v : DvS) (Q S : List Int) (on : Bool) (T : Int) (vd vw vs : Value) (w : World) : Prop where
  hc : CpuAt w c x
  ha : CpuAt w a y
  hb : CpuAt w b y
  dr : DR B w d e v Q S [] on T vd vw vs
  hg : W.grownBy w none
theorem QAt.kept {W w w1 : World} {c a b : Nat} {x y : Cp} {B d e : Nat} {v : DvS} {Q S : List Int} {on : Bool} {T : Int} {vd vw vs : Value} (h : QAt W c a b x y B d e v Q S on T vd vw vs w) (hg : w.grownBy w1 none) : QAt W c a b x y B d e v Q S on T vd vw vs w1 :=
  ⟨h.hc.kept0 hg, h.ha.kept0 hg, h.hb.kept0 hg, h.dr.kept0 hg, grown_trans h.hg hg⟩
/-- while keys are pressed -/
structure KR (W0 wr : World) (d e : Nat) (L : List Int) (vw : Value) : Prop where
  dr : DR W0.heap.size wr d e { zeroS with Q := L } L zeroS.S [] false 0 (.slice none 0 0) vw (.slice none 0 0)
  hg : W0.grownBy wr none
set_option maxRecDepth 100000 in
set_option maxHeartbeats 8000000 in
theorem tsays_walk (x : Cp) (c ad : Int) (v : Value) (ls : List Int) (now after : Int) (port : Bool) (W : World) (hx : CpOk x) (_ : -9223372036854775808 ≤ c) (_ : c ≤ 9223372036854775807) (_ : 0 ≤ ad) (_ : ad ≤ 4294967295)
    (hs : SlAt W .u32 v ls) (_ : ∀ n ∈ ls, (Lit.int .u32 n).wf = true) (hl0 : ls.length ≤ maxLen) (n0 : -9223372036854775808 ≤ now) (n1 : now ≤ 9223372036854775807) (a0 : 0 ≤ after) (a1 : after ≤ 4294967295) :
    Calls Try.prog 3 #[.agg (cpuC x), .int .i64 c, .int .u32 ad, v, .int .i64 now, .int .u32 after, .bool port] W fun e w' => e = .returned (.bool true) ∧ Below W.heap.size W w' := by
  have Hz := zero_cpu
  have Hz33 := zero_dev
  have Hz52 := zero_ref
  obtain ⟨p, c0, rfl⟩ : ∃ p c', v = .slice p ls.length c' := by
    rcases hs with ⟨⟨p, c, rfl⟩, rfl⟩ | ⟨b, o, c, rfl, _⟩
    · exact ⟨_, _, rfl⟩
    · exact ⟨_, _, rfl⟩
  have Hs := hid hs
  have HL := hid hx.regs
  clear hs hx
  unfold maxLen at hl0
  have HC0 := hid (CpuAt.new W HL.out.len)
  have HG0 := hid (grown_alloc (grown_refl W none) (.cells (cpuC x) 26))
  by_cases h1 : ls.length ≤ 20
  · have h1' : (ls.length : Int) ≤ 20 := by omega
    by_cases h2 : 0 ≤ now
    · by_cases h3 : now ≤ 1125899906842624
      · have N0 := hid n0
        have N1 := hid n1
        have A0 := hid a0
        have A1 := hid a1
        obtain ⟨y, hy⟩ : ∃ y, enterP x c ad = y := ⟨_, rfl⟩
        obtain ⟨z, hz⟩ : ∃ z, retP x = z := ⟨_, rfl⟩
        obtain ⟨q, hq⟩ : ∃ q, (!(x.tv == 0)) = q := ⟨_, rfl⟩
        obtain ⟨r, hr⟩ : ∃ r, dueB 0 after now = r := ⟨_, rfl⟩
        obtain ⟨N, hN⟩ : ∃ N, ls.length = N := ⟨_, rfl⟩
        obtain ⟨V, hV⟩ : ∃ V, waitV x.ie r N port = V := ⟨_, rfl⟩
        have HY := hid hy
        have HZ := hid hz
        have HQ := hid hq
        have HR : Hid (dueB ({ zeroS with Q := ls, fr := 0, af := after } : DvS).fr ({ zeroS with Q := ls, fr := 0, af := after } : DvS).af now = r) := hid hr
        have HT : Hid (TRel { zeroS with Q := ls, fr := 0, af := after } (decide (0 < after)) (0 + after)) := hid ⟨rfl, fun _ => rfl, Int.le_refl 0, (by show (0 : Int) ≤ 1125899906842624; decide), a0, a1⟩
        have HRr : Hid ((decide (0 < after) && decide (0 + after ≤ now)) = r) := hid ((HT.out.due now).trans hr)
        have HV := hid hV
        have Hn := hid hN
        have Hn64 : Hid (N ≤ 64) := hid (by omega)
        have HLy : Hid (Regs y.l) := hid (by rw [← hy, enterP_l]; exact HL.out)
        have HLz : Hid (Regs z.l) := hid (by rw [← hz]; exact HL.out)
        clear hy hz hq hr hV n0 n1 a0 a1 HT
        go_enter Try.func3, Try.ntmps3
        go_upto_region 1 with (fail)
        generalize W.alloc (.cells (cpuC x) 26) = W1 at HC0 HG0 ⊢
        generalize W.heap.size = b at HC0 ⊢
        go_wp2_with fail
        refine (first6_any _).mono ?_; rintro e w1 ⟨rfl, hg⟩
        have HC1 := hid (HC0.out.kept0 hg)
        have HG1 := hid (grown_trans HG0.out hg)
        clear hg HC0 HG0
        go_wp2_with (first
          | (refine wpList_load_cpu rfl _ rfl rfl HC1.out ?_)
          | fail)
        refine (enter_any HL.out c ad _ y HY.out q HQ.out).mono ?_; rintro e w2 ⟨rfl, hg⟩
        have HC2 := hid ((HC1.out.kept0 hg).alloc (.cells (cpuC y) 26))
        have HA2 := hid (CpuAt.new w2 HLy.out.len)
        have HG2 := hid (grown_alloc (grown_trans HG1.out hg) (.cells (cpuC y) 26))
        clear hg HC1 HG1
        go_upto_region 7 with (first
          | (refine wpList_store_cpu_new (y := y) (z := zeroP) rfl _ _ rfl rfl rfl rfl HLy.out.len ?_)
          | fail)
        generalize w2.alloc (.cells (cpuC y) 26) = w3 at HC2 HA2 HG2 ⊢
        generalize w2.heap.size = ba at HA2 ⊢
        go_wp2_with (first
          | (refine wpList_load_cpu rfl _ rfl rfl HC2.out ?_)
          | fail)
        refine (renter_any HL.out c ad _ y HY.out q HQ.out).mono ?_; rintro e w4 ⟨rfl, hg⟩
        have HC4 := hid ((HC2.out.kept0 hg).alloc (.cells (cpuC y) 26))
        have HA4 := hid ((HA2.out.kept0 hg).alloc (.cells (cpuC y) 26))
        have HB4 := hid (CpuAt.new w4 HLy.out.len)
        have HG4 := hid (grown_alloc (grown_trans HG2.out hg) (.cells (cpuC y) 26))
        clear hg HC2 HA2 HG2
        go_upto_region 8 with (first
          | (refine wpList_store_cpu_new (y := y) (z := zeroP) rfl _ _ rfl rfl rfl rfl HLy.out.len ?_)
          | fail)
        generalize w4.alloc (.cells (cpuC y) 26) = W0 at HC4 HA4 HB4 HG4 ⊢
        generalize w4.heap.size = bb at HB4 ⊢
        go_wp2_with fail
        have HK0 := hid (KR.mk (dr_zero W0) (grown_alloc (grown_alloc (grown_refl W0 none) _) _))
        generalize (W0.alloc (.cells zeroD 39)).alloc (.cells zeroR 42) = w5 at HK0 ⊢
        obtain ⟨d, hd⟩ : ∃ d, d = W0.heap.size := ⟨_, rfl⟩
        obtain ⟨e, he⟩ : ∃ e, e = W0.heap.size + 1 := ⟨_, rfl⟩
        have HK1 : Hid (KR W0 w5 d e [] (.slice none 0 0)) := hid (by rw [hd, he]; exact HK0.out)
        rw [← he, ← hd]
        clear hd he HK0
        go_loopw [22] (fun i wr => ∃ k : Nat, k ≤ ls.length ∧ i = .int .i64 k ∧ Hid (∃ vw, KR W0 wr d e (ls.take k) vw)) (fun i _ => ls.length - (intOf i).toNat)
        case atStart => exact ⟨0, Nat.zero_le _, rfl, hid ⟨_, by rw [List.take_zero]; exact HK1.out⟩⟩
        case round =>
          obtain ⟨k, hk, rfl, HR0⟩ := hrel
          obtain ⟨vw, hKR⟩ := HR0.out
          have HK := hid hKR
          clear HR0 hKR HK1
          by_cases hlt : k < ls.length
          · rcases Hs.out with ⟨_, rfl⟩ | ⟨bl, o, c', he, hbl, hcl⟩
            · simp at hlt
            · have hp : p = some ⟨bl, o, none⟩ := by injection he
              obtain ⟨u, hu⟩ : ∃ u, ls[k]? = some u := ⟨_, List.getElem?_eq_getElem hlt⟩
              have Hu := hid hu
              have Hcl := hid (hcl k u hu)
              have Hbl := hid hbl
              have hcy := (grown_cell (p := ⟨bl, o + k, none⟩) (grown_trans HG4.out HK.out.hg) hbl (by simp)).trans Hcl.out
              have hk0 : (0 : Int) ≤ (k : Int) := by omega
              have hk1 : (k : Int) < (ls.length : Int) := by omega
              have Hlen : Hid ((ls.take k).length < 64) := hid (by rw [List.length_take]; omega)
              clear he hcl hu hbl
              subst hp
              go_wp2_with fail
              refine (press_yes HK.out.dr.dev Hlen.out u).mono ?_; rintro e' w6 ⟨rfl, ht⟩
              have HD6 := hid (HK.out.dr.dturn ht)
              have Hg6 := hid (HK.out.dr.dold HK.out.hg ht)
              have hcy6 := (grown_cell (p := ⟨bl, o + k, none⟩) (grown_trans HG4.out Hg6.out) Hbl.out (by simp)).trans Hcl.out
              clear ht HK hcy
              go_wp2_with fail
              refine (rpress_yes HD6.out.ref Hlen.out u Hg6.out.size).mono ?_; rintro e' w7 ⟨rfl, vw', ht⟩
              have HK7 : Hid (∃ vw, KR W0 w7 d e (ls.take (k + 1)) vw) := hid ⟨vw', by
                have h1 := HD6.out.rturn ht
                have h2 := HD6.out.rold Hg6.out ht
                rw [List.take_add_one, Hu.out]
                exact ⟨h1, h2⟩⟩
              clear ht HD6 Hg6 hcy6
              go_wp2
              go_roundw
              case rel => exact ⟨k + 1, by omega, by go_num, HK7⟩
              case measure => simp [intOf]; omega
          · have hge : (ls.length : Int) ≤ (k : Int) := by omega
            obtain rfl : k = ls.length := by omega
            have HKL : Hid (KR W0 wr d e ls vw) := hid (by
              have := HK.out
              rwa [List.take_of_length_le (Nat.le_refl _)] at this)
            clear HK hlt hk
            go_wp2_with fail
            refine (set_any HKL.out.dr.dev 0 after).mono ?_; rintro e' w8 ⟨rfl, ht⟩
            have HD8 := hid (HKL.out.dr.dturn ht)
            have Hg8 := hid (HKL.out.dr.dold HKL.out.hg ht)
            clear ht HKL
            go_wp2_with fail
            refine (rset_any HD8.out.ref 0 after (by decide) (by decide) A0.out A1.out).mono ?_; rintro e' w9 ⟨rfl, ht⟩
            have HQ9 : Hid (QAt W b ba bb x y W0.heap.size d e { zeroS with Q := ls, fr := 0, af := after } ls zeroS.S (decide (0 < after)) (0 + after) (.slice none 0 0) vw (.slice none 0 0) w9) := hid (by
              have h1 := HD8.out.rturn ht
              have h2 := HD8.out.rold Hg8.out ht
              exact ⟨HC4.out.kept0 h2, HA4.out.kept0 h2, HB4.out.kept0 h2, h1, grown_trans HG4.out h2⟩)
            clear ht HD8 Hg8 HC4 HA4 HB4 HG4
            have HM := HQ9.out
            clear HQ9
            go_upto_region 17 with (fail)
            refine wp_region_held_drew (S := QAt W b ba bb x y W0.heap.size d e { zeroS with Q := ls, fr := 0, af := after } ls zeroS.S (decide (0 < after)) (0 + after) (.slice none 0 0) vw (.slice none 0 0)) (by kernel_rfl) ?_ (fun hS0 => ?_)
            · exact HM.kept (grown_drew (grown_refl _ none))
            clear HM
            simp only [List.append_eq, List.cons_append, List.nil_append]
            refine wpAnyH_take (i := 0) (v := ?_) rfl (by kernel_rfl) (by kernel_rfl) (by kernel_rfl) (fun _ _ _ h => h) (Or.inl ⟨by kernel_rfl, ?_⟩) (by assumption) ?_
            rotate_left
            · (intro w hSw; clear hSw; go_simp; try with_reducible rfl)
            try simp only [Act.put, List.setIfInBounds_toArray, List.set_cons_zero, List.set_cons_succ, List.getElem_toArray, List.getElem_cons_succ, List.getElem_cons_zero]
            refine wpAnyH_take (i := 1) (v := ?_) rfl (by kernel_rfl) (by kernel_rfl) (by kernel_rfl) (fun _ _ _ h => h) (Or.inl ⟨by kernel_rfl, ?_⟩) (by assumption) ?_
            rotate_left
            · (intro w hSw; clear hSw; go_simp; try with_reducible rfl)
            try simp only [Act.put, List.setIfInBounds_toArray, List.set_cons_zero, List.set_cons_succ, List.getElem_toArray, List.getElem_cons_succ, List.getElem_cons_zero]
            refine wpAnyH_take (i := 2) (v := .agg (cpuC y)) rfl (by kernel_rfl) (by kernel_rfl) (by kernel_rfl) (fun _ _ _ h => h) (Or.inl ⟨by kernel_rfl, fun w hSw => cpu_yields _ rfl rfl hSw.ha⟩) (by assumption) ?_
            try simp only [Act.put, List.setIfInBounds_toArray, List.set_cons_zero, List.set_cons_succ, List.getElem_toArray, List.getElem_cons_succ, List.getElem_cons_zero]
            refine wpAnyH_take (i := 3) (v := .agg (cpuC y)) rfl (by kernel_rfl) (by kernel_rfl) (by kernel_rfl) (fun _ _ _ h => h) (Or.inl ⟨by kernel_rfl, fun w hSw => cpu_yields _ rfl rfl hSw.hb⟩) (by assumption) ?_
            try simp only [Act.put, List.setIfInBounds_toArray, List.set_cons_zero, List.set_cons_succ, List.getElem_toArray, List.getElem_cons_succ, List.getElem_cons_zero]
            refine wpAnyH_ready (rs := [4]) (by kernel_rfl) (by simp) ?_
            refine AllReadyH.cons rfl (fun KK hKK => ?_) AllReadyH.nil
            go_simp
            refine (same_cpu HLy.out _).mono ?_
            rintro e w' ⟨rfl, hg⟩
            refine hKK.out _ _ ?_ (fun hHeld => ?_)
            · exact QAt.kept (by assumption) hg
            clear hKK KK hg
            try simp only [Act.put, List.setIfInBounds_toArray, List.set_cons_zero, List.set_cons_succ, List.getElem_toArray, List.getElem_cons_succ, List.getElem_cons_zero]
            refine wpAnyH_take (i := 5) (v := ?_) rfl (by kernel_rfl) (by kernel_rfl) (by kernel_rfl) (fun _ _ _ h => h) (Or.inl ⟨by kernel_rfl, ?_⟩) (by assumption) ?_
            rotate_left
            · (intro w hSw; clear hSw; go_simp; try with_reducible rfl)
            try simp only [Act.put, List.setIfInBounds_toArray, List.set_cons_zero, List.set_cons_succ, List.getElem_toArray, List.getElem_cons_succ, List.getElem_cons_zero]
            refine wpAnyH_take (i := 6) (v := ?_) rfl (by kernel_rfl) (by kernel_rfl) (by kernel_rfl) (fun _ _ _ h => h) (Or.inl ⟨by kernel_rfl, ?_⟩) (by assumption) ?_
            rotate_left
            · (intro w hSw; clear hSw; go_simp; try with_reducible rfl)
            try simp only [Act.put, List.setIfInBounds_toArray, List.set_cons_zero, List.set_cons_succ, List.getElem_toArray, List.getElem_cons_succ, List.getElem_cons_zero]
            refine wpAnyH_take (i := 7) (v := ?_) rfl (by kernel_rfl) (by kernel_rfl) (by kernel_rfl) (fun _ _ _ h => h) (Or.inl ⟨by kernel_rfl, ?_⟩) (by assumption) ?_
            rotate_left
            · (intro w hSw; clear hSw; go_simp; try with_reducible rfl)
            try simp only [Act.put, List.setIfInBounds_toArray, List.set_cons_zero, List.set_cons_succ, List.getElem_toArray, List.getElem_cons_succ, List.getElem_cons_zero]
            refine wpAnyH_take (i := 8) (v := ?_) rfl (by kernel_rfl) (by kernel_rfl) (by kernel_rfl) (fun _ _ _ h => h) (Or.inl ⟨by kernel_rfl, ?_⟩) (by assumption) ?_
            rotate_left
            · (intro w hSw; clear hSw; go_simp; try with_reducible rfl)
            try simp only [Act.put, List.setIfInBounds_toArray, List.set_cons_zero, List.set_cons_succ, List.getElem_toArray, List.getElem_cons_succ, List.getElem_cons_zero]
            refine wpAnyH_take (i := 9) (v := ?_) rfl (by kernel_rfl) (by kernel_rfl) (by kernel_rfl) (fun _ _ _ h => h) (Or.inl ⟨by kernel_rfl, ?_⟩) (by assumption) ?_
            rotate_left
            · (intro w hSw; clear hSw; go_simp; try with_reducible rfl)
            try simp only [Act.put, List.setIfInBounds_toArray, List.set_cons_zero, List.set_cons_succ, List.getElem_toArray, List.getElem_cons_succ, List.getElem_cons_zero]
            refine wpAnyH_take (i := 10) (v := ?_) rfl (by kernel_rfl) (by kernel_rfl) (by kernel_rfl) (fun _ _ _ h => h) (Or.inl ⟨by kernel_rfl, ?_⟩) (by assumption) ?_
            rotate_left
            · (intro w hSw; clear hSw; go_simp; try with_reducible rfl)
            try simp only [Act.put, List.setIfInBounds_toArray, List.set_cons_zero, List.set_cons_succ, List.getElem_toArray, List.getElem_cons_succ, List.getElem_cons_zero]
            refine wpAnyH_take (i := 11) (v := ?_) rfl (by kernel_rfl) (by kernel_rfl) (by kernel_rfl) (fun _ _ _ h => h) (Or.inl ⟨by kernel_rfl, ?_⟩) (by assumption) ?_
            rotate_left
            · (intro w hSw; clear hSw; go_simp; try with_reducible rfl)
            try simp only [Act.put, List.setIfInBounds_toArray, List.set_cons_zero, List.set_cons_succ, List.getElem_toArray, List.getElem_cons_succ, List.getElem_cons_zero]
            refine wpAnyH_take (i := 12) (v := .agg (cpuC x)) rfl (by kernel_rfl) (by kernel_rfl) (by kernel_rfl) (fun _ _ _ h => h) (Or.inl ⟨by kernel_rfl, fun w hSw => cpu_yields _ rfl rfl hSw.hc⟩) (by assumption) ?_
            try simp only [Act.put, List.setIfInBounds_toArray, List.set_cons_zero, List.set_cons_succ, List.getElem_toArray, List.getElem_cons_succ, List.getElem_cons_zero]
            refine wpAnyH_take (i := 14) (v := .agg (cpuC x)) rfl (by kernel_rfl) (by kernel_rfl) (by kernel_rfl) (fun _ _ _ h => h) (Or.inl ⟨by kernel_rfl, fun w hSw => cpu_yields _ rfl rfl hSw.hc⟩) (by assumption) ?_
            try simp only [Act.put, List.setIfInBounds_toArray, List.set_cons_zero, List.set_cons_succ, List.getElem_toArray, List.getElem_cons_succ, List.getElem_cons_zero]
            refine wpAnyH_ready (rs := [13]) (by kernel_rfl) (by simp) ?_
            refine AllReadyH.cons rfl (fun KK hKK => ?_) AllReadyH.nil
            go_simp
            refine (ret_any HL.out _ z HZ.out).mono ?_
            rintro e w' ⟨rfl, hg⟩
            refine hKK.out _ _ ?_ (fun hHeld => ?_)
            · exact QAt.kept (by assumption) hg
            clear hKK KK hg
            try simp only [Act.put, List.setIfInBounds_toArray, List.set_cons_zero, List.set_cons_succ, List.getElem_toArray, List.getElem_cons_succ, List.getElem_cons_zero]
            refine wpAnyH_ready (rs := [15]) (by kernel_rfl) (by simp) ?_
            refine AllReadyH.cons rfl (fun KK hKK => ?_) AllReadyH.nil
            go_simp
            refine (rret_any HL.out _ z HZ.out).mono ?_
            rintro e w' ⟨rfl, hg⟩
            refine hKK.out _ _ ?_ (fun hHeld => ?_)
            · exact QAt.kept (by assumption) hg
            clear hKK KK hg
            try simp only [Act.put, List.setIfInBounds_toArray, List.set_cons_zero, List.set_cons_succ, List.getElem_toArray, List.getElem_cons_succ, List.getElem_cons_zero]
            refine wpAnyH_ready (rs := [16]) (by kernel_rfl) (by simp) ?_
            refine AllReadyH.cons rfl (fun KK hKK => ?_) AllReadyH.nil
            go_simp
            refine (same_cpu HLz.out _).mono ?_
            rintro e w' ⟨rfl, hg⟩
            refine hKK.out _ _ ?_ (fun hHeld => ?_)
            · exact QAt.kept (by assumption) hg
            clear hKK KK hg
            try simp only [Act.put, List.setIfInBounds_toArray, List.set_cons_zero, List.set_cons_succ, List.getElem_toArray, List.getElem_cons_succ, List.getElem_cons_zero]
            refine wpAnyH_take (i := 17) (v := ?_) rfl (by kernel_rfl) (by kernel_rfl) (by kernel_rfl) (fun _ _ _ h => h) (Or.inl ⟨by kernel_rfl, ?_⟩) (by assumption) ?_
            rotate_left
            · (intro w hSw; clear hSw; go_simp; try with_reducible rfl)
            try simp only [Act.put, List.setIfInBounds_toArray, List.set_cons_zero, List.set_cons_succ, List.getElem_toArray, List.getElem_cons_succ, List.getElem_cons_zero]
            refine wpAnyH_take (i := 18) (v := ?_) rfl (by kernel_rfl) (by kernel_rfl) (by kernel_rfl) (fun _ _ _ h => h) (Or.inl ⟨by kernel_rfl, ?_⟩) (by assumption) ?_
            rotate_left
            · (intro w hSw; clear hSw; go_simp; try with_reducible rfl)
            try simp only [Act.put, List.setIfInBounds_toArray, List.set_cons_zero, List.set_cons_succ, List.getElem_toArray, List.getElem_cons_succ, List.getElem_cons_zero]
            refine wpAnyH_take (i := 19) (v := .agg (cpuC x)) rfl (by kernel_rfl) (by kernel_rfl) (by kernel_rfl) (fun _ _ _ h => h) (Or.inl ⟨by kernel_rfl, fun w hSw => cpu_yields _ rfl rfl hSw.hc⟩) (by assumption) ?_
            try simp only [Act.put, List.setIfInBounds_toArray, List.set_cons_zero, List.set_cons_succ, List.getElem_toArray, List.getElem_cons_succ, List.getElem_cons_zero]
            refine wpAnyH_take (i := 20) (v := ?_) rfl (by kernel_rfl) (by kernel_rfl) (by kernel_rfl) (fun _ _ _ h => h) (Or.inl ⟨by kernel_rfl, ?_⟩) (by assumption) ?_
            rotate_left
            · (intro w hSw; clear hSw; go_simp; try with_reducible rfl)
            try simp only [Act.put, List.setIfInBounds_toArray, List.set_cons_zero, List.set_cons_succ, List.getElem_toArray, List.getElem_cons_succ, List.getElem_cons_zero]
            refine wpAnyH_take (i := 21) (v := ?_) rfl (by kernel_rfl) (by kernel_rfl) (by kernel_rfl) (fun _ _ _ h => h) (Or.inl ⟨by kernel_rfl, ?_⟩) (by assumption) ?_
            rotate_left
            · (intro w hSw; clear hSw; go_simp; try with_reducible rfl)
            try simp only [Act.put, List.setIfInBounds_toArray, List.set_cons_zero, List.set_cons_succ, List.getElem_toArray, List.getElem_cons_succ, List.getElem_cons_zero]
            refine wpAnyH_take (i := 22) (v := ?_) rfl (by kernel_rfl) (by kernel_rfl) (by kernel_rfl) (fun _ _ _ h => h) (Or.inl ⟨by kernel_rfl, ?_⟩) (by assumption) ?_
            rotate_left
            · (intro w hSw; clear hSw; go_simp; try with_reducible rfl)
            try simp only [Act.put, List.setIfInBounds_toArray, List.set_cons_zero, List.set_cons_succ, List.getElem_toArray, List.getElem_cons_succ, List.getElem_cons_zero]
            refine wpAnyH_take (i := 24) (v := .agg (cpuC x)) rfl (by kernel_rfl) (by kernel_rfl) (by kernel_rfl) (fun _ _ _ h => h) (Or.inl ⟨by kernel_rfl, fun w hSw => cpu_yields _ rfl rfl hSw.hc⟩) (by assumption) ?_
            try simp only [Act.put, List.setIfInBounds_toArray, List.set_cons_zero, List.set_cons_succ, List.getElem_toArray, List.getElem_cons_succ, List.getElem_cons_zero]
            refine wpAnyH_take (i := 25) (v := ?_) rfl (by kernel_rfl) (by kernel_rfl) (by kernel_rfl) (fun _ _ _ h => h) (Or.inl ⟨by kernel_rfl, ?_⟩) (by assumption) ?_
            rotate_left
            · (intro w hSw; clear hSw; go_simp; try with_reducible rfl)
            try simp only [Act.put, List.setIfInBounds_toArray, List.set_cons_zero, List.set_cons_succ, List.getElem_toArray, List.getElem_cons_succ, List.getElem_cons_zero]
            refine wpAnyH_take (i := 26) (v := ?_) rfl (by kernel_rfl) (by kernel_rfl) (by kernel_rfl) (fun _ _ _ h => h) (Or.inl ⟨by kernel_rfl, ?_⟩) (by assumption) ?_
            rotate_left
            · (intro w hSw; clear hSw; go_simp; try with_reducible rfl)
            try simp only [Act.put, List.setIfInBounds_toArray, List.set_cons_zero, List.set_cons_succ, List.getElem_toArray, List.getElem_cons_succ, List.getElem_cons_zero]
            refine wpAnyH_take (i := 27) (v := ?_) rfl (by kernel_rfl) (by kernel_rfl) (by kernel_rfl) (fun _ _ _ h => h) (Or.inl ⟨by kernel_rfl, ?_⟩) (by assumption) ?_
            rotate_left
            · (intro w hSw; clear hSw; go_simp; try with_reducible rfl)
            try simp only [Act.put, List.setIfInBounds_toArray, List.set_cons_zero, List.set_cons_succ, List.getElem_toArray, List.getElem_cons_succ, List.getElem_cons_zero]
            refine wpAnyH_ready (rs := [23]) (by kernel_rfl) (by simp) ?_
            refine AllReadyH.cons rfl (fun KK hKK => ?_) AllReadyH.nil
            go_simp
            refine (waits_any (c := x) (QAt.dr (by assumption)).dev HL.out.len now (by show (-9223372036854775808 : Int) ≤ 0; decide) (by show (0 : Int) ≤ 9223372036854775807; decide) A0.out A1.out N0.out N1.out r HR.out N Hn.out port V HV.out).mono ?_
            rintro e w' ⟨rfl, hg⟩
            refine hKK.out _ _ ?_ (fun hHeld => ?_)
            · exact QAt.kept (by assumption) hg
            clear hKK KK hg
            try simp only [Act.put, List.setIfInBounds_toArray, List.set_cons_zero, List.set_cons_succ, List.getElem_toArray, List.getElem_cons_succ, List.getElem_cons_zero]
            refine wpAnyH_ready (rs := [28]) (by kernel_rfl) (by simp) ?_
            refine AllReadyH.cons rfl (fun KK hKK => ?_) AllReadyH.nil
            go_simp
            refine (rwaits_any (c := x) (QAt.dr (by assumption)).ref HL.out.len now r HRr.out N Hn.out Hn64.out port V HV.out).mono ?_
            rintro e w' ⟨rfl, hg⟩
            refine hKK.out _ _ ?_ (fun hHeld => ?_)
            · exact QAt.kept (by assumption) hg
            clear hKK KK hg
            try simp only [Act.put, List.setIfInBounds_toArray, List.set_cons_zero, List.set_cons_succ, List.getElem_toArray, List.getElem_cons_succ, List.getElem_cons_zero]
            refine wpAnyH_take (i := 29) (v := ?_) rfl (by kernel_rfl) (by kernel_rfl) (by kernel_rfl) (fun _ _ _ h => h) (Or.inl ⟨by kernel_rfl, ?_⟩) (by assumption) ?_
            rotate_left
            · (intro w hSw; clear hSw; go_simp; try with_reducible rfl)
            try simp only [Act.put, List.setIfInBounds_toArray, List.set_cons_zero, List.set_cons_succ, List.getElem_toArray, List.getElem_cons_succ, List.getElem_cons_zero]
            refine wpAnyH_take (i := 30) (v := ?_) rfl (by kernel_rfl) (by kernel_rfl) (by kernel_rfl) (fun _ _ _ h => h) (Or.inl ⟨by kernel_rfl, ?_⟩) (by assumption) ?_
            rotate_left
            · (intro w hSw; clear hSw; go_simp; try with_reducible rfl)
            try simp only [Act.put, List.setIfInBounds_toArray, List.set_cons_zero, List.set_cons_succ, List.getElem_toArray, List.getElem_cons_succ, List.getElem_cons_zero]
            refine wpAnyH_take (i := 31) (v := ?_) rfl (by kernel_rfl) (by kernel_rfl) (by kernel_rfl) (fun _ _ _ h => h) (Or.inl ⟨by kernel_rfl, ?_⟩) (by assumption) ?_
            rotate_left
            · (intro w hSw; clear hSw; go_simp; try with_reducible rfl)
            try simp only [Act.put, List.setIfInBounds_toArray, List.set_cons_zero, List.set_cons_succ, List.getElem_toArray, List.getElem_cons_succ, List.getElem_cons_zero]
            refine wpAnyH_done (by kernel_rfl) ?_ _
            go_wp2
            go_ret
            exact ⟨rfl, grown_below (QAt.hg (by assumption))⟩
      · have h5 : now > 1125899906842624 := by omega
        go_enter Try.func3, Try.ntmps3
        go_wp2_with fail
        refine (first6_any _).mono ?_; rintro e w1 ⟨rfl, hg⟩
        have HG1 := hid (grown_trans HG0.out hg); clear hg
        go_wp2
        go_ret
        exact ⟨rfl, grown_below HG1.out⟩
    · have h5 : now < 0 := by omega
      go_enter Try.func3, Try.ntmps3
      go_wp2_with fail
      refine (first6_any _).mono ?_; rintro e w1 ⟨rfl, hg⟩
      have HG1 := hid (grown_trans HG0.out hg); clear hg
      go_wp2
      go_ret
      exact ⟨rfl, grown_below HG1.out⟩
  · have h5 : (ls.length : Int) > 20 := by omega
    go_enter Try.func3, Try.ntmps3
    go_wp2_with fail
    refine (first6_any _).mono ?_; rintro e w1 ⟨rfl, hg⟩
    have HG1 := hid (grown_trans HG0.out hg); clear hg
    go_wp2
    go_ret
    exact ⟨rfl, grown_below HG1.out⟩
end Go.Proofs.Ytajminajdcpgnaa

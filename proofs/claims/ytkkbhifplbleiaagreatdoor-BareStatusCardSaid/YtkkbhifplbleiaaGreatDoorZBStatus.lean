/- The walk of the law BareStatus. -/
import Derived.Test.YtkkbhifplbleiaaGreatDoorZBStatP
import Derived.Test.YtkkbhifplbleiaaGreatDoorZGBareC
import Derived.Test.YtkkbhifplbleiaaGreatDoorZGDev
import Derived.LoopTactic
import Derived.Deep.Cut
import Derived.BigGuardPart
import Derived.BigQuiet
namespace Go.Proofs.YtkkbhifplbleiaaGreatDoor
open Go.RowKit
theorem cb_next {W w : World} {v u : Value} {T ch : List Int} {x on : Int} (h : CB2 W v ((codeS T ++ ch) ++ [1107427328, 587333632]) u (wantS 0 T ++ [on]) w) (h1 : chunkS (kS x) (cS x) = ch) (h2 : 2 + onS (kS x) (cS x) (lastS 0 T) = on) :
    CB2 W v (codeS (T ++ [x])) u (wantS 0 (T ++ [x])) w := by
  rw [codeS_snoc, wantS_snoc, h1, h2]
  exact h
theorem stat_sn {l : List Int} {y : Int} {SN : List Sn} (h : SN = (wantS 0 l).map (fun y => ((1, 0, y) : Sn)) ++ [(3, 0, y)]) : SN.length = l.length + 1 ∧ ∀ z : Int, ∀ i : Nat, (wantS 0 l)[i]? = some z → SN[i]? = some ((1, 0, z) : Sn) := by
  subst h
  refine ⟨by simp [wantS_len], fun z i hz => ?_⟩
  have hlt := (List.getElem?_eq_some_iff.1 hz).1
  rw [List.getElem?_append_left (by simpa using hlt), List.getElem?_map, hz]
  rfl
set_option maxRecDepth 100000 in
set_option maxHeartbeats 16000000 in
theorem status_walk (v : Value) (ls : List Int) (W : World) (hs : SlAt W .i64 v ls) (hw : ∀ n ∈ ls, (Lit.int .i64 n).wf = true) (hl0 : ls.length ≤ maxLen) :
    Calls Tryz.prog 3 #[v] W fun e w' => e = .returned (.bool true) ∧ Below W.heap.size W w' := by
  have Hz := zero_cpu
  obtain ⟨p, c', rfl⟩ := hs.len
  have Hs := hid hs
  have Hw := hid hw
  unfold maxLen at hl0
  clear hs hw
  by_cases hlen : ls.length ≤ 30
  · have hl2 : ¬ (ls.length : Int) > 30 := by omega
    obtain ⟨M0, hM0⟩ : ∃ M0, initM (memW8 24 [] (codeF ls)) (pcP 2048 0) = M0 := ⟨_, rfl⟩
    obtain ⟨MF, hMF⟩ : ∃ MF, iterP (24 + 16) 24 200 M0 = MF := ⟨_, rfl⟩
    obtain ⟨y0, hF1, hF2⟩ := status_run ls hlen
    rw [hM0, hMF] at hF1 hF2
    obtain ⟨hSl, hSg⟩ := stat_sn hF2
    have HM0 := hid hM0
    have HMF := hid hMF
    have HF1 := hid hF1
    have HSl := hid hSl
    have HSg := hid hSg
    have Hn0 : Hid (M0.now = 0) := hid (by rw [← hM0]; rfl)
    have HU := hid (memW8_u32 24 (data := []) (code := codeF ls) (fun x hx => by cases hx) (u32s_app (codeS_u32 ls) (by intro x hx; simp at hx; subst hx; decide)))
    have HcF : Hid ((codeF ls).length ≤ 256) := hid (by have := codeS_len ls; unfold codeF; simp; omega)
    clear hF1 hF2 hSl hSg hMF hM0
    go_enter Tryz.func3, Tryz.ntmps3
    go_wp2_with fail
    refine (first8_any _).mono ?_; rintro e w1 ⟨rfl, hg⟩
    have HC1 := hid (CB2.nil hg)
    clear hg
    go_wp2
    go_loopw [4, 5, 6, 7, 8] (fun a b o i _ wr => ∃ k : Nat, k ≤ ls.length ∧ i = .int .i64 k ∧ Hid (CB2 W a (codeS (ls.take k)) b (wantS 0 (ls.take k)) wr) ∧ o = .int .u32 (lastS 0 (ls.take k))) (fun _ _ _ i _ _ => ls.length - (intOf i).toNat)
    case atStart => exact ⟨0, Nat.zero_le _, rfl, HC1, rfl⟩
    case round =>
      clear HC1
      obtain ⟨k, hk, rfl, HC, rfl⟩ := hrel
      have hk0 : (0 : Int) ≤ (k : Int) := by omega
      by_cases hlt : k < ls.length
      · have hk1 : (k : Int) < (ls.length : Int) := by omega
        obtain ⟨x, hx⟩ : ∃ x, ls[k]? = some x := ⟨_, List.getElem?_eq_getElem hlt⟩
        rcases Hs.out with ⟨_, hnil⟩ | ⟨bl, o, c2, he, hbl, hcl⟩
        · rw [hnil] at hlt; simp at hlt
        have hp : p = some ⟨bl, o, none⟩ := by injection he
        have hcy := (grown_cell (p := ⟨bl, o + k, none⟩) HC.out.hg hbl (by simp)).trans (hcl k x hx)
        have hxb := i64_bd (Hw.out x (List.mem_of_getElem? hx))
        have Htk : Hid (ls.take (k + 1) = ls.take k ++ [x]) := hid (by rw [List.take_add_one, hx]; rfl)
        have Hlc : Hid ((codeS (ls.take k)).length ≤ 150 ∧ (wantS 0 (ls.take k)).length ≤ 30) := hid (by have h1 := codeS_len (ls.take k); have h2 := wantS_len (ls.take k) 0; rw [List.length_take] at h1 h2; omega)
        have hon := lastS_bd (ls.take k) (on := 0) (.inl rfl)
        obtain ⟨T, hT⟩ : ∃ T, ls.take k = T := ⟨_, rfl⟩
        rw [hT] at HC Htk Hlc hon ⊢
        obtain ⟨on, hO⟩ : ∃ on, lastS 0 T = on := ⟨_, rfl⟩
        rw [hO] at hon ⊢
        have HO := hid hO
        have x0 := hxb.1
        have x1 := hxb.2
        have qa : (x.tdiv 5).natAbs = x.natAbs / 5 := Int.natAbs_tdiv x 5
        have q0 : -9223372036854775808 ≤ x.tdiv 5 := by omega
        have q1 : x.tdiv 5 ≤ 9223372036854775807 := by omega
        clear qa
        obtain ⟨kx, hkx⟩ : ∃ kx, kS x = kx := ⟨_, rfl⟩
        obtain ⟨cx, hcx⟩ : ∃ cx, cS x = cx := ⟨_, rfl⟩
        have hkb := kS_bd x
        have hcb := cS_bd x
        rw [hkx] at hkb
        rw [hcx] at hcb
        have Hkx := hid hkx
        have Hcx := hid hcx
        have ekx : ((numB x 5 : Nat) : Int) = kx := hkx
        have ecx : ((numB (x.tdiv 5) 4 : Nat) : Int) = cx := hcx
        clear he hcl hx hxb hT hO hkx hcx
        subst hp
        have hcc : cx = 0 ∨ cx = 1 ∨ cx = 2 ∨ cx = 3 := by omega
        clear hcb
        have Hec := hid ecx
        have Hek := hid ekx
        clear ecx ekx
        rcases hkb with rfl | rfl | rfl | rfl | rfl
        · go_wp2_with fail
          refine (number_any x 5 (by decide) (by decide) x0 x1 _).mono ?_; rintro e w2 ⟨rfl, rfl⟩
          rw [Hek.out]
          go_wp2_with (first
            | (refine cb_append HC.out rfl _ _ rfl rfl [1073741824] 1 rfl (by decide) rfl rfl (by have := Hlc.out; (try simp only [List.length_append, List.length_cons, List.length_nil]); omega) ?_; intro va wa ha; have HA := hid ha; clear ha)
            | (refine cb_append HA.out rfl _ _ rfl rfl [1107427328, 587333632] 2 rfl (by decide) rfl rfl (by have := Hlc.out; (try simp only [List.length_append, List.length_cons, List.length_nil]); omega) ?_; intro vb wb hb; have HB := hid hb; clear hb)
            | (refine cb_append HB.out.swap rfl _ _ rfl rfl [2] 1 rfl (by decide) rfl rfl (by have := Hlc.out; (try simp only [List.length_append, List.length_cons, List.length_nil]); omega) ?_; intro vd wd hd; have HD := hid hd; clear hd)
            | fail)
          go_roundw
          case rel => exact ⟨k + 1, by omega, by go_num, by rw [Htk.out]; exact hid (cb_next HD.out.swap (by rw [Hkx.out, Hcx.out]; rfl) (by rw [Hkx.out, Hcx.out, HO.out]; rfl)), by rw [Htk.out, lastS_snoc, Hkx.out, Hcx.out, HO.out]; rfl⟩
          case measure => simp [intOf]; omega
        · go_wp2_with fail
          refine (number_any x 5 (by decide) (by decide) x0 x1 _).mono ?_; rintro e w2 ⟨rfl, rfl⟩
          rw [Hek.out]
          go_wp2_with (first
            | (refine cb_append HC.out rfl _ _ rfl rfl [1090519040] 1 rfl (by decide) rfl rfl (by have := Hlc.out; (try simp only [List.length_append, List.length_cons, List.length_nil]); omega) ?_; intro va wa ha; have HA := hid ha; clear ha)
            | (refine cb_append HA.out rfl _ _ rfl rfl [1107427328, 587333632] 2 rfl (by decide) rfl rfl (by have := Hlc.out; (try simp only [List.length_append, List.length_cons, List.length_nil]); omega) ?_; intro vb wb hb; have HB := hid hb; clear hb)
            | (refine cb_append HB.out.swap rfl _ _ rfl rfl [3] 1 rfl (by decide) rfl rfl (by have := Hlc.out; (try simp only [List.length_append, List.length_cons, List.length_nil]); omega) ?_; intro vd wd hd; have HD := hid hd; clear hd)
            | fail)
          go_roundw
          case rel => exact ⟨k + 1, by omega, by go_num, by rw [Htk.out]; exact hid (cb_next HD.out.swap (by rw [Hkx.out, Hcx.out]; rfl) (by rw [Hkx.out, Hcx.out, HO.out]; rfl)), by rw [Htk.out, lastS_snoc, Hkx.out, Hcx.out, HO.out]; rfl⟩
          case measure => simp [intOf]; omega
        · rcases hcc with rfl | rfl | rfl | rfl
          · go_wp2_with fail
            refine (number_any x 5 (by decide) (by decide) x0 x1 _).mono ?_; rintro e w2 ⟨rfl, rfl⟩
            rw [Hek.out]
            go_wp2_with fail
            refine (number_any (x.tdiv 5) 4 (by decide) (by decide) q0 q1 _).mono ?_; rintro e w2 ⟨rfl, rfl⟩
            rw [Hec.out]
            go_wp2_with (first
              | (refine cb_append HC.out rfl _ _ rfl rfl [234946560, 0, 1124139008] 3 rfl (by decide) rfl rfl (by have := Hlc.out; (try simp only [List.length_append, List.length_cons, List.length_nil]); omega) ?_; intro va wa ha; have HA := hid ha; clear ha)
              | (refine cb_append HA.out rfl _ _ rfl rfl [1107427328, 587333632] 2 rfl (by decide) rfl rfl (by have := Hlc.out; (try simp only [List.length_append, List.length_cons, List.length_nil]); omega) ?_; intro vb wb hb; have HB := hid hb; clear hb)
              | (refine cb_append HB.out.swap rfl _ _ rfl rfl [2] 1 rfl (by decide) rfl rfl (by have := Hlc.out; (try simp only [List.length_append, List.length_cons, List.length_nil]); omega) ?_; intro vd wd hd; have HD := hid hd; clear hd)
              | fail)
            go_roundw
            case rel => exact ⟨k + 1, by omega, by go_num, by rw [Htk.out]; exact hid (cb_next HD.out.swap (by rw [Hkx.out, Hcx.out]; rfl) (by rw [Hkx.out, Hcx.out, HO.out]; rfl)), by rw [Htk.out, lastS_snoc, Hkx.out, Hcx.out, HO.out]; rfl⟩
            case measure => simp [intOf]; omega
          · go_wp2_with fail
            refine (number_any x 5 (by decide) (by decide) x0 x1 _).mono ?_; rintro e w2 ⟨rfl, rfl⟩
            rw [Hek.out]
            go_wp2_with fail
            refine (number_any (x.tdiv 5) 4 (by decide) (by decide) q0 q1 _).mono ?_; rintro e w2 ⟨rfl, rfl⟩
            rw [Hec.out]
            go_wp2_with (first
              | (refine cb_append HC.out rfl _ _ rfl rfl [234946560, 1, 1124139008] 3 rfl (by decide) rfl rfl (by have := Hlc.out; (try simp only [List.length_append, List.length_cons, List.length_nil]); omega) ?_; intro va wa ha; have HA := hid ha; clear ha)
              | (refine cb_append HA.out rfl _ _ rfl rfl [1107427328, 587333632] 2 rfl (by decide) rfl rfl (by have := Hlc.out; (try simp only [List.length_append, List.length_cons, List.length_nil]); omega) ?_; intro vb wb hb; have HB := hid hb; clear hb)
              | (refine cb_append HB.out.swap rfl _ _ rfl rfl [3] 1 rfl (by decide) rfl rfl (by have := Hlc.out; (try simp only [List.length_append, List.length_cons, List.length_nil]); omega) ?_; intro vd wd hd; have HD := hid hd; clear hd)
              | fail)
            go_roundw
            case rel => exact ⟨k + 1, by omega, by go_num, by rw [Htk.out]; exact hid (cb_next HD.out.swap (by rw [Hkx.out, Hcx.out]; rfl) (by rw [Hkx.out, Hcx.out, HO.out]; rfl)), by rw [Htk.out, lastS_snoc, Hkx.out, Hcx.out, HO.out]; rfl⟩
            case measure => simp [intOf]; omega
          · go_wp2_with fail
            refine (number_any x 5 (by decide) (by decide) x0 x1 _).mono ?_; rintro e w2 ⟨rfl, rfl⟩
            rw [Hek.out]
            go_wp2_with fail
            refine (number_any (x.tdiv 5) 4 (by decide) (by decide) q0 q1 _).mono ?_; rintro e w2 ⟨rfl, rfl⟩
            rw [Hec.out]
            go_wp2_with (first
              | (refine cb_append HC.out rfl _ _ rfl rfl [234946560, 2, 1124139008] 3 rfl (by decide) rfl rfl (by have := Hlc.out; (try simp only [List.length_append, List.length_cons, List.length_nil]); omega) ?_; intro va wa ha; have HA := hid ha; clear ha)
              | (refine cb_append HA.out rfl _ _ rfl rfl [1107427328, 587333632] 2 rfl (by decide) rfl rfl (by have := Hlc.out; (try simp only [List.length_append, List.length_cons, List.length_nil]); omega) ?_; intro vb wb hb; have HB := hid hb; clear hb)
              | (refine cb_append HB.out.swap rfl _ _ rfl rfl [2] 1 rfl (by decide) rfl rfl (by have := Hlc.out; (try simp only [List.length_append, List.length_cons, List.length_nil]); omega) ?_; intro vd wd hd; have HD := hid hd; clear hd)
              | fail)
            go_roundw
            case rel => exact ⟨k + 1, by omega, by go_num, by rw [Htk.out]; exact hid (cb_next HD.out.swap (by rw [Hkx.out, Hcx.out]; rfl) (by rw [Hkx.out, Hcx.out, HO.out]; rfl)), by rw [Htk.out, lastS_snoc, Hkx.out, Hcx.out, HO.out]; rfl⟩
            case measure => simp [intOf]; omega
          · go_wp2_with fail
            refine (number_any x 5 (by decide) (by decide) x0 x1 _).mono ?_; rintro e w2 ⟨rfl, rfl⟩
            rw [Hek.out]
            go_wp2_with fail
            refine (number_any (x.tdiv 5) 4 (by decide) (by decide) q0 q1 _).mono ?_; rintro e w2 ⟨rfl, rfl⟩
            rw [Hec.out]
            go_wp2_with (first
              | (refine cb_append HC.out rfl _ _ rfl rfl [234946560, 3, 1124139008] 3 rfl (by decide) rfl rfl (by have := Hlc.out; (try simp only [List.length_append, List.length_cons, List.length_nil]); omega) ?_; intro va wa ha; have HA := hid ha; clear ha)
              | (refine cb_append HA.out rfl _ _ rfl rfl [1107427328, 587333632] 2 rfl (by decide) rfl rfl (by have := Hlc.out; (try simp only [List.length_append, List.length_cons, List.length_nil]); omega) ?_; intro vb wb hb; have HB := hid hb; clear hb)
              | (refine cb_append HB.out.swap rfl _ _ rfl rfl [3] 1 rfl (by decide) rfl rfl (by have := Hlc.out; (try simp only [List.length_append, List.length_cons, List.length_nil]); omega) ?_; intro vd wd hd; have HD := hid hd; clear hd)
              | fail)
            go_roundw
            case rel => exact ⟨k + 1, by omega, by go_num, by rw [Htk.out]; exact hid (cb_next HD.out.swap (by rw [Hkx.out, Hcx.out]; rfl) (by rw [Hkx.out, Hcx.out, HO.out]; rfl)), by rw [Htk.out, lastS_snoc, Hkx.out, Hcx.out, HO.out]; rfl⟩
            case measure => simp [intOf]; omega
        · rcases hcc with rfl | rfl | rfl | rfl
          · go_wp2_with fail
            refine (number_any x 5 (by decide) (by decide) x0 x1 _).mono ?_; rintro e w2 ⟨rfl, rfl⟩
            rw [Hek.out]
            go_wp2_with fail
            refine (number_any (x.tdiv 5) 4 (by decide) (by decide) q0 q1 _).mono ?_; rintro e w2 ⟨rfl, rfl⟩
            rw [Hec.out]
            go_wp2_with (first
              | (refine cb_append HC.out rfl _ _ rfl rfl [234946560, 0, 1124139008] 3 rfl (by decide) rfl rfl (by have := Hlc.out; (try simp only [List.length_append, List.length_cons, List.length_nil]); omega) ?_; intro va wa ha; have HA := hid ha; clear ha)
              | (refine cb_append HA.out rfl _ _ rfl rfl [1107427328, 587333632] 2 rfl (by decide) rfl rfl (by have := Hlc.out; (try simp only [List.length_append, List.length_cons, List.length_nil]); omega) ?_; intro vb wb hb; have HB := hid hb; clear hb)
              | (refine cb_append HB.out.swap rfl _ _ rfl rfl [2] 1 rfl (by decide) rfl rfl (by have := Hlc.out; (try simp only [List.length_append, List.length_cons, List.length_nil]); omega) ?_; intro vd wd hd; have HD := hid hd; clear hd)
              | fail)
            go_roundw
            case rel => exact ⟨k + 1, by omega, by go_num, by rw [Htk.out]; exact hid (cb_next HD.out.swap (by rw [Hkx.out, Hcx.out]; rfl) (by rw [Hkx.out, Hcx.out, HO.out]; rfl)), by rw [Htk.out, lastS_snoc, Hkx.out, Hcx.out, HO.out]; rfl⟩
            case measure => simp [intOf]; omega
          · go_wp2_with fail
            refine (number_any x 5 (by decide) (by decide) x0 x1 _).mono ?_; rintro e w2 ⟨rfl, rfl⟩
            rw [Hek.out]
            go_wp2_with fail
            refine (number_any (x.tdiv 5) 4 (by decide) (by decide) q0 q1 _).mono ?_; rintro e w2 ⟨rfl, rfl⟩
            rw [Hec.out]
            go_wp2_with (first
              | (refine cb_append HC.out rfl _ _ rfl rfl [234946560, 1, 1124139008] 3 rfl (by decide) rfl rfl (by have := Hlc.out; (try simp only [List.length_append, List.length_cons, List.length_nil]); omega) ?_; intro va wa ha; have HA := hid ha; clear ha)
              | (refine cb_append HA.out rfl _ _ rfl rfl [1107427328, 587333632] 2 rfl (by decide) rfl rfl (by have := Hlc.out; (try simp only [List.length_append, List.length_cons, List.length_nil]); omega) ?_; intro vb wb hb; have HB := hid hb; clear hb)
              | (refine cb_append HB.out.swap rfl _ _ rfl rfl [3] 1 rfl (by decide) rfl rfl (by have := Hlc.out; (try simp only [List.length_append, List.length_cons, List.length_nil]); omega) ?_; intro vd wd hd; have HD := hid hd; clear hd)
              | fail)
            go_roundw
            case rel => exact ⟨k + 1, by omega, by go_num, by rw [Htk.out]; exact hid (cb_next HD.out.swap (by rw [Hkx.out, Hcx.out]; rfl) (by rw [Hkx.out, Hcx.out, HO.out]; rfl)), by rw [Htk.out, lastS_snoc, Hkx.out, Hcx.out, HO.out]; rfl⟩
            case measure => simp [intOf]; omega
          · go_wp2_with fail
            refine (number_any x 5 (by decide) (by decide) x0 x1 _).mono ?_; rintro e w2 ⟨rfl, rfl⟩
            rw [Hek.out]
            go_wp2_with fail
            refine (number_any (x.tdiv 5) 4 (by decide) (by decide) q0 q1 _).mono ?_; rintro e w2 ⟨rfl, rfl⟩
            rw [Hec.out]
            go_wp2_with (first
              | (refine cb_append HC.out rfl _ _ rfl rfl [234946560, 2, 1124139008] 3 rfl (by decide) rfl rfl (by have := Hlc.out; (try simp only [List.length_append, List.length_cons, List.length_nil]); omega) ?_; intro va wa ha; have HA := hid ha; clear ha)
              | (refine cb_append HA.out rfl _ _ rfl rfl [1107427328, 587333632] 2 rfl (by decide) rfl rfl (by have := Hlc.out; (try simp only [List.length_append, List.length_cons, List.length_nil]); omega) ?_; intro vb wb hb; have HB := hid hb; clear hb)
              | (refine cb_append HB.out.swap rfl _ _ rfl rfl [2] 1 rfl (by decide) rfl rfl (by have := Hlc.out; (try simp only [List.length_append, List.length_cons, List.length_nil]); omega) ?_; intro vd wd hd; have HD := hid hd; clear hd)
              | fail)
            go_roundw
            case rel => exact ⟨k + 1, by omega, by go_num, by rw [Htk.out]; exact hid (cb_next HD.out.swap (by rw [Hkx.out, Hcx.out]; rfl) (by rw [Hkx.out, Hcx.out, HO.out]; rfl)), by rw [Htk.out, lastS_snoc, Hkx.out, Hcx.out, HO.out]; rfl⟩
            case measure => simp [intOf]; omega
          · go_wp2_with fail
            refine (number_any x 5 (by decide) (by decide) x0 x1 _).mono ?_; rintro e w2 ⟨rfl, rfl⟩
            rw [Hek.out]
            go_wp2_with fail
            refine (number_any (x.tdiv 5) 4 (by decide) (by decide) q0 q1 _).mono ?_; rintro e w2 ⟨rfl, rfl⟩
            rw [Hec.out]
            go_wp2_with (first
              | (refine cb_append HC.out rfl _ _ rfl rfl [234946560, 3, 1124139008] 3 rfl (by decide) rfl rfl (by have := Hlc.out; (try simp only [List.length_append, List.length_cons, List.length_nil]); omega) ?_; intro va wa ha; have HA := hid ha; clear ha)
              | (refine cb_append HA.out rfl _ _ rfl rfl [1107427328, 587333632] 2 rfl (by decide) rfl rfl (by have := Hlc.out; (try simp only [List.length_append, List.length_cons, List.length_nil]); omega) ?_; intro vb wb hb; have HB := hid hb; clear hb)
              | (refine cb_append HB.out.swap rfl _ _ rfl rfl [3] 1 rfl (by decide) rfl rfl (by have := Hlc.out; (try simp only [List.length_append, List.length_cons, List.length_nil]); omega) ?_; intro vd wd hd; have HD := hid hd; clear hd)
              | fail)
            go_roundw
            case rel => exact ⟨k + 1, by omega, by go_num, by rw [Htk.out]; exact hid (cb_next HD.out.swap (by rw [Hkx.out, Hcx.out]; rfl) (by rw [Hkx.out, Hcx.out, HO.out]; rfl)), by rw [Htk.out, lastS_snoc, Hkx.out, Hcx.out, HO.out]; rfl⟩
            case measure => simp [intOf]; omega
        · rcases hon with rfl | rfl
          · go_wp2_with fail
            refine (number_any x 5 (by decide) (by decide) x0 x1 _).mono ?_; rintro e w2 ⟨rfl, rfl⟩
            rw [Hek.out]
            go_wp2_with (first
              | (refine cb_append HC.out rfl _ _ rfl rfl [16777216] 1 rfl (by decide) rfl rfl (by have := Hlc.out; (try simp only [List.length_append, List.length_cons, List.length_nil]); omega) ?_; intro va wa ha; have HA := hid ha; clear ha)
              | (refine cb_append HA.out rfl _ _ rfl rfl [1107427328, 587333632] 2 rfl (by decide) rfl rfl (by have := Hlc.out; (try simp only [List.length_append, List.length_cons, List.length_nil]); omega) ?_; intro vb wb hb; have HB := hid hb; clear hb)
              | (refine cb_append HB.out.swap rfl _ _ rfl rfl [2] 1 rfl (by decide) rfl rfl (by have := Hlc.out; (try simp only [List.length_append, List.length_cons, List.length_nil]); omega) ?_; intro vd wd hd; have HD := hid hd; clear hd)
              | fail)
            go_roundw
            case rel => exact ⟨k + 1, by omega, by go_num, by rw [Htk.out]; exact hid (cb_next HD.out.swap (by rw [Hkx.out, Hcx.out]; rfl) (by rw [Hkx.out, Hcx.out, HO.out]; rfl)), by rw [Htk.out, lastS_snoc, Hkx.out, Hcx.out, HO.out]; rfl⟩
            case measure => simp [intOf]; omega
          · go_wp2_with fail
            refine (number_any x 5 (by decide) (by decide) x0 x1 _).mono ?_; rintro e w2 ⟨rfl, rfl⟩
            rw [Hek.out]
            go_wp2_with (first
              | (refine cb_append HC.out rfl _ _ rfl rfl [16777216] 1 rfl (by decide) rfl rfl (by have := Hlc.out; (try simp only [List.length_append, List.length_cons, List.length_nil]); omega) ?_; intro va wa ha; have HA := hid ha; clear ha)
              | (refine cb_append HA.out rfl _ _ rfl rfl [1107427328, 587333632] 2 rfl (by decide) rfl rfl (by have := Hlc.out; (try simp only [List.length_append, List.length_cons, List.length_nil]); omega) ?_; intro vb wb hb; have HB := hid hb; clear hb)
              | (refine cb_append HB.out.swap rfl _ _ rfl rfl [3] 1 rfl (by decide) rfl rfl (by have := Hlc.out; (try simp only [List.length_append, List.length_cons, List.length_nil]); omega) ?_; intro vd wd hd; have HD := hid hd; clear hd)
              | fail)
            go_roundw
            case rel => exact ⟨k + 1, by omega, by go_num, by rw [Htk.out]; exact hid (cb_next HD.out.swap (by rw [Hkx.out, Hcx.out]; rfl) (by rw [Hkx.out, Hcx.out, HO.out]; rfl)), by rw [Htk.out, lastS_snoc, Hkx.out, Hcx.out, HO.out]; rfl⟩
            case measure => simp [intOf]; omega
      · have hge : ¬ (k : Int) < (ls.length : Int) := by omega
        have ek : ls.take k = ls := List.take_of_length_le (by omega)
        rw [ek] at HC
        clear ek hk hlt hk0
        obtain ⟨N, hN⟩ : ∃ N, ls.length = N := ⟨_, rfl⟩
        go_wp2_with (first
          | (refine cb_append HC.out rfl _ _ rfl rfl [536870912] 1 rfl (by decide) rfl rfl (by have := HcF.out; unfold codeF at this; rw [List.length_append] at this; simp at this ⊢; omega) ?_; intro vc wc hC; have HC2 : Hid (CB2 W vc (codeF ls) _ (wantS 0 ls) wc) := hid hC; clear hC)
          | fail)
        refine (memory8_any 24 (by decide) (by decide) (.slice none 0 0) vc [] (codeF ls) _ (sl_nil _) HC2.out.sl (by decide) HcF.out).mono ?_; rintro e w3 ⟨m, b, m', b', rfl, hm, hb, hb', hM, hR, hg⟩
        have HM := hid hM
        have HC3 := hid (HC2.out.keep hg)
        clear hM hR hm hb hb' hg HC HC2
        go_wp2_with (first
          | (refine wpList_build_pc rfl _ rfl rfl ?_)
          | fail)
        refine (mb_new2 (W := W) HM.out HC3.out.hg (pcP_ok (pc := 2048) (tv := 0) (by decide) (by decide) (by decide) (by decide)) HU.out (q := 24) (by decide) (by decide)).mono ?_; rintro e w4 ⟨pb, rfl, hB, hg⟩
        rw [HM0.out] at hB
        have HB := hid hB
        have HC4 := hid (HC3.out.keep hg)
        clear hB hg HM HU HC3
        go_wp2
        obtain ⟨pw, cw, hvw⟩ := own_form HC4.out.ou
        rw [wantS_len, hN] at hvw
        subst hvw
        go_loopw [13] (fun i wr => ∃ k : Nat, k ≤ 200 ∧ i = .int .i64 k ∧ Hid (MBox W pb (24 + 16) 24 (iterP (24 + 16) 24 k M0) wr) ∧ Hid (CB2 W vc (codeF ls) (.slice pw N cw) (wantS 0 ls) wr)) (fun i _ => 200 - (intOf i).toNat)
        case atStart => exact ⟨0, Nat.zero_le _, rfl, HB, HC4⟩
        case round =>
          clear HB HC4
          obtain ⟨k, hk, rfl, HB, HC⟩ := hrel
          have hk0 : (0 : Int) ≤ (k : Int) := by omega
          have hnk : (iterP (24 + 16) 24 k M0).now ≤ 1000 := by have h1 := iter_now (n := 24 + 16) (Q := 24) k M0; have h2 := Hn0.out; omega
          have Hnk := hid hnk
          clear hnk
          have Hend : Hid ((iterP (24 + 16) 24 k M0).ov = true → iterP (24 + 16) 24 k M0 = MF) := hid (fun h => by rw [← HMF.out]; exact (iter_stays h hk).symm)
          by_cases hlt : k < 200
          · have hk1 : (k : Int) < 200 := by omega
            by_cases hov : (iterP (24 + 16) 24 k M0).ov = true
            · have Hov := hid hov
              clear hov
              go_wp2_with fail
              refine (mb_over HB.out true Hov.out).mono ?_; rintro e w5 ⟨rfl, rfl⟩
              rw [Hend.out Hov.out] at HB
              clear Hend Hov Hnk
              go_wp2_with fail
              refine (mb_seen HB.out (by rw [HSl.out]; omega) _ rfl).mono ?_; rintro e w7 ⟨v1, rfl, hA, hg⟩
              have HA : Hid (SnAt w7 v1 MF.d.sn) := hid (SnAt.own hA)
              have HB7 := hid (HB.out.keep hg)
              have HC7 := hid (HC.out.keep hg)
              clear hA hg HB HC
              obtain ⟨bs, cs, rfl, hbs, hcs⟩ : ∃ bs cs, v1 = .slice (some ⟨bs, 0, none⟩) (N + 1 : Nat) cs ∧ bs < w7.heap.size ∧ ∀ j u, (snCells MF.d.sn)[j]? = some u → w7.cell? ⟨bs, j, none⟩ = some u := by
                rcases HA.out with ⟨_, h0⟩ | ⟨b, c, h1, h2, h3⟩
                · have := HSl.out
                  rw [h0] at this
                  simp at this
                · exact ⟨b, c, by rw [h1, HSl.out, hN], h2, h3⟩
              have Hcs := hid hcs
              obtain ⟨S, hS⟩ : ∃ S, N + 1 = S := ⟨_, rfl⟩
              have hSN : (N : Int) + 1 = (S : Int) := by omega
              rw [hS]
              clear HA hcs
              go_wp2
              go_loopw [15] (fun i wr => ∃ k : Nat, k ≤ N ∧ i = .int .i64 k ∧ Hid (w7.grownBy wr none)) (fun i _ => N - (intOf i).toNat)
              case atStart => exact ⟨0, Nat.zero_le _, rfl, hid (grown_refl _ _)⟩
              case round =>
                clear hk hk0
                obtain ⟨k, hk, rfl, HG⟩ := hrel
                have hk0 : (0 : Int) ≤ (k : Int) := by omega
                by_cases hlt : k < N
                · have hk1 : (k : Int) < (N : Int) := by omega
                  have hk2 : (k : Int) < (S : Int) := by omega
                  obtain ⟨z, hz⟩ : ∃ z, (wantS 0 ls)[k]? = some z := ⟨_, List.getElem?_eq_getElem (by rw [wantS_len, hN]; exact hlt)⟩
                  have c3 := (sn_cells hbs Hcs.out HG.out (HSg.out z k hz)).2.2
                  rcases SlAt.own HC7.out.ou with ⟨_, hnil⟩ | ⟨bw, ow, cw2, he, hbw, hcw⟩
                  · rw [hnil] at hz; simp at hz
                  obtain rfl : pw = some ⟨bw, ow, none⟩ := by injection he
                  have c4 := (grown_cell (p := ⟨bw, ow + k, none⟩) HG.out hbw (by simp)).trans (hcw k z hz)
                  clear he hcw hz
                  go_wp2
                  go_quiet (fail)
                  go_wp2
                  go_roundw
                  case rel => exact ⟨k + 1, by omega, by go_num, hid (grown_drewN HG.out _)⟩
                  case measure => simp [intOf]; omega
                · have hge : ¬ (k : Int) < (N : Int) := by omega
                  go_wp2_with fail
                  refine (mb_over (HB7.out.keep HG.out) true HF1.out).mono ?_; rintro e w8 ⟨rfl, rfl⟩
                  go_wp2
                  go_ret
                  exact ⟨rfl, grown_below (grown_trans HB7.out.old HG.out)⟩
            · have Hov := hid (by simpa using hov : (iterP (24 + 16) 24 k M0).ov = false)
              clear hov Hend
              go_wp2_with fail
              refine (mb_over HB.out false Hov.out).mono ?_; rintro e w5 ⟨rfl, rfl⟩
              go_wp2_with fail
              refine (mb_step HB.out (by have := Hnk.out; omega) true (by rw [Hov.out]; rfl) _ (iter_snoc (24 + 16) 24 k M0).symm).mono ?_; rintro e w6 ⟨rfl, hB, hO⟩
              have HC6 := hid (HC.out.oth hO hB.old)
              have HB6 := hid hB
              clear hB hO HB HC
              go_wp2
              go_roundw
              case rel => exact ⟨k + 1, by omega, by go_num, HB6, HC6⟩
              case measure => simp [intOf]; omega
          · have hge : ¬ (k : Int) < 200 := by omega
            have ek : k = 200 := by omega
            subst ek
            rw [HMF.out] at HB
            clear Hend Hnk
            go_wp2_with fail
            refine (mb_seen HB.out (by rw [HSl.out]; omega) _ rfl).mono ?_; rintro e w7 ⟨v1, rfl, hA, hg⟩
            have HA : Hid (SnAt w7 v1 MF.d.sn) := hid (SnAt.own hA)
            have HB7 := hid (HB.out.keep hg)
            have HC7 := hid (HC.out.keep hg)
            clear hA hg HB HC
            obtain ⟨bs, cs, rfl, hbs, hcs⟩ : ∃ bs cs, v1 = .slice (some ⟨bs, 0, none⟩) (N + 1 : Nat) cs ∧ bs < w7.heap.size ∧ ∀ j u, (snCells MF.d.sn)[j]? = some u → w7.cell? ⟨bs, j, none⟩ = some u := by
              rcases HA.out with ⟨_, h0⟩ | ⟨b, c, h1, h2, h3⟩
              · have := HSl.out
                rw [h0] at this
                simp at this
              · exact ⟨b, c, by rw [h1, HSl.out, hN], h2, h3⟩
            have Hcs := hid hcs
            obtain ⟨S, hS⟩ : ∃ S, N + 1 = S := ⟨_, rfl⟩
            have hSN : (N : Int) + 1 = (S : Int) := by omega
            rw [hS]
            clear HA hcs
            go_wp2
            go_loopw [15] (fun i wr => ∃ k : Nat, k ≤ N ∧ i = .int .i64 k ∧ Hid (w7.grownBy wr none)) (fun i _ => N - (intOf i).toNat)
            case atStart => exact ⟨0, Nat.zero_le _, rfl, hid (grown_refl _ _)⟩
            case round =>
              clear hk hk0
              obtain ⟨k, hk, rfl, HG⟩ := hrel
              have hk0 : (0 : Int) ≤ (k : Int) := by omega
              by_cases hlt : k < N
              · have hk1 : (k : Int) < (N : Int) := by omega
                have hk2 : (k : Int) < (S : Int) := by omega
                obtain ⟨z, hz⟩ : ∃ z, (wantS 0 ls)[k]? = some z := ⟨_, List.getElem?_eq_getElem (by rw [wantS_len, hN]; exact hlt)⟩
                have c3 := (sn_cells hbs Hcs.out HG.out (HSg.out z k hz)).2.2
                rcases SlAt.own HC7.out.ou with ⟨_, hnil⟩ | ⟨bw, ow, cw2, he, hbw, hcw⟩
                · rw [hnil] at hz; simp at hz
                obtain rfl : pw = some ⟨bw, ow, none⟩ := by injection he
                have c4 := (grown_cell (p := ⟨bw, ow + k, none⟩) HG.out hbw (by simp)).trans (hcw k z hz)
                clear he hcw hz
                go_wp2
                go_quiet (fail)
                go_wp2
                go_roundw
                case rel => exact ⟨k + 1, by omega, by go_num, hid (grown_drewN HG.out _)⟩
                case measure => simp [intOf]; omega
              · have hge : ¬ (k : Int) < (N : Int) := by omega
                go_wp2_with fail
                refine (mb_over (HB7.out.keep HG.out) true HF1.out).mono ?_; rintro e w8 ⟨rfl, rfl⟩
                go_wp2
                go_ret
                exact ⟨rfl, grown_below (grown_trans HB7.out.old HG.out)⟩
  · have hl2 : (ls.length : Int) > 30 := by omega
    go_enter Tryz.func3, Tryz.ntmps3
    go_wp2_with fail
    refine (first8_any _).mono ?_; rintro e w1 ⟨rfl, hg⟩
    have HG := hid hg
    clear hg
    go_wp2
    go_ret
    exact ⟨rfl, grown_below HG.out⟩
end Go.Proofs.YtkkbhifplbleiaaGreatDoor

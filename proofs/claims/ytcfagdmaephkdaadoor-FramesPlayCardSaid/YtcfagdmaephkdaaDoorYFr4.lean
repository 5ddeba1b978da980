/- Package frames: New, Get, Alloc, Of, Clone: contracts. -/
import Derived.Test.YtcfagdmaephkdaaDoorYIsN
import Derived.Deep.AppendLies
import Derived.OwnWalk
namespace Go.Proofs.YtcfagdmaephkdaaDoor
open Go.RowKit
theorem own_base0 {w : World} {B : Nat} {e : TypeId} {size : Nat} {v : Value} {n : Nat} {l : List Value} (h : w.ownsRow B e size v n l) : w.ownsRow 0 e size v n l :=
  ⟨h.1, h.2.imp id (fun ⟨g, cap, cur, a, _, rest⟩ => ⟨g, cap, cur, a, Nat.zero_le _, rest⟩)⟩
theorem fr_of_owned {w : World} {base : Nat} {T U : TypeId} {v : Value} {n : Nat} {L : List Fm} (h : w.ownsRow base U 4 v n (frsL L)) (hl : L.length = n) (h1 : 1 ≤ n) (h2 : n ≤ 1024) :
    ∃ b c, v = .slice (some ⟨b, 0, none⟩) n c ∧ base ≤ b ∧ FrAt (w.alloc (.cells #[v] T)) T U w.heap.size b n c L := by
  have h0 := h
  obtain ⟨_, h⟩ := h
  rcases h with ⟨_, h0⟩ | ⟨b, c, cur, rfl, hb, hg, hnc, hcm, hs, ht⟩
  · omega
  · have hlt : b < w.heap.size := (Array.getElem?_eq_some_iff.1 hg).1
    refine ⟨b, c, rfl, hb, ⟨heap_alloc_new _ _, ?_, hl, h1, h2, by omega⟩⟩
    exact (own_base0 h0).kept (World.grownBy_alloc _ _ none) (by simp [Value.ownBlock])
/-- frames that a call has made -/
def MadeF (w : World) (T U : TypeId) (n : Nat) (L : List Fm) (v : Value → Value) (e : Ending) (w' : World) : Prop :=
  ∃ m b c, e = .returned (v (.pointer (some ⟨m, 0, none⟩))) ∧ w.heap.size ≤ m ∧ w.heap.size ≤ b ∧ FrAt w' T U m b n c L ∧ w.grownBy w' none
set_option maxHeartbeats 4000000 in
theorem new_fr (n : Nat) (n1 : 1 ≤ n) (n2 : n ≤ 1024) (w : World) :
    Calls Tryd.prog 8 #[.int .i64 n] w (MadeF w 61 39 n (List.replicate n noFm) (fun p => .tuple #[p, .nilIface])) := by
  have a1 : ¬ (n : Int) < 1 := by omega
  have a2 : ¬ (n : Int) > 1024 := by omega
  have Hn := hid (And.intro n1 n2)
  go_enter Tryd.func8, Tryd.ntmps8
  go_wp2_with fail
  refine (free_fn w).mono ?_; rintro e w1 ⟨rfl, hg⟩
  have HG := hid (grown_trans hg (World.grownBy_alloc w1 (.cells #[.int .i64 (-1), .int .i64 0, .int .i64 0, .int .i64 0] 39) none))
  have Hb := hid (heap_alloc_last w1 (.cells #[.int .i64 (-1), .int .i64 0, .int .i64 0, .int .i64 0] 39))
  clear hg
  go_wp2_with fail
  refine (repeat_fr (c0 := 1) Hb.out n Hn.out.1 Hn.out.2).mono ?_
  rintro e w2 ⟨g, c, rfl, hge, hown, hg⟩
  obtain ⟨b', c', hv, hb', hF⟩ := fr_of_owned (T := 61) hown (by simp) Hn.out.1 Hn.out.2
  simp only [Value.slice.injEq, Option.some.injEq, Addr.mk.injEq, and_true, true_and] at hv
  obtain ⟨rfl, rfl⟩ := hv
  have HF := hid hF
  have HG2 := hid (grown_trans HG.out hg)
  have Hge := hid (Nat.le_trans HG.out.size hge)
  clear hown hg hge hb' hF
  go_wp2
  go_ret2
  exact ⟨_, g, c, rfl, HG2.out.size, Hge.out, HF.out, grown_alloc HG2.out _⟩
theorem new_noF {w : World} {A : Nat → Addr} (hs : Sents w A) (a : Int) (ha : a < 1 ∨ 1024 < a) :
    Calls Tryd.prog 8 #[.int .i64 a] w fun e w' => e = .returned (.tuple #[.pointer none, errV (A 2)]) ∧ w.grownBy w' none := by
  have Hr := hid (grown_refl w none)
  have ce : w.cell? ⟨0, 0, none⟩ = some (errV (A 2)) := hs.cell 2 _ rfl
  clear hs
  rcases ha with ha | ha
  · go_enter Tryd.func8, Tryd.ntmps8
    go_wp2
    go_quiet (fail)
    go_wp2
    go_ret2
    exact ⟨rfl, grown_drewN Hr.out _⟩
  · have h1 : ¬ a < 1 := by omega
    have h2 : a > 1024 := by omega
    clear ha
    go_enter Tryd.func8, Tryd.ntmps8
    go_wp2
    go_quiet (fail)
    go_wp2
    go_ret2
    exact ⟨rfl, grown_drewN Hr.out _⟩
section
variable {w : World} {m b n c : Nat} {L : List Fm} {A : Nat → Addr} {K : Int}
theorem get_fr_no (h : FkAt w m b n c L) (i : Int) (hq : decide (0 ≤ i ∧ i < (n : Int)) = false) :
    Calls Tryd.prog 14 #[.pointer (some ⟨m, 0, none⟩), .int .i64 i] w fun e w' => e = .returned (.tuple #[.agg #[.int .i64 0, .int .i64 0, .int .i64 0, .int .i64 0], .bool false]) ∧ w.grownBy w' none := by
  have al := World.grownBy_alloc w (.cells #[.int .i64 0, .int .i64 0, .int .i64 0, .int .i64 0] 39) none
  have H := hid (h.kept0 al)
  have Hq := hid hq
  have Hr := hid (grown_refl w none)
  clear h hq al
  go_enter Tryd.func14, Tryd.ntmps14
  go_wp2_with (go_at_call 39; refine (has_fr H.out i false Hq.out).mono ?_; rintro e w' ⟨rfl, rfl⟩)
  refine bodyPost_ret (v := .tuple #[.agg #[.int .i64 0, .int .i64 0, .int .i64 0, .int .i64 0], .bool false]) (by simp [results, Tryd.results14, go_sem]) rfl ⟨rfl, ?_⟩
  exact grown_alloc Hr.out _
theorem get_fr_yes (h : FkAt w m b n c L) {k : Nat} {f : Fm} (hk : L[k]? = some f) :
    Calls Tryd.prog 14 #[.pointer (some ⟨m, 0, none⟩), .int .i64 k] w fun e w' => e = .returned (.tuple #[.agg #[.int .i64 f.o, .int .i64 f.t, .int .i64 f.w, .int .i64 f.u], .bool true]) ∧ w.grownBy w' none := by
  have al := World.grownBy_alloc w (.cells #[.int .i64 0, .int .i64 0, .int .i64 0, .int .i64 0] 39) none
  have H := hid (h.kept0 al)
  have hkn := h.klt hk
  have hm := H.out.mcell
  have Hq : Hid (decide (0 ≤ (k : Int) ∧ (k : Int) < (n : Int)) = true) := hid (by simp; omega)
  have k0 : (0 : Int) ≤ (k : Int) := by omega
  have k1 : (k : Int) < (n : Int) := by omega
  have Hrg := hid (H.out.range hk)
  have Hr := hid (grown_refl w none)
  clear h hk al
  go_enter Tryd.func14, Tryd.ntmps14
  go_wp2_with (first | (go_at_call 39; refine (has_fr H.out k true Hq.out).mono ?_; rintro e w' ⟨rfl, rfl⟩) | (refine wpList_load_mid rfl 39 _ rfl b (k * 4) rfl _ _ Hrg.out Tryd.underlying39 rfl frame_infoF ?_) | fail)
  refine bodyPost_ret (v := .tuple #[.agg #[.int .i64 f.o, .int .i64 f.t, .int .i64 f.w, .int .i64 f.u], .bool true]) (by simp [results, Tryd.results14, go_sem]) rfl ⟨rfl, ?_⟩
  exact grown_alloc Hr.out _
theorem nob_fr (f : Fm) (w : World) (r : Bool) (hr : (f.o == -1) = r) : Calls Tryd.prog 42 #[.agg #[.int .i64 f.o, .int .i64 f.t, .int .i64 f.w, .int .i64 f.u]] w fun e w' => e = .returned (.bool r) ∧ w.grownBy w' none := by
  have Hr := hid (grown_refl w none)
  go_enter Tryd.func42, Tryd.ntmps42
  go_wp2
  go_ret
  exact ⟨rfl, grown_alloc Hr.out _⟩
def ixI (L : List Fm) : Int := match freeIx L with | none => -1 | some k => k
set_option maxHeartbeats 4000000 in
theorem index_fr (h : FkAt w m b n c L) :
    Calls Tryd.prog 41 #[.slice (some ⟨b, 0, none⟩) n c, .func (.func 42) #[] #[]] w fun e w' => e = .returned (.int .i64 (ixI L)) ∧ w.grownBy w' none := by
  have H := hid h
  have hn := h.n2
  have Hl := hid h.len
  clear h
  go_enter Tryd.func41, Tryd.ntmps41
  go_wp2
  go_loopw [8] (fun i wr => ∃ k : Nat, k ≤ n ∧ i = .int .i64 k ∧ Hid (∀ (j : Nat) (g : Fm), j < k → L[j]? = some g → g.o ≠ -1) ∧ Hid (w.grownBy wr none)) (fun i _ => n - (intOf i).toNat)
  case atStart => exact ⟨0, Nat.zero_le _, rfl, hid (fun j g hj => absurd hj (Nat.not_lt_zero _)), hid (grown_refl _ _)⟩
  case round =>
    obtain ⟨k, hk, rfl, Hk, Hg⟩ := hrel
    by_cases hlt : k < n
    · obtain ⟨f, hf⟩ : ∃ f, L[k]? = some f := ⟨_, List.getElem?_eq_getElem (by rw [Hl.out]; exact hlt)⟩
      have HF := hid (H.out.kept0 Hg.out)
      have Hrg := hid (HF.out.range hf)
      have Hf := hid hf
      have k0 : (0 : Int) ≤ (k : Int) := by omega
      have k1 : (k : Int) < (n : Int) := by omega
      clear hf
      by_cases ho : f.o = -1
      · have Ho := hid ho
        clear ho
        go_wp2_with (first | (go_at_call 42; refine (nob_fr f _ true (by simpa using Ho.out)).mono ?_; rintro e w2 ⟨rfl, hg⟩; have Hg2 := hid hg; clear hg) | (refine wpList_load_mid rfl 39 _ rfl b (k * 4) rfl _ _ Hrg.out Tryd.underlying39 rfl frame_infoF ?_) | fail)
        go_ret
        exact ⟨ret_i (by unfold ixI; rw [freeIx_found Hf.out Ho.out Hk.out]), grown_trans Hg.out Hg2.out⟩
      · have Ho := hid ho
        clear ho
        go_wp2_with (first | (go_at_call 42; refine (nob_fr f _ false (by simpa using Ho.out)).mono ?_; rintro e w2 ⟨rfl, hg⟩; have Hg2 := hid hg; clear hg) | (refine wpList_load_mid rfl 39 _ rfl b (k * 4) rfl _ _ Hrg.out Tryd.underlying39 rfl frame_infoF ?_) | fail)
        go_roundw
        case rel =>
          refine ⟨k + 1, by omega, by go_num, hid (fun j g hj hg => ?_), hid (grown_trans Hg.out Hg2.out)⟩
          by_cases e : j = k
          · subst e
            rw [Hf.out] at hg
            cases hg
            exact Ho.out
          · exact Hk.out j g (by omega) hg
        case measure => simp [intOf]; omega
    · obtain rfl : k = n := by omega
      have k1 : ¬ ((k : Int) < (k : Int)) := by omega
      go_wp2
      go_ret
      exact ⟨ret_i (by unfold ixI; rw [freeIx_none (fun j g hg => Hk.out j g (by rw [← Hl.out]; exact (List.getElem?_eq_some_iff.1 hg).1) hg)]), Hg.out⟩
set_option maxHeartbeats 4000000 in
theorem alloc_fr (h : FkAt w m b n c L) (hs : Sents w A) (hG : FsOk K L) (who : Int) :
    Calls Tryd.prog 18 #[.pointer (some ⟨m, 0, none⟩), .int .i64 who] w fun e w' => e = .returned (.tuple #[.int .i64 (allocF L who).2.1, errO A (allocF L who).1]) ∧ FkAt w' m b n c (allocF L who).2.2 ∧ w.grownBy w' (some b) := by
  have Hr := hid (grown_refl w none)
  have H := hid h
  have HS := hid hs
  have hm := h.mcell
  cases hb : mayB who with
  | false =>
    have e1 : allocF L who = (some 2, 0, L) := by unfold allocF; rw [if_pos hb]
    rw [e1]
    have ce : w.cell? ⟨0, 0, none⟩ = some (errV (A 2)) := hs.cell 2 _ rfl
    have Hb := hid hb
    unfold errO
    clear h hs hG e1 hb
    go_enter Tryd.func18, Tryd.ntmps18
    go_wp2_with (go_at_call 40; refine (mayOwn_fr who _).mono ?_; rintro e w' ⟨rfl, rfl⟩; rw [Hb.out])
    go_quiet (fail)
    go_wp2
    go_ret2
    exact ⟨rfl, H.out.kept0 (grown_drewN Hr.out _), grown_none (grown_drewN Hr.out _)⟩
  | true =>
    have Hb := hid hb
    cases hx : freeIx L with
    | none =>
      have e1 : allocF L who = (some 12, 0, L) := by unfold allocF; rw [if_neg (by rw [hb]; decide), hx]
      rw [e1]
      have hix : ixI L = -1 := by unfold ixI; rw [hx]
      have Hix := hid hix
      unfold errO
      clear h hs hG e1 hb hx hix
      go_enter Tryd.func18, Tryd.ntmps18
      go_wp2_with (first | (go_at_call 40; refine (mayOwn_fr who _).mono ?_; rintro e w' ⟨rfl, rfl⟩; rw [Hb.out]) | fail)
      refine (index_fr H.out).mono ?_
      rintro e w2 ⟨rfl, hg⟩
      rw [Hix.out]
      have ce : w2.cell? ⟨1, 0, none⟩ = some (errV (A 12)) := (HS.out.kept0 hg).cell 12 _ rfl
      have Hg := hid hg
      clear hg
      go_wp2
      go_quiet (fail)
      go_wp2
      go_ret2
      exact ⟨rfl, H.out.kept0 (grown_drewN Hg.out _), grown_none (grown_drewN Hg.out _)⟩
    | some k =>
      obtain ⟨f, hk, ho, _⟩ := freeIx_some hx
      have hz := (hG k f hk).nob ho
      have e1 : allocF L who = (none, k, L.set k ⟨who, f.t, f.w, f.u⟩) := by unfold allocF; rw [if_neg (by rw [hb]; decide), hx]; simp only; rw [hz.1, hz.2.1, hz.2.2]
      rw [e1]
      have hix : ixI L = k := by unfold ixI; rw [hx]
      have Hix := hid hix
      have Hk := hid hk
      have hkn := h.klt hk
      have k0 : (0 : Int) ≤ (k : Int) := by omega
      have k1 : (k : Int) < (n : Int) := by omega
      have k2 : ¬ (k : Int) < 0 := by omega
      unfold errO
      clear h hs hG e1 hb hx hix hk ho hz
      go_enter Tryd.func18, Tryd.ntmps18
      go_wp2_with (first | (go_at_call 40; refine (mayOwn_fr who _).mono ?_; rintro e w' ⟨rfl, rfl⟩; rw [Hb.out]) | fail)
      refine (index_fr H.out).mono ?_
      rintro e w2 ⟨rfl, hg⟩
      rw [Hix.out]
      have Hg := hid hg
      have HF := hid (H.out.kept0 hg)
      have hm2 := HF.out.mcell
      have co2 := HF.out.cO Hk.out
      have z2 := HF.out.free (k * 4)
      clear hg
      go_wp2
      go_ret2
      exact ⟨rfl, HF.out.sO Hk.out _, grown_setCell (grown_none Hg.out) _ _⟩
end
end Go.Proofs.YtcfagdmaephkdaaDoor
namespace Go.Proofs.YtcfagdmaephkdaaDoor
open Go.RowKit
theorem info_intF : ∃ i : TypeInfo, Tryd.prog.info? 3 = some i ∧ i.zero = some (.int .i64 0) ∧ i.size = 1 ∧ i.bytes = 8 := info_parts (P := Tryd.prog) (e := 3) (z := .int .i64 0) (size := 1) (bytes := 8) (by kernel_rfl)
structure OfR (w wr : World) (v : Value) (l : List Int) (L : Nat) : Prop where
  own : wr.ownsRow w.heap.size 3 1 v L (l.map (Value.int .i64))
  gr : w.grownBy wr none
section
variable {w w1 : World} {m b n c : Nat} {L : List Fm}
theorem OfR.kept0 {v : Value} {l : List Int} {N : Nat} (h : OfR w w1 v l N) {w2 : World} (hg : w1.grownBy w2 none) : OfR w w2 v l N :=
  ⟨h.own.kept hg (by cases v.ownBlock <;> simp), grown_trans h.gr hg⟩
theorem OfR.form {v : Value} {l : List Int} {N : Nat} (h : OfR w w1 v l N) : ∃ p c, v = .slice p N c := by
  obtain ⟨_, h⟩ := h.own
  rcases h with ⟨rfl, rfl⟩ | ⟨g, cap, _, rfl, _⟩
  · exact ⟨_, _, rfl⟩
  · exact ⟨_, _, rfl⟩
set_option maxRecDepth 100000 in
set_option maxHeartbeats 8000000 in
theorem of_fr (h : FkAt w m b n c L) (who : Int) :
    Calls Tryd.prog 12 #[.pointer (some ⟨m, 0, none⟩), .int .i64 who] w (fun e w' => ∃ v, e = .returned v ∧ (∃ p c, v = .slice p (ofF L who n).length c) ∧ SlAt w' .i64 v (ofF L who n) ∧ w.grownBy w' none) := by
  have H := hid h
  have hn := h.n2
  have Hl := hid h.len
  have hm := h.mcell
  obtain ⟨i, hi, hz0, hz1, hz2⟩ := info_intF
  have Hi := hid hi
  have Hz0 := hid hz0
  have Hz1 := hid hz1
  have Hz2 := hid hz2
  clear h hi hz0 hz1 hz2
  go_enter Tryd.func12, Tryd.ntmps12
  go_wp2
  go_loopw [5, 13] (fun v i wr => ∃ k N : Nat, k ≤ n ∧ i = .int .i64 k ∧ Hid (N = (ofF L who k).length) ∧ Hid (OfR w wr v (ofF L who k) N)) (fun _ i _ => n - (intOf i).toNat)
  case atStart => exact ⟨0, 0, Nat.zero_le _, rfl, hid rfl, hid ⟨by simpa [ofF] using World.ownsRow_nil w w.heap.size 3 1, grown_refl _ _⟩⟩
  case round =>
    obtain ⟨k, N, hk, rfl, HN, HR⟩ := hrel
    by_cases hlt : k < n
    · obtain ⟨f, hf⟩ : ∃ f, L[k]? = some f := ⟨_, List.getElem?_eq_getElem (by rw [Hl.out]; exact hlt)⟩
      have HF := hid (H.out.kept0 HR.out.gr)
      have Hrg := hid (HF.out.range hf)
      have Hf := hid hf
      have k0 : (0 : Int) ≤ (k : Int) := by omega
      have k1 : (k : Int) < (n : Int) := by omega
      have HN2 : Hid (N ≤ k) := hid (by rw [HN.out]; exact ofF_length L who k)
      clear hf
      obtain ⟨vp, vc, hv⟩ := HR.out.form
      subst hv
      have Hal := hid (World.grownBy_alloc wr (.cells #[.int .i64 f.o, .int .i64 f.t, .int .i64 f.w, .int .i64 f.u] 39) none)
      have HR2 := hid (HR.out.kept0 Hal.out)
      by_cases ho : f.o = who
      · have Ho := hid ho
        have hob : (f.o == who) = true := by simpa using ho
        clear ho
        have Hal2 := hid (World.grownBy_alloc (wr.alloc (.cells #[.int .i64 f.o, .int .i64 f.t, .int .i64 f.w, .int .i64 f.u] 39)) (.cells #[.int .i64 k] 3) none)
        have HR3 := hid (HR2.out.kept0 Hal2.out)
        have HNw : Hid (∀ j u, [Value.int .i64 (k : Int)][j]? = some u → ((wr.alloc (.cells #[.int .i64 f.o, .int .i64 f.t, .int .i64 f.w, .int .i64 f.u] 39)).alloc (.cells #[.int .i64 k] 3)).cell? ((⟨wr.heap.size + 1, 0, none⟩ : Addr).add j) = some u) := hid (World.news_of_block (heap_alloc2_new wr _ _))
        have HOw := hid HR3.out.own
        go_wp2_with (first
          | (refine wpList_load_mid rfl 39 _ rfl b (k * 4) rfl _ _ Hrg.out Tryd.underlying39 rfl frame_infoF ?_)
          | (refine wpList_append_lies _ rfl _ _ 33 rfl w.heap.size 3 i _ 1 8 Tryd.underlying33 Hi.out Hz0.out Hz1.out Hz2.out rfl (by decide) _ N _ rfl HOw.out ⟨wr.heap.size + 1, 0, none⟩ 1 1 _ rfl rfl HNw.out (by simp [Value.oneCell']) (by decide) (by have := HN2.out; unfold maxLen; omega) (by have := HN2.out; omega) HR3.out.gr.size _ rfl ?_
             intro g cap w5 hown hgrow hat hlt2
             have HO := hid hown
             have HG5 := hid hgrow
             clear hown hgrow hat hlt2)
          | fail)
        go_roundw
        case rel =>
          refine ⟨k + 1, N + 1, by omega, by go_num, hid ?_, hid ⟨?_, ?_⟩⟩
          · rw [ofF_yes Hf.out Ho.out, List.length_append, ← HN.out]; rfl
          · rw [ofF_yes Hf.out Ho.out, List.map_append]
            exact HO.out
          · exact grown_new' (grown_trans (grown_none HR3.out.gr) HG5.out) (fun j hj => (HOw.out.lt j hj).1)
        case measure => simp [intOf]; omega
      · have Ho := hid ho
        have hob : (f.o == who) = false := by simpa using ho
        clear ho
        go_wp2_with (first
          | (refine wpList_load_mid rfl 39 _ rfl b (k * 4) rfl _ _ Hrg.out Tryd.underlying39 rfl frame_infoF ?_)
          | fail)
        go_roundw
        case rel => exact ⟨k + 1, N, by omega, by go_num, hid (by rw [ofF_no Hf.out Ho.out]; exact HN.out), hid (by rw [ofF_no Hf.out Ho.out]; exact HR2.out)⟩
        case measure => simp [intOf]; omega
    · obtain rfl : k = n := by omega
      have k1 : ¬ ((k : Int) < (k : Int)) := by omega
      go_wp2
      go_ret
      exact ⟨_, rfl, by rw [← HN.out]; exact HR.out.form, SlAt.own HR.out.own, HR.out.gr⟩
set_option maxHeartbeats 4000000 in
theorem clone_rowF (h : FkAt w m b n c L) :
    Calls Tryd.prog 30 #[.slice (some ⟨b, 0, none⟩) n c] w fun e w' => ∃ v, e = .returned v ∧ w'.ownsRow w.heap.size 39 4 v n (frsL L) ∧ w.grownBy w' none := by
  obtain ⟨i, hi, hz0, hz1, hz2⟩ := info_parts (P := Tryd.prog) (e := 39) (z := .agg #[.int .i64 0, .int .i64 0, .int .i64 0, .int .i64 0]) (size := 4) (bytes := 32) (by kernel_rfl)
  have H := hid h
  have hnil := @Lib.run_eql_slice_nil Tryd.prog
  have Hi := hid hi
  have Hz0 := hid hz0
  have Hz1 := hid hz1
  have Hz2 := hid hz2
  have Hl : Hid ((frsL L).length = n * 4) := hid (by rw [frsL_length, h.len])
  have Hnew : Hid (∀ j u, (frsL L)[j]? = some u → (w.alloc (.cells #[] 39)).cell? ((⟨b, 0, none⟩ : Addr).add j) = some u) := hid (by
    intro j u hu
    rw [Addr.add_mid, World.cell?_alloc_lt _ _ _ h.blt, Nat.zero_add]
    exact h.cell hu)
  have H1 := hid (frsL_one L)
  have Hown : Hid ((w.alloc (.cells #[] 39)).ownsRow w.heap.size 39 4 (.slice (some ⟨w.heap.size, 0, none⟩) 0 0) 0 []) :=
    hid (World.ownsRow_lit w #[] 0 (Nat.le_refl _) (by unfold maxLen; omega) rfl)
  have h2 := h.n2
  have Hb : Hid ((0 + n) * 32 ≤ 140737488355328) := hid (by omega)
  have Hx : Hid (0 + n ≤ maxLen) := hid (by unfold maxLen; omega)
  have h1 := h.n1
  clear hi hz0 hz1 hz2 h
  go_enter Tryd.func30, Tryd.ntmps30
  go_wp2_with (refine wpList_append_own _ rfl _ _ 57 rfl w.heap.size 39 i _ 4 32 Tryd.underlying57 Hi.out Hz0.out Hz1.out Hz2.out rfl (by decide) (.slice (some ⟨w.heap.size, 0, none⟩) 0 0) 0 [] rfl Hown.out ⟨b, 0, none⟩ n _ (frsL L) rfl Hl.out Hnew.out H1.out Hx.out Hb.out (by simp) ?_; intro v' w2 hown2 hgrow2 _; have HO := hid hown2; have HG := hid hgrow2; clear hown2 hgrow2)
  go_ret
  refine ⟨v', rfl, ?_, ?_⟩
  · have := HO.out; rwa [Nat.zero_add, List.nil_append] at this
  · exact grown_new' (grown_trans (World.grownBy_alloc _ _ _) HG.out) (fun k hk => by simp [Value.ownBlock] at hk; omega)
theorem clone_fr (h : FkAt w m b n c L) : Calls Tryd.prog 11 #[.pointer (some ⟨m, 0, none⟩)] w (MadeF w 61 39 n L id) := by
  have hm := h.mcell
  have H := hid h
  clear h
  go_enter Tryd.func11, Tryd.ntmps11
  go_wp2_with (go_at_call 30; refine (clone_rowF H.out).mono ?_; rintro e w' ⟨v, rfl, hown, hg⟩; obtain ⟨b', c', rfl, hb', hM⟩ := fr_of_owned (T := 61) hown H.out.len H.out.n1 H.out.n2; have HM := hid hM; have HG := hid hg; have Hb := hid hb'; clear hown hg hM hb')
  go_ret
  exact ⟨_, b', c', rfl, HG.out.size, Hb.out, HM.out, grown_alloc HG.out _⟩
end
end Go.Proofs.YtcfagdmaephkdaaDoor
namespace Go.Proofs.YtcfagdmaephkdaaDoor
open Go.RowKit
/-- frames that the law itself has made -/
structure FQ (W : World) (A : Nat → Addr) (w : World) (m b n c : Nat) (L : List Fm) (K : Int) : Prop where
  fr : FkAt w m b n c L
  gr : W.grownBy w none
  lm : W.heap.size ≤ m
  lb : W.heap.size ≤ b
  ss : Sents w A
  ok : FsOk K L
  k0 : 0 ≤ K
  k1 : K ≤ 1000
section
variable {W w w1 : World} {A : Nat → Addr} {m b n c : Nat} {L : List Fm} {K : Int}
theorem FQ.kept0 (h : FQ W A w m b n c L K) (hg : w.grownBy w1 none) : FQ W A w1 m b n c L K :=
  { h with fr := h.fr.kept0 hg, gr := grown_trans h.gr hg, ss := h.ss.kept0 hg }
/-- what is written is newer than W: W's errors are as they were -/
theorem FQ.step (h : FQ W A w m b n c L K) (hs : Sents W A) {L' : List Fm} {K' : Int} (h' : FkAt w1 m b n c L') (hg : w.grownBy w1 (some b)) (ok : FsOk K' L') (k0 : 0 ≤ K') (k1 : K' ≤ 1000) : FQ W A w1 m b n c L' K' := by
  have hgr : W.grownBy w1 none := grown_new' (grown_trans (grown_none h.gr) hg) (fun k hk => by obtain rfl := Option.some.inj hk; exact h.lb)
  exact ⟨h', hgr, h.lm, h.lb, hs.kept0 hgr, ok, k0, k1⟩
theorem FQ.up (h : FQ W A w m b n c L K) {K' : Int} (hK : K ≤ K') (h1 : K' ≤ 1000) : FQ W A w m b n c L K' :=
  { h with ok := h.ok.up hK, k0 := Int.le_trans h.k0 hK, k1 := h1 }
theorem FQ.new {e : Ending} (hs : Sents W A) (h0 : W.grownBy w none) (n : Nat) {v : Value → Value} (h : MadeF w 61 39 n (List.replicate n noFm) v e w1) : ∃ m b c, e = .returned (v (.pointer (some ⟨m, 0, none⟩))) ∧ FQ W A w1 m b n c (List.replicate n noFm) 0 := by
  obtain ⟨m, b, c, he, hm, hb, hF, hg⟩ := h
  exact ⟨m, b, c, he, ⟨hF, grown_trans h0 hg, Nat.le_trans h0.size hm, Nat.le_trans h0.size hb, hs.kept0 (grown_trans h0 hg), FsOk.new n, by decide, by decide⟩⟩
theorem isE_q (h : FQ W A w m b n c L K) (k : Nat) (hk : k < 16) (d : Int) (r : Bool) (hr : (((101 + k : Nat) : Int) == d) = r) :
    Calls Tryd.prog 9 #[errV (A k), .int .i64 d] w fun x w' => x = .returned (.bool r) ∧ FQ W A w' m b n c L K ∧ w.grownBy w' none := by
  refine (is_sent h.ss k hk d r hr).mono ?_
  rintro x w' ⟨rfl, hg⟩
  exact ⟨rfl, h.kept0 hg, hg⟩
theorem isN_q (h : FQ W A w m b n c L K) (d : Int) (r : Bool) (hr : ((0 : Int) == d) = r) :
    Calls Tryd.prog 9 #[.nilIface, .int .i64 d] w fun x w' => x = .returned (.bool r) ∧ FQ W A w' m b n c L K ∧ w.grownBy w' none := by
  refine (is_noneF d r hr).mono ?_
  rintro x w' ⟨rfl, hg⟩
  exact ⟨rfl, h.kept0 hg, hg⟩
theorem get_q (h : FQ W A w m b n c L K) (i : Int) (k : Nat) (hi : i = (k : Int)) (f : Fm) (hk : L[k]? = some f) :
    Calls Tryd.prog 14 #[.pointer (some ⟨m, 0, none⟩), .int .i64 i] w fun e w' => e = .returned (.tuple #[.agg #[.int .i64 f.o, .int .i64 f.t, .int .i64 f.w, .int .i64 f.u], .bool true]) ∧ FQ W A w' m b n c L K ∧ w.grownBy w' none := by
  subst hi
  refine (get_fr_yes h.fr hk).mono ?_
  rintro x w' ⟨rfl, hg⟩
  exact ⟨rfl, h.kept0 hg, hg⟩
theorem of_q (h : FQ W A w m b n c L K) (who : Int) (l : List Int) (hl : ofF L who n = l) :
    Calls Tryd.prog 12 #[.pointer (some ⟨m, 0, none⟩), .int .i64 who] w fun e w' => ∃ p q, e = .returned (.slice p l.length q) ∧ SlAt w' .i64 (.slice p l.length q) l ∧ FQ W A w' m b n c L K ∧ w.grownBy w' none := by
  subst hl
  refine (of_fr h.fr who).mono ?_
  rintro x w' ⟨v, rfl, ⟨p, q, rfl⟩, hs, hg⟩
  exact ⟨p, q, rfl, hs, h.kept0 hg, hg⟩
theorem alloc_q (h : FQ W A w m b n c L K) (hs : Sents W A) (who : Int) (k : Nat) (L' : List Fm) (he : allocF L who = (none, k, L')) :
    Calls Tryd.prog 18 #[.pointer (some ⟨m, 0, none⟩), .int .i64 who] w fun e w' => e = .returned (.tuple #[.int .i64 k, .nilIface]) ∧ FQ W A w' m b n c L' K := by
  have ok := allocF_ok h.ok who h.k0
  have hc := alloc_fr h.fr h.ss h.ok who
  rw [he] at ok hc
  refine hc.mono ?_
  rintro x w' ⟨rfl, hF, hg⟩
  exact ⟨rfl, h.step hs hF hg ok h.k0 h.k1⟩
theorem alloc_qno (h : FQ W A w m b n c L K) (hs : Sents W A) (who : Int) (j : Nat) (he : allocF L who = (some j, 0, L)) :
    Calls Tryd.prog 18 #[.pointer (some ⟨m, 0, none⟩), .int .i64 who] w fun e w' => e = .returned (.tuple #[.int .i64 0, errV (A j)]) ∧ FQ W A w' m b n c L K := by
  have hc := alloc_fr h.fr h.ss h.ok who
  rw [he] at hc
  refine hc.mono ?_
  rintro x w' ⟨rfl, hF, hg⟩
  exact ⟨rfl, h.step hs hF hg h.ok h.k0 h.k1⟩
theorem write_q (h : FQ W A w m b n c L K) (hs : Sents W A) (hk : K < 1000) (i : Int) (L' : List Fm) (he : writeF L i = (none, L')) :
    Calls Tryd.prog 19 #[.pointer (some ⟨m, 0, none⟩), .int .i64 i] w fun e w' => e = .returned .nilIface ∧ FQ W A w' m b n c L' (K + 1) := by
  have ok := writeF_ok h.ok i
  have hc := write_fr h.fr h.ss h.ok (by have := h.k1; omega) i
  rw [he] at ok hc
  refine hc.mono ?_
  rintro x w' ⟨rfl, hF, hg⟩
  exact ⟨rfl, h.step hs hF hg ok (by have := h.k0; omega) (by omega)⟩
theorem write_qno (h : FQ W A w m b n c L K) (hs : Sents W A) (i : Int) (j : Nat) (he : writeF L i = (some j, L)) :
    Calls Tryd.prog 19 #[.pointer (some ⟨m, 0, none⟩), .int .i64 i] w fun e w' => e = .returned (errV (A j)) ∧ FQ W A w' m b n c L K := by
  have hc := write_fr h.fr h.ss h.ok (by have := h.k1; omega) i
  rw [he] at hc
  refine hc.mono ?_
  rintro x w' ⟨rfl, hF, hg⟩
  exact ⟨rfl, h.step hs hF hg h.ok h.k0 h.k1⟩
theorem unwrite_q (h : FQ W A w m b n c L K) (hs : Sents W A) (i : Int) (L' : List Fm) (he : unwriteF L i = (none, L')) :
    Calls Tryd.prog 25 #[.pointer (some ⟨m, 0, none⟩), .int .i64 i] w fun e w' => e = .returned .nilIface ∧ FQ W A w' m b n c L' K := by
  have ok := unwriteF_ok h.ok i
  have hc := unwrite_fr h.fr h.ss h.ok (by have := h.k1; omega) i
  rw [he] at ok hc
  refine hc.mono ?_
  rintro x w' ⟨rfl, hF, hg⟩
  exact ⟨rfl, h.step hs hF hg ok h.k0 h.k1⟩
theorem unwrite_qno (h : FQ W A w m b n c L K) (hs : Sents W A) (i : Int) (j : Nat) (he : unwriteF L i = (some j, L)) :
    Calls Tryd.prog 25 #[.pointer (some ⟨m, 0, none⟩), .int .i64 i] w fun e w' => e = .returned (errV (A j)) ∧ FQ W A w' m b n c L K := by
  have hc := unwrite_fr h.fr h.ss h.ok (by have := h.k1; omega) i
  rw [he] at hc
  refine hc.mono ?_
  rintro x w' ⟨rfl, hF, hg⟩
  exact ⟨rfl, h.step hs hF hg h.ok h.k0 h.k1⟩
theorem use_q (h : FQ W A w m b n c L K) (hs : Sents W A) (hk : K < 1000) (i : Int) (L' : List Fm) (he : useF L i = (none, L')) :
    Calls Tryd.prog 20 #[.pointer (some ⟨m, 0, none⟩), .int .i64 i] w fun e w' => e = .returned .nilIface ∧ FQ W A w' m b n c L' (K + 1) := by
  have ok := useF_ok h.ok i
  have hc := use_fr h.fr h.ss h.ok (by have := h.k1; omega) i
  rw [he] at ok hc
  refine hc.mono ?_
  rintro x w' ⟨rfl, hF, hg⟩
  exact ⟨rfl, h.step hs hF hg ok (by have := h.k0; omega) (by omega)⟩
theorem unuse_q (h : FQ W A w m b n c L K) (hs : Sents W A) (i : Int) (L' : List Fm) (he : unuseF L i = (none, L')) :
    Calls Tryd.prog 24 #[.pointer (some ⟨m, 0, none⟩), .int .i64 i] w fun e w' => e = .returned .nilIface ∧ FQ W A w' m b n c L' K := by
  have ok := unuseF_ok h.ok i
  have hc := unuse_fr h.fr h.ss h.ok (by have := h.k1; omega) i
  rw [he] at ok hc
  refine hc.mono ?_
  rintro x w' ⟨rfl, hF, hg⟩
  exact ⟨rfl, h.step hs hF hg ok h.k0 h.k1⟩
theorem unuse_qno (h : FQ W A w m b n c L K) (hs : Sents W A) (i : Int) (j : Nat) (he : unuseF L i = (some j, L)) :
    Calls Tryd.prog 24 #[.pointer (some ⟨m, 0, none⟩), .int .i64 i] w fun e w' => e = .returned (errV (A j)) ∧ FQ W A w' m b n c L K := by
  have hc := unuse_fr h.fr h.ss h.ok (by have := h.k1; omega) i
  rw [he] at hc
  refine hc.mono ?_
  rintro x w' ⟨rfl, hF, hg⟩
  exact ⟨rfl, h.step hs hF hg h.ok h.k0 h.k1⟩
theorem plain_q (h : FQ W A w m b n c L K) (hs : Sents W A) (i who : Int) (L' : List Fm) (he : plainF L i who = (none, L')) :
    Calls Tryd.prog 23 #[.pointer (some ⟨m, 0, none⟩), .int .i64 i, .int .i64 who] w fun e w' => e = .returned .nilIface ∧ FQ W A w' m b n c L' K := by
  have ok := plainF_ok h.ok i who
  have hc := plain_fr h.fr h.ss h.ok (by have := h.k1; omega) i who
  rw [he] at ok hc
  refine hc.mono ?_
  rintro x w' ⟨rfl, hF, hg⟩
  exact ⟨rfl, h.step hs hF hg ok h.k0 h.k1⟩
theorem plain_qno (h : FQ W A w m b n c L K) (hs : Sents W A) (i who : Int) (j : Nat) (he : plainF L i who = (some j, L)) :
    Calls Tryd.prog 23 #[.pointer (some ⟨m, 0, none⟩), .int .i64 i, .int .i64 who] w fun e w' => e = .returned (errV (A j)) ∧ FQ W A w' m b n c L K := by
  have hc := plain_fr h.fr h.ss h.ok (by have := h.k1; omega) i who
  rw [he] at hc
  refine hc.mono ?_
  rintro x w' ⟨rfl, hF, hg⟩
  exact ⟨rfl, h.step hs hF hg h.ok h.k0 h.k1⟩
theorem make_q (h : FQ W A w m b n c L K) (hs : Sents W A) (i who kind : Int) (L' : List Fm) (he : makeF L i who kind = (none, L')) :
    Calls Tryd.prog 21 #[.pointer (some ⟨m, 0, none⟩), .int .i64 i, .int .i64 who, .int .i64 kind] w fun e w' => e = .returned .nilIface ∧ FQ W A w' m b n c L' K := by
  have ok := makeF_ok h.ok i who kind
  have hc := make_fr h.fr h.ss h.ok (by have := h.k1; omega) i who kind
  rw [he] at ok hc
  refine hc.mono ?_
  rintro x w' ⟨rfl, hF, hg⟩
  exact ⟨rfl, h.step hs hF hg ok h.k0 h.k1⟩
theorem make_qno (h : FQ W A w m b n c L K) (hs : Sents W A) (i who kind : Int) (j : Nat) (he : makeF L i who kind = (some j, L)) :
    Calls Tryd.prog 21 #[.pointer (some ⟨m, 0, none⟩), .int .i64 i, .int .i64 who, .int .i64 kind] w fun e w' => e = .returned (errV (A j)) ∧ FQ W A w' m b n c L K := by
  have hc := make_fr h.fr h.ss h.ok (by have := h.k1; omega) i who kind
  rw [he] at hc
  refine hc.mono ?_
  rintro x w' ⟨rfl, hF, hg⟩
  exact ⟨rfl, h.step hs hF hg h.ok h.k0 h.k1⟩
theorem free_q (h : FQ W A w m b n c L K) (hs : Sents W A) (i who : Int) (L' : List Fm) (he : freeF L i who = (none, L')) :
    Calls Tryd.prog 22 #[.pointer (some ⟨m, 0, none⟩), .int .i64 i, .int .i64 who] w fun e w' => e = .returned .nilIface ∧ FQ W A w' m b n c L' K := by
  have ok := freeF_ok h.ok i who h.k0
  have hc := free_fr h.fr h.ss h.ok (by have := h.k1; omega) i who
  rw [he] at ok hc
  refine hc.mono ?_
  rintro x w' ⟨rfl, hF, hg⟩
  exact ⟨rfl, h.step hs hF hg ok h.k0 h.k1⟩
theorem free_qno (h : FQ W A w m b n c L K) (hs : Sents W A) (i who : Int) (j : Nat) (he : freeF L i who = (some j, L)) :
    Calls Tryd.prog 22 #[.pointer (some ⟨m, 0, none⟩), .int .i64 i, .int .i64 who] w fun e w' => e = .returned (errV (A j)) ∧ FQ W A w' m b n c L K := by
  have hc := free_fr h.fr h.ss h.ok (by have := h.k1; omega) i who
  rw [he] at hc
  refine hc.mono ?_
  rintro x w' ⟨rfl, hF, hg⟩
  exact ⟨rfl, h.step hs hF hg h.ok h.k0 h.k1⟩
end
set_option maxRecDepth 100000 in
set_option maxHeartbeats 4000000 in
theorem first16_any {A : Nat → Addr} {w : World} (hs : Sents w A) : Calls Tryd.prog 7 #[] w fun e w' => e = .returned (.bool true) ∧ w.grownBy w' none := by
  have HS := hid hs
  have Hr := hid (grown_refl w none)
  have Ha : Hid (allocF (List.replicate 3 noFm) 2 = (none, 0, [⟨2, 0, 0, 0⟩, noFm, noFm])) := hid (by rfl)
  have Ho : Hid (ofF [⟨2, 0, 0, 0⟩, noFm, noFm] 2 3 = [0]) := hid (by rfl)
  clear hs
  go_enter Tryd.func7, Tryd.ntmps7
  go_wp2_with fail
  refine (new_fr 3 (by decide) (by decide) w).mono ?_
  intro e w1 hN
  obtain ⟨m, b, c, rfl, hF⟩ := FQ.new HS.out Hr.out 3 hN
  have HF := hid hF
  clear hF hN
  go_wp2_with fail
  refine (alloc_q HF.out HS.out 2 0 _ Ha.out).mono ?_
  rintro e w2 ⟨rfl, hF⟩
  have HF2 := hid hF
  clear hF HF
  go_wp2_with fail
  refine (of_q HF2.out 2 [0] Ho.out).mono ?_
  rintro e w3 ⟨p, q, rfl, hsl, hF, hg0⟩
  have al := World.grownBy_alloc w3 (.cells #[.int .i64 0] 3) none
  have HF3 := hid (hF.kept0 al)
  have Hs1 := hid (hsl.kept0 al)
  have Hs2 : Hid (SlAt (w3.alloc (.cells #[.int .i64 0] 3)) .i64 (.slice (some ⟨w3.heap.size, 0, none⟩) 1 1) [0]) := hid (SlAt.whole (xs := [0]) (c := 1) (heap_alloc_last w3 _))
  clear hF HF2 al hsl hg0
  go_wp2_with fail
  refine (si_any Hs1.out Hs2.out (by simp) (by simp) true (by simp)).mono ?_
  rintro e w4 ⟨rfl, hg⟩
  have HG := hid (grown_trans HF3.out.gr hg)
  clear hg
  go_wp2
  go_ret
  exact ⟨rfl, HG.out⟩
end Go.Proofs.YtcfagdmaephkdaaDoor

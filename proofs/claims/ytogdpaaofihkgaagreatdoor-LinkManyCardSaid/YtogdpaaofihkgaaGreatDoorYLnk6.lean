/- Package link: objects joined: contract. (Made by golnk6.py.) -/
import Derived.Test.YtogdpaaofihkgaaGreatDoorYLnk4
import Derived.Test.YtogdpaaofihkgaaGreatDoorYRvB
namespace Go.Proofs.YtogdpaaofihkgaaGreatDoor
open Go.RowKit
theorem zero_joined (w : World) : (zeroValue 85).run Tryz.prog w = .ok (.agg #[.slice none 0 0, .int .i64 0, .int .i64 0, .map none]) w := by kernel_rfl
theorem build_joined0 (w : World) : (Instr.build 85 #[]).run Tryz.prog w = .ok (.agg #[.slice none 0 0, .int .i64 0, .int .i64 0, .map none]) w := by kernel_rfl
theorem build_joined (b : Nat) (w : World) : (Instr.build 85 #[(3, .map (some b))]).run Tryz.prog w = .ok (.agg #[.slice none 0 0, .int .i64 0, .int .i64 0, .map (some b)]) w := by kernel_rfl
theorem build_at (k : Int) (a : TypeId) (v : Value) (w : World) : (Instr.build 103 #[(0, .int .i64 k), (1, .iface a v)]).run Tryz.prog w = .ok (.agg #[.int .i64 k, .iface a v]) w := by kernel_rfl
theorem zj_one : (#[.slice none 0 0, .int .i64 0, .int .i64 0, .map none] : Array Value).all (·.oneCell') = true := by simp [Value.oneCell']
theorem set4_other {w : World} {G R k : Nat} {a b c d v : Value} (h : G ≠ R) (hc : w.cell? ⟨G, k, none⟩ = some v) :
    ((((w.setCell ⟨R, 0, none⟩ a).setCell ⟨R, 1, none⟩ b).setCell ⟨R, 2, none⟩ c).setCell ⟨R, 3, none⟩ d).cell? ⟨G, k, none⟩ = some v :=
  (World.cell?_of_block (by rw [heap_setCell_other _ _ _ _ h, heap_setCell_other _ _ _ _ h, heap_setCell_other _ _ _ _ h, heap_setCell_other _ _ _ _ h])).trans hc
theorem RwAt.below {w w1 : World} {R b : Nat} {t : TypeId} {cs : Array Value} (h : RwAt w R t cs) (hb : Below b w w1) (hl : R < b) : RwAt w1 R t cs := ⟨(hb.block _ hl).trans h.blk⟩
theorem fidx_some {α : Type} {f : α → Bool} : ∀ {l : List α} {k : Nat} {a : α}, l[k]? = some a → f a = true → (l.take k).any f = false → l.findIdx? f = some k
  | [], _, _, h, _, _ => by simp at h
  | x :: l, 0, a, h, hf, _ => by
    obtain rfl : x = a := by simpa using h
    rw [List.findIdx?_cons, if_pos hf]
  | x :: l, k + 1, a, h, hf, hn => by
    rw [List.take_succ_cons, List.any_cons, Bool.or_eq_false_iff] at hn
    rw [List.findIdx?_cons, if_neg (by rw [hn.1]; simp), fidx_some (by simpa using h) hf hn.2]
    rfl
theorem fidx_none {α : Type} {f : α → Bool} {l : List α} (h : l.any f = false) : l.findIdx? f = none := by
  rw [List.findIdx?_eq_none_iff]
  intro x hx
  cases e : f x with
  | false => rfl
  | true => rw [List.any_eq_true.2 ⟨x, hx, e⟩] at h; cases h
theorem jnRun_no {x : PO} {r : List PO} {J : Jn} {f : Fl} (h : jnAdd J x = .inl f) : jnRun (x :: r) J = (fault (some J.ps.length) f, J) := by rw [jnRun, h]
theorem jnRun_yes {x : PO} {r : List PO} {J J' : Jn} (h : jnAdd J x = .inr J') : jnRun (x :: r) J = jnRun r J' := by rw [jnRun, h]
theorem jnAdd_inr {x : PO} {J J' : Jn} (h : jnAdd J x = .inr J') : validP (woC x) = none ∧ J'.ps = J.ps ++ [⟨x, J.d, J.c⟩] ∧ J'.d = J.d + x.D.length ∧ J'.c = J.c + x.C.length := by
  unfold jnAdd at h
  cases hv : validP (woC x) with
  | some f => rw [hv] at h; cases h
  | none =>
    rw [hv] at h
    simp only at h
    cases ha : addS ⟨x, J.d, J.c⟩ x.S J.M with
    | none => rw [ha] at h; cases h
    | some M => rw [ha] at h; cases h; exact ⟨rfl, rfl, rfl, rfl⟩
/-- what is wrong, where another block is written -/
theorem flt_row {A : Nat → Addr} {w : World} {v : Value} {y : Fl} {R : Nat} {t : TypeId} {a b c d : Value} (h : FltAt A w v y) (hr : RwAt w R t #[a, b, c, d]) (cs : Array Value) : FltAt A (w.setRow R cs) v y := by
  match y, h with
  | none, h => exact h
  | some (c, none), h => exact h
  | some (c, some p), ⟨B, hv, hb⟩ =>
    refine ⟨B, hv, hb.kept (r := some R) ⟨rfl, rfl, rfl, by simp [World.setRow], fun i _ hi => setRow_other w R i _ (fun e => hi (by rw [e]))⟩ (fun e => ?_)⟩
    obtain rfl := Option.some.inj e
    have h2 := hb.blk.symm.trans hr.blk
    simp at h2
/-- where the loop over the objects stands -/
structure JoW (b0 : Nat) (W w : World) (R G B : Nat) (pv : Value) (Q : List Pv) (J : Jn) (L : List Ob) : Prop where
  j : JnAt b0 w G B pv Q J
  bw : Below b0 W w
  res : RwAt w R 85 #[.slice none 0 0, .int .i64 0, .int .i64 0, .map none]
  lt : R < b0 ∧ W.heap.size ≤ b0
  each : ∀ q ∈ Q, (∃ o ∈ L, q.V = o.V ∧ q.p.x = o.x) ∧ PtOk q.p
theorem JoW.kept0 {b0 : Nat} {W w w1 : World} {R G B : Nat} {pv : Value} {Q : List Pv} {J : Jn} {L : List Ob} (h : JoW b0 W w R G B pv Q J L) (hg : w.grownBy w1 none) : JoW b0 W w1 R G B pv Q J L :=
  ⟨h.j.kept0 hg, below_0 h.bw hg h.j.size, h.res.kept0 hg, h.lt, h.each⟩
theorem JoW.oat {b0 : Nat} {W w : World} {R G B : Nat} {pv : Value} {Q : List Pv} {J : Jn} {L : List Ob} (h : JoW b0 W w R G B pv Q J L) {v : Value} (ho : ObsAt W v L) {q : Pv} (hq : q ∈ Q) : OAt w q.V q.p.x := by
  obtain ⟨⟨o, hol, e1, e2⟩, _⟩ := h.each q hq
  rw [e1, e2]
  exact oat_below (ho.each o hol) h.bw h.lt.2
/-- behind join -/
def JoAt (W : World) (L : List Ob) (A : Nat → Addr) (e : Ending) (w' : World) : Prop :=
  match joinP (L.map (·.x)) with
  | (some f, _) => ∃ u, e = .returned (.tuple #[.agg #[.slice none 0 0, .int .i64 0, .int .i64 0, .map none], u]) ∧ u ≠ .nilIface ∧ LftAt A w' u (some f) ∧ W.grownBy w' none
  | (none, J) => ∃ pv B Q, e = .returned (.tuple #[.agg #[pv, .int .i64 (J.d : Int), .int .i64 (J.c : Int), .map (some B)], .nilIface]) ∧ w'.ownsRow W.heap.size 109 8 pv Q.length (ptsC Q) ∧ MpAt w' B J.M ∧ Q.map (·.p) = J.ps ∧ (∀ q ∈ Q, OAt W q.V q.p.x ∧ PtOk q.p) ∧ J.d ≤ 60000 ∧ J.c ≤ 60000 ∧ J.ps.length ≤ 16 ∧ W.grownBy w' none
set_option maxRecDepth 100000 in
set_option maxHeartbeats 32000000 in
theorem join_any {W : World} {v : Value} {L : List Ob} {A : Nat → Addr} (h : ObsAt W v L) (he : ErrC W A) (hb : ∀ o ∈ L, ObB o.x) (hl : L.length ≤ 1000000) :
    Calls Tryz.prog 31 #[v] W (JoAt W L A) := by
  obtain ⟨vp, vc, rfl⟩ := h.cs.len
  obtain ⟨n, hn⟩ : ∃ n, L.length = n := ⟨_, rfl⟩
  have Hn := hid hn
  have HO := hid h
  have HE := hid he
  have HB := hid hb
  rw [hn] at hl ⊢
  have n0 : (0 : Int) ≤ (n : Int) := by omega
  have n1 : (n : Int) ≤ 1000000 := by omega
  have Hzj := zero_joined
  have hb0 := build_joined0
  have HR0 := hid (RwAt.new W 85 #[.slice none 0 0, .int .i64 0, .int .i64 0, .map none])
  have HG0 := hid (World.grownBy_alloc W (.cells #[.slice none 0 0, .int .i64 0, .int .i64 0, .map none] 85) none)
  have HS0 : Hid ((W.alloc (.cells #[.slice none 0 0, .int .i64 0, .int .i64 0, .map none] 85)).heap.size = W.heap.size + 1) := hid (by simp)
  clear h he hb hl hn
  go_enter Tryz.func31, Tryz.ntmps31
  go_upto_region 1 with (fail)
  obtain ⟨R, hR⟩ : ∃ R, W.heap.size = R := ⟨_, rfl⟩
  rw [hR] at HR0 HS0 ⊢
  have HRe := hid hR
  clear hR
  generalize W.alloc (.cells #[.slice none 0 0, .int .i64 0, .int .i64 0, .map none] 85) = w1 at HR0 HG0 HS0 ⊢
  by_cases h16 : 16 < n
  · have hgt : (16 : Int) < (n : Int) := by omega
    have Hj : Hid (joinP (L.map (·.x)) = (some (3, none, none), jn0)) := hid (by unfold joinP; rw [if_pos (by rw [List.length_map, Hn.out]; exact h16)])
    clear h16
    have e3 := (HE.out.kept0 HG0.out).c3
    have e3d : w1.drew.cell? ⟨0, 0, none⟩ = some (errV (A 3)) := e3
    have r0 := HR0.out.cell 0 (v := .slice none 0 0) rfl
    have r1 := HR0.out.cell 1 (v := .int .i64 0) rfl
    have r2 := HR0.out.cell 2 (v := .int .i64 0) rfl
    have r3 := HR0.out.cell 3 (v := .map none) rfl
    have z0 := HR0.out.free 0
    have z1 := HR0.out.free 1
    have z2 := HR0.out.free 2
    have z3 := HR0.out.free 3
    have e3s := set4_other (a := .slice none 0 0) (b := .int .i64 0) (c := .int .i64 0) (d := .map none) (R := R) (show 0 ≠ R by have h1 := World.block_lt_of_cell? W _ HE.out.c3; have h2 := HRe.out; simp only at h1; omega) e3
    unfold errV at e3 e3d e3s
    go_wp2_with fail
    go_region
    all_goals
      go_wp2
      have hw : RwAt ((((w1.setCell ⟨R, 0, none⟩ (.slice none 0 0)).setCell ⟨R, 1, none⟩ (.int .i64 0)).setCell ⟨R, 2, none⟩ (.int .i64 0)).setCell ⟨R, 3, none⟩ (.map none)).drew R 85 #[.slice none 0 0, .int .i64 0, .int .i64 0, .map none] := by
        have := ((((HR0.out.set 0 (.slice none 0 0)).set 1 (.int .i64 0)).set 2 (.int .i64 0)).set 3 (.map none)).kept0 (grown_drew (grown_refl _ none))
        simpa using this
      have q0 := hw.cell 0 (v := .slice none 0 0) rfl
      have q1 := hw.cell 1 (v := .int .i64 0) rfl
      have q2 := hw.cell 2 (v := .int .i64 0) rfl
      have q3 := hw.cell 3 (v := .map none) rfl
      clear r0 r1 r2 r3 z0 z1 z2 z3 e3 e3d e3s
      refine bodyPost_ret (v := .tuple #[.agg #[.slice none 0 0, .int .i64 0, .int .i64 0, .map none], errV (A 3)]) (by simp [results, Tryz.results31, go_sem, q0, q1, q2, q3, errV]) rfl ?_
      unfold JoAt
      rw [Hj.out]
      refine ⟨_, rfl, by simp [errV], rfl, ?_⟩
      exact grown_drew (grown_new' (grown_trans (grown_none HG0.out) (grown_setCell (grown_setCell (grown_setCell (grown_setCell (grown_refl w1 _) _ _) _ _) _ _) _ _)) (fun j hj => by obtain rfl := Option.some.inj hj; have := HRe.out; omega))
  · have hle : (n : Int) ≤ 16 := by omega
    have H16 := hid h16
    have Hjp : Hid (joinP (L.map (·.x)) = match jnRun (L.map (·.x)) jn0 with
      | (some f, J) => (some f, J)
      | (none, J) =>
        match J.ps.findIdx? (missB J.M) with
        | some k => (some (6, some k, none), J)
        | none => match J.ps.findIdx? (leadB J.M) with
          | some k => (some (1, some k, none), J)
          | none => if (lkD J.M nmMainL).i = 2 then (none, J) else (some (6, none, none), J)) := hid (by unfold joinP; rw [if_neg (by rw [List.length_map, Hn.out]; exact h16)]; rfl)
    clear h16 n1
    have hmk := mp_make
    have hbj := build_joined (R + 1)
    have HRa := hid (HR0.out.kept0 (grown_trans (World.grownBy_alloc w1 (.map #[] 0) none) (World.grownBy_alloc _ (.cells #[.slice none 0 0, .int .i64 0, .int .i64 0, .map (some (R + 1))] 85) none)))
    have HGa := hid (grown_trans HG0.out (grown_trans (World.grownBy_alloc w1 (.map #[] 0) none) (World.grownBy_alloc _ (.cells #[.slice none 0 0, .int .i64 0, .int .i64 0, .map (some (R + 1))] 85) none)))
    have HGr := hid (RwAt.new2 w1 (.map #[] 0) 85 #[.slice none 0 0, .int .i64 0, .int .i64 0, .map (some (R + 1))])
    have HMp := hid ((mp_new w1).alloc (.cells #[.slice none 0 0, .int .i64 0, .int .i64 0, .map (some (R + 1))] 85))
    have hsz := HS0.out
    rw [hsz] at HGr HMp
    have HG1 := hid (grown_trans (World.grownBy_alloc w1 (.map #[] 0) none) (World.grownBy_alloc (w1.alloc (.map #[] 0)) (.cells #[.slice none 0 0, .int .i64 0, .int .i64 0, .map (some (R + 1))] 85) none))
    have HJ0 : Hid (JoW (R + 1) w1 ((w1.alloc (.map #[] 0)).alloc (.cells #[.slice none 0 0, .int .i64 0, .int .i64 0, .map (some (R + 1))] 85)) R (R + 1 + 1) (R + 1) (.slice none 0 0) [] jn0 L) := hid ⟨⟨HGr.out, World.ownsRow_nil _ _ _ _, HMp.out, rfl, by omega, by simp [Value.ownBlock], by simp [Value.ownBlock], by omega, by omega⟩, by have h := grown_below HG1.out; rw [hsz] at h; exact h, HRa.out, ⟨by omega, by omega⟩, fun q hq => by cases hq⟩
    have HO1 := hid (HO.out.kept0 HG0.out)
    have HE1 := hid (HE.out.kept0 HG0.out)
    have Hsz := hid hsz
    clear HRa HGa HGr HMp hsz HG1
    go_upto_region 4 with (fail)
    rw [Hsz.out]
    obtain ⟨B, hB⟩ : ∃ B, R + 1 = B := ⟨_, rfl⟩
    obtain ⟨G, hG⟩ : ∃ G, B + 1 = G := ⟨_, rfl⟩
    rw [hB, hG] at HJ0 ⊢
    have HBR := hid hB
    clear hB hG hmk hbj
    generalize (w1.alloc (.map #[] 0)).alloc (.cells #[.slice none 0 0, .int .i64 0, .int .i64 0, .map (some B)] 85) = w2 at HJ0 ⊢
    have Hzo := zero_obj
    go_wp2
    go_loopw [22] (fun i wr => ∃ k : Nat, ∃ pv : Value, ∃ Q : List Pv, ∃ J : Jn, k ≤ n ∧ i = .int .i64 k ∧ Hid (JoW B w1 wr R G B pv Q J L) ∧ Hid (jnRun ((L.map (·.x)).drop k) J = jnRun (L.map (·.x)) jn0 ∧ J.ps.length = k ∧ J.d ≤ 2048 * k ∧ J.c ≤ 2048 * k)) (fun i _ => n - (intOf i).toNat)
    case atStart => exact ⟨0, _, _, _, Nat.zero_le _, rfl, HJ0, hid ⟨rfl, rfl, Nat.zero_le _, Nat.zero_le _⟩⟩
    case round =>
      obtain ⟨k, pv, Q, J, hk, rfl, HR, HRun⟩ := hrel
      clear HJ0
      have k0 : (0 : Int) ≤ (k : Int) := by omega
      by_cases hlt : k < n
      · have kn : (k : Int) < (n : Int) := by omega
        have Hlt := hid hlt
        obtain ⟨⟨V, x⟩, ho⟩ : ∃ o, L[k]? = some o := ⟨_, List.getElem?_eq_getElem (by rw [Hn.out]; exact hlt)⟩
        have Ho := hid ho
        have hoat := HO1.out.each _ (List.mem_of_getElem? ho)
        obtain ⟨p1, n1, c1, p2, n2, c2, p3, n3, c3, p4, n4, c4, p5, n5, c5, p6, n6, c6, hV⟩ := OAt.cells hoat
        simp only at hV hoat
        subst hV
        have Hoat := hid hoat
        have Hob := hid (HB.out _ (List.mem_of_getElem? ho))
        have hobs : ObsAt wr (.slice vp L.length vc) L := HO1.out.kept0 (below_is_grown (HR.out.bw.mono HR.out.lt.2))
        obtain ⟨bo, oo, co, hv, hbo, g0, g1, g2, g3, g4, g5⟩ := ob_item hobs ho
        rw [Hn.out] at hv
        simp only [Value.slice.injEq, true_and] at hv
        obtain ⟨rfl, rfl⟩ := hv
        simp only at g0 g1 g2 g3 g4 g5
        have hal := World.grownBy_alloc wr (.cells #[.slice p1 n1 c1, .slice p2 n2 c2, .slice p3 n3 c3, .slice p4 n4 c4, .slice p5 n5 c5, .slice p6 n6 c6] 39) none
        have HR2 := hid (HR.out.kept0 hal)
        have HX := hid (RwAt.new wr 39 #[.slice p1 n1 c1, .slice p2 n2 c2, .slice p3 n3 c3, .slice p4 n4 c4, .slice p5 n5 c5, .slice p6 n6 c6])
        clear hal ho hoat hobs hbo hlt
        go_upto_region 7 with (fail)
        clear g0 g1 g2 g3 g4 g5 HR
        obtain ⟨X, hX⟩ : ∃ X, wr.heap.size = X := ⟨_, rfl⟩
        rw [hX] at HX ⊢
        clear hX
        generalize wr.alloc (.cells #[.slice p1 n1 c1, .slice p2 n2 c2, .slice p3 n3 c3, .slice p4 n4 c4, .slice p5 n5 c5, .slice p6 n6 c6] 39) = w3 at HR2 HX ⊢
        have hbd : J.d ≤ 60000 ∧ J.c ≤ 60000 ∧ J.ps.length ≤ 20 := by have := HRun.out.2; have := H16.out; have := Hlt.out; omega
        have Hpk := hid (fun hv => ptok_of (d := J.d) (c := J.c) hv Hob.out (by omega) (by omega))
        have Hbd := hid hbd
        clear hbd
        go_wp2_with (first
          | (refine wpList_load_rw rfl 39 _ rfl rfl HX.out rfl Tryz.underlying39 info_object ?_)
          | fail)
        refine (add_any (V := ⟨.slice p1 n1 c1, .slice p2 n2 c2, .slice p3 n3 c3, .slice p4 n4 c4, .slice p5 n5 c5, .slice p6 n6 c6⟩) Hoat.out HE1.out HR2.out.lt.2 HR2.out.bw Hob.out HR2.out.j Hbd.out (fun hv => ⟨fun s hs => ((Hpk.out hv).s s hs).1, (Hpk.out hv).len2⟩)).mono ?_
        rintro e w4 ⟨u, rfl, hbw, hres⟩
        have HBw := hid hbw
        have Hrs := hid hres
        clear hbw hres
        cases hja : jnAdd J x with
        | inl f =>
          have hres := Hrs.out
          rw [hja] at hres
          obtain ⟨hne, hfl⟩ := hres
          obtain ⟨⟨fc, fp⟩, rfl⟩ : ∃ y, f = some y := by cases f with | none => exact absurd rfl hne | some y => exact ⟨y, rfl⟩
          obtain ⟨ut, up, rfl, hq0, hq1⟩ := flt_is_e hfl hne
          have Hfl := hid hfl
          have Hja := hid hja
          clear Hrs hfl hne hja hq0
          have hal := World.grownBy_alloc w4 (.cells #[.int .i64 (k : Int), .iface ut up] 103) none
          have HRz := hid ((HR0.out.below HBw.out HR2.out.lt.1).kept0 hal)
          have HAt := hid (RwAt.new w4 103 #[.int .i64 (k : Int), .iface ut up])
          have HFz := hid (Hfl.out.kept0 hal)
          have HBz := hid (below_0 HBw.out hal (by have h1 := HBw.out.size; have h2 := Hsz.out; have h3 := HBR.out; omega))
          have hba := build_at (k : Int) ut up
          clear hal
          go_wp2_with (first
            | (refine wpList_store_rw rfl 85 _ _ rfl rfl rfl HRz.out info_joined rfl zj_one ?_)
            | fail)
          have hw := HRz.out.row #[.slice none 0 0, .int .i64 0, .int .i64 0, .map none]
          have q0 := hw.cell 0 (v := .slice none 0 0) rfl
          have q1 := hw.cell 1 (v := .int .i64 0) rfl
          have q2 := hw.cell 2 (v := .int .i64 0) rfl
          have q3 := hw.cell 3 (v := .map none) rfl
          refine bodyPost_ret (v := .tuple #[.agg #[.slice none 0 0, .int .i64 0, .int .i64 0, .map none], atV w4.heap.size]) (by simp [results, Tryz.results31, go_sem, q0, q1, q2, q3]) rfl ?_
          have hrun : jnRun (L.map (·.x)) jn0 = (some (fc, some k, fp), J) := by
            rw [← HRun.out.1, drop_at (l := L.map (·.x)) (k := k) (a := x) (by rw [List.getElem?_map, Ho.out]; rfl), jnRun_no Hja.out, HRun.out.2.1]
            rfl
          have hlt := HAt.out.lt
          have hRlt := HRz.out.lt
          have hne : w4.heap.size ≠ R := by have h1 := HBw.out.size; have h2 := Hsz.out; omega
          unfold JoAt
          rw [Hjp.out, hrun]
          refine ⟨_, rfl, by simp, ⟨w4.heap.size, _, rfl, ?_, flt_row HFz.out HRz.out _⟩, grown_setRow (grown_trans HG0.out (below_is_grown (HBz.out.mono HR2.out.lt.2))) (by have := HRe.out; omega) _⟩
          exact HAt.out.kept (r := some R) ⟨rfl, rfl, rfl, by simp [World.setRow], fun i _ hi => setRow_other _ R i _ (fun e => hi (by rw [e]))⟩ (fun e => hne (Option.some.inj e))
        | inr J' =>
          have hres := Hrs.out
          rw [hja] at hres
          obtain ⟨rfl, pv', hj⟩ := hres
          have HJ := hid hj
          have Hja := hid hja
          clear Hrs hj hja
          go_wp2
          go_roundw
          case rel =>
            obtain ⟨hvn, e1, e2, e3⟩ := jnAdd_inr Hja.out
            have hsz := (Hpk.out hvn).len2
            refine ⟨k + 1, pv', _, J', Hlt.out, by go_num, hid ⟨HJ.out, HBw.out, HR0.out.below HBw.out HR2.out.lt.1, HR2.out.lt, fun q hq => ?_⟩, hid ⟨?_, ?_, ?_, ?_⟩⟩
            · rw [List.mem_append, List.mem_singleton] at hq
              rcases hq with hq | rfl
              · exact HR2.out.each q hq
              · exact ⟨⟨_, List.mem_of_getElem? Ho.out, rfl, rfl⟩, Hpk.out hvn⟩
            · rw [← HRun.out.1, drop_at (l := L.map (·.x)) (k := k) (a := x) (by rw [List.getElem?_map, Ho.out]; rfl), jnRun_yes Hja.out]
            · rw [e1, List.length_append, HRun.out.2.1]; rfl
            · have := HRun.out.2.2.1; simp only at hsz; omega
            · have := HRun.out.2.2.2; simp only at hsz; omega
          case measure => simp [intOf]; have := Hlt.out; omega
      · obtain rfl : k = n := by omega
        have kn : ¬ ((k : Int) < (k : Int)) := by omega
        have Hend : Hid (jnRun (L.map (·.x)) jn0 = (none, J)) := hid (by rw [← HRun.out.1, ← Hn.out, ← List.length_map (f := fun o : Ob => o.x), List.drop_length]; rfl)
        have Hjq := hid Hjp.out
        have Hbd : Hid (J.d ≤ 60000 ∧ J.c ≤ 60000 ∧ J.ps.length ≤ 16) := hid (by have := HRun.out.2; have := H16.out; omega)
        clear hlt HRun
        go_upto_region 12 with (fail)
        have hal := World.grownBy_alloc wr (.cells #[.func (.func 40) #[.pointer (some ⟨G, 0, none⟩)] #[], .func (.func 41) #[.pointer (some ⟨G, 0, none⟩)] #[]] 106) none
        have HF0 : Hid (JoW B w1 (wr.alloc (.cells #[.func (.func 40) #[.pointer (some ⟨G, 0, none⟩)] #[], .func (.func 41) #[.pointer (some ⟨G, 0, none⟩)] #[]] 106)) R G B pv Q J L ∧ RwAt (wr.alloc (.cells #[.func (.func 40) #[.pointer (some ⟨G, 0, none⟩)] #[], .func (.func 41) #[.pointer (some ⟨G, 0, none⟩)] #[]] 106)) wr.heap.size 106 #[.func (.func 40) #[.pointer (some ⟨G, 0, none⟩)] #[], .func (.func 41) #[.pointer (some ⟨G, 0, none⟩)] #[]]) := hid ⟨HR.out.kept0 hal, RwAt.new wr 106 #[.func (.func 40) #[.pointer (some ⟨G, 0, none⟩)] #[], .func (.func 41) #[.pointer (some ⟨G, 0, none⟩)] #[]]⟩
        clear hal HR
        obtain ⟨F, hF⟩ : ∃ F, wr.heap.size = F := ⟨_, rfl⟩
        rw [hF] at HF0 ⊢
        clear hF
        generalize wr.alloc (.cells #[.func (.func 40) #[.pointer (some ⟨G, 0, none⟩)] #[], .func (.func 41) #[.pointer (some ⟨G, 0, none⟩)] #[]] 106) = w2 at HF0 ⊢
        obtain ⟨N, hN⟩ : ∃ N, Q.length = N := ⟨_, rfl⟩
        have HN := hid hN
        have Hps : Hid (J.ps.length = N) := hid (by rw [← HF0.out.1.j.eq, List.length_map]; exact hN)
        have N0 : (0 : Int) ≤ (N : Int) := by omega
        have N1 : (N : Int) ≤ 16 := by have := Hbd.out.2.2; have := Hps.out; omega
        obtain ⟨sp, sc, hpv⟩ := own_slice HF0.out.1.j.ps
        rw [hN] at hpv
        subst hpv
        clear hN
        go_wp2
        go_loopw [42] (fun i wr => ∃ z : Int, i = .int .i64 z ∧ Hid (z = 0 ∨ z = 1 ∨ z = 2) ∧ Hid (JoW B w1 wr R G B (.slice sp N sc) Q J L ∧ RwAt wr F 106 #[.func (.func 40) #[.pointer (some ⟨G, 0, none⟩)] #[], .func (.func 41) #[.pointer (some ⟨G, 0, none⟩)] #[]]) ∧ Hid ((1 ≤ z → J.ps.any (missB J.M) = false) ∧ (2 ≤ z → J.ps.any (leadB J.M) = false))) (fun i _ => 2 - (intOf i).toNat)
        case atStart => exact ⟨0, rfl, hid (.inl rfl), HF0, hid ⟨fun h => absurd h (by decide), fun h => absurd h (by decide)⟩⟩
        case round =>
          obtain ⟨z, rfl, Hz, HRF, Hno⟩ := hrel
          clear HF0
          rcases Hz.out with rfl | rfl | rfl
          · have fz := HRF.out.2.cell 0 (v := .func (.func 40) #[.pointer (some ⟨G, 0, none⟩)] #[]) rfl
            have gz := HRF.out.1.j.row.cell 0 (v := .slice sp N sc) rfl
            have Hz0 := hid (trivial : True)
            have HRI := hid HRF.out
            have Hin0 : Hid ((J.ps.take 0).any (missB J.M) = false) := hid rfl
            clear Hz
            go_wp2
            clear fz gz HRF
            go_loopw [49] (fun i wr => ∃ m : Nat, m ≤ N ∧ i = .int .i64 m ∧ Hid (JoW B w1 wr R G B (.slice sp N sc) Q J L ∧ RwAt wr F 106 #[.func (.func 40) #[.pointer (some ⟨G, 0, none⟩)] #[], .func (.func 41) #[.pointer (some ⟨G, 0, none⟩)] #[]]) ∧ Hid ((J.ps.take m).any (missB J.M) = false)) (fun i _ => N - (intOf i).toNat)
            case atStart => exact ⟨0, Nat.zero_le _, rfl, HRI, Hin0⟩
            case round =>
              obtain ⟨m, hm, rfl, HR, Hin⟩ := hrel
              clear HRI Hin0
              have m0 : (0 : Int) ≤ (m : Int) := by omega
              by_cases hlt : m < N
              · have mn : (m : Int) < (N : Int) := by omega
                have Hlt := hid hlt
                obtain ⟨⟨V, ⟨x, pd, pc⟩⟩, hq⟩ : ∃ q, Q[m]? = some q := ⟨_, List.getElem?_eq_getElem (by rw [HN.out]; exact hlt)⟩
                have Hqm := hid (List.mem_of_getElem? hq)
                have Hps2 : Hid (J.ps[m]? = some ⟨x, pd, pc⟩) := hid (by rw [← HR.out.1.j.eq, List.getElem?_map, hq]; rfl)
                have Hpk := hid (HR.out.1.each _ Hqm.out).2
                have hoat := HR.out.1.oat HO1.out Hqm.out
                obtain ⟨p1, n1, c1, p2, n2, c2, p3, n3, c3, p4, n4, c4, p5, n5, c5, p6, n6, c6, hV⟩ := OAt.cells hoat
                simp only at hV hoat
                subst hV
                have Hoat := hid hoat
                have hps := CsAt.own HR.out.1.j.ps
                obtain ⟨bq, oq, cq, hv, hbq, g0, g1, g2, g3, g4, g5, g6, g7⟩ := pt_item hps hq
                rw [HN.out] at hv
                simp only [Value.slice.injEq, true_and] at hv
                obtain ⟨rfl, rfl⟩ := hv
                simp only at g0 g1 g2 g3 g4 g5 g6 g7
                have hal := World.grownBy_alloc wr (.cells #[.slice p1 n1 c1, .slice p2 n2 c2, .slice p3 n3 c3, .slice p4 n4 c4, .slice p5 n5 c5, .slice p6 n6 c6, .int .i64 (pd : Int), .int .i64 (pc : Int)] 109) none
                have HR2 : Hid (JoW B w1 (wr.alloc (.cells #[.slice p1 n1 c1, .slice p2 n2 c2, .slice p3 n3 c3, .slice p4 n4 c4, .slice p5 n5 c5, .slice p6 n6 c6, .int .i64 (pd : Int), .int .i64 (pc : Int)] 109)) R G B (.slice (some ⟨bq, oq, none⟩) N sc) Q J L ∧ RwAt (wr.alloc (.cells #[.slice p1 n1 c1, .slice p2 n2 c2, .slice p3 n3 c3, .slice p4 n4 c4, .slice p5 n5 c5, .slice p6 n6 c6, .int .i64 (pd : Int), .int .i64 (pc : Int)] 109)) F 106 #[.func (.func 40) #[.pointer (some ⟨G, 0, none⟩)] #[], .func (.func 41) #[.pointer (some ⟨G, 0, none⟩)] #[]]) := hid ⟨HR.out.1.kept0 hal, HR.out.2.kept0 hal⟩
                have HY := hid (RwAt.new wr 109 #[.slice p1 n1 c1, .slice p2 n2 c2, .slice p3 n3 c3, .slice p4 n4 c4, .slice p5 n5 c5, .slice p6 n6 c6, .int .i64 (pd : Int), .int .i64 (pc : Int)])
                have Hoat2 := hid (Hoat.out.kept0 hal)
                have Hzp := zero_part
                clear hal hq hoat hps hbq hlt
                go_upto_region 17 with (fail)
                clear g0 g1 g2 g3 g4 g5 g6 g7 HR Hzp
                obtain ⟨Y, hY⟩ : ∃ Y, wr.heap.size = Y := ⟨_, rfl⟩
                rw [hY] at HY ⊢
                clear hY
                generalize wr.alloc (.cells #[.slice p1 n1 c1, .slice p2 n2 c2, .slice p3 n3 c3, .slice p4 n4 c4, .slice p5 n5 c5, .slice p6 n6 c6, .int .i64 (pd : Int), .int .i64 (pc : Int)] 109) = w3 at HR2 HY Hoat2 ⊢
                obtain ⟨tt, htt⟩ : ∃ tt, missB J.M ⟨x, pd, pc⟩ = tt := ⟨_, rfl⟩
                have Htt := hid htt
                go_wp2_with (first
                  | (refine wpList_load_rw rfl 109 _ rfl rfl HY.out rfl Tryz.underlying109 info_part ?_)
                  | fail)
                refine (misses_any w3 ⟨.slice p1 n1 c1, .slice p2 n2 c2, .slice p3 n3 c3, .slice p4 n4 c4, .slice p5 n5 c5, .slice p6 n6 c6⟩ ⟨x, pd, pc⟩ Hoat2.out HR2.out.1.j.mr (errc_below HE1.out HR2.out.1.bw HR2.out.1.lt.2) Hpk.out.b.len.2.2.2.2.2 htt).mono ?_
                rintro e w5 ⟨rfl, hg⟩
                have HR5 : Hid (JoW B w1 w5 R G B (.slice (some ⟨bq, oq, none⟩) N sc) Q J L ∧ RwAt w5 F 106 #[.func (.func 40) #[.pointer (some ⟨G, 0, none⟩)] #[], .func (.func 41) #[.pointer (some ⟨G, 0, none⟩)] #[]]) := hid ⟨HR2.out.1.kept0 hg, HR2.out.2.kept0 hg⟩
                clear hg HR2 HY Hoat2 htt
                cases tt with
                | false =>
                  rw [show erV A 6 false = .nilIface from rfl]
                  have Hin2 := hid (any_take Hin.out Hps2.out Htt.out)
                  go_wp2
                  go_roundw
                  case rel => exact ⟨m + 1, Hlt.out, by go_num, HR5, Hin2⟩
                  case measure => simp [intOf]; have := Hlt.out; omega
                | true =>
                  have hq1 := fun W => run_err_neq_nil (A 6) W
                  have Hfi := hid (fidx_some Hps2.out Htt.out Hin.out)
                  rw [show erV A 6 true = errV (A 6) from rfl]
                  unfold errV at hq1 ⊢
                  have hal := World.grownBy_alloc w5 (.cells #[.int .i64 (m : Int), .iface 189 (.pointer (some (A 6)))] 103) none
                  have HRz := hid (HR5.out.1.res.kept0 hal)
                  have HAt := hid (RwAt.new w5 103 #[.int .i64 (m : Int), .iface 189 (.pointer (some (A 6)))])
                  have HBz := hid (below_0 HR5.out.1.bw hal HR5.out.1.j.size)
                  have Hlt2 := hid HR5.out.1.lt
                  have hba := build_at (m : Int) 189 (.pointer (some (A 6)))
                  have HRl := hid HR5.out.1.res.lt
                  clear hal HR5
                  go_wp2_with (first
                    | (refine wpList_store_rw rfl 85 _ _ rfl rfl rfl HRz.out info_joined rfl zj_one ?_)
                    | fail)
                  have hw := HRz.out.row #[.slice none 0 0, .int .i64 0, .int .i64 0, .map none]
                  have q0 := hw.cell 0 (v := .slice none 0 0) rfl
                  have q1 := hw.cell 1 (v := .int .i64 0) rfl
                  have q2 := hw.cell 2 (v := .int .i64 0) rfl
                  have q3 := hw.cell 3 (v := .map none) rfl
                  refine bodyPost_ret (v := .tuple #[.agg #[.slice none 0 0, .int .i64 0, .int .i64 0, .map none], atV w5.heap.size]) (by simp [results, Tryz.results31, go_sem, q0, q1, q2, q3]) rfl ?_
                  have hne : w5.heap.size ≠ R := by have := HRl.out; omega
                  unfold JoAt
                  rw [Hjq.out, Hend.out]
                  simp only [Hfi.out]
                  refine ⟨_, rfl, by simp, ⟨w5.heap.size, _, rfl, ?_, rfl⟩, grown_setRow (grown_trans HG0.out (below_is_grown (HBz.out.mono Hlt2.out.2))) (by have := HRe.out; omega) _⟩
                  exact HAt.out.kept (r := some R) ⟨rfl, rfl, rfl, by simp [World.setRow], fun i _ hi => setRow_other _ R i _ (fun e => hi (by rw [e]))⟩ (fun e => hne (Option.some.inj e))
              · obtain rfl : m = N := by omega
                have mn : ¬ ((m : Int) < (m : Int)) := by omega
                have Hall := hid (any_all Hps.out Hin.out)
                clear hlt
                go_wp2
                go_roundw
                case rel => exact ⟨1, rfl, hid (.inr (.inl rfl)), HR, hid ⟨fun _ => Hall.out, fun h => absurd h (by decide)⟩⟩
                case measure => simp [intOf]
          · have fz := HRF.out.2.cell 1 (v := .func (.func 41) #[.pointer (some ⟨G, 0, none⟩)] #[]) rfl
            have gz := HRF.out.1.j.row.cell 0 (v := .slice sp N sc) rfl
            have Hz0 := hid (trivial : True)
            have HRI := hid HRF.out
            have Hin0 : Hid ((J.ps.take 0).any (leadB J.M) = false) := hid rfl
            clear Hz
            go_wp2
            clear fz gz HRF
            go_loopw [49] (fun i wr => ∃ m : Nat, m ≤ N ∧ i = .int .i64 m ∧ Hid (JoW B w1 wr R G B (.slice sp N sc) Q J L ∧ RwAt wr F 106 #[.func (.func 40) #[.pointer (some ⟨G, 0, none⟩)] #[], .func (.func 41) #[.pointer (some ⟨G, 0, none⟩)] #[]]) ∧ Hid ((J.ps.take m).any (leadB J.M) = false)) (fun i _ => N - (intOf i).toNat)
            case atStart => exact ⟨0, Nat.zero_le _, rfl, HRI, Hin0⟩
            case round =>
              obtain ⟨m, hm, rfl, HR, Hin⟩ := hrel
              clear HRI Hin0
              have m0 : (0 : Int) ≤ (m : Int) := by omega
              by_cases hlt : m < N
              · have mn : (m : Int) < (N : Int) := by omega
                have Hlt := hid hlt
                obtain ⟨⟨V, ⟨x, pd, pc⟩⟩, hq⟩ : ∃ q, Q[m]? = some q := ⟨_, List.getElem?_eq_getElem (by rw [HN.out]; exact hlt)⟩
                have Hqm := hid (List.mem_of_getElem? hq)
                have Hps2 : Hid (J.ps[m]? = some ⟨x, pd, pc⟩) := hid (by rw [← HR.out.1.j.eq, List.getElem?_map, hq]; rfl)
                have Hpk := hid (HR.out.1.each _ Hqm.out).2
                have hoat := HR.out.1.oat HO1.out Hqm.out
                obtain ⟨p1, n1, c1, p2, n2, c2, p3, n3, c3, p4, n4, c4, p5, n5, c5, p6, n6, c6, hV⟩ := OAt.cells hoat
                simp only at hV hoat
                subst hV
                have Hoat := hid hoat
                have hps := CsAt.own HR.out.1.j.ps
                obtain ⟨bq, oq, cq, hv, hbq, g0, g1, g2, g3, g4, g5, g6, g7⟩ := pt_item hps hq
                rw [HN.out] at hv
                simp only [Value.slice.injEq, true_and] at hv
                obtain ⟨rfl, rfl⟩ := hv
                simp only at g0 g1 g2 g3 g4 g5 g6 g7
                have hal := World.grownBy_alloc wr (.cells #[.slice p1 n1 c1, .slice p2 n2 c2, .slice p3 n3 c3, .slice p4 n4 c4, .slice p5 n5 c5, .slice p6 n6 c6, .int .i64 (pd : Int), .int .i64 (pc : Int)] 109) none
                have HR2 : Hid (JoW B w1 (wr.alloc (.cells #[.slice p1 n1 c1, .slice p2 n2 c2, .slice p3 n3 c3, .slice p4 n4 c4, .slice p5 n5 c5, .slice p6 n6 c6, .int .i64 (pd : Int), .int .i64 (pc : Int)] 109)) R G B (.slice (some ⟨bq, oq, none⟩) N sc) Q J L ∧ RwAt (wr.alloc (.cells #[.slice p1 n1 c1, .slice p2 n2 c2, .slice p3 n3 c3, .slice p4 n4 c4, .slice p5 n5 c5, .slice p6 n6 c6, .int .i64 (pd : Int), .int .i64 (pc : Int)] 109)) F 106 #[.func (.func 40) #[.pointer (some ⟨G, 0, none⟩)] #[], .func (.func 41) #[.pointer (some ⟨G, 0, none⟩)] #[]]) := hid ⟨HR.out.1.kept0 hal, HR.out.2.kept0 hal⟩
                have HY := hid (RwAt.new wr 109 #[.slice p1 n1 c1, .slice p2 n2 c2, .slice p3 n3 c3, .slice p4 n4 c4, .slice p5 n5 c5, .slice p6 n6 c6, .int .i64 (pd : Int), .int .i64 (pc : Int)])
                have Hoat2 := hid (Hoat.out.kept0 hal)
                have Hzp := zero_part
                clear hal hq hoat hps hbq hlt
                go_upto_region 17 with (fail)
                clear g0 g1 g2 g3 g4 g5 g6 g7 HR Hzp
                obtain ⟨Y, hY⟩ : ∃ Y, wr.heap.size = Y := ⟨_, rfl⟩
                rw [hY] at HY ⊢
                clear hY
                generalize wr.alloc (.cells #[.slice p1 n1 c1, .slice p2 n2 c2, .slice p3 n3 c3, .slice p4 n4 c4, .slice p5 n5 c5, .slice p6 n6 c6, .int .i64 (pd : Int), .int .i64 (pc : Int)] 109) = w3 at HR2 HY Hoat2 ⊢
                obtain ⟨tt, htt⟩ : ∃ tt, leadB J.M ⟨x, pd, pc⟩ = tt := ⟨_, rfl⟩
                have Htt := hid htt
                go_wp2_with (first
                  | (refine wpList_load_rw rfl 109 _ rfl rfl HY.out rfl Tryz.underlying109 info_part ?_)
                  | fail)
                refine (misleads_any w3 ⟨.slice p1 n1 c1, .slice p2 n2 c2, .slice p3 n3 c3, .slice p4 n4 c4, .slice p5 n5 c5, .slice p6 n6 c6⟩ ⟨x, pd, pc⟩ Hoat2.out HR2.out.1.j.mr (errc_below HE1.out HR2.out.1.bw HR2.out.1.lt.2) Hpk.out htt).mono ?_
                rintro e w5 ⟨rfl, hg⟩
                have HR5 : Hid (JoW B w1 w5 R G B (.slice (some ⟨bq, oq, none⟩) N sc) Q J L ∧ RwAt w5 F 106 #[.func (.func 40) #[.pointer (some ⟨G, 0, none⟩)] #[], .func (.func 41) #[.pointer (some ⟨G, 0, none⟩)] #[]]) := hid ⟨HR2.out.1.kept0 hg, HR2.out.2.kept0 hg⟩
                clear hg HR2 HY Hoat2 htt
                cases tt with
                | false =>
                  rw [show erV A 1 false = .nilIface from rfl]
                  have Hin2 := hid (any_take Hin.out Hps2.out Htt.out)
                  go_wp2
                  go_roundw
                  case rel => exact ⟨m + 1, Hlt.out, by go_num, HR5, Hin2⟩
                  case measure => simp [intOf]; have := Hlt.out; omega
                | true =>
                  have hq1 := fun W => run_err_neq_nil (A 1) W
                  have Hfi := hid (fidx_some Hps2.out Htt.out Hin.out)
                  rw [show erV A 1 true = errV (A 1) from rfl]
                  unfold errV at hq1 ⊢
                  have hal := World.grownBy_alloc w5 (.cells #[.int .i64 (m : Int), .iface 189 (.pointer (some (A 1)))] 103) none
                  have HRz := hid (HR5.out.1.res.kept0 hal)
                  have HAt := hid (RwAt.new w5 103 #[.int .i64 (m : Int), .iface 189 (.pointer (some (A 1)))])
                  have HBz := hid (below_0 HR5.out.1.bw hal HR5.out.1.j.size)
                  have Hlt2 := hid HR5.out.1.lt
                  have hba := build_at (m : Int) 189 (.pointer (some (A 1)))
                  have HRl := hid HR5.out.1.res.lt
                  clear hal HR5
                  go_wp2_with (first
                    | (refine wpList_store_rw rfl 85 _ _ rfl rfl rfl HRz.out info_joined rfl zj_one ?_)
                    | fail)
                  have hw := HRz.out.row #[.slice none 0 0, .int .i64 0, .int .i64 0, .map none]
                  have q0 := hw.cell 0 (v := .slice none 0 0) rfl
                  have q1 := hw.cell 1 (v := .int .i64 0) rfl
                  have q2 := hw.cell 2 (v := .int .i64 0) rfl
                  have q3 := hw.cell 3 (v := .map none) rfl
                  refine bodyPost_ret (v := .tuple #[.agg #[.slice none 0 0, .int .i64 0, .int .i64 0, .map none], atV w5.heap.size]) (by simp [results, Tryz.results31, go_sem, q0, q1, q2, q3]) rfl ?_
                  have hne : w5.heap.size ≠ R := by have := HRl.out; omega
                  unfold JoAt
                  rw [Hjq.out, Hend.out]
                  simp only [fidx_none (Hno.out.1 (by decide)), Hfi.out]
                  refine ⟨_, rfl, by simp, ⟨w5.heap.size, _, rfl, ?_, rfl⟩, grown_setRow (grown_trans HG0.out (below_is_grown (HBz.out.mono Hlt2.out.2))) (by have := HRe.out; omega) _⟩
                  exact HAt.out.kept (r := some R) ⟨rfl, rfl, rfl, by simp [World.setRow], fun i _ hi => setRow_other _ R i _ (fun e => hi (by rw [e]))⟩ (fun e => hne (Option.some.inj e))
              · obtain rfl : m = N := by omega
                have mn : ¬ ((m : Int) < (m : Int)) := by omega
                have Hall := hid (any_all Hps.out Hin.out)
                clear hlt
                go_wp2
                go_roundw
                case rel => exact ⟨2, rfl, hid (.inr (.inr rfl)), HR, hid ⟨fun _ => Hno.out.1 (by decide), fun _ => Hall.out⟩⟩
                case measure => simp [intOf]
          · obtain ⟨⟨qi, qa⟩, hq⟩ : ∃ q, lkD J.M nmMainL = q := ⟨_, rfl⟩
            have Hq := hid hq
            have hl := HRF.out.1.j.mp.look_of nmMainL hq
            unfold nmMainL at hl
            have hfs := field_spot qi qa
            have m3 := HRF.out.1.j.row.cell 3 (v := .map (some B)) rfl
            have Hm := hid (Hno.out.1 (by decide))
            have Hl := hid (Hno.out.2 (by decide))
            clear hq Hz Hno
            by_cases h2 : qi = 2
            · subst h2
              have hone : (#[.slice sp N sc, .int .i64 (J.d : Int), .int .i64 (J.c : Int), .map (some B)] : Array Value).all (·.oneCell') = true := by simp [Value.oneCell']
              have Hone := hid hone
              clear hone
              go_wp2_with (first
                | (refine wpList_load_rw rfl 85 _ rfl rfl HRF.out.1.j.row rfl Tryz.underlying85 info_joined ?_)
                | (refine wpList_store_rw rfl 85 _ _ rfl rfl rfl HRF.out.1.res info_joined rfl Hone.out ?_)
                | fail)
              have hw := HRF.out.1.res.row #[.slice sp N sc, .int .i64 (J.d : Int), .int .i64 (J.c : Int), .map (some B)]
              have q0 := hw.cell 0 (v := .slice sp N sc) rfl
              have q1 := hw.cell 1 (v := .int .i64 (J.d : Int)) rfl
              have q2 := hw.cell 2 (v := .int .i64 (J.c : Int)) rfl
              have q3 := hw.cell 3 (v := .map (some B)) rfl
              refine bodyPost_ret (v := .tuple #[.agg #[.slice sp N sc, .int .i64 (J.d : Int), .int .i64 (J.c : Int), .map (some B)], .nilIface]) (by simp [results, Tryz.results31, go_sem, q0, q1, q2, q3]) rfl ?_
              have hgr : wr.grownBy (wr.setRow R #[.slice sp N sc, .int .i64 (J.d : Int), .int .i64 (J.c : Int), .map (some B)]) (some R) := ⟨rfl, rfl, rfl, by simp [World.setRow], fun i _ hi => setRow_other wr R i _ (fun e => hi (by rw [e]))⟩
              have hlt := HRF.out.1.lt
              have hge := HRF.out.1.j.geB
              have hres := HRe.out
              have hsz := Hsz.out
              unfold JoAt
              rw [Hjq.out, Hend.out]
              simp only [fidx_none Hm.out, fidx_none Hl.out, Hq.out, if_true]
              refine ⟨.slice sp N sc, B, Q, rfl, ?_, HRF.out.1.j.mp.kept hgr (by simp; omega), HRF.out.1.j.eq, fun q hq => ?_, Hbd.out.1, Hbd.out.2.1, Hbd.out.2.2, grown_setRow (grown_trans HG0.out (below_is_grown (HRF.out.1.bw.mono hlt.2))) (by omega) _⟩
              · refine (own_base HRF.out.1.j.ps (show W.heap.size ≤ B by omega)).kept hgr ?_
                cases hv : (Value.slice sp N sc).ownBlock with
                | none => exact .inl rfl
                | some i => have h1 := (HRF.out.1.j.ps.lt i hv).1; exact .inr (by simp; omega)
              · obtain ⟨⟨o, hol, e1, e2⟩, hp⟩ := HRF.out.1.each q hq
                exact ⟨by rw [e1, e2]; exact HO.out.each o hol, hp⟩
            · have h2b : (qi != 2) = true := by simpa using h2
              have H2 := hid h2
              have e6 := (errc_below HE1.out HRF.out.1.bw HRF.out.1.lt.2).c6
              have e6d : wr.drew.cell? ⟨1, 0, none⟩ = some (errV (A 6)) := e6
              have e6s := set4_other (a := .slice none 0 0) (b := .int .i64 0) (c := .int .i64 0) (d := .map none) (R := R) (show 1 ≠ R by have h1 := World.block_lt_of_cell? W _ HE.out.c6; have h2 := HRe.out; simp only at h1; omega) e6
              have r0 := HRF.out.1.res.cell 0 (v := .slice none 0 0) rfl
              have r1 := HRF.out.1.res.cell 1 (v := .int .i64 0) rfl
              have r2 := HRF.out.1.res.cell 2 (v := .int .i64 0) rfl
              have r3 := HRF.out.1.res.cell 3 (v := .map none) rfl
              have z0 := HRF.out.1.res.free 0
              have z1 := HRF.out.1.res.free 1
              have z2 := HRF.out.1.res.free 2
              have z3 := HRF.out.1.res.free 3
              unfold errV at e6 e6d e6s
              clear h2
              go_wp2_with fail
              go_region
              all_goals
                go_wp2
                have hw : RwAt ((((wr.setCell ⟨R, 0, none⟩ (.slice none 0 0)).setCell ⟨R, 1, none⟩ (.int .i64 0)).setCell ⟨R, 2, none⟩ (.int .i64 0)).setCell ⟨R, 3, none⟩ (.map none)).drew R 85 #[.slice none 0 0, .int .i64 0, .int .i64 0, .map none] := by
                  have := ((((HRF.out.1.res.set 0 (.slice none 0 0)).set 1 (.int .i64 0)).set 2 (.int .i64 0)).set 3 (.map none)).kept0 (grown_drew (grown_refl _ none))
                  simpa using this
                have q0 := hw.cell 0 (v := .slice none 0 0) rfl
                have q1 := hw.cell 1 (v := .int .i64 0) rfl
                have q2 := hw.cell 2 (v := .int .i64 0) rfl
                have q3 := hw.cell 3 (v := .map none) rfl
                clear r0 r1 r2 r3 z0 z1 z2 z3 e6 e6d e6s
                refine bodyPost_ret (v := .tuple #[.agg #[.slice none 0 0, .int .i64 0, .int .i64 0, .map none], errV (A 6)]) (by simp [results, Tryz.results31, go_sem, q0, q1, q2, q3, errV]) rfl ?_
                unfold JoAt
                rw [Hjq.out, Hend.out]
                simp only [fidx_none Hm.out, fidx_none Hl.out, Hq.out, if_neg H2.out]
                refine ⟨_, rfl, by simp [errV], rfl, ?_⟩
                exact grown_drew (grown_new' (grown_trans (grown_none (grown_trans HG0.out (below_is_grown (HRF.out.1.bw.mono HRF.out.1.lt.2)))) (grown_setCell (grown_setCell (grown_setCell (grown_setCell (grown_refl wr _) _ _) _ _) _ _) _ _)) (fun j hj => by obtain rfl := Option.some.inj hj; have := HRe.out; omega))
end Go.Proofs.YtogdpaaofihkgaaGreatDoor
namespace Go.Proofs.YtogdpaaofihkgaaGreatDoor
open Go.RowKit
def sumDL (l : List Pt) : Nat := (l.map fun p => p.x.D.length).sum
def sumCL (l : List Pt) : Nat := (l.map fun p => p.x.C.length).sum
theorem sumDL_snoc (l : List Pt) (p : Pt) : sumDL (l ++ [p]) = sumDL l + p.x.D.length := by simp [sumDL]
theorem sumCL_snoc (l : List Pt) (p : Pt) : sumCL (l ++ [p]) = sumCL l + p.x.C.length := by simp [sumCL]
/-- what holds of objects that are joined so far -/
structure JnOk (J : Jn) : Prop where
  d : J.d = sumDL J.ps
  c : J.c = sumCL J.ps
  v : ∀ p ∈ J.ps, validP (woC p.x) = none
  o : ∀ k p, J.ps[k]? = some p → p.d = sumDL (J.ps.take k) ∧ p.c = sumCL (J.ps.take k)
  m : ∀ e ∈ J.M, ∃ p ∈ J.ps, ∃ s ∈ p.x.S, globB s = true ∧ e.2 = ptSp p s
theorem addS_ok {p : Pt} {P : Sp → Prop} : ∀ (S : List Sy) (M M' : Mp), addS p S M = some M' → (∀ e ∈ M, P e.2) → (∀ s ∈ S, globB s = true → P (ptSp p s)) → ∀ e ∈ M', P e.2
  | [], M, M', h, hM, _ => by obtain rfl := Option.some.inj h; exact hM
  | s :: r, M, M', h, hM, hS => by
    unfold addS at h
    by_cases hg : globB s = false
    · rw [if_pos hg] at h
      exact addS_ok r M M' h hM (fun s hs => hS s (List.mem_cons_of_mem _ hs))
    · rw [if_neg hg] at h
      split at h
      · cases h
      · refine addS_ok r _ M' h (fun e he => ?_) (fun s hs => hS s (List.mem_cons_of_mem _ hs))
        rcases List.mem_append.1 he with h1 | h1
        · exact hM e h1
        · obtain rfl := List.mem_singleton.1 h1
          exact hS s List.mem_cons_self (by simpa using hg)
theorem jn0_ok : JnOk jn0 := ⟨rfl, rfl, (by intro p hp; cases hp), (by intro k p hk; simp [jn0] at hk), (by intro e he; cases he)⟩
theorem jnAdd_ok {x : PO} {J J' : Jn} (h : JnOk J) (ha : jnAdd J x = .inr J') : JnOk J' := by
  obtain ⟨hv, hps, hd, hc⟩ := jnAdd_inr ha
  refine ⟨by rw [hd, hps, sumDL_snoc, h.d], by rw [hc, hps, sumCL_snoc, h.c], ?_, ?_, ?_⟩
  · intro p hp
    rw [hps] at hp
    rcases List.mem_append.1 hp with h1 | h1
    · exact h.v p h1
    · obtain rfl := List.mem_singleton.1 h1; exact hv
  · intro k p hk
    rw [hps] at hk ⊢
    by_cases hkl : k < J.ps.length
    · rw [List.getElem?_append_left hkl] at hk
      rw [List.take_append_of_le_length (Nat.le_of_lt hkl)]
      exact h.o k p hk
    · rw [List.getElem?_append_right (by omega)] at hk
      have hk0 : k = J.ps.length := by
        have := (List.getElem?_eq_some_iff.1 hk).1
        simp only [List.length_singleton] at this
        omega
      subst hk0
      rw [Nat.sub_self] at hk
      obtain rfl := Option.some.inj hk
      rw [List.take_append_of_le_length (Nat.le_refl _), List.take_length]
      exact ⟨h.d, h.c⟩
  · intro e he
    unfold jnAdd at ha
    rw [hv] at ha
    simp only at ha
    cases hs : addS ⟨x, J.d, J.c⟩ x.S J.M with
    | none => rw [hs] at ha; cases ha
    | some M =>
      rw [hs] at ha
      cases ha
      refine addS_ok (P := fun q => ∃ p ∈ J.ps ++ [⟨x, J.d, J.c⟩], ∃ s ∈ p.x.S, globB s = true ∧ q = ptSp p s) x.S J.M M hs (fun e he => ?_) (fun s hs hg => ?_) e he
      · obtain ⟨p, hp, r⟩ := h.m e he
        exact ⟨p, List.mem_append_left _ hp, r⟩
      · exact ⟨_, List.mem_append_right _ List.mem_cons_self, s, hs, hg, rfl⟩
theorem jnRun_ok : ∀ (l : List PO) (J J' : Jn), JnOk J → jnRun l J = (none, J') → JnOk J'
  | [], J, J', h, hr => by cases hr; exact h
  | x :: l, J, J', h, hr => by
    cases ha : jnAdd J x with
    | inl f =>
      rw [jnRun_no ha] at hr
      have hJ : J = J' := congrArg Prod.snd hr
      rw [← hJ]; exact h
    | inr J1 =>
      rw [jnRun_yes ha] at hr
      exact jnRun_ok l J1 J' (jnAdd_ok h ha) hr
/-- what join lets by -/
theorem joinP_ok {xs : List PO} {J : Jn} (h : joinP xs = (none, J)) : JnOk J ∧ J.ps.any (missB J.M) = false ∧ J.ps.any (leadB J.M) = false ∧ (lkD J.M nmMainL).i = 2 := by
  unfold joinP at h
  by_cases hl : 16 < xs.length
  · rw [if_pos hl] at h; cases h
  · rw [if_neg hl] at h
    cases hr : jnRun xs jn0 with
    | mk f J1 =>
      rw [hr] at h
      cases f with
      | some f => cases h
      | none =>
        simp only at h
        cases hm : J1.ps.findIdx? (missB J1.M) with
        | some k => rw [hm] at h; cases h
        | none =>
          rw [hm] at h
          simp only at h
          cases hd : J1.ps.findIdx? (leadB J1.M) with
          | some k => rw [hd] at h; cases h
          | none =>
            rw [hd] at h
            simp only at h
            by_cases hi : (lkD J1.M nmMainL).i = 2
            · rw [if_pos hi] at h
              cases h
              refine ⟨jnRun_ok xs jn0 _ jn0_ok hr, ?_, ?_, hi⟩
              · rw [List.findIdx?_eq_none_iff] at hm
                simpa [List.any_eq_false] using hm
              · rw [List.findIdx?_eq_none_iff] at hd
                simpa [List.any_eq_false] using hd
            · rw [if_neg hi] at h; cases h
/-! ### all as one -/
theorem foldl_whAdd (M : Mp) : ∀ (l : List Pt) (W : Wh), (l.foldl (whAdd M) W).C = W.C ++ (l.map (·.x.C)).flatten ∧ (l.foldl (whAdd M) W).D = W.D ++ (l.map (·.x.D)).flatten ∧ (l.foldl (whAdd M) W).K = W.K ++ (l.map (·.x.M)).flatten ∧
    (l.foldl (whAdd M) W).R = W.R ++ (l.map fun p => p.x.R.map (fxOf M p p.d)).flatten ∧ (l.foldl (whAdd M) W).Q = W.Q ++ (l.map fun p => p.x.Q.map (fxOf M p p.c)).flatten
  | [], W => by simp
  | p :: l, W => by
    rw [List.foldl_cons]
    obtain ⟨a, b, c, d, e⟩ := foldl_whAdd M l (whAdd M W p)
    refine ⟨by rw [a]; simp [whAdd], by rw [b]; simp [whAdd], by rw [c]; simp [whAdd], by rw [d]; simp [whAdd], by rw [e]; simp [whAdd]⟩
theorem whP_C (J : Jn) : (whP J).C = (J.ps.map (·.x.C)).flatten := by have h := (foldl_whAdd J.M J.ps wh0).1; unfold whP; rw [h]; rfl
theorem whP_D (J : Jn) : (whP J).D = (J.ps.map (·.x.D)).flatten := by have h := (foldl_whAdd J.M J.ps wh0).2.1; unfold whP; rw [h]; rfl
theorem whP_K (J : Jn) : (whP J).K = (J.ps.map (·.x.M)).flatten := by have h := (foldl_whAdd J.M J.ps wh0).2.2.1; unfold whP; rw [h]; rfl
theorem whP_R (J : Jn) : (whP J).R = (J.ps.map fun p => p.x.R.map (fxOf J.M p p.d)).flatten := by have h := (foldl_whAdd J.M J.ps wh0).2.2.2.1; unfold whP; rw [h]; rfl
theorem whP_Q (J : Jn) : (whP J).Q = (J.ps.map fun p => p.x.Q.map (fxOf J.M p p.c)).flatten := by have h := (foldl_whAdd J.M J.ps wh0).2.2.2.2; unfold whP; rw [h]; rfl
theorem len_flat {α β : Type} (f : α → List β) (l : List α) : ((l.map f).flatten).length = (l.map fun a => (f a).length).sum := by
  rw [List.length_flatten, List.map_map]; rfl
theorem whP_Cl {J : Jn} (h : JnOk J) : (whP J).C.length = J.c := by rw [whP_C, len_flat, h.c]; rfl
theorem whP_Dl {J : Jn} (h : JnOk J) : (whP J).D.length = J.d := by rw [whP_D, len_flat, h.d]; rfl
theorem whP_Kl {J : Jn} (h : JnOk J) : (whP J).K.length = J.c := by
  rw [whP_K, len_flat, h.c]
  unfold sumCL
  congr 1
  refine List.map_congr_left fun p hp => ?_
  have h1 := (valid_ok (h.v p hp)).len
  have h2 : (woC p.x).C.length = p.x.C.length := woCn_length p.x _
  rw [h2] at h1
  exact h1
end Go.Proofs.YtogdpaaofihkgaaGreatDoor
namespace Go.Proofs.YtogdpaaofihkgaaGreatDoor
open Go.RowKit
theorem first_mark {x : PO} (hv : validP (woC x) = none) (hC : 0 < x.C.length) : x.M[0]? ≠ some 0 := by
  intro h0
  have hok := valid_ok hv
  have hCl : (woC x).C.length = x.C.length := woCn_length x _
  have hw0 := hok.word 0 (by rw [hCl]; exact hC)
  have hm0 : mapN (woC x) 0 = 0 := by
    show x.M.getD 0 0 = 0
    rw [List.getD_eq_getElem?_getD, h0]; rfl
  unfold wordF opB at hw0
  rw [hm0] at hw0
  simp at hw0
  exact absurd hw0 (by decide)
/-- a branch goes to no data of its own object -/
theorem branch_sym {x : PO} (hv : validP (woC x) = none) {r : Rl} (hr : r ∈ x.Q) (h2 : r.k = 2) : (symN x r.s.toNat).i ≠ 1 := by
  have hok := valid_ok hv
  have hQl : (woC x).Q.length = x.Q.length := woQn_length x _
  obtain ⟨k, hk⟩ := List.getElem?_of_mem hr
  have hkl := (List.getElem?_eq_some_iff.1 hk).1
  have hwq : woQ x r = r := by unfold woQ; rw [if_neg (by rw [h2]; simp)]
  have hw : (woC x).Q[k]? = some r := by
    show (woQn x x.Q.length)[k]? = _
    rw [woQn_get hk, if_pos hkl, hwq]
  have h1 := hok.cod k (by rw [hQl]; exact hkl)
  unfold codeF at h1
  rw [rlN_get hw] at h1
  split at h1
  · cases h1
  · split at h1
    · cases h1
    · rename_i _ h3
      rw [not_or] at h3
      have h4 : repB (woC x) r = true := by simpa using h3.1
      unfold repB at h4
      rw [if_pos h2, Bool.and_eq_true] at h4
      have h5 := h4.2
      unfold toB at h5
      have hs : symN (woC x) r.s.toNat = symN x r.s.toNat := rfl
      rw [hs] at h5
      simpa using h5
theorem sumCL_take (l : List Pt) (k : Nat) : sumCL (l.take k) ≤ sumCL l := by
  have h : l = l.take k ++ l.drop k := (List.take_append_drop k l).symm
  conv => rhs; rw [h]
  unfold sumCL
  rw [List.map_append, List.sum_append]
  exact Nat.le_add_right _ _
theorem sumDL_take (l : List Pt) (k : Nat) : sumDL (l.take k) ≤ sumDL l := by
  have h : l = l.take k ++ l.drop k := (List.take_append_drop k l).symm
  conv => rhs; rw [h]
  unfold sumDL
  rw [List.map_append, List.sum_append]
  exact Nat.le_add_right _ _
theorem in_total {J : Jn} (h : JnOk J) {p : Pt} (hp : p ∈ J.ps) : p.c + p.x.C.length ≤ J.c ∧ p.d + p.x.D.length ≤ J.d := by
  obtain ⟨k, hk⟩ := List.getElem?_of_mem hp
  obtain ⟨hd, hc⟩ := h.o k p hk
  have h1 := sumCL_take J.ps (k + 1)
  have h2 := sumDL_take J.ps (k + 1)
  rw [List.take_add_one, hk] at h1 h2
  have e1 := sumCL_snoc (J.ps.take k) p
  have e2 := sumDL_snoc (J.ps.take k) p
  simp only [Option.toList_some] at h1 h2
  rw [e1] at h1
  rw [e2] at h2
  rw [h.c, h.d, hc, hd]
  exact ⟨h1, h2⟩
theorem lkp_mem : ∀ {M : Mp} {n : ByteArray} {s : Sp}, lkp M n = some s → ∃ e ∈ M, e.2 = s
  | [], n, s, h => by cases h
  | p :: M, n, s, h => by
    rw [lkp_cons] at h
    by_cases e : p.1 = n
    · rw [if_pos e] at h
      exact ⟨p, List.mem_cons_self, Option.some.inj h⟩
    · rw [if_neg e] at h
      obtain ⟨q, hq, r⟩ := lkp_mem h
      exact ⟨q, List.mem_cons_of_mem _ hq, r⟩
/-- where a symbol of a part's own stands, in code -/
theorem ptSp_code {J : Jn} (h : JnOk J) {p : Pt} (hp : p ∈ J.ps) (ho : PtOk p) {s : Sy} (hs : s ∈ p.x.S) (h2 : s.i = 2) : ∃ c : Nat, (ptSp p s).a = c ∧ c < J.c := by
  obtain ⟨⟨v0, _⟩, _, _, h4⟩ := ho.s s hs
  obtain ⟨h5, _⟩ := h4 h2
  have h6 := (in_total h hp).1
  refine ⟨p.c + s.v.toNat, ?_, by omega⟩
  unfold ptSp
  rw [if_neg (by omega)]
  simp only
  omega
theorem branch_ok {J : Jn} (h : JnOk J) (ho : ∀ p ∈ J.ps, PtOk p) (hm : J.ps.any (missB J.M) = false) (hl : J.ps.any (leadB J.M) = false) :
    ∀ r ∈ (whP J).Q, r.k = 2 → ∃ a c : Nat, r.a = a ∧ a < (whP J).C.length ∧ r.t.a = c ∧ c < (whP J).C.length := by
  intro r hr h2
  rw [whP_Cl h]
  rw [whP_Q] at hr
  obtain ⟨l, hl1, hr⟩ := List.mem_flatten.1 hr
  obtain ⟨p, hp, rfl⟩ := List.mem_map.1 hl1
  obtain ⟨r0, hr0, rfl⟩ := List.mem_map.1 hr
  have hpo := ho p hp
  obtain ⟨⟨a0, a1⟩, ⟨s0, s1⟩, _, _⟩ := hpo.q r0 hr0
  have hin := (in_total h hp).1
  have h20 : r0.k = 2 := h2
  obtain ⟨s, hs⟩ : ∃ s, p.x.S[r0.s.toNat]? = some s := ⟨_, List.getElem?_eq_getElem (by omega)⟩
  have hsn : symN p.x r0.s.toNat = s := by unfold symN; rw [List.getD_eq_getElem?_getD, hs]; rfl
  have hsm := List.mem_of_getElem? hs
  have hn1 := branch_sym (h.v p hp) hr0 h20
  rw [hsn] at hn1
  have hi := (hpo.s s hsm).2.1
  have hT : ∃ c : Nat, (spOf J.M p s).a = c ∧ c < J.c := by
    unfold spOf
    by_cases i3 : s.i = 3
    · rw [if_pos i3]
      rw [List.any_eq_false] at hm hl
      have hm1 := hm p hp
      unfold missB at hm1
      rw [Bool.not_eq_true, List.any_eq_false] at hm1
      have hm2 := hm1 s hsm
      simp only [i3, decide_true, Bool.and_true, Bool.not_eq_true', Bool.not_eq_false] at hm2
      obtain ⟨q, hq⟩ := Option.isSome_iff_exists.1 hm2
      have hl1 := hl p hp
      unfold leadB at hl1
      rw [Bool.not_eq_true, List.any_eq_false] at hl1
      have hl2 := hl1 r0 hr0
      rw [hsn, jump_two h20] at hl2
      unfold spOf at hl2
      rw [if_pos i3, lkD_some hq] at hl2
      simp only [i3, decide_true, Bool.true_and, Bool.and_true, decide_eq_true_eq] at hl2
      rw [lkD_some hq]
      obtain ⟨e, he, rfl⟩ := lkp_mem hq
      obtain ⟨p', hp', s', hs', hg, hq'⟩ := h.m e he
      have hs3 : s'.i ≠ 3 := by unfold globB at hg; simp at hg; exact hg.2
      have hi' := ((ho p' hp').s s' hs').2.1
      have hpi : e.2.i = s'.i := by rw [hq']; unfold ptSp; split <;> rfl
      rw [hpi] at hl2
      rw [hq']
      exact ptSp_code h hp' (ho p' hp') hs' (by omega)
    · rw [if_neg i3]
      exact ptSp_code h hp hpo hsm (by omega)
  obtain ⟨c, hc1, hc2⟩ := hT
  refine ⟨p.c + r0.a.toNat, c, ?_, by omega, ?_, hc2⟩
  · show ((p.c : Nat) : Int) + r0.a = _
    omega
  · show (spOf J.M p (symN p.x r0.s.toNat)).a = _
    rw [hsn]; exact hc1
/-- the first word of all code is no second one -/
theorem flat_first : ∀ (l : List Pt), (∀ p ∈ l, p.x.M.length = p.x.C.length) → (∀ p ∈ l, 0 < p.x.C.length → p.x.M[0]? ≠ some 0) → ((l.map (·.x.M)).flatten)[0]? ≠ some 0
  | [], _, _ => by simp
  | p :: l, hl, h => by
    rw [List.map_cons, List.flatten_cons]
    by_cases e : p.x.M.length = 0
    · rw [List.eq_nil_of_length_eq_zero e, List.nil_append]
      exact flat_first l (fun q hq => hl q (List.mem_cons_of_mem _ hq)) (fun q hq => h q (List.mem_cons_of_mem _ hq))
    · rw [List.getElem?_append_left (by omega)]
      exact h p List.mem_cons_self (by have := hl p List.mem_cons_self; omega)
theorem whP_first {J : Jn} (h : JnOk J) (ho : ∀ p ∈ J.ps, PtOk p) : (whP J).K[0]? ≠ some 0 := by
  rw [whP_K]
  exact flat_first J.ps (fun p hp => (ho p hp).len) (fun p hp hC => first_mark (h.v p hp) hC)
end Go.Proofs.YtogdpaaofihkgaaGreatDoor

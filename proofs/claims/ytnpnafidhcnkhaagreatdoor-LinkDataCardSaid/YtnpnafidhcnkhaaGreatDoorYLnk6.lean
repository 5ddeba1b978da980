/- Package link: objects joined: contract. (Made by golnk6.py.) -/
import Derived.Test.YtnpnafidhcnkhaaGreatDoorYLnk5
import Derived.Test.YtnpnafidhcnkhaaGreatDoorYLnk6a
import Derived.Test.YtnpnafidhcnkhaaGreatDoorYLnkP
namespace Go.Proofs.YtnpnafidhcnkhaaGreatDoor
open Go.RowKit
theorem zero_joined (w : World) : (zeroValue 99).run Tryz.prog w = .ok (.agg #[.slice none 0 0, .int .i64 0, .int .i64 0, .map none]) w := by kernel_rfl
theorem build_joined0 (w : World) : (Instr.build 99 #[]).run Tryz.prog w = .ok (.agg #[.slice none 0 0, .int .i64 0, .int .i64 0, .map none]) w := by kernel_rfl
theorem build_joined (b : Nat) (w : World) : (Instr.build 99 #[(3, .map (some b))]).run Tryz.prog w = .ok (.agg #[.slice none 0 0, .int .i64 0, .int .i64 0, .map (some b)]) w := by kernel_rfl
theorem build_at (k : Int) (a : TypeId) (v : Value) (w : World) : (Instr.build 91 #[(0, .int .i64 k), (1, .iface a v)]).run Tryz.prog w = .ok (.agg #[.int .i64 k, .iface a v]) w := by kernel_rfl
theorem zj_one : (#[.slice none 0 0, .int .i64 0, .int .i64 0, .map none] : Array Value).all (·.oneCell') = true := by simp [Value.oneCell']
theorem set4_other {w : World} {G R k : Nat} {a b c d v : Value} (h : G ≠ R) (hc : w.cell? ⟨G, k, none⟩ = some v) :
    ((((w.setCell ⟨R, 0, none⟩ a).setCell ⟨R, 1, none⟩ b).setCell ⟨R, 2, none⟩ c).setCell ⟨R, 3, none⟩ d).cell? ⟨G, k, none⟩ = some v :=
  (World.cell?_of_block (by rw [heap_setCell_other _ _ _ _ h, heap_setCell_other _ _ _ _ h, heap_setCell_other _ _ _ _ h, heap_setCell_other _ _ _ _ h])).trans hc
theorem RwAt.below {w w1 : World} {R b : Nat} {t : TypeId} {cs : Array Value} (h : RwAt w R t cs) (hb : Below b w w1) (hl : R < b) : RwAt w1 R t cs := ⟨(hb.block _ hl).trans h.blk⟩
theorem fidx_some {α : Type} {f : α → Bool} : ∀ {l : List α} {k : Nat} {a : α}, l[k]? = some a → f a = true → (l.take k).any f = false → l.findIdx? f = some k
  | [], _, _, h, _, _ => by simp at h
  | x :: l, 0, a, h, hf, _ => by
    obtain rfl : x = a := by simpa using h
    rw [List.findIdx?_cons, if_pos hf]
  | x :: l, k + 1, a, h, hf, hn => by
    rw [List.take_succ_cons, List.any_cons, Bool.or_eq_false_iff] at hn
    rw [List.findIdx?_cons, if_neg (by rw [hn.1]; simp), fidx_some (by simpa using h) hf hn.2]
    rfl
theorem fidx_none {α : Type} {f : α → Bool} {l : List α} (h : l.any f = false) : l.findIdx? f = none := by
  rw [List.findIdx?_eq_none_iff]
  intro x hx
  cases e : f x with
  | false => rfl
  | true => rw [List.any_eq_true.2 ⟨x, hx, e⟩] at h; cases h
theorem jnRun_no {x : PO} {r : List PO} {J : Jn} {f : Fl} (h : jnAdd J x = .inl f) : jnRun (x :: r) J = (fault (some J.ps.length) f, J) := by rw [jnRun, h]
theorem jnRun_yes {x : PO} {r : List PO} {J J' : Jn} (h : jnAdd J x = .inr J') : jnRun (x :: r) J = jnRun r J' := by rw [jnRun, h]
theorem jnAdd_inr {x : PO} {J J' : Jn} (h : jnAdd J x = .inr J') : validP (woC x) = none ∧ J'.ps = J.ps ++ [⟨x, J.d, J.c⟩] ∧ J'.d = J.d + x.D.length ∧ J'.c = J.c + x.C.length := by
  unfold jnAdd at h
  cases hv : validP (woC x) with
  | some f => rw [hv] at h; cases h
  | none =>
    rw [hv] at h
    simp only at h
    cases ha : addS ⟨x, J.d, J.c⟩ x.S J.M with
    | none => rw [ha] at h; cases h
    | some M => rw [ha] at h; cases h; exact ⟨rfl, rfl, rfl, rfl⟩
/-- what is wrong, where another block is written -/
theorem flt_row {A : Nat → Addr} {w : World} {v : Value} {y : Fl} {R : Nat} {t : TypeId} {a b c d : Value} (h : FltAt A w v y) (hr : RwAt w R t #[a, b, c, d]) (cs : Array Value) : FltAt A (w.setRow R cs) v y := by
  match y, h with
  | none, h => exact h
  | some (c, none), h => exact h
  | some (c, some p), ⟨B, hv, hb⟩ =>
    refine ⟨B, hv, hb.kept (r := some R) ⟨rfl, rfl, rfl, by simp [World.setRow], fun i _ hi => setRow_other w R i _ (fun e => hi (by rw [e]))⟩ (fun e => ?_)⟩
    obtain rfl := Option.some.inj e
    have h2 := hb.blk.symm.trans hr.blk
    simp at h2
/-- where the loop over the objects stands -/
structure JoW (b0 : Nat) (W w : World) (R G B : Nat) (pv : Value) (Q : List Pv) (J : Jn) (L : List Ob) : Prop where
  j : JnAt b0 w G B pv Q J
  bw : Below b0 W w
  res : RwAt w R 99 #[.slice none 0 0, .int .i64 0, .int .i64 0, .map none]
  lt : R < b0 ∧ W.heap.size ≤ b0
  each : ∀ q ∈ Q, (∃ o ∈ L, q.V = o.V ∧ q.p.x = o.x) ∧ PtOk q.p
theorem JoW.kept0 {b0 : Nat} {W w w1 : World} {R G B : Nat} {pv : Value} {Q : List Pv} {J : Jn} {L : List Ob} (h : JoW b0 W w R G B pv Q J L) (hg : w.grownBy w1 none) : JoW b0 W w1 R G B pv Q J L :=
  ⟨h.j.kept0 hg, below_0 h.bw hg h.j.size, h.res.kept0 hg, h.lt, h.each⟩
theorem JoW.oat {b0 : Nat} {W w : World} {R G B : Nat} {pv : Value} {Q : List Pv} {J : Jn} {L : List Ob} (h : JoW b0 W w R G B pv Q J L) {v : Value} (ho : ObsAt W v L) {q : Pv} (hq : q ∈ Q) : OAt w q.V q.p.x := by
  obtain ⟨⟨o, hol, e1, e2⟩, _⟩ := h.each q hq
  rw [e1, e2]
  exact oat_below (ho.each o hol) h.bw h.lt.2
/-- behind join -/
def JoAt (W : World) (L : List Ob) (A : Nat → Addr) (e : Ending) (w' : World) : Prop :=
  match joinP (L.map (·.x)) with
  | (some f, _) => ∃ u, e = .returned (.tuple #[.agg #[.slice none 0 0, .int .i64 0, .int .i64 0, .map none], u]) ∧ u ≠ .nilIface ∧ LftAt A w' u (some f) ∧ W.grownBy w' none
  | (none, J) => ∃ pv B Q, e = .returned (.tuple #[.agg #[pv, .int .i64 (J.d : Int), .int .i64 (J.c : Int), .map (some B)], .nilIface]) ∧ w'.ownsRow W.heap.size 121 8 pv Q.length (ptsC Q) ∧ MpAt w' B J.M ∧ Q.map (·.p) = J.ps ∧ (∀ q ∈ Q, OAt W q.V q.p.x ∧ PtOk q.p) ∧ J.d ≤ 60000 ∧ J.c ≤ 60000 ∧ J.ps.length ≤ 16 ∧ W.grownBy w' none
set_option maxRecDepth 100000 in
set_option maxHeartbeats 32000000 in
theorem join_any {W : World} {v : Value} {L : List Ob} {A : Nat → Addr} (h : ObsAt W v L) (he : ErrC W A) (hb : ∀ o ∈ L, ObB o.x) (hl : L.length ≤ 1000000) :
    Calls Tryz.prog 37 #[v] W (JoAt W L A) := by
  obtain ⟨vp, vc, rfl⟩ := h.cs.len
  obtain ⟨n, hn⟩ : ∃ n, L.length = n := ⟨_, rfl⟩
  have Hn := hid hn
  have HO := hid h
  have HE := hid he
  have HB := hid hb
  rw [hn] at hl ⊢
  have n0 : (0 : Int) ≤ (n : Int) := by omega
  have n1 : (n : Int) ≤ 1000000 := by omega
  have Hzj := zero_joined
  have hb0 := build_joined0
  have HR0 := hid (RwAt.new W 99 #[.slice none 0 0, .int .i64 0, .int .i64 0, .map none])
  have HG0 := hid (World.grownBy_alloc W (.cells #[.slice none 0 0, .int .i64 0, .int .i64 0, .map none] 99) none)
  have HS0 : Hid ((W.alloc (.cells #[.slice none 0 0, .int .i64 0, .int .i64 0, .map none] 99)).heap.size = W.heap.size + 1) := hid (by simp)
  clear h he hb hl hn
  go_enter Tryz.func37, Tryz.ntmps37
  go_upto_region 1 with (fail)
  obtain ⟨R, hR⟩ : ∃ R, W.heap.size = R := ⟨_, rfl⟩
  rw [hR] at HR0 HS0 ⊢
  have HRe := hid hR
  clear hR
  generalize W.alloc (.cells #[.slice none 0 0, .int .i64 0, .int .i64 0, .map none] 99) = w1 at HR0 HG0 HS0 ⊢
  by_cases h16 : 16 < n
  · have hgt : (16 : Int) < (n : Int) := by omega
    have Hj : Hid (joinP (L.map (·.x)) = (some (3, none, none), jn0)) := hid (by unfold joinP; rw [if_pos (by rw [List.length_map, Hn.out]; exact h16)])
    clear h16
    have e3 := (HE.out.kept0 HG0.out).c3
    have e3d : w1.drew.cell? ⟨1, 0, none⟩ = some (errV (A 3)) := e3
    have r0 := HR0.out.cell 0 (v := .slice none 0 0) rfl
    have r1 := HR0.out.cell 1 (v := .int .i64 0) rfl
    have r2 := HR0.out.cell 2 (v := .int .i64 0) rfl
    have r3 := HR0.out.cell 3 (v := .map none) rfl
    have z0 := HR0.out.free 0
    have z1 := HR0.out.free 1
    have z2 := HR0.out.free 2
    have z3 := HR0.out.free 3
    have e3s := set4_other (a := .slice none 0 0) (b := .int .i64 0) (c := .int .i64 0) (d := .map none) (R := R) (show 1 ≠ R by have h1 := World.block_lt_of_cell? W _ HE.out.c3; have h2 := HRe.out; simp only at h1; omega) e3
    unfold errV at e3 e3d e3s
    go_wp2_with fail
    go_region
    all_goals
      go_wp2
      have hw : RwAt ((((w1.setCell ⟨R, 0, none⟩ (.slice none 0 0)).setCell ⟨R, 1, none⟩ (.int .i64 0)).setCell ⟨R, 2, none⟩ (.int .i64 0)).setCell ⟨R, 3, none⟩ (.map none)).drew R 99 #[.slice none 0 0, .int .i64 0, .int .i64 0, .map none] := by
        have := ((((HR0.out.set 0 (.slice none 0 0)).set 1 (.int .i64 0)).set 2 (.int .i64 0)).set 3 (.map none)).kept0 (grown_drew (grown_refl _ none))
        simpa using this
      have q0 := hw.cell 0 (v := .slice none 0 0) rfl
      have q1 := hw.cell 1 (v := .int .i64 0) rfl
      have q2 := hw.cell 2 (v := .int .i64 0) rfl
      have q3 := hw.cell 3 (v := .map none) rfl
      clear r0 r1 r2 r3 z0 z1 z2 z3 e3 e3d e3s
      refine bodyPost_ret (v := .tuple #[.agg #[.slice none 0 0, .int .i64 0, .int .i64 0, .map none], errV (A 3)]) (by simp [results, Tryz.results37, go_sem, q0, q1, q2, q3, errV]) rfl ?_
      unfold JoAt
      rw [Hj.out]
      refine ⟨_, rfl, by simp [errV], rfl, ?_⟩
      exact grown_drew (grown_new' (grown_trans (grown_none HG0.out) (grown_setCell (grown_setCell (grown_setCell (grown_setCell (grown_refl w1 _) _ _) _ _) _ _) _ _)) (fun j hj => by obtain rfl := Option.some.inj hj; have := HRe.out; omega))
  · have hle : (n : Int) ≤ 16 := by omega
    have H16 := hid h16
    have Hjp : Hid (joinP (L.map (·.x)) = match jnRun (L.map (·.x)) jn0 with
      | (some f, J) => (some f, J)
      | (none, J) =>
        match J.ps.findIdx? (missB J.M) with
        | some k => (some (6, some k, none), J)
        | none => match J.ps.findIdx? (leadB J.M) with
          | some k => (some (1, some k, none), J)
          | none => if (lkD J.M nmMainL).i = 2 then (none, J) else (some (6, none, none), J)) := hid (by unfold joinP; rw [if_neg (by rw [List.length_map, Hn.out]; exact h16)]; rfl)
    clear h16 n1
    have hmk := mp_make
    have hbj := build_joined (R + 1)
    have HRa := hid (HR0.out.kept0 (grown_trans (World.grownBy_alloc w1 (.map #[] 0) none) (World.grownBy_alloc _ (.cells #[.slice none 0 0, .int .i64 0, .int .i64 0, .map (some (R + 1))] 99) none)))
    have HGa := hid (grown_trans HG0.out (grown_trans (World.grownBy_alloc w1 (.map #[] 0) none) (World.grownBy_alloc _ (.cells #[.slice none 0 0, .int .i64 0, .int .i64 0, .map (some (R + 1))] 99) none)))
    have HGr := hid (RwAt.new2 w1 (.map #[] 0) 99 #[.slice none 0 0, .int .i64 0, .int .i64 0, .map (some (R + 1))])
    have HMp := hid ((mp_new w1).alloc (.cells #[.slice none 0 0, .int .i64 0, .int .i64 0, .map (some (R + 1))] 99))
    have hsz := HS0.out
    rw [hsz] at HGr HMp
    have HG1 := hid (grown_trans (World.grownBy_alloc w1 (.map #[] 0) none) (World.grownBy_alloc (w1.alloc (.map #[] 0)) (.cells #[.slice none 0 0, .int .i64 0, .int .i64 0, .map (some (R + 1))] 99) none))
    have HJ0 : Hid (JoW (R + 1) w1 ((w1.alloc (.map #[] 0)).alloc (.cells #[.slice none 0 0, .int .i64 0, .int .i64 0, .map (some (R + 1))] 99)) R (R + 1 + 1) (R + 1) (.slice none 0 0) [] jn0 L) := hid ⟨⟨HGr.out, World.ownsRow_nil _ _ _ _, HMp.out, rfl, by omega, by simp [Value.ownBlock], by simp [Value.ownBlock], by omega, by omega⟩, by have h := grown_below HG1.out; rw [hsz] at h; exact h, HRa.out, ⟨by omega, by omega⟩, fun q hq => by cases hq⟩
    have HO1 := hid (HO.out.kept0 HG0.out)
    have HE1 := hid (HE.out.kept0 HG0.out)
    have Hsz := hid hsz
    clear HRa HGa HGr HMp hsz HG1
    go_upto_region 4 with (fail)
    rw [Hsz.out]
    obtain ⟨B, hB⟩ : ∃ B, R + 1 = B := ⟨_, rfl⟩
    obtain ⟨G, hG⟩ : ∃ G, B + 1 = G := ⟨_, rfl⟩
    rw [hB, hG] at HJ0 ⊢
    have HBR := hid hB
    clear hB hG hmk hbj
    generalize (w1.alloc (.map #[] 0)).alloc (.cells #[.slice none 0 0, .int .i64 0, .int .i64 0, .map (some B)] 99) = w2 at HJ0 ⊢
    have Hzo := zero_obj
    go_wp2
    go_loopw [22] (fun i wr => ∃ k : Nat, ∃ pv : Value, ∃ Q : List Pv, ∃ J : Jn, k ≤ n ∧ i = .int .i64 k ∧ Hid (JoW B w1 wr R G B pv Q J L) ∧ Hid (jnRun ((L.map (·.x)).drop k) J = jnRun (L.map (·.x)) jn0 ∧ J.ps.length = k ∧ J.d ≤ 2048 * k ∧ J.c ≤ 2048 * k)) (fun i _ => n - (intOf i).toNat)
    case atStart => exact ⟨0, _, _, _, Nat.zero_le _, rfl, HJ0, hid ⟨rfl, rfl, Nat.zero_le _, Nat.zero_le _⟩⟩
    case round =>
      obtain ⟨k, pv, Q, J, hk, rfl, HR, HRun⟩ := hrel
      clear HJ0
      have k0 : (0 : Int) ≤ (k : Int) := by omega
      by_cases hlt : k < n
      · have kn : (k : Int) < (n : Int) := by omega
        have Hlt := hid hlt
        obtain ⟨⟨V, x⟩, ho⟩ : ∃ o, L[k]? = some o := ⟨_, List.getElem?_eq_getElem (by rw [Hn.out]; exact hlt)⟩
        have Ho := hid ho
        have hoat := HO1.out.each _ (List.mem_of_getElem? ho)
        obtain ⟨p1, n1, c1, p2, n2, c2, p3, n3, c3, p4, n4, c4, p5, n5, c5, p6, n6, c6, hV⟩ := OAt.cells hoat
        simp only at hV hoat
        subst hV
        have Hoat := hid hoat
        have Hob := hid (HB.out _ (List.mem_of_getElem? ho))
        have hobs : ObsAt wr (.slice vp L.length vc) L := HO1.out.kept0 (below_is_grown (HR.out.bw.mono HR.out.lt.2))
        obtain ⟨bo, oo, co, hv, hbo, g0, g1, g2, g3, g4, g5⟩ := ob_item hobs ho
        rw [Hn.out] at hv
        simp only [Value.slice.injEq, true_and] at hv
        obtain ⟨rfl, rfl⟩ := hv
        simp only at g0 g1 g2 g3 g4 g5
        have hal := World.grownBy_alloc wr (.cells #[.slice p1 n1 c1, .slice p2 n2 c2, .slice p3 n3 c3, .slice p4 n4 c4, .slice p5 n5 c5, .slice p6 n6 c6] 41) none
        have HR2 := hid (HR.out.kept0 hal)
        have HX := hid (RwAt.new wr 41 #[.slice p1 n1 c1, .slice p2 n2 c2, .slice p3 n3 c3, .slice p4 n4 c4, .slice p5 n5 c5, .slice p6 n6 c6])
        clear hal ho hoat hobs hbo hlt
        go_upto_region 7 with (fail)
        clear g0 g1 g2 g3 g4 g5 HR
        obtain ⟨X, hX⟩ : ∃ X, wr.heap.size = X := ⟨_, rfl⟩
        rw [hX] at HX ⊢
        clear hX
        generalize wr.alloc (.cells #[.slice p1 n1 c1, .slice p2 n2 c2, .slice p3 n3 c3, .slice p4 n4 c4, .slice p5 n5 c5, .slice p6 n6 c6] 41) = w3 at HR2 HX ⊢
        have hbd : J.d ≤ 60000 ∧ J.c ≤ 60000 ∧ J.ps.length ≤ 20 := by have := HRun.out.2; have := H16.out; have := Hlt.out; omega
        have Hpk := hid (fun hv => ptok_of (d := J.d) (c := J.c) hv Hob.out (by omega) (by omega))
        have Hbd := hid hbd
        clear hbd
        go_wp2_with (first
          | (refine wpList_load_rw rfl 41 _ rfl rfl HX.out rfl Tryz.underlying41 info_object ?_)
          | fail)
        refine (add_any (V := ⟨.slice p1 n1 c1, .slice p2 n2 c2, .slice p3 n3 c3, .slice p4 n4 c4, .slice p5 n5 c5, .slice p6 n6 c6⟩) Hoat.out HE1.out HR2.out.lt.2 HR2.out.bw Hob.out HR2.out.j Hbd.out (fun hv => ⟨fun s hs => ((Hpk.out hv).s s hs).1, (Hpk.out hv).len2⟩)).mono ?_
        rintro e w4 ⟨u, rfl, hbw, hres⟩
        have HBw := hid hbw
        have Hrs := hid hres
        clear hbw hres
        cases hja : jnAdd J x with
        | inl f =>
          have hres := Hrs.out
          rw [hja] at hres
          obtain ⟨hne, hfl⟩ := hres
          obtain ⟨⟨fc, fp⟩, rfl⟩ : ∃ y, f = some y := by cases f with | none => exact absurd rfl hne | some y => exact ⟨y, rfl⟩
          obtain ⟨ut, up, rfl, hq0, hq1⟩ := flt_is_e hfl hne
          have Hfl := hid hfl
          have Hja := hid hja
          clear Hrs hfl hne hja hq0
          have hal := World.grownBy_alloc w4 (.cells #[.int .i64 (k : Int), .iface ut up] 91) none
          have HRz := hid ((HR0.out.below HBw.out HR2.out.lt.1).kept0 hal)
          have HAt := hid (RwAt.new w4 91 #[.int .i64 (k : Int), .iface ut up])
          have HFz := hid (Hfl.out.kept0 hal)
          have HBz := hid (below_0 HBw.out hal (by have h1 := HBw.out.size; have h2 := Hsz.out; have h3 := HBR.out; omega))
          have hba := build_at (k : Int) ut up
          clear hal
          go_wp2_with (first
            | (refine wpList_store_rw rfl 99 _ _ rfl rfl rfl HRz.out info_joined rfl zj_one ?_)
            | fail)
          have hw := HRz.out.row #[.slice none 0 0, .int .i64 0, .int .i64 0, .map none]
          have q0 := hw.cell 0 (v := .slice none 0 0) rfl
          have q1 := hw.cell 1 (v := .int .i64 0) rfl
          have q2 := hw.cell 2 (v := .int .i64 0) rfl
          have q3 := hw.cell 3 (v := .map none) rfl
          refine bodyPost_ret (v := .tuple #[.agg #[.slice none 0 0, .int .i64 0, .int .i64 0, .map none], atV w4.heap.size]) (by simp [results, Tryz.results37, go_sem, q0, q1, q2, q3]) rfl ?_
          have hrun : jnRun (L.map (·.x)) jn0 = (some (fc, some k, fp), J) := by
            rw [← HRun.out.1, drop_at (l := L.map (·.x)) (k := k) (a := x) (by rw [List.getElem?_map, Ho.out]; rfl), jnRun_no Hja.out, HRun.out.2.1]
            rfl
          have hlt := HAt.out.lt
          have hRlt := HRz.out.lt
          have hne : w4.heap.size ≠ R := by have h1 := HBw.out.size; have h2 := Hsz.out; omega
          unfold JoAt
          rw [Hjp.out, hrun]
          refine ⟨_, rfl, by simp, ⟨w4.heap.size, _, rfl, ?_, flt_row HFz.out HRz.out _⟩, grown_setRow (grown_trans HG0.out (below_is_grown (HBz.out.mono HR2.out.lt.2))) (by have := HRe.out; omega) _⟩
          exact HAt.out.kept (r := some R) ⟨rfl, rfl, rfl, by simp [World.setRow], fun i _ hi => setRow_other _ R i _ (fun e => hi (by rw [e]))⟩ (fun e => hne (Option.some.inj e))
        | inr J' =>
          have hres := Hrs.out
          rw [hja] at hres
          obtain ⟨rfl, pv', hj⟩ := hres
          have HJ := hid hj
          have Hja := hid hja
          clear Hrs hj hja
          go_wp2
          go_roundw
          case rel =>
            obtain ⟨hvn, e1, e2, e3⟩ := jnAdd_inr Hja.out
            have hsz := (Hpk.out hvn).len2
            refine ⟨k + 1, pv', _, J', Hlt.out, by go_num, hid ⟨HJ.out, HBw.out, HR0.out.below HBw.out HR2.out.lt.1, HR2.out.lt, fun q hq => ?_⟩, hid ⟨?_, ?_, ?_, ?_⟩⟩
            · rw [List.mem_append, List.mem_singleton] at hq
              rcases hq with hq | rfl
              · exact HR2.out.each q hq
              · exact ⟨⟨_, List.mem_of_getElem? Ho.out, rfl, rfl⟩, Hpk.out hvn⟩
            · rw [← HRun.out.1, drop_at (l := L.map (·.x)) (k := k) (a := x) (by rw [List.getElem?_map, Ho.out]; rfl), jnRun_yes Hja.out]
            · rw [e1, List.length_append, HRun.out.2.1]; rfl
            · have := HRun.out.2.2.1; simp only at hsz; omega
            · have := HRun.out.2.2.2; simp only at hsz; omega
          case measure => simp [intOf]; have := Hlt.out; omega
      · obtain rfl : k = n := by omega
        have kn : ¬ ((k : Int) < (k : Int)) := by omega
        have Hend : Hid (jnRun (L.map (·.x)) jn0 = (none, J)) := hid (by rw [← HRun.out.1, ← Hn.out, ← List.length_map (f := fun o : Ob => o.x), List.drop_length]; rfl)
        have Hjq := hid Hjp.out
        have Hbd : Hid (J.d ≤ 60000 ∧ J.c ≤ 60000 ∧ J.ps.length ≤ 16) := hid (by have := HRun.out.2; have := H16.out; omega)
        clear hlt HRun
        go_upto_region 12 with (fail)
        have hal := World.grownBy_alloc wr (.cells #[.func (.func 48) #[.pointer (some ⟨G, 0, none⟩)] #[], .func (.func 49) #[.pointer (some ⟨G, 0, none⟩)] #[]] 118) none
        have HF0 : Hid (JoW B w1 (wr.alloc (.cells #[.func (.func 48) #[.pointer (some ⟨G, 0, none⟩)] #[], .func (.func 49) #[.pointer (some ⟨G, 0, none⟩)] #[]] 118)) R G B pv Q J L ∧ RwAt (wr.alloc (.cells #[.func (.func 48) #[.pointer (some ⟨G, 0, none⟩)] #[], .func (.func 49) #[.pointer (some ⟨G, 0, none⟩)] #[]] 118)) wr.heap.size 118 #[.func (.func 48) #[.pointer (some ⟨G, 0, none⟩)] #[], .func (.func 49) #[.pointer (some ⟨G, 0, none⟩)] #[]]) := hid ⟨HR.out.kept0 hal, RwAt.new wr 118 #[.func (.func 48) #[.pointer (some ⟨G, 0, none⟩)] #[], .func (.func 49) #[.pointer (some ⟨G, 0, none⟩)] #[]]⟩
        clear hal HR
        obtain ⟨F, hF⟩ : ∃ F, wr.heap.size = F := ⟨_, rfl⟩
        rw [hF] at HF0 ⊢
        clear hF
        generalize wr.alloc (.cells #[.func (.func 48) #[.pointer (some ⟨G, 0, none⟩)] #[], .func (.func 49) #[.pointer (some ⟨G, 0, none⟩)] #[]] 118) = w2 at HF0 ⊢
        obtain ⟨N, hN⟩ : ∃ N, Q.length = N := ⟨_, rfl⟩
        have HN := hid hN
        have Hps : Hid (J.ps.length = N) := hid (by rw [← HF0.out.1.j.eq, List.length_map]; exact hN)
        have N0 : (0 : Int) ≤ (N : Int) := by omega
        have N1 : (N : Int) ≤ 16 := by have := Hbd.out.2.2; have := Hps.out; omega
        obtain ⟨sp, sc, hpv⟩ := own_slice HF0.out.1.j.ps
        rw [hN] at hpv
        subst hpv
        clear hN
        go_wp2
        go_loopw [42] (fun i wr => ∃ z : Int, i = .int .i64 z ∧ Hid (z = 0 ∨ z = 1 ∨ z = 2) ∧ Hid (JoW B w1 wr R G B (.slice sp N sc) Q J L ∧ RwAt wr F 118 #[.func (.func 48) #[.pointer (some ⟨G, 0, none⟩)] #[], .func (.func 49) #[.pointer (some ⟨G, 0, none⟩)] #[]]) ∧ Hid ((1 ≤ z → J.ps.any (missB J.M) = false) ∧ (2 ≤ z → J.ps.any (leadB J.M) = false))) (fun i _ => 2 - (intOf i).toNat)
        case atStart => exact ⟨0, rfl, hid (.inl rfl), HF0, hid ⟨fun h => absurd h (by decide), fun h => absurd h (by decide)⟩⟩
        case round =>
          obtain ⟨z, rfl, Hz, HRF, Hno⟩ := hrel
          clear HF0
          rcases Hz.out with rfl | rfl | rfl
          · have fz := HRF.out.2.cell 0 (v := .func (.func 48) #[.pointer (some ⟨G, 0, none⟩)] #[]) rfl
            have gz := HRF.out.1.j.row.cell 0 (v := .slice sp N sc) rfl
            have Hz0 := hid (trivial : True)
            have HRI := hid HRF.out
            have Hin0 : Hid ((J.ps.take 0).any (missB J.M) = false) := hid rfl
            clear Hz
            go_wp2
            clear fz gz HRF
            go_loopw [49] (fun i wr => ∃ m : Nat, m ≤ N ∧ i = .int .i64 m ∧ Hid (JoW B w1 wr R G B (.slice sp N sc) Q J L ∧ RwAt wr F 118 #[.func (.func 48) #[.pointer (some ⟨G, 0, none⟩)] #[], .func (.func 49) #[.pointer (some ⟨G, 0, none⟩)] #[]]) ∧ Hid ((J.ps.take m).any (missB J.M) = false)) (fun i _ => N - (intOf i).toNat)
            case atStart => exact ⟨0, Nat.zero_le _, rfl, HRI, Hin0⟩
            case round =>
              obtain ⟨m, hm, rfl, HR, Hin⟩ := hrel
              clear HRI Hin0
              have m0 : (0 : Int) ≤ (m : Int) := by omega
              by_cases hlt : m < N
              · have mn : (m : Int) < (N : Int) := by omega
                have Hlt := hid hlt
                obtain ⟨⟨V, ⟨x, pd, pc⟩⟩, hq⟩ : ∃ q, Q[m]? = some q := ⟨_, List.getElem?_eq_getElem (by rw [HN.out]; exact hlt)⟩
                have Hqm := hid (List.mem_of_getElem? hq)
                have Hps2 : Hid (J.ps[m]? = some ⟨x, pd, pc⟩) := hid (by rw [← HR.out.1.j.eq, List.getElem?_map, hq]; rfl)
                have Hpk := hid (HR.out.1.each _ Hqm.out).2
                have hoat := HR.out.1.oat HO1.out Hqm.out
                obtain ⟨p1, n1, c1, p2, n2, c2, p3, n3, c3, p4, n4, c4, p5, n5, c5, p6, n6, c6, hV⟩ := OAt.cells hoat
                simp only at hV hoat
                subst hV
                have Hoat := hid hoat
                have hps := CsAt.own HR.out.1.j.ps
                obtain ⟨bq, oq, cq, hv, hbq, g0, g1, g2, g3, g4, g5, g6, g7⟩ := pt_item hps hq
                rw [HN.out] at hv
                simp only [Value.slice.injEq, true_and] at hv
                obtain ⟨rfl, rfl⟩ := hv
                simp only at g0 g1 g2 g3 g4 g5 g6 g7
                have hal := World.grownBy_alloc wr (.cells #[.slice p1 n1 c1, .slice p2 n2 c2, .slice p3 n3 c3, .slice p4 n4 c4, .slice p5 n5 c5, .slice p6 n6 c6, .int .i64 (pd : Int), .int .i64 (pc : Int)] 121) none
                have HR2 : Hid (JoW B w1 (wr.alloc (.cells #[.slice p1 n1 c1, .slice p2 n2 c2, .slice p3 n3 c3, .slice p4 n4 c4, .slice p5 n5 c5, .slice p6 n6 c6, .int .i64 (pd : Int), .int .i64 (pc : Int)] 121)) R G B (.slice (some ⟨bq, oq, none⟩) N sc) Q J L ∧ RwAt (wr.alloc (.cells #[.slice p1 n1 c1, .slice p2 n2 c2, .slice p3 n3 c3, .slice p4 n4 c4, .slice p5 n5 c5, .slice p6 n6 c6, .int .i64 (pd : Int), .int .i64 (pc : Int)] 121)) F 118 #[.func (.func 48) #[.pointer (some ⟨G, 0, none⟩)] #[], .func (.func 49) #[.pointer (some ⟨G, 0, none⟩)] #[]]) := hid ⟨HR.out.1.kept0 hal, HR.out.2.kept0 hal⟩
                have HY := hid (RwAt.new wr 121 #[.slice p1 n1 c1, .slice p2 n2 c2, .slice p3 n3 c3, .slice p4 n4 c4, .slice p5 n5 c5, .slice p6 n6 c6, .int .i64 (pd : Int), .int .i64 (pc : Int)])
                have Hoat2 := hid (Hoat.out.kept0 hal)
                have Hzp := zero_part
                clear hal hq hoat hps hbq hlt
                go_upto_region 17 with (fail)
                clear g0 g1 g2 g3 g4 g5 g6 g7 HR Hzp
                obtain ⟨Y, hY⟩ : ∃ Y, wr.heap.size = Y := ⟨_, rfl⟩
                rw [hY] at HY ⊢
                clear hY
                generalize wr.alloc (.cells #[.slice p1 n1 c1, .slice p2 n2 c2, .slice p3 n3 c3, .slice p4 n4 c4, .slice p5 n5 c5, .slice p6 n6 c6, .int .i64 (pd : Int), .int .i64 (pc : Int)] 121) = w3 at HR2 HY Hoat2 ⊢
                obtain ⟨tt, htt⟩ : ∃ tt, missB J.M ⟨x, pd, pc⟩ = tt := ⟨_, rfl⟩
                have Htt := hid htt
                go_wp2_with (first
                  | (refine wpList_load_rw rfl 121 _ rfl rfl HY.out rfl Tryz.underlying121 info_part ?_)
                  | fail)
                refine (misses_any w3 ⟨.slice p1 n1 c1, .slice p2 n2 c2, .slice p3 n3 c3, .slice p4 n4 c4, .slice p5 n5 c5, .slice p6 n6 c6⟩ ⟨x, pd, pc⟩ Hoat2.out HR2.out.1.j.mr (errc_below HE1.out HR2.out.1.bw HR2.out.1.lt.2) Hpk.out.b.len.2.2.2.2.2 htt).mono ?_
                rintro e w5 ⟨rfl, hg⟩
                have HR5 : Hid (JoW B w1 w5 R G B (.slice (some ⟨bq, oq, none⟩) N sc) Q J L ∧ RwAt w5 F 118 #[.func (.func 48) #[.pointer (some ⟨G, 0, none⟩)] #[], .func (.func 49) #[.pointer (some ⟨G, 0, none⟩)] #[]]) := hid ⟨HR2.out.1.kept0 hg, HR2.out.2.kept0 hg⟩
                clear hg HR2 HY Hoat2 htt
                cases tt with
                | false =>
                  rw [show erV A 6 false = .nilIface from rfl]
                  have Hin2 := hid (any_take Hin.out Hps2.out Htt.out)
                  go_wp2
                  go_roundw
                  case rel => exact ⟨m + 1, Hlt.out, by go_num, HR5, Hin2⟩
                  case measure => simp [intOf]; have := Hlt.out; omega
                | true =>
                  have hq1 := fun W => run_err_neq_nil (A 6) W
                  have Hfi := hid (fidx_some Hps2.out Htt.out Hin.out)
                  rw [show erV A 6 true = errV (A 6) from rfl]
                  unfold errV at hq1 ⊢
                  have hal := World.grownBy_alloc w5 (.cells #[.int .i64 (m : Int), .iface 200 (.pointer (some (A 6)))] 91) none
                  have HRz := hid (HR5.out.1.res.kept0 hal)
                  have HAt := hid (RwAt.new w5 91 #[.int .i64 (m : Int), .iface 200 (.pointer (some (A 6)))])
                  have HBz := hid (below_0 HR5.out.1.bw hal HR5.out.1.j.size)
                  have Hlt2 := hid HR5.out.1.lt
                  have hba := build_at (m : Int) 200 (.pointer (some (A 6)))
                  have HRl := hid HR5.out.1.res.lt
                  clear hal HR5
                  go_wp2_with (first
                    | (refine wpList_store_rw rfl 99 _ _ rfl rfl rfl HRz.out info_joined rfl zj_one ?_)
                    | fail)
                  have hw := HRz.out.row #[.slice none 0 0, .int .i64 0, .int .i64 0, .map none]
                  have q0 := hw.cell 0 (v := .slice none 0 0) rfl
                  have q1 := hw.cell 1 (v := .int .i64 0) rfl
                  have q2 := hw.cell 2 (v := .int .i64 0) rfl
                  have q3 := hw.cell 3 (v := .map none) rfl
                  refine bodyPost_ret (v := .tuple #[.agg #[.slice none 0 0, .int .i64 0, .int .i64 0, .map none], atV w5.heap.size]) (by simp [results, Tryz.results37, go_sem, q0, q1, q2, q3]) rfl ?_
                  have hne : w5.heap.size ≠ R := by have := HRl.out; omega
                  unfold JoAt
                  rw [Hjq.out, Hend.out]
                  simp only [Hfi.out]
                  refine ⟨_, rfl, by simp, ⟨w5.heap.size, _, rfl, ?_, rfl⟩, grown_setRow (grown_trans HG0.out (below_is_grown (HBz.out.mono Hlt2.out.2))) (by have := HRe.out; omega) _⟩
                  exact HAt.out.kept (r := some R) ⟨rfl, rfl, rfl, by simp [World.setRow], fun i _ hi => setRow_other _ R i _ (fun e => hi (by rw [e]))⟩ (fun e => hne (Option.some.inj e))
              · obtain rfl : m = N := by omega
                have mn : ¬ ((m : Int) < (m : Int)) := by omega
                have Hall := hid (any_all Hps.out Hin.out)
                clear hlt
                go_wp2
                go_roundw
                case rel => exact ⟨1, rfl, hid (.inr (.inl rfl)), HR, hid ⟨fun _ => Hall.out, fun h => absurd h (by decide)⟩⟩
                case measure => simp [intOf]
          · have fz := HRF.out.2.cell 1 (v := .func (.func 49) #[.pointer (some ⟨G, 0, none⟩)] #[]) rfl
            have gz := HRF.out.1.j.row.cell 0 (v := .slice sp N sc) rfl
            have Hz0 := hid (trivial : True)
            have HRI := hid HRF.out
            have Hin0 : Hid ((J.ps.take 0).any (leadB J.M) = false) := hid rfl
            clear Hz
            go_wp2
            clear fz gz HRF
            go_loopw [49] (fun i wr => ∃ m : Nat, m ≤ N ∧ i = .int .i64 m ∧ Hid (JoW B w1 wr R G B (.slice sp N sc) Q J L ∧ RwAt wr F 118 #[.func (.func 48) #[.pointer (some ⟨G, 0, none⟩)] #[], .func (.func 49) #[.pointer (some ⟨G, 0, none⟩)] #[]]) ∧ Hid ((J.ps.take m).any (leadB J.M) = false)) (fun i _ => N - (intOf i).toNat)
            case atStart => exact ⟨0, Nat.zero_le _, rfl, HRI, Hin0⟩
            case round =>
              obtain ⟨m, hm, rfl, HR, Hin⟩ := hrel
              clear HRI Hin0
              have m0 : (0 : Int) ≤ (m : Int) := by omega
              by_cases hlt : m < N
              · have mn : (m : Int) < (N : Int) := by omega
                have Hlt := hid hlt
                obtain ⟨⟨V, ⟨x, pd, pc⟩⟩, hq⟩ : ∃ q, Q[m]? = some q := ⟨_, List.getElem?_eq_getElem (by rw [HN.out]; exact hlt)⟩
                have Hqm := hid (List.mem_of_getElem? hq)
                have Hps2 : Hid (J.ps[m]? = some ⟨x, pd, pc⟩) := hid (by rw [← HR.out.1.j.eq, List.getElem?_map, hq]; rfl)
                have Hpk := hid (HR.out.1.each _ Hqm.out).2
                have hoat := HR.out.1.oat HO1.out Hqm.out
                obtain ⟨p1, n1, c1, p2, n2, c2, p3, n3, c3, p4, n4, c4, p5, n5, c5, p6, n6, c6, hV⟩ := OAt.cells hoat
                simp only at hV hoat
                subst hV
                have Hoat := hid hoat
                have hps := CsAt.own HR.out.1.j.ps
                obtain ⟨bq, oq, cq, hv, hbq, g0, g1, g2, g3, g4, g5, g6, g7⟩ := pt_item hps hq
                rw [HN.out] at hv
                simp only [Value.slice.injEq, true_and] at hv
                obtain ⟨rfl, rfl⟩ := hv
                simp only at g0 g1 g2 g3 g4 g5 g6 g7
                have hal := World.grownBy_alloc wr (.cells #[.slice p1 n1 c1, .slice p2 n2 c2, .slice p3 n3 c3, .slice p4 n4 c4, .slice p5 n5 c5, .slice p6 n6 c6, .int .i64 (pd : Int), .int .i64 (pc : Int)] 121) none
                have HR2 : Hid (JoW B w1 (wr.alloc (.cells #[.slice p1 n1 c1, .slice p2 n2 c2, .slice p3 n3 c3, .slice p4 n4 c4, .slice p5 n5 c5, .slice p6 n6 c6, .int .i64 (pd : Int), .int .i64 (pc : Int)] 121)) R G B (.slice (some ⟨bq, oq, none⟩) N sc) Q J L ∧ RwAt (wr.alloc (.cells #[.slice p1 n1 c1, .slice p2 n2 c2, .slice p3 n3 c3, .slice p4 n4 c4, .slice p5 n5 c5, .slice p6 n6 c6, .int .i64 (pd : Int), .int .i64 (pc : Int)] 121)) F 118 #[.func (.func 48) #[.pointer (some ⟨G, 0, none⟩)] #[], .func (.func 49) #[.pointer (some ⟨G, 0, none⟩)] #[]]) := hid ⟨HR.out.1.kept0 hal, HR.out.2.kept0 hal⟩
                have HY := hid (RwAt.new wr 121 #[.slice p1 n1 c1, .slice p2 n2 c2, .slice p3 n3 c3, .slice p4 n4 c4, .slice p5 n5 c5, .slice p6 n6 c6, .int .i64 (pd : Int), .int .i64 (pc : Int)])
                have Hoat2 := hid (Hoat.out.kept0 hal)
                have Hzp := zero_part
                clear hal hq hoat hps hbq hlt
                go_upto_region 17 with (fail)
                clear g0 g1 g2 g3 g4 g5 g6 g7 HR Hzp
                obtain ⟨Y, hY⟩ : ∃ Y, wr.heap.size = Y := ⟨_, rfl⟩
                rw [hY] at HY ⊢
                clear hY
                generalize wr.alloc (.cells #[.slice p1 n1 c1, .slice p2 n2 c2, .slice p3 n3 c3, .slice p4 n4 c4, .slice p5 n5 c5, .slice p6 n6 c6, .int .i64 (pd : Int), .int .i64 (pc : Int)] 121) = w3 at HR2 HY Hoat2 ⊢
                obtain ⟨tt, htt⟩ : ∃ tt, leadB J.M ⟨x, pd, pc⟩ = tt := ⟨_, rfl⟩
                have Htt := hid htt
                go_wp2_with (first
                  | (refine wpList_load_rw rfl 121 _ rfl rfl HY.out rfl Tryz.underlying121 info_part ?_)
                  | fail)
                refine (misleads_any w3 ⟨.slice p1 n1 c1, .slice p2 n2 c2, .slice p3 n3 c3, .slice p4 n4 c4, .slice p5 n5 c5, .slice p6 n6 c6⟩ ⟨x, pd, pc⟩ Hoat2.out HR2.out.1.j.mr (errc_below HE1.out HR2.out.1.bw HR2.out.1.lt.2) Hpk.out htt).mono ?_
                rintro e w5 ⟨rfl, hg⟩
                have HR5 : Hid (JoW B w1 w5 R G B (.slice (some ⟨bq, oq, none⟩) N sc) Q J L ∧ RwAt w5 F 118 #[.func (.func 48) #[.pointer (some ⟨G, 0, none⟩)] #[], .func (.func 49) #[.pointer (some ⟨G, 0, none⟩)] #[]]) := hid ⟨HR2.out.1.kept0 hg, HR2.out.2.kept0 hg⟩
                clear hg HR2 HY Hoat2 htt
                cases tt with
                | false =>
                  rw [show erV A 1 false = .nilIface from rfl]
                  have Hin2 := hid (any_take Hin.out Hps2.out Htt.out)
                  go_wp2
                  go_roundw
                  case rel => exact ⟨m + 1, Hlt.out, by go_num, HR5, Hin2⟩
                  case measure => simp [intOf]; have := Hlt.out; omega
                | true =>
                  have hq1 := fun W => run_err_neq_nil (A 1) W
                  have Hfi := hid (fidx_some Hps2.out Htt.out Hin.out)
                  rw [show erV A 1 true = errV (A 1) from rfl]
                  unfold errV at hq1 ⊢
                  have hal := World.grownBy_alloc w5 (.cells #[.int .i64 (m : Int), .iface 200 (.pointer (some (A 1)))] 91) none
                  have HRz := hid (HR5.out.1.res.kept0 hal)
                  have HAt := hid (RwAt.new w5 91 #[.int .i64 (m : Int), .iface 200 (.pointer (some (A 1)))])
                  have HBz := hid (below_0 HR5.out.1.bw hal HR5.out.1.j.size)
                  have Hlt2 := hid HR5.out.1.lt
                  have hba := build_at (m : Int) 200 (.pointer (some (A 1)))
                  have HRl := hid HR5.out.1.res.lt
                  clear hal HR5
                  go_wp2_with (first
                    | (refine wpList_store_rw rfl 99 _ _ rfl rfl rfl HRz.out info_joined rfl zj_one ?_)
                    | fail)
                  have hw := HRz.out.row #[.slice none 0 0, .int .i64 0, .int .i64 0, .map none]
                  have q0 := hw.cell 0 (v := .slice none 0 0) rfl
                  have q1 := hw.cell 1 (v := .int .i64 0) rfl
                  have q2 := hw.cell 2 (v := .int .i64 0) rfl
                  have q3 := hw.cell 3 (v := .map none) rfl
                  refine bodyPost_ret (v := .tuple #[.agg #[.slice none 0 0, .int .i64 0, .int .i64 0, .map none], atV w5.heap.size]) (by simp [results, Tryz.results37, go_sem, q0, q1, q2, q3]) rfl ?_
                  have hne : w5.heap.size ≠ R := by have := HRl.out; omega
                  unfold JoAt
                  rw [Hjq.out, Hend.out]
                  simp only [fidx_none (Hno.out.1 (by decide)), Hfi.out]
                  refine ⟨_, rfl, by simp, ⟨w5.heap.size, _, rfl, ?_, rfl⟩, grown_setRow (grown_trans HG0.out (below_is_grown (HBz.out.mono Hlt2.out.2))) (by have := HRe.out; omega) _⟩
                  exact HAt.out.kept (r := some R) ⟨rfl, rfl, rfl, by simp [World.setRow], fun i _ hi => setRow_other _ R i _ (fun e => hi (by rw [e]))⟩ (fun e => hne (Option.some.inj e))
              · obtain rfl : m = N := by omega
                have mn : ¬ ((m : Int) < (m : Int)) := by omega
                have Hall := hid (any_all Hps.out Hin.out)
                clear hlt
                go_wp2
                go_roundw
                case rel => exact ⟨2, rfl, hid (.inr (.inr rfl)), HR, hid ⟨fun _ => Hno.out.1 (by decide), fun _ => Hall.out⟩⟩
                case measure => simp [intOf]
          · obtain ⟨⟨qi, qa⟩, hq⟩ : ∃ q, lkD J.M nmMainL = q := ⟨_, rfl⟩
            have Hq := hid hq
            have hl := HRF.out.1.j.mp.look_of nmMainL hq
            unfold nmMainL at hl
            have hfs := field_spot qi qa
            have m3 := HRF.out.1.j.row.cell 3 (v := .map (some B)) rfl
            have Hm := hid (Hno.out.1 (by decide))
            have Hl := hid (Hno.out.2 (by decide))
            clear hq Hz Hno
            by_cases h2 : qi = 2
            · subst h2
              have hone : (#[.slice sp N sc, .int .i64 (J.d : Int), .int .i64 (J.c : Int), .map (some B)] : Array Value).all (·.oneCell') = true := by simp [Value.oneCell']
              have Hone := hid hone
              clear hone
              go_wp2_with (first
                | (refine wpList_load_rw rfl 99 _ rfl rfl HRF.out.1.j.row rfl Tryz.underlying99 info_joined ?_)
                | (refine wpList_store_rw rfl 99 _ _ rfl rfl rfl HRF.out.1.res info_joined rfl Hone.out ?_)
                | fail)
              have hw := HRF.out.1.res.row #[.slice sp N sc, .int .i64 (J.d : Int), .int .i64 (J.c : Int), .map (some B)]
              have q0 := hw.cell 0 (v := .slice sp N sc) rfl
              have q1 := hw.cell 1 (v := .int .i64 (J.d : Int)) rfl
              have q2 := hw.cell 2 (v := .int .i64 (J.c : Int)) rfl
              have q3 := hw.cell 3 (v := .map (some B)) rfl
              refine bodyPost_ret (v := .tuple #[.agg #[.slice sp N sc, .int .i64 (J.d : Int), .int .i64 (J.c : Int), .map (some B)], .nilIface]) (by simp [results, Tryz.results37, go_sem, q0, q1, q2, q3]) rfl ?_
              have hgr : wr.grownBy (wr.setRow R #[.slice sp N sc, .int .i64 (J.d : Int), .int .i64 (J.c : Int), .map (some B)]) (some R) := ⟨rfl, rfl, rfl, by simp [World.setRow], fun i _ hi => setRow_other wr R i _ (fun e => hi (by rw [e]))⟩
              have hlt := HRF.out.1.lt
              have hge := HRF.out.1.j.geB
              have hres := HRe.out
              have hsz := Hsz.out
              unfold JoAt
              rw [Hjq.out, Hend.out]
              simp only [fidx_none Hm.out, fidx_none Hl.out, Hq.out, if_true]
              refine ⟨.slice sp N sc, B, Q, rfl, ?_, HRF.out.1.j.mp.kept hgr (by simp; omega), HRF.out.1.j.eq, fun q hq => ?_, Hbd.out.1, Hbd.out.2.1, Hbd.out.2.2, grown_setRow (grown_trans HG0.out (below_is_grown (HRF.out.1.bw.mono hlt.2))) (by omega) _⟩
              · refine (own_base HRF.out.1.j.ps (show W.heap.size ≤ B by omega)).kept hgr ?_
                cases hv : (Value.slice sp N sc).ownBlock with
                | none => exact .inl rfl
                | some i => have h1 := (HRF.out.1.j.ps.lt i hv).1; exact .inr (by simp; omega)
              · obtain ⟨⟨o, hol, e1, e2⟩, hp⟩ := HRF.out.1.each q hq
                exact ⟨by rw [e1, e2]; exact HO.out.each o hol, hp⟩
            · have h2b : (qi != 2) = true := by simpa using h2
              have H2 := hid h2
              have e6 := (errc_below HE1.out HRF.out.1.bw HRF.out.1.lt.2).c6
              have e6d : wr.drew.cell? ⟨0, 0, none⟩ = some (errV (A 6)) := e6
              have e6s := set4_other (a := .slice none 0 0) (b := .int .i64 0) (c := .int .i64 0) (d := .map none) (R := R) (show 0 ≠ R by have h1 := World.block_lt_of_cell? W _ HE.out.c6; have h2 := HRe.out; simp only at h1; omega) e6
              have r0 := HRF.out.1.res.cell 0 (v := .slice none 0 0) rfl
              have r1 := HRF.out.1.res.cell 1 (v := .int .i64 0) rfl
              have r2 := HRF.out.1.res.cell 2 (v := .int .i64 0) rfl
              have r3 := HRF.out.1.res.cell 3 (v := .map none) rfl
              have z0 := HRF.out.1.res.free 0
              have z1 := HRF.out.1.res.free 1
              have z2 := HRF.out.1.res.free 2
              have z3 := HRF.out.1.res.free 3
              unfold errV at e6 e6d e6s
              clear h2
              go_wp2_with fail
              go_region
              all_goals
                go_wp2
                have hw : RwAt ((((wr.setCell ⟨R, 0, none⟩ (.slice none 0 0)).setCell ⟨R, 1, none⟩ (.int .i64 0)).setCell ⟨R, 2, none⟩ (.int .i64 0)).setCell ⟨R, 3, none⟩ (.map none)).drew R 99 #[.slice none 0 0, .int .i64 0, .int .i64 0, .map none] := by
                  have := ((((HRF.out.1.res.set 0 (.slice none 0 0)).set 1 (.int .i64 0)).set 2 (.int .i64 0)).set 3 (.map none)).kept0 (grown_drew (grown_refl _ none))
                  simpa using this
                have q0 := hw.cell 0 (v := .slice none 0 0) rfl
                have q1 := hw.cell 1 (v := .int .i64 0) rfl
                have q2 := hw.cell 2 (v := .int .i64 0) rfl
                have q3 := hw.cell 3 (v := .map none) rfl
                clear r0 r1 r2 r3 z0 z1 z2 z3 e6 e6d e6s
                refine bodyPost_ret (v := .tuple #[.agg #[.slice none 0 0, .int .i64 0, .int .i64 0, .map none], errV (A 6)]) (by simp [results, Tryz.results37, go_sem, q0, q1, q2, q3, errV]) rfl ?_
                unfold JoAt
                rw [Hjq.out, Hend.out]
                simp only [fidx_none Hm.out, fidx_none Hl.out, Hq.out, if_neg H2.out]
                refine ⟨_, rfl, by simp [errV], rfl, ?_⟩
                exact grown_drew (grown_new' (grown_trans (grown_none (grown_trans HG0.out (below_is_grown (HRF.out.1.bw.mono HRF.out.1.lt.2)))) (grown_setCell (grown_setCell (grown_setCell (grown_setCell (grown_refl wr _) _ _) _ _) _ _) _ _)) (fun j hj => by obtain rfl := Option.some.inj hj; have := HRe.out; omega))
end Go.Proofs.YtnpnafidhcnkhaaGreatDoor

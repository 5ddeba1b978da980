/- Package link: Link: contracts. -/
import Derived.Test.YtnpnafidhcnkhaaGreatDoorYLnk16
import Derived.Test.YtnpnafidhcnkhaaGreatDoorYLnk13
import Derived.Test.YtnpnafidhcnkhaaGreatDoorYLnkP
import Derived.Test.YtnpnafidhcnkhaaGreatDoorYLnkY
import Derived.Test.YtnpnafidhcnkhaaGreatDoorYLnk7
import Derived.Test.YtnpnafidhcnkhaaGreatDoorYIsa2
import Derived.Test.YtnpnafidhcnkhaaGreatDoorYRel5
namespace Go.Proofs.YtnpnafidhcnkhaaGreatDoor
open Go.RowKit
theorem build_image0 (w : World) : (Instr.build 45 #[]).run Tryz.prog w = .ok (.agg #[.int .u32 0, .slice none 0 0, .slice none 0 0, .slice none 0 0, .slice none 0 0, .slice none 0 0]) w := by kernel_rfl
theorem obAt_words {L : List Ob} {J : Jn} (hf : ∀ o ∈ L, OFit o.x) (hj : joinP (L.map (·.x)) = (none, J)) : ∀ p ∈ J.ps, OFit p.x := by
  have gen : ∀ (xs : List PO) (J0 J1 : Jn), jnRun xs J0 = (none, J1) → (∀ x ∈ xs, OFit x) → (∀ p ∈ J0.ps, OFit p.x) → ∀ p ∈ J1.ps, OFit p.x := by
    intro xs
    induction xs with
    | nil => intro J0 J1 h _ h0; cases h; exact h0
    | cons x xs ih =>
      intro J0 J1 h hx h0
      cases ha : jnAdd J0 x with
      | inl f =>
        unfold jnRun at h
        rw [ha] at h
        simp only at h
        have h2 := congrArg Prod.fst h
        exfalso
        unfold jnAdd at ha
        split at ha
        · cases ha; cases h2
        · split at ha
          · cases ha; cases h2
          · cases ha
      | inr J2 =>
        rw [jnRun_yes ha] at h
        obtain ⟨_, hps, _, _⟩ := jnAdd_inr ha
        refine ih J2 J1 h (fun y hy => hx y (List.mem_cons_of_mem _ hy)) (fun p hp => ?_)
        rw [hps] at hp
        rcases List.mem_append.1 hp with h1 | h1
        · exact h0 p h1
        · obtain rfl := List.mem_singleton.1 h1
          exact hx x List.mem_cons_self
  have hx : ∀ x ∈ L.map (·.x), OFit x := fun x hx => by obtain ⟨o, ho, rfl⟩ := List.mem_map.1 hx; exact hf o ho
  unfold joinP at hj
  split at hj
  · cases hj
  · split at hj
    · cases hj
    · rename_i J1 hr
      split at hj
      · cases hj
      · split at hj
        · cases hj
        · split at hj
          · cases hj
            exact gen _ jn0 _ hr hx (by intro p hp; cases hp)
          · cases hj
theorem whP_words {J : Jn} (h : ∀ p ∈ J.ps, OFit p.x) : ∀ x ∈ (whP J).C, 0 ≤ x ∧ x < 4294967296 := by
  intro x hx
  rw [whP_C] at hx
  obtain ⟨l, hl, hx⟩ := List.mem_flatten.1 hx
  obtain ⟨p, hp, rfl⟩ := List.mem_map.1 hl
  exact (h p hp).c x hx
theorem PgOk.imq {J : Jn} {K : Nat} (P : PgOk J K) (hw : ∀ p ∈ J.ps, OFit p.x) (hn : J.ps.length ≤ 16) : ImQ J.M (whP J) (plcP J K) := by
  have htg := (lkD_tgt P.h P.ho P.e).2
  refine ⟨P.inc, P.bd.1, P.bd.2, whP_kl P.h, whP_Rok P.h P.ho P.hm, whP_Qok P.h P.ho P.hm, whP_Qbr P.h P.ho P.hm P.hl, htg, ?_, whP_words hw, ?_, whP_Ql P.h hn⟩
  · obtain ⟨_, k, _, hk⟩ := htg.2 (by have := P.e; omega)
    omega
  · rw [whP_R, len_flat]
    have h1 := sum_le (fun p : Pt => (p.x.R.map (fxOf J.M p p.d)).length) 1024 J.ps (fun p hp => by
      have hok := valid_ok (P.h.v p hp)
      have hmany := hok.many
      unfold manyB at hmany
      simp only [decide_eq_false_iff_not] at hmany
      have hR : (woC p.x).R.length = p.x.R.length := rfl
      simp only [List.length_map]
      omega)
    omega
/-- what Link answers: an image of the call's own, or what is wrong -/
def LinkAt (W : World) (L : List Ob) (A : Nat → Addr) (e : Ending) (w' : World) : Prop :=
  match joinP (L.map (·.x)) with
  | (some f, _) => ∃ u, e = .returned (.tuple #[.agg #[.int .u32 0, .slice none 0 0, .slice none 0 0, .slice none 0 0, .slice none 0 0, .slice none 0 0], u]) ∧ u ≠ .nilIface ∧ LftAt A w' u (some f) ∧ W.grownBy w' none
  | (none, J) => ∃ K, RndR (itsP (whP J)) K ∧ if lngB (whP J) K = true then e = .returned (.tuple #[.agg #[.int .u32 0, .slice none 0 0, .slice none 0 0, .slice none 0 0, .slice none 0 0, .slice none 0 0], errV (A 3)]) ∧ W.grownBy w' none
    else PgOk J K ∧ (∀ p ∈ J.ps, OFit p.x) ∧ ∃ v1 vC vd vp vs, e = .returned (.tuple #[.agg #[.int .u32 (imgP J K).e, v1, vC, vd, vp, vs], .nilIface]) ∧ (∀ r ∈ imRo v1 vC vd vp vs (imgP J K), w'.ownsRow W.heap.size r.e r.z r.v r.n r.xs) ∧ W.grownBy w' none
theorem joinP_len {xs : List PO} {J : Jn} (h : joinP xs = (none, J)) : J.ps.length ≤ 16 := by
  have gen : ∀ (xs : List PO) (J0 J1 : Jn), jnRun xs J0 = (none, J1) → J1.ps.length = J0.ps.length + xs.length := by
    intro xs
    induction xs with
    | nil => intro J0 J1 h; cases h; rfl
    | cons x xs ih =>
      intro J0 J1 h
      cases ha : jnAdd J0 x with
      | inl f =>
        unfold jnRun at h
        rw [ha] at h
        simp only at h
        have h2 := congrArg Prod.fst h
        exfalso
        unfold jnAdd at ha
        split at ha
        · cases ha; cases h2
        · split at ha
          · cases ha; cases h2
          · cases ha
      | inr J2 =>
        rw [jnRun_yes ha] at h
        obtain ⟨_, hps, _, _⟩ := jnAdd_inr ha
        rw [ih J2 J1 h, hps, List.length_append, List.length_singleton, List.length_cons]
        omega
  unfold joinP at h
  split at h
  · cases h
  · rename_i hl
    split at h
    · cases h
    · rename_i J1 hr
      have := gen _ _ _ hr
      split at h
      · cases h
      · split at h
        · cases h
        · split at h
          · cases h
            simp [jn0] at this
            omega
          · cases h
set_option maxRecDepth 100000 in
set_option maxHeartbeats 16000000 in
theorem link_any {W : World} {v : Value} {L : List Ob} {A : Nat → Addr} (h : ObsAt W v L) (he : ErrC W A) (hb : ∀ o ∈ L, ObB o.x) (hl : L.length ≤ 1000000) :
    Calls Tryz.prog 13 #[v] W (LinkAt W L A) := by
  have Hzi := zero_image
  have hbi := build_image0
  have HR0 := hid (RwAt.new W 45 #[.int .u32 0, .slice none 0 0, .slice none 0 0, .slice none 0 0, .slice none 0 0, .slice none 0 0])
  have HG0 := hid (World.grownBy_alloc W (.cells #[.int .u32 0, .slice none 0 0, .slice none 0 0, .slice none 0 0, .slice none 0 0, .slice none 0 0] 45) none)
  have HP := hid (prog_any (h.kept0 HG0.out) (he.kept0 HG0.out) hb hl)
  have HF := hid (fun o ho => (hb o ho).fit)
  have HS0 : Hid ((W.alloc (.cells #[.int .u32 0, .slice none 0 0, .slice none 0 0, .slice none 0 0, .slice none 0 0, .slice none 0 0] 45)).heap.size = W.heap.size + 1) := hid (by simp)
  clear h he hb hl
  go_enter Tryz.func13, Tryz.ntmps13
  go_upto_region 1 with (fail)
  obtain ⟨R, hR⟩ : ∃ R, W.heap.size = R := ⟨_, rfl⟩
  have HRe := hid hR
  try rw [hR]
  rw [hR] at HR0 HS0
  clear hR Hzi
  generalize W.alloc (.cells #[.int .u32 0, .slice none 0 0, .slice none 0 0, .slice none 0 0, .slice none 0 0, .slice none 0 0] 45) = w1 at HR0 HG0 HS0 HP ⊢
  have Hzp := zero_program
  go_wp2_with fail
  refine HP.out.mono ?_
  rintro e w2 hJ
  unfold ProAt at hJ
  cases hjp : joinP (L.map (·.x)) with
  | mk f J =>
    have Hjp := hid hjp
    rw [hjp] at hJ
    cases f with
    | some f =>
      obtain ⟨u, rfl, hne, hlft, hg⟩ := hJ
      obtain ⟨ut, up, rfl, hnn⟩ := lft_is_e hlft
      have hal := World.grownBy_alloc w2 (.cells zPr 78) none
      have HR3 := hid (HR0.out.kept0 (grown_trans hg hal))
      have HG3 := hid (grown_trans HG0.out (grown_trans hg hal))
      have Hl3 := hid (LftAt.kept0 hlft hal)
      have Hne := hid hne
      clear hal hlft hne hg hjp HR0 HG0 HP
      unfold zPr at *
      go_upto_region 3 with (fail)
      generalize w2.alloc (.cells #[.slice none 0 0, .slice none 0 0, .slice none 0 0, .slice none 0 0, .slice none 0 0, .slice none 0 0, .map none] 78) = w3 at HR3 HG3 Hl3 ⊢
      go_wp2_with (first
        | (refine wpList_store_rw rfl 45 _ _ rfl rfl rfl HR3.out info_image rfl (by simp [Value.oneCell']) ?_)
        | fail)
      have hw := HR3.out.row #[.int .u32 0, .slice none 0 0, .slice none 0 0, .slice none 0 0, .slice none 0 0, .slice none 0 0]
      have q0 := hw.cell 0 (v := .int .u32 0) rfl
      have q1 := hw.cell 1 (v := .slice none 0 0) rfl
      have q2 := hw.cell 2 (v := .slice none 0 0) rfl
      have q3 := hw.cell 3 (v := .slice none 0 0) rfl
      have q4 := hw.cell 4 (v := .slice none 0 0) rfl
      have q5 := hw.cell 5 (v := .slice none 0 0) rfl
      refine bodyPost_ret (v := .tuple #[.agg #[.int .u32 0, .slice none 0 0, .slice none 0 0, .slice none 0 0, .slice none 0 0, .slice none 0 0], .iface ut up]) (by simp [results, Tryz.results13, go_sem, q0, q1, q2, q3, q4, q5]) rfl ?_
      unfold LinkAt
      rw [Hjp.out]
      exact ⟨_, rfl, Hne.out, lft_row Hl3.out HR3.out (by decide) _, grown_setRow HG3.out (Nat.le_of_eq HRe.out) _⟩
    | none =>
      obtain ⟨K, hK, hJ⟩ := hJ
      have HK := hid hK
      by_cases hlg : lngB (whP J) K = true
      · have Hlg := hid hlg
        rw [if_pos hlg] at hJ
        obtain ⟨rfl, hg⟩ := hJ
        have hal := World.grownBy_alloc w2 (.cells zPr 78) none
        have HR3 := hid (HR0.out.kept0 (grown_trans hg hal))
        have HG3 := hid (grown_trans HG0.out (grown_trans hg hal))
        have hnn : ∀ W : World, (binOp .neq 47 (errV (A 3)) .nilIface).run Tryz.prog W = .ok (.bool true) W := fun W => run_err_neq_nil (A 3) W
        clear hal hg hjp HR0 HG0 HP hK hlg
        unfold zPr errV at *
        go_upto_region 3 with (fail)
        generalize w2.alloc (.cells #[.slice none 0 0, .slice none 0 0, .slice none 0 0, .slice none 0 0, .slice none 0 0, .slice none 0 0, .map none] 78) = w3 at HR3 HG3 ⊢
        go_wp2_with (first
          | (refine wpList_store_rw rfl 45 _ _ rfl rfl rfl HR3.out info_image rfl (by simp [Value.oneCell']) ?_)
          | fail)
        have hw := HR3.out.row #[.int .u32 0, .slice none 0 0, .slice none 0 0, .slice none 0 0, .slice none 0 0, .slice none 0 0]
        have q0 := hw.cell 0 (v := .int .u32 0) rfl
        have q1 := hw.cell 1 (v := .slice none 0 0) rfl
        have q2 := hw.cell 2 (v := .slice none 0 0) rfl
        have q3 := hw.cell 3 (v := .slice none 0 0) rfl
        have q4 := hw.cell 4 (v := .slice none 0 0) rfl
        have q5 := hw.cell 5 (v := .slice none 0 0) rfl
        refine bodyPost_ret (v := .tuple #[.agg #[.int .u32 0, .slice none 0 0, .slice none 0 0, .slice none 0 0, .slice none 0 0, .slice none 0 0], errV (A 3)]) (by simp [results, Tryz.results13, go_sem, q0, q1, q2, q3, q4, q5, errV]) rfl ?_
        unfold LinkAt
        rw [Hjp.out]
        refine ⟨K, HK.out, ?_⟩
        rw [if_pos Hlg.out]
        exact ⟨rfl, grown_setRow HG3.out (Nat.le_of_eq HRe.out) _⟩
      · rw [if_neg hlg] at hJ
        obtain ⟨v1, v2, v3, v4, v5, vl, B, rfl, hrow, hlo, hmp, hok, hpt, hap, hg⟩ := hJ
        obtain ⟨_, hmi, hle, hmain⟩ := joinP_ok hjp
        have hP : PgOk J K := ⟨hok, hpt, hmi, hle, hmain, hK, by simpa using hlg⟩
        have hOF := obAt_words HF.out hjp
        have HPg := hid hP
        have HOF := hid hOF
        have HQ := hid (hP.imq hOF (joinP_len hjp))
        have r1 := hrow ⟨v1, 27, 1, (whP J).D.length, (whP J).D.map (Value.int .u32)⟩ (by simp [whRo])
        have r2 := hrow ⟨v2, 27, 1, (whP J).C.length, (whP J).C.map (Value.int .u32)⟩ (by simp [whRo])
        have r3 := hrow ⟨v3, 5, 1, (whP J).K.length, (whP J).K.map (Value.int .u8)⟩ (by simp [whRo])
        have r4 := hrow ⟨v4, 106, 5, (whP J).R.length, fxsL (whP J).R⟩ (by simp [whRo])
        have r5 := hrow ⟨v5, 106, 5, (whP J).Q.length, fxsL (whP J).Q⟩ (by simp [whRo])
        have hB0 : PgB w1 w2 w1.heap.size v1 v2 v3 v4 v5 vl (whP J) (plcP J K) := ⟨hg, Nat.le_refl _, r1, fun r hr => by
          simp only [pgRd, List.mem_cons, List.not_mem_nil, or_false] at hr
          rcases hr with rfl | rfl | rfl | rfl | rfl
          · exact r2
          · exact r3
          · exact r4
          · exact r5
          · exact hlo, hap, hg.size⟩
        obtain ⟨p1, c1, e1⟩ := own_slice r1
        obtain ⟨p2, c2, e2⟩ := own_slice r2
        obtain ⟨p3, c3, e3⟩ := own_slice r3
        obtain ⟨p4, c4, e4⟩ := own_slice r4
        obtain ⟨p5, c5, e5⟩ := own_slice r5
        obtain ⟨p6, c6, e6⟩ := own_slice hlo
        simp only at e1 e2 e3 e4 e5 e6
        obtain ⟨n1, hn1⟩ : ∃ n, (whP J).D.length = n := ⟨_, rfl⟩
        obtain ⟨n2, hn2⟩ : ∃ n, (whP J).C.length = n := ⟨_, rfl⟩
        obtain ⟨n3, hn3⟩ : ∃ n, (whP J).K.length = n := ⟨_, rfl⟩
        obtain ⟨n4, hn4⟩ : ∃ n, (whP J).R.length = n := ⟨_, rfl⟩
        obtain ⟨n5, hn5⟩ : ∃ n, (whP J).Q.length = n := ⟨_, rfl⟩
        obtain ⟨n6, hn6⟩ : ∃ n, (whP J).C.length + 1 = n := ⟨_, rfl⟩
        rw [hn1] at e1
        rw [hn6] at e6
        rw [hn2] at e2
        rw [hn3] at e3
        rw [hn4] at e4
        rw [hn5] at e5
        subst e1 e2 e3 e4 e5 e6
        have hal := World.grownBy_alloc w2 (.cells #[.slice p1 n1 c1, .slice p2 n2 c2, .slice p3 n3 c3, .slice p4 n4 c4, .slice p5 n5 c5, .slice p6 n6 c6, .map (some B)] 78) none
        have HB3 := hid (hB0.kept0 hal)
        have HM3 := hid (hmp.kept0 hal)
        have HX3 := hid (RwAt.new w2 78 #[.slice p1 n1 c1, .slice p2 n2 c2, .slice p3 n3 c3, .slice p4 n4 c4, .slice p5 n5 c5, .slice p6 n6 c6, .map (some B)])
        clear r1 r2 r3 r4 r5 hrow hlo hmp hok hpt hap hmi hle hmain hP hOF hB0 hal hg hjp HP hK hlg hn1 hn2 hn3 hn4 hn5 hn6 HF
        go_upto_region 4 with (fail)
        obtain ⟨X, hX⟩ : ∃ X, w2.heap.size = X := ⟨_, rfl⟩
        rw [hX] at HX3 ⊢
        clear hX
        generalize w2.alloc (.cells #[.slice p1 n1 c1, .slice p2 n2 c2, .slice p3 n3 c3, .slice p4 n4 c4, .slice p5 n5 c5, .slice p6 n6 c6, .map (some B)] 78) = w3 at HB3 HM3 HX3 ⊢
        go_wp2_with (first
          | (refine wpList_load_rw rfl 78 _ rfl rfl HX3.out rfl Tryz.underlying78 info_program ?_)
          | fail)
        refine (image_any w1 w3 w1.heap.size B _ _ _ _ _ _ J.M (whP J) (plcP J K) HB3.out HM3.out HQ.out).mono ?_
        rintro e w4 ⟨vC, vd, vp, vs, rfl, hg4, hro⟩
        have hc1 := hro ⟨vC, 27, 1, (imgP J K).C.length, (imgP J K).C.map (Value.int .u32)⟩ (by simp [imRo])
        have hc2 := hro ⟨vd, 3, 1, (imgP J K).dr.length, (imgP J K).dr.map (Value.int .i64)⟩ (by simp [imRo])
        have hc3 := hro ⟨vp, 3, 1, (imgP J K).pl.length, (imgP J K).pl.map (Value.int .i64)⟩ (by simp [imRo])
        have hc4 := hro ⟨vs, 3, 1, (imgP J K).st.length, (imgP J K).st.map (Value.int .i64)⟩ (by simp [imRo])
        obtain ⟨pC, cC, eC⟩ := own_slice hc1
        obtain ⟨pd, cd, ed⟩ := own_slice hc2
        obtain ⟨pp, cp, ep⟩ := own_slice hc3
        obtain ⟨ps, cs, es⟩ := own_slice hc4
        simp only at eC ed ep es
        obtain ⟨m1, hm1⟩ : ∃ n, (imgP J K).C.length = n := ⟨_, rfl⟩
        obtain ⟨m2, hm2⟩ : ∃ n, (imgP J K).dr.length = n := ⟨_, rfl⟩
        obtain ⟨m3, hm3⟩ : ∃ n, (imgP J K).pl.length = n := ⟨_, rfl⟩
        obtain ⟨m4, hm4⟩ : ∃ n, (imgP J K).st.length = n := ⟨_, rfl⟩
        rw [hm1] at eC
        rw [hm2] at ed
        rw [hm3] at ep
        rw [hm4] at es
        subst eC ed ep es
        have Hro := hid hro
        have HR4 := hid (HR0.out.kept0 hg4)
        have HG4 := hid (grown_trans HG0.out hg4)
        obtain ⟨e0, he0⟩ : ∃ e, (imgP J K).e = e := ⟨_, rfl⟩
        have He0 := hid he0
        rw [show (imP (whP J) J.M (plcP J K)).e = e0 from he0]
        clear hc1 hc2 hc3 hc4 hro hg4 hm1 hm2 hm3 hm4 he0 HB3 HM3 HX3
        go_wp2_with (first
          | (refine wpList_store_rw rfl 45 _ _ rfl rfl rfl HR4.out info_image rfl (by simp [Value.oneCell']) ?_)
          | fail)
        have hw := HR4.out.row #[.int .u32 e0, .slice p1 n1 c1, .slice pC m1 cC, .slice pd m2 cd, .slice pp m3 cp, .slice ps m4 cs]
        have q0 := hw.cell 0 (v := .int .u32 e0) rfl
        have q1 := hw.cell 1 (v := .slice p1 n1 c1) rfl
        have q2 := hw.cell 2 (v := .slice pC m1 cC) rfl
        have q3 := hw.cell 3 (v := .slice pd m2 cd) rfl
        have q4 := hw.cell 4 (v := .slice pp m3 cp) rfl
        have q5 := hw.cell 5 (v := .slice ps m4 cs) rfl
        refine bodyPost_ret (v := .tuple #[.agg #[.int .u32 e0, .slice p1 n1 c1, .slice pC m1 cC, .slice pd m2 cd, .slice pp m3 cp, .slice ps m4 cs], .nilIface]) (by simp [results, Tryz.results13, go_sem, q0, q1, q2, q3, q4, q5]) rfl ?_
        unfold LinkAt
        rw [Hjp.out]
        refine ⟨K, HK.out, ?_⟩
        rw [if_neg (by rw [HPg.out.g]; simp)]
        refine ⟨HPg.out, HOF.out, _, _, _, _, _, by rw [He0.out], fun r hr => ?_, grown_setRow HG4.out (Nat.le_of_eq HRe.out) _⟩
        have h := Hro.out r hr
        refine own_baseL (h.kept (grown_setR w4 R _) (.inr (fun e => ?_))) (by have h1 := HS0.out; have h2 := HRe.out; omega)
        have h1 := (h.lt R e).1
        have h2 := HS0.out
        omega
end Go.Proofs.YtnpnafidhcnkhaaGreatDoor
namespace Go.Proofs.YtnpnafidhcnkhaaGreatDoor
/-- a plain line: an instruction of one word, no label, no symbol -/
def opL (o a : Int) : Lx := ⟨o, a, 0, 0, 0, ByteArray.empty, ByteArray.empty, false⟩
def atL (n : ByteArray) : Lx := ⟨0, 0, 0, 0, 0, n, ByteArray.empty, false⟩
theorem lxD_op (x : PO) {o a : Int} (h : twoB o = false) : lxD x (opL o a) = ⟨x.D, x.C ++ [wordV o a 0 0 0], x.M ++ [1], x.R, x.Q, x.S⟩ := by
  unfold lxD opL
  simp [h, relX, wrdX]
theorem lxs_ops (x : PO) {o a : Int} (h : twoB o = false) (n : Nat) : (List.replicate n (opL o a)).foldl lxD x = ⟨x.D, x.C ++ List.replicate n (wordV o a 0 0 0), x.M ++ List.replicate n 1, x.R, x.Q, x.S⟩ := by
  induction n generalizing x with
  | zero => simp
  | succ n ih => rw [List.replicate_succ, List.foldl_cons, lxD_op x h, ih]; simp [List.replicate_succ]
theorem farR_none {L : List RIt} {B : List Bool} : ∀ n, (∀ k, k < n → tooB L B k = false) → farR L B n = []
  | 0, _ => rfl
  | n + 1, h => by rw [farR_succ_no (h n (by omega)), farR_none n fun k hk => h k (by omega)]
/-- no item goes too far at first: no round -/
theorem rnd_zero {L : List RIt} {K : Nat} (h : RndR L K) (h0 : ∀ k, k < L.length → tooB L (itR L 0) k = false) : K = 0 :=
  rnd_unique h ⟨farR_none _ h0, fun i hi => absurd hi (by omega)⟩
end Go.Proofs.YtnpnafidhcnkhaaGreatDoor
namespace Go.Proofs.YtnpnafidhcnkhaaGreatDoor
def toL (o a : Int) (n : ByteArray) : Lx := ⟨o, a, 0, 0, 0, ByteArray.empty, n, false⟩
theorem woC_ones {x : PO} (n : Nat) (h : x.M = List.replicate n 1) : woC x = x := by
  have hc : ∀ k, calB x k = false := by
    intro k
    unfold calB
    by_cases hk : k + 1 < min x.C.length x.M.length
    · have : x.M.getD (k + 1) 0 = 1 := by
        rw [h] at hk ⊢
        rw [List.length_replicate] at hk
        rw [List.getD_eq_getElem?_getD, List.getElem?_replicate, if_pos (by omega)]; rfl
      rw [this]; simp
    · simp [hk]
  have h1 : woCn x x.C.length = x.C := by
    unfold woCn
    apply List.ext_getElem?
    intro k
    by_cases hk : k < x.C.length
    · simp [hk, woW, hc]
    · simp [hk]
  have h2 : woQn x x.Q.length = x.Q := by
    unfold woQn
    have : ∀ r, woQ x r = r := by
      intro r
      unfold woQ calI
      simp [hc]
    rw [List.take_length, List.drop_length, List.append_nil]
    conv => rhs; rw [← List.map_id x.Q]
    exact List.map_congr_left fun r _ => this r
  unfold woC
  rw [h1, h2]
theorem opW_ends : opW 536936448 = 32 ∧ opW 16777216 = 1 := by decide
end Go.Proofs.YtnpnafidhcnkhaaGreatDoor
namespace Go.Proofs.YtnpnafidhcnkhaaGreatDoor
/-- decimal digits of a number below a thousand -/
def dgt (i : Nat) : List UInt8 :=
  if i < 10 then [UInt8.ofNat (48 + i)] else if i < 100 then [UInt8.ofNat (48 + i / 10), UInt8.ofNat (48 + i % 10)]
  else [UInt8.ofNat (48 + i / 100), UInt8.ofNat (48 + i / 10 % 10), UInt8.ofNat (48 + i % 10)]
def nmF (i : Nat) : ByteArray := ⟨(102 :: dgt i).toArray⟩
def nmFv (b : ByteArray) : Nat := (b.data.toList.drop 1).foldl (fun a d => a * 10 + (d.toNat - 48)) 0
theorem nmFv_nmF {i : Nat} (h : i < 100) : nmFv (nmF i) = i := by
  have key : ((List.range 100).all fun i => decide (nmFv (nmF i) = i)) = true := by decide +kernel
  exact of_decide_eq_true (List.all_eq_true.1 key i (List.mem_range.2 h))
theorem nmF_inj {i j : Nat} (hi : i < 100) (hj : j < 100) (h : nmF i = nmF j) : i = j := by
  rw [← nmFv_nmF hi, ← nmFv_nmF hj, h]
theorem nmF_main (i : Nat) : nmF i ≠ nmMainL := by
  intro h
  have := congrArg (fun b : ByteArray => b.data[0]?) h
  simp [nmF, nmMainL] at this
end Go.Proofs.YtnpnafidhcnkhaaGreatDoor
namespace Go.Proofs.YtnpnafidhcnkhaaGreatDoor
def nmM (i : Nat) : ByteArray := if i = 0 then nmMainL else nmF i
theorem nmM_inj {i j : Nat} (hi : i < 100) (hj : j < 100) (h : nmM i = nmM j) : i = j := by
  unfold nmM at h
  split at h <;> split at h
  · omega
  · exact absurd h.symm (nmF_main j)
  · exact absurd h (nmF_main i)
  · exact nmF_inj hi hj h
theorem nmM_size (i : Nat) : 1 ≤ (nmM i).size ∧ (nmM i).size ≤ 4 := by
  unfold nmM
  split
  · decide
  · have : (nmF i).size = (dgt i).length + 1 := by simp [nmF, ByteArray.size]
    rw [this]
    unfold dgt
    split
    · simp
    · split <;> simp
theorem jnRun_app : ∀ (xs ys : List PO) (J J' : Jn), jnRun xs J = (none, J') → jnRun (xs ++ ys) J = jnRun ys J'
  | [], ys, J, J', h => by cases h; rfl
  | x :: xs, ys, J, J', h => by
    cases ha : jnAdd J x with
    | inl f =>
      rw [jnRun_no ha] at h
      have := congrArg Prod.fst h
      have hne : f ≠ none := by
        intro e
        subst e
        unfold jnAdd at ha
        split at ha
        · cases ha
        · split at ha <;> cases ha
      cases f with
      | none => exact absurd rfl hne
      | some f => obtain ⟨c, p⟩ := f; cases this
    | inr J1 =>
      rw [jnRun_yes ha] at h
      rw [List.cons_append, jnRun_yes ha]
      exact jnRun_app xs ys J1 J' h
/-! ### all as one -/
end Go.Proofs.YtnpnafidhcnkhaaGreatDoor
namespace Go.Proofs.YtnpnafidhcnkhaaGreatDoor
open Go.RowKit
theorem plR_sum {L : List RIt} {B : List Bool} (hB : ∀ i, B.getD i false = false) : ∀ m, m ≤ L.length → plR L B m = ((L.take m).map (·.s)).sum
  | 0, _ => by simp [plR]
  | m + 1, h => by
    obtain ⟨x, hx⟩ : ∃ x, L[m]? = some x := ⟨_, List.getElem?_eq_getElem (by omega)⟩
    unfold plR szR
    rw [plR_sum hB m (by omega), hB m, hx, List.take_add_one, hx, List.map_append, List.sum_append]
    simp [sR]
theorem sum_modify : ∀ (L : List RIt) (i : Nat), i < L.length → ((L.modify i fun r => ⟨r.s + 1, r.t, r.b⟩).map (·.s)).sum = (L.map (·.s)).sum + 1
  | [], i, h => absurd h (Nat.not_lt_zero i)
  | a :: L, 0, _ => by simp only [List.modify_zero_cons, List.map_cons, List.sum_cons]; omega
  | a :: L, i + 1, h => by
    have := sum_modify L i (by simpa using h)
    simp only [List.modify_succ_cons, List.map_cons, List.sum_cons, this]; omega
theorem sum_itW {K : List Int} (h0 : K[0]? ≠ some 0) : ∀ n, n ≤ K.length → ((itW K n).map (·.s)).sum = (n : Int)
  | 0, _ => rfl
  | n + 1, h => by
    obtain ⟨m, hm⟩ : ∃ m, K[n]? = some m := ⟨_, List.getElem?_eq_getElem (by omega)⟩
    have ih := sum_itW h0 n (by omega)
    unfold itW
    rw [getD_of hm]
    by_cases e : m = 0
    · subst e
      have hn : n ≠ 0 := by rintro rfl; exact h0 hm
      rw [if_pos rfl, sum_modify, ih]
      · omega
      · rw [itW_length (by omega)]
        unfold itOf
        rw [itN_succ hm, if_pos rfl]
        obtain ⟨j, rfl⟩ : ∃ j, n = j + 1 := ⟨n - 1, by omega⟩
        have := itN_pos h0 (n := j) (by omega)
        omega
    · rw [if_neg e, List.map_append, List.sum_append, ih]
      simp
theorem itsP_words {W : Wh} (hQ : ∀ r ∈ W.Q, r.k ≠ 2) : itsP W = itW W.K W.C.length := by
  unfold itsP
  have : ∀ (Q : List Fx) (I : List RIt), (∀ r ∈ Q, r.k ≠ 2) → Q.foldl (itBr W.K) I = I := by
    intro Q
    induction Q with
    | nil => intro I _; rfl
    | cons r Q ih =>
      intro I h
      have h1 : itBr W.K I r = I := by unfold itBr; rw [if_neg (h r List.mem_cons_self)]
      rw [List.foldl_cons, h1, ih I (fun r' h' => h r' (List.mem_cons_of_mem _ h'))]
  exact this _ _ hQ
theorem itW_b {K : List Int} : ∀ n, ∀ it ∈ itW K n, it.b = false
  | 0, it, h => by cases h
  | n + 1, it, h => by
    unfold itW at h
    split at h
    · obtain ⟨i, hi⟩ := List.getElem?_of_mem h
      rw [List.getElem?_modify] at hi
      split at hi
      · cases hx : (itW K n)[i]? with
        | none => rw [hx] at hi; cases hi
        | some x =>
          rw [hx] at hi
          obtain rfl := Option.some.inj hi
          exact itW_b n x (List.mem_of_getElem? hx)
      · exact itW_b n it (List.mem_of_getElem? (by simpa using hi))
    · rcases List.mem_append.1 h with h | h
      · exact itW_b n it h
      · obtain rfl := List.mem_singleton.1 h; rfl
theorem rnd_words {W : Wh} (hQ : ∀ r ∈ W.Q, r.k ≠ 2) {K : Nat} (h : RndR (itsP W) K) : K = 0 := by
  refine rnd_zero h fun k _ => ?_
  unfold tooB
  cases hk : (itsP W)[k]? with
  | none => rfl
  | some it =>
    rw [itsP_words hQ] at hk
    simp [itW_b _ it (List.mem_of_getElem? hk)]
theorem LInc.add {l : Nat → Int} {n : Nat} (h : LInc l n) {j : Nat} : ∀ d, j + d ≤ n → l j + d ≤ l (j + d)
  | 0, _ => by simp
  | d + 1, hd => by
    have h1 := LInc.add h (j := j) d (by omega)
    have h2 := h.i (j + d) (j + d + 1) (by omega) (by omega)
    rw [← Nat.add_assoc]
    omega
/-- all stand where they are counted -/
theorem plc_id {J : Jn} (P : PgOk J 0) (hQ : ∀ r ∈ (whP J).Q, r.k ≠ 2) {k : Nat} (hk : k ≤ (whP J).C.length) : plcP J 0 k = (k : Int) := by
  have hl := P.inc
  have hK : (whP J).K.length = (whP J).C.length := whP_kl P.h
  have h0 := whP_first P.h P.ho
  have ht : plcP J 0 (whP J).C.length = ((whP J).C.length : Int) := by
    show ldN (whP J) (itR (itsP (whP J)) 0) (whP J).C.length = _
    unfold ldN
    rw [if_neg (Nat.lt_irrefl _), plR_sum (fun i => by
      show (List.replicate (itsP (whP J)).length false).getD i false = false
      rw [List.getD_eq_getElem?_getD, List.getElem?_replicate]
      split <;> rfl) _ (Nat.le_refl _), List.take_length, itsP_words hQ, sum_itW h0 _ (by omega)]
  have h1 := hl.ge hk
  have h2 := hl.add (j := k) ((whP J).C.length - k) (by omega)
  rw [show k + ((whP J).C.length - k) = (whP J).C.length by omega, ht] at h2
  omega
/-- the word that a repair of a word's place lays -/
theorem word_at {J : Jn} (P : PgOk J 0) (hQ : ∀ r ∈ (whP J).Q, r.k ≠ 2) {r : Fx} (hr : r ∈ (whP J).Q) (h1 : r.k = 1) (ha : r.a.toNat < (whP J).C.length) : (imgP J 0).C[r.a.toNat]? = some (wdP (plcP J 0) r) := by
  have e0 := plc_id P hQ (Nat.le_of_lt ha)
  have e1 := plc_id P hQ (show r.a.toNat + 1 ≤ (whP J).C.length by omega)
  obtain ⟨C', hC, hc⟩ := code_at P hr (i := r.a.toNat) (by omega) (by omega)
  rw [hc]
  rw [plc_id P hQ (Nat.le_refl _)] at hC
  unfold cfx
  rw [if_pos h1, e0]
  simp only [Int.toNat_natCast]
  rw [List.getElem?_set_self (by omega)]
end Go.Proofs.YtnpnafidhcnkhaaGreatDoor
namespace Go.Proofs.YtnpnafidhcnkhaaGreatDoor
open Go.RowKit
/-- the rows of an object -/
def obRo (V : OV) (x : PO) : List Ro := [⟨V.d, 27, 1, x.D.length, x.D.map (Value.int .u32)⟩, ⟨V.c, 27, 1, x.C.length, x.C.map (Value.int .u32)⟩, ⟨V.m, 5, 1, x.M.length, x.M.map (Value.int .u8)⟩, ⟨V.r, 65, 4, x.R.length, rlsC x.R⟩, ⟨V.q, 65, 4, x.Q.length, rlsC x.Q⟩, ⟨V.s, 63, 4, x.S.length, sysC x.S⟩]
abbrev OgB (w0 w : World) (base H : Nat) (R : List Ro) (V : OV) (x : PO) : Prop := RosB w0 w base H 41 [] (obRo V x) R
section
variable {w0 w w1 : World} {base H : Nat} {R : List Ro} {V : OV} {x : PO}
theorem OgB.kept0 (h : OgB w0 w base H R V x) (hg : w.grownBy w1 none) : OgB w0 w1 base H R V x := RosB.kept0 h hg
theorem OgB.addS (h : OgB w0 w base H R V x) {v' : Value} (s : Sy) (ho : w1.ownsRow base 63 4 v' (x.S.length + 1) (sysC x.S ++ syC s)) (hg : w.grownBy w1 V.s.ownBlock) (hat : v'.ownBlock = V.s.ownBlock ∨ v'.ownBlock = some w.heap.size) :
    OgB w0 (w1.setCell ⟨H, 5, none⟩ v') base H R ⟨V.d, V.c, V.m, V.r, V.q, v'⟩ ⟨x.D, x.C, x.M, x.R, x.Q, x.S ++ [s]⟩ := by
  have := RosB.step (k := 5) (n' := x.S.length + 1) h rfl ho hg hat
  have e : (obRo V x).set 5 ⟨v', 63, 4, x.S.length + 1, sysC x.S ++ syC s⟩ = obRo ⟨V.d, V.c, V.m, V.r, V.q, v'⟩ ⟨x.D, x.C, x.M, x.R, x.Q, x.S ++ [s]⟩ := by
    simp [obRo, sysC_append, sysC]
  rw [e] at this
  exact this
theorem OgB.sRow (h : OgB w0 w base H R V x) : w.ownsRow base 63 4 V.s x.S.length (sysC x.S) := RosB.at_ (k := 5) h rfl
/-- the name of symbol k -/
theorem OgB.name {g n c : Nat} {d cc m r q : Value} {D C M : List Int} {R' Q' : List Rl} {S : List Sy} (h : OgB w0 w base H R ⟨d, cc, m, r, q, .slice (some ⟨g, 0, none⟩) n c⟩ ⟨D, C, M, R', Q', S⟩) (hn : S.length = n) {k : Nat} {s : Sy} (hk : S[k]? = some s) : w.cell? ⟨g, k * 4, none⟩ = some (.string s.n) := by
  have h1 : w.ownsRow base 63 4 (.slice (some ⟨g, 0, none⟩) n c) S.length (sysC S) := h.sRow
  rw [hn] at h1
  have hkl := (List.getElem?_eq_some_iff.1 hk).1
  rw [h1.cellAt (k * 4) (by omega)]
  have := sysC_get S k 0 s hk (by decide)
  rw [Nat.add_zero] at this
  rw [this]; rfl
end
theorem syIx_at {S : List Sy} {n : ByteArray} {k : Nat} {s : Sy} (hk : S[k]? = some s) (h : s.n = n) (hb : ∀ j t, j < k → S[j]? = some t → t.n ≠ n) : syIx S n = k := by
  have hkl := (List.getElem?_eq_some_iff.1 hk).1
  unfold syIx
  rw [List.findIdx_eq hkl]
  refine ⟨by rw [(List.getElem?_eq_some_iff.1 hk).2]; simpa using h, fun j hj => ?_⟩
  have := hb j _ hj (List.getElem?_eq_getElem (by omega))
  simpa using this
theorem syIx_none {S : List Sy} {n : ByteArray} (hb : ∀ j t, j < S.length → S[j]? = some t → t.n ≠ n) : syIx S n = S.length := by
  unfold syIx
  rw [List.findIdx_eq_length]
  intro t ht
  obtain ⟨j, hj⟩ := List.getElem?_of_mem ht
  have := hb j t (List.getElem?_eq_some_iff.1 hj).1 hj
  simpa using this
theorem syS_in {S : List Sy} {n : ByteArray} (h : syIx S n < S.length) : syS S n = S := by unfold syS; rw [if_pos h]
theorem syS_out {S : List Sy} {n : ByteArray} (h : syIx S n = S.length) : syS S n = S ++ [⟨n, 3, 0, true⟩] := by unfold syS; rw [if_neg (by omega)]
set_option maxRecDepth 100000 in
set_option maxHeartbeats 4000000 in
theorem sym_x {w0 w : World} {base H : Nat} {R : List Ro} {V : OV} {x : PO} (h : OgB w0 w base H R V x) (hS : x.S.length ≤ 100000) (nm : ByteArray) :
    Calls Tryz.prog 24 #[.pointer (some ⟨H, 0, none⟩), .string nm] w fun e w' => e = .returned (.int .i64 (syIx x.S nm : Nat)) ∧ ∃ vs, OgB w0 w' base H R ⟨V.d, V.c, V.m, V.r, V.q, vs⟩ ⟨x.D, x.C, x.M, x.R, x.Q, syS x.S nm⟩ := by
  obtain ⟨d, c, m, r, q, s⟩ := V
  obtain ⟨D, C, M, R', Q, S⟩ := x
  simp only at hS
  obtain ⟨sp, sc, es⟩ := own_slice h.sRow
  simp only at es
  subst es
  obtain ⟨N, hN⟩ : ∃ n, S.length = n := ⟨_, rfl⟩
  have HN := hid hN
  rw [hN] at h hS
  have HO := hid h
  have e5 := h.row.cell 5 (v := .slice sp N sc) rfl
  have n0 : (0 : Int) ≤ (N : Int) := by omega
  have n1 : (N : Int) ≤ 100000 := by omega
  have Hn1 : Hid (N ≤ 100000) := hid hS
  have Hzs := lzero_sym
  clear h hN hS
  go_enter Tryz.func24, Tryz.ntmps24
  go_wp2
  go_loop [5] (fun i => ∃ k : Nat, k ≤ N ∧ i = .int .i64 k ∧ Hid (∀ j t, j < k → S[j]? = some t → t.n ≠ nm)) (fun i => N - (intOf i).toNat)
  case atStart => exact ⟨0, Nat.zero_le _, rfl, hid (fun j t hj => by omega)⟩
  case round =>
    obtain ⟨k, hk, rfl, HK⟩ := hrel
    have k0 : (0 : Int) ≤ (k : Int) := by omega
    by_cases hlt : k < N
    · have kn : (k : Int) < (N : Int) := by omega
      obtain ⟨t, ht⟩ : ∃ t, S[k]? = some t := ⟨_, List.getElem?_eq_getElem (by rw [HN.out]; exact hlt)⟩
      obtain ⟨g, cg, hv⟩ := own_some HO.out.sRow (by simp only; rw [HN.out]; omega)
      simp only [HN.out, Value.slice.injEq, true_and] at hv
      obtain ⟨rfl, rfl⟩ := hv
      have hc := HO.out.name HN.out ht
      have Ht := hid ht
      have Hlt := hid hlt
      obtain ⟨tn, ti, tv, tg⟩ := t
      simp only at hc
      clear ht hlt
      by_cases he : tn = nm
      · have Hix : Hid (syIx S nm = k) := hid (syIx_at Ht.out he HK.out)
        have hb : (tn.toList == nm.toList) = true := by rw [beq_iff_eq]; exact toList_iff.2 he
        have heq : ∀ W : World, (Op.stringOp .eql tn nm).run Tryz.prog W = .ok (.bool true) W := fun W => by unfold Op.stringOp; simp only [hb]; rfl
        clear he
        go_wp2
        go_ret
        refine ⟨ret_i (by rw [Hix.out]), ?_⟩
        rw [syS_in (by rw [Hix.out, HN.out]; exact Hlt.out)]
        exact ⟨_, HO.out⟩
      · have hb : (tn.toList == nm.toList) = false := by rw [beq_eq_false_iff_ne]; exact fun e => he (toList_iff.1 e)
        have heq : ∀ W : World, (Op.stringOp .eql tn nm).run Tryz.prog W = .ok (.bool false) W := fun W => by unfold Op.stringOp; simp only [hb]; rfl
        have HK2 : Hid (∀ j t, j < k + 1 → S[j]? = some t → t.n ≠ nm) := hid (fun j t hj hjt => by
          rcases Nat.lt_succ_iff_lt_or_eq.1 hj with h | rfl
          · exact HK.out j t h hjt
          · rw [Ht.out] at hjt; cases hjt; exact he)
        clear he
        go_wp2
        go_round
        case rel => exact ⟨k + 1, Hlt.out, by go_num, HK2⟩
        case measure => simp [intOf]; have := Hlt.out; omega
    · obtain rfl : k = N := by omega
      clear hlt hk
      have kn : ¬ ((k : Int) < (k : Int)) := by omega
      have Hix : Hid (syIx S nm = S.length) := hid (syIx_none (by rw [HN.out]; exact HK.out))
      obtain ⟨i, hi, hz0, hz1, hz2⟩ := info_symb
      have Hi := hid hi
      have Hz0 := hid hz0
      have Hz1 := hid hz1
      have Hz2 := hid hz2
      have H1 := hid (HO.out.kept0 (World.grownBy_alloc w (.cells #[.string nm, .int .i64 3, .int .i64 0, .bool true] 63) none))
      have HOw := hid H1.out.sRow
      simp only [HN.out] at HOw
      have Hnews : Hid (∀ j u, [Value.string nm, .int .i64 3, .int .i64 0, .bool true][j]? = some u → (w.alloc (.cells #[.string nm, .int .i64 3, .int .i64 0, .bool true] 63)).cell? ((⟨w.heap.size, 0, none⟩ : Addr).add j) = some u) := hid (World.news_of_block (heap_alloc_new w _))
      clear hi hz0 hz1 hz2
      go_wp2_with (first
        | (refine wpList_append_lies _ rfl _ _ 39 rfl base 63 i _ 4 40 Tryz.underlying39 Hi.out Hz0.out Hz1.out Hz2.out rfl (by decide) _ k _ rfl HOw.out ⟨w.heap.size, 0, none⟩ 1 1 _ rfl rfl Hnews.out (by simp [Value.oneCell']) (by decide) (by have := Hn1.out; unfold maxLen; omega) (by have := Hn1.out; omega) H1.out.size _ rfl ?_
           intro gB capB wB hown hgrow hat hlt2
           have hg4 : (w.alloc (.cells #[.string nm, .int .i64 3, .int .i64 0, .bool true] 63)).grownBy wB (Value.slice sp k sc).ownBlock := hgrow
           have HE := hid (H1.out.addS (v' := .slice (some ⟨gB, 0, none⟩) (k + 1) capB) ⟨nm, 3, 0, true⟩ (by simp only [HN.out]; exact hown) hg4 (by rcases hat with e | e; (exact .inl e.symm); (exact .inr (by rw [← e]; rfl))))
           have hne := H1.out.neH ⟨.slice sp k sc, 63, 4, S.length, sysC S⟩ (by simp [obRo])
           have c4' := (H1.out.row.kept hg4 (Ne.symm hne)).cell 5 (v := .slice sp k sc) rfl
           have z4' := (H1.out.row.kept hg4 (Ne.symm hne)).free 5
           clear hown hgrow hat hlt2 hg4 hne)
        | fail)
      go_ret
      refine ⟨ret_i (by rw [Hix.out, HN.out]), ?_⟩
      rw [syS_out Hix.out]
      exact ⟨_, HE.out⟩
end Go.Proofs.YtnpnafidhcnkhaaGreatDoor
namespace Go.Proofs.YtnpnafidhcnkhaaGreatDoor
open Go.RowKit
def lsOr (w : Nat) (p : ByteArray × ByteArray) : List Lx := [atL p.1, toL 19 0 p.2] ++ List.replicate w (opL 1 0)
def obOr (w : Nat) (p : ByteArray × ByteArray) : PO := ⟨[], 318767104 :: 0 :: List.replicate w 16777216, 1 :: 0 :: List.replicate w 1, [], [⟨1, 1, 1, 0⟩], [⟨p.1, 2, 0, true⟩, ⟨p.2, 3, 0, true⟩]⟩
/-- a name and the next one: both may be, unlike -/
def NmOk (p : ByteArray × ByteArray) : Prop := (1 ≤ p.1.size ∧ p.1.size ≤ 32) ∧ (1 ≤ p.2.size ∧ p.2.size ≤ 32) ∧ p.1 ≠ p.2
theorem size_ne {b : ByteArray} (h : 1 ≤ b.size) : b ≠ ByteArray.empty := by
  rintro rfl
  have : (ByteArray.empty).size = 0 := rfl
  omega
theorem obOr_is {w : Nat} {p : ByteArray × ByteArray} (hp : NmOk p) : objX [] (lsOr w p) = obOr w p := by
  obtain ⟨⟨a1, _⟩, ⟨b1, _⟩, hne⟩ := hp
  have n1 := size_ne a1
  have n2 := size_ne b1
  unfold objX lsOr
  rw [List.foldl_append, List.foldl_cons, List.foldl_cons, List.foldl_nil]
  have h0 : lxD (poX []) (atL p.1) = ⟨[], [], [], [], [], [⟨p.1, 2, 0, true⟩]⟩ := by
    have e1 : syIx [] p.1 = 0 := rfl
    have e2 : syS [] p.1 = [⟨p.1, 3, 0, true⟩] := rfl
    unfold lxD atL poX
    rw [if_pos n1]
    simp only [e1, e2]
    rfl
  have hix : syIx [⟨p.1, 2, 0, true⟩] p.2 = 1 := by
    refine syIx_none (S := [⟨p.1, 2, 0, true⟩]) fun j t hj ht => ?_
    obtain rfl : j = 0 := by simpa using hj
    obtain rfl := Option.some.inj ht
    exact hne
  have hsy : syS [⟨p.1, 2, 0, true⟩] p.2 = [⟨p.1, 2, 0, true⟩, ⟨p.2, 3, 0, true⟩] := syS_out hix
  have h1 : lxD ⟨[], [], [], [], [], [⟨p.1, 2, 0, true⟩]⟩ (toL 19 0 p.2) = ⟨[], [318767104, 0], [1, 0], [], [⟨1, 1, 1, 0⟩], [⟨p.1, 2, 0, true⟩, ⟨p.2, 3, 0, true⟩]⟩ := by
    unfold lxD toL
    rw [if_neg (by simp), if_neg (by simp), if_pos (show twoB 19 = true by decide)]
    unfold wrdX relX
    rw [if_neg n2]
    simp only [hix, hsy]
    have hw : wordV 19 0 0 0 0 = 318767104 := by kernel_rfl
    rw [hw]
    rfl
  rw [h0, h1, lxs_ops _ rfl, show wordV 1 0 0 0 0 = 16777216 by kernel_rfl]
  rfl
section
variable {w : Nat} {p : ByteArray × ByteArray}
theorem obOr_len : (obOr w p).C.length = w + 2 := by simp [obOr]
theorem mapOr {j : Nat} (hj : j < w + 2) : mapN (obOr w p) j = if j = 1 then 0 else 1 := by
  unfold mapN obOr
  simp only
  match j with
  | 0 => rfl
  | 1 => rfl
  | j + 2 =>
    rw [List.getD_cons_succ, List.getD_cons_succ, List.getD_eq_getElem?_getD, List.getElem?_replicate, if_pos (by omega), if_neg (by omega)]; rfl
theorem codeOr {j : Nat} (hj : j < w + 2) : (obOr w p).C.getD j 0 = if j = 0 then 318767104 else if j = 1 then 0 else 16777216 := by
  unfold obOr
  simp only
  match j with
  | 0 => rfl
  | 1 => rfl
  | j + 2 =>
    rw [List.getD_cons_succ, List.getD_cons_succ, List.getD_eq_getElem?_getD, List.getElem?_replicate, if_pos (by omega), if_neg (by omega), if_neg (by omega)]; rfl
theorem opW_or : opW 318767104 = 19 := by decide
theorem opOr {j : Nat} (hj : j < w + 2) : opN (obOr w p) j = if j = 0 then 19 else if j = 1 then 0 else 1 := by
  unfold opN
  rw [mapOr hj, codeOr hj]
  by_cases h0 : j = 0
  · subst h0; show (if (1 : Int) = 1 then opW 318767104 else 0) = 19; rw [if_pos rfl]; exact opW_or
  · by_cases h1 : j = 1
    · subst h1; rfl
    · rw [if_neg h1, if_pos rfl, if_neg h0, if_neg h1, if_neg h0]; exact opW_ends.2
theorem woOr : woC (obOr w p) = obOr w p := by
  have hc : ∀ k, calB (obOr w p) k = false := by
    intro k
    unfold calB
    by_cases hk : k + 1 < min (obOr w p).C.length (obOr w p).M.length
    · have hl : k + 1 < w + 2 := by rw [obOr_len] at hk; omega
      by_cases e : k = 0
      · subst e
        have h96 : decide (opW ((obOr w p).C.getD 0 0) = 96) = false := by
          rw [codeOr (by omega), if_pos rfl, opW_or]; rfl
        rw [h96]
        simp
      · have hm : (obOr w p).M.getD (k + 1) 0 = 1 := by
          have := mapOr (w := w) (p := p) hl
          rw [if_neg (by omega)] at this
          exact this
        rw [hm]; simp
    · simp [hk]
  have h1 : woCn (obOr w p) (obOr w p).C.length = (obOr w p).C := by
    unfold woCn
    apply List.ext_getElem?
    intro k
    by_cases hk : k < (obOr w p).C.length
    · simp [hk, woW, hc]
    · simp [hk]
  have h2 : woQn (obOr w p) (obOr w p).Q.length = (obOr w p).Q := by
    unfold woQn
    have : ∀ r, woQ (obOr w p) r = r := by
      intro r
      unfold woQ calI
      simp [hc]
    rw [List.take_length, List.drop_length, List.append_nil]
    conv => rhs; rw [← List.map_id (obOr w p).Q]
    exact List.map_congr_left fun r _ => this r
  unfold woC
  rw [h1, h2]
theorem valOr (hw : w ≤ 1000) (hp : NmOk p) : validP (woC (obOr w p)) = none := by
  obtain ⟨⟨a1, a2⟩, ⟨b1, b2⟩, hne⟩ := hp
  rw [woOr]
  have hC := obOr_len (w := w) (p := p)
  have hO := fun j hj => opOr (w := w) (p := p) (j := j) hj
  have hM := fun j hj => mapOr (w := w) (p := p) (j := j) hj
  unfold validP
  rw [if_neg (by unfold manyB; rw [hC]; simp [obOr]; omega), if_neg (by rw [hC]; simp [obOr])]
  rw [scanF_none, scanF_none, scanF_none, scanF_none, scanF_none]
  · intro j hj
    rw [hC] at hj
    unfold unrF
    rw [hO j hj]
    by_cases h0 : j = 0
    · subst h0
      have : hasRB (obOr w p) ((0 + 1 : Nat) : Int) = true := rfl
      rw [if_pos rfl, this]
      rfl
    · by_cases h1 : j = 1
      · subst h1; rfl
      · rw [if_neg h0, if_neg h1]; rfl
  · intro j hj
    obtain rfl : j = 0 := by have : (obOr w p).Q.length = 1 := rfl; omega
    unfold codeF
    have hr : rlN (obOr w p).Q 0 = ⟨1, 1, 1, 0⟩ := rfl
    have hi : inB (obOr w p) (obOr w p).Q 0 ((obOr w p).C.length : Int) = true := by
      rw [hC]; unfold inB; rw [hr]; simp [obOr]; omega
    have hb : opB (obOr w p) 1 = 19 := by unfold opB; rw [if_neg (by omega)]; exact (hO 0 (by omega)).trans (if_pos rfl)
    have hp1 : repB (obOr w p) ⟨1, 1, 1, 0⟩ = true := by
      unfold repB
      rw [if_neg (by simp), show (1 : Int).toNat = 1 from rfl, hM 1 (by omega), hb]
      rfl
    rw [hi, hr, hp1]
    rfl
  · intro j hj
    exact absurd hj (by simp [obOr])
  · intro j hj
    have hS : (obOr w p).S.length = 2 := rfl
    have hs : standsB (obOr w p) ⟨p.1, 2, 0, true⟩ = true ∧ standsB (obOr w p) ⟨p.2, 3, 0, true⟩ = true := by
      unfold standsB
      simp only [hC]
      rw [hM _ (by simp)]
      constructor <;> simp <;> omega
    unfold symF
    obtain rfl | rfl : j = 0 ∨ j = 1 := by omega
    · rw [show symN (obOr w p) 0 = ⟨p.1, 2, 0, true⟩ from rfl, hs.1]
      have ht : twiceB (obOr w p) 0 = false := rfl
      rw [ht]
      simp only
      rw [if_neg (by omega)]
      rfl
    · rw [show symN (obOr w p) 1 = ⟨p.2, 3, 0, true⟩ from rfl, hs.2]
      have ht : twiceB (obOr w p) 1 = false := by
        unfold twiceB
        rw [show symN (obOr w p) 1 = ⟨p.2, 3, 0, true⟩ from rfl, show (obOr w p).S.take 1 = [⟨p.1, 2, 0, true⟩] from rfl]
        simp [hne]
      rw [ht]
      simp only
      rw [if_neg (by omega)]
      rfl
  · intro j hj
    rw [hC] at hj
    unfold wordF firstF
    by_cases h0 : j = 0
    · subst h0
      have e1 : mapN (obOr w p) 0 = 1 := hM 0 (by omega)
      have e2 : opN (obOr w p) 0 = 19 := hO 0 (by omega)
      have e3 : mapN (obOr w p) (0 + 1) = 0 := hM 1 (by omega)
      rw [e1, e2, e3, if_pos rfl, if_neg (by decide), hC]
      simp
    · by_cases h1 : j = 1
      · subst h1
        have hb : opB (obOr w p) 1 = 19 := by unfold opB; rw [if_neg (by omega)]; exact (hO 0 (by omega)).trans (if_pos rfl)
        have e1 : mapN (obOr w p) 1 = 0 := hM 1 (by omega)
        rw [e1, if_neg (by decide), if_pos rfl, hb]
        rfl
      · have e1 : mapN (obOr w p) j = 1 := (hM j hj).trans (if_neg h1)
        have e2 : opN (obOr w p) j = 1 := (hO j hj).trans (by rw [if_neg h0, if_neg h1])
        rw [e1, e2, if_pos rfl]; rfl
theorem obOr_b (hw : w ≤ 1000) : ObB (obOr w p) := by
  refine ⟨⟨?_, ?_, ?_, ?_⟩, ?_, ?_⟩
  · intro y hy; cases hy
  · intro y hy
    simp only [obOr, List.mem_cons, List.mem_replicate] at hy
    rcases hy with rfl | rfl | ⟨_, rfl⟩ <;> omega
  · intro y hy
    simp only [obOr, List.mem_cons, List.mem_replicate] at hy
    rcases hy with rfl | rfl | ⟨_, rfl⟩ <;> omega
  · unfold maxLen; simp [obOr]; omega
  · simp [obOr]; omega
  · intro r hr; obtain rfl := List.mem_singleton.1 hr; exact ⟨by decide, by decide⟩
end
end Go.Proofs.YtnpnafidhcnkhaaGreatDoor
namespace Go.Proofs.YtnpnafidhcnkhaaGreatDoor
open Go.RowKit
abbrev NP := ByteArray × ByteArray
def xsOr (w : Nat) (L : List NP) : List PO := L.map (obOr w)
def psO (w : Nat) : Nat → List NP → List Pt
  | _, [] => []
  | c, p :: L => ⟨obOr w p, 0, c⟩ :: psO w (c + (w + 2)) L
def mpO (w : Nat) : Nat → List NP → Mp
  | _, [] => []
  | c, p :: L => (p.1, ⟨2, (c : Int)⟩) :: mpO w (c + (w + 2)) L
theorem lkp_app {M : Mp} {n m : ByteArray} {s : Sp} (h : lkp M m = none) (hn : n ≠ m) : lkp (M ++ [(n, s)]) m = none := by
  unfold lkp at h ⊢
  rw [Option.map_eq_none_iff] at h ⊢
  rw [List.find?_append, h]
  simp [hn]
theorem runOr {w : Nat} (hw : w ≤ 1000) : ∀ (L : List NP) (ps : List Pt) (c : Nat) (M : Mp), (∀ p ∈ L, NmOk p) → (L.map (·.1)).Nodup → (∀ p ∈ L, lkp M p.1 = none) →
    jnRun (xsOr w L) ⟨ps, 0, c, M⟩ = (none, ⟨ps ++ psO w c L, 0, c + L.length * (w + 2), M ++ mpO w c L⟩)
  | [], ps, c, M, _, _, _ => by simp [xsOr, jnRun, psO, mpO]
  | p :: L, ps, c, M, hp, hd, hM => by
    have ha : jnAdd ⟨ps, 0, c, M⟩ (obOr w p) = .inr ⟨ps ++ [⟨obOr w p, 0, c⟩], 0, c + (w + 2), M ++ [(p.1, ⟨2, (c : Int)⟩)]⟩ := by
      unfold jnAdd
      rw [valOr hw (hp p List.mem_cons_self)]
      simp only
      have h1 : addS ⟨obOr w p, 0, c⟩ (obOr w p).S M = some (M ++ [(p.1, ⟨2, (c : Int)⟩)]) := by
        rw [show (obOr w p).S = [⟨p.1, 2, 0, true⟩, ⟨p.2, 3, 0, true⟩] from rfl]
        unfold addS
        rw [show globB ⟨p.1, 2, 0, true⟩ = true from rfl, if_neg (by decide), hM p List.mem_cons_self, if_neg (by decide)]
        unfold addS
        rw [show globB ⟨p.2, 3, 0, true⟩ = false from rfl, if_pos rfl]
        unfold addS ptSp
        simp
      rw [h1]
      simp only
      rw [obOr_len, show (obOr w p).D.length = 0 from rfl]
    rw [List.map_cons, List.nodup_cons] at hd
    have e : xsOr w (p :: L) = obOr w p :: xsOr w L := rfl
    rw [e, jnRun_yes ha, runOr hw L _ _ _ (fun q hq => hp q (List.mem_cons_of_mem _ hq)) hd.2 (fun q hq => lkp_app (hM q (List.mem_cons_of_mem _ hq)) (fun h => hd.1 (by rw [h]; exact List.mem_map_of_mem (f := (·.1)) hq)))]
    rw [psO, mpO, List.append_assoc, List.append_assoc, List.length_cons, Nat.succ_mul]
    simp only [List.singleton_append, Prod.mk.injEq, Jn.mk.injEq, true_and, and_true]
    omega
theorem lkp_mpO {w : Nat} {n : ByteArray} : ∀ (L : List NP) (c : Nat), n ∈ L.map (·.1) → ∃ s, lkp (mpO w c L) n = some s ∧ s.i = 2
  | [], c, h => by cases h
  | p :: L, c, h => by
    rw [mpO, lkp_cons]
    by_cases e : p.1 = n
    · rw [if_pos e]; exact ⟨_, rfl, rfl⟩
    · rw [if_neg e]
      rw [List.map_cons, List.mem_cons] at h
      rcases h with h | h
      · exact absurd h.symm e
      · exact lkp_mpO L _ h
theorem psO_mem {w : Nat} : ∀ (L : List NP) (c : Nat) (q : Pt), q ∈ psO w c L → ∃ i p, L[i]? = some p ∧ q = ⟨obOr w p, 0, c + i * (w + 2)⟩
  | [], c, q, h => by cases h
  | p :: L, c, q, h => by
    rw [psO, List.mem_cons] at h
    rcases h with rfl | h
    · exact ⟨0, p, rfl, by simp⟩
    · obtain ⟨i, p', hi, rfl⟩ := psO_mem L _ q h
      refine ⟨i + 1, p', by simpa using hi, ?_⟩
      congr 1
      rw [Nat.succ_mul]; omega
theorem psO_at {w : Nat} : ∀ (L : List NP) (c i : Nat) (p : NP), L[i]? = some p → (⟨obOr w p, 0, c + i * (w + 2)⟩ : Pt) ∈ psO w c L
  | [], c, i, p, h => by cases h
  | q :: L, c, 0, p, h => by
    obtain rfl := Option.some.inj h
    rw [psO, Nat.zero_mul]; exact List.mem_cons_self
  | q :: L, c, i + 1, p, h => by
    have := psO_at (w := w) L (c + (w + 2)) i p (by simpa using h)
    rw [psO]
    refine List.mem_cons_of_mem _ ?_
    rw [show c + (i + 1) * (w + 2) = c + (w + 2) + i * (w + 2) by rw [Nat.succ_mul]; omega]
    exact this
def jnOr (w : Nat) (L : List NP) : Jn := ⟨psO w 0 L, 0, L.length * (w + 2), mpO w 0 L⟩
/-- what is asked of the names -/
structure RingOk (L : List NP) : Prop where
  ok : ∀ p ∈ L, NmOk p
  nd : (L.map (·.1)).Nodup
  nx : ∀ p ∈ L, p.2 ∈ L.map (·.1)
  mn : nmMainL ∈ L.map (·.1)
  len : L.length ≤ 16
theorem joinOr {w : Nat} (hw : w ≤ 1000) {L : List NP} (h : RingOk L) : joinP (xsOr w L) = (none, jnOr w L) := by
  unfold joinP
  have hr := runOr hw L [] 0 [] h.ok h.nd (fun _ _ => rfl)
  rw [List.nil_append, List.nil_append, Nat.zero_add] at hr
  rw [if_neg (by have := h.len; simp [xsOr]; omega), show jn0 = ⟨[], 0, 0, []⟩ from rfl, hr]
  simp only
  have look : ∀ p ∈ L, ∃ s, lkp (mpO w 0 L) p.2 = some s ∧ s.i = 2 := fun p hp => lkp_mpO L 0 (h.nx p hp)
  have h1 : (psO w 0 L).findIdx? (missB (mpO w 0 L)) = none := by
    rw [List.findIdx?_eq_none_iff]
    intro q hq
    obtain ⟨i, p, hi, rfl⟩ := psO_mem L 0 q hq
    obtain ⟨s, hs, _⟩ := look p (List.mem_of_getElem? hi)
    unfold missB
    rw [show (obOr w p).S = [⟨p.1, 2, 0, true⟩, ⟨p.2, 3, 0, true⟩] from rfl]
    simp [hs]
  have h2 : (psO w 0 L).findIdx? (leadB (mpO w 0 L)) = none := by
    rw [List.findIdx?_eq_none_iff]
    intro q hq
    obtain ⟨i, p, hi, rfl⟩ := psO_mem L 0 q hq
    obtain ⟨s, hs, h2⟩ := look p (List.mem_of_getElem? hi)
    unfold leadB
    rw [show (obOr w p).Q = [⟨1, 1, 1, 0⟩] from rfl]
    have e : spOf (mpO w 0 L) ⟨obOr w p, 0, 0 + i * (w + 2)⟩ ⟨p.2, 3, 0, true⟩ = s := by
      unfold spOf
      rw [if_pos rfl, lkD_some hs]
    rw [List.any_cons, List.any_nil, show symN (obOr w p) (1 : Int).toNat = ⟨p.2, 3, 0, true⟩ from rfl, e, h2]
    simp
  obtain ⟨sm, hsm, hm2⟩ := lkp_mpO (w := w) L 0 h.mn
  rw [h1, h2]
  simp only
  rw [if_pos (by rw [lkD_some hsm]; exact hm2)]
  rfl
theorem qOr {w : Nat} {L : List NP} : ∀ r ∈ (whP (jnOr w L)).Q, r.k = 1 := by
  intro r hr
  rw [whP_Q] at hr
  obtain ⟨l, hl, hr⟩ := List.mem_flatten.1 hr
  obtain ⟨q, hq, rfl⟩ := List.mem_map.1 hl
  obtain ⟨i, p, _, rfl⟩ := psO_mem L 0 q hq
  obtain ⟨r0, hr0, rfl⟩ := List.mem_map.1 hr
  have : r0 = ⟨1, 1, 1, 0⟩ := List.mem_singleton.1 hr0
  subst this
  rfl
theorem qOr2 {w : Nat} {L : List NP} : ∀ r ∈ (whP (jnOr w L)).Q, r.k ≠ 2 := fun r hr => by rw [qOr r hr]; decide
/-- the repair of the i-th object -/
theorem qOr_at {w : Nat} {L : List NP} {i : Nat} {p : NP} (h : L[i]? = some p) : (⟨((i * (w + 2) + 1 : Nat) : Int), 1, lkD (mpO w 0 L) p.2, 0⟩ : Fx) ∈ (whP (jnOr w L)).Q := by
  rw [whP_Q]
  refine List.mem_flatten.2 ⟨_, List.mem_map.2 ⟨_, psO_at L 0 i p h, rfl⟩, ?_⟩
  refine List.mem_map.2 ⟨⟨1, 1, 1, 0⟩, List.mem_singleton.2 rfl, ?_⟩
  show (⟨((0 + i * (w + 2) : Nat) : Int) + 1, 1, spOf (jnOr w L).M _ ⟨p.2, 3, 0, true⟩, 0⟩ : Fx) = _
  have e : ∀ q, spOf (jnOr w L).M q ⟨p.2, 3, 0, true⟩ = lkD (mpO w 0 L) p.2 := fun q => by unfold spOf; rw [if_pos rfl]; rfl
  rw [e, Nat.zero_add]
  rfl
theorem whOr_C {w : Nat} {L : List NP} (h : JnOk (jnOr w L)) : (whP (jnOr w L)).C.length = L.length * (w + 2) := whP_Cl h
/-- the image: its length; what the i-th object's jump names; where it begins -/
theorem imgOr {w : Nat} {L : List NP} (P : PgOk (jnOr w L) 0) : (imgP (jnOr w L) 0).C.length = L.length * (w + 2) ∧
    (∀ i p, L[i]? = some p → (imgP (jnOr w L) 0).C[i * (w + 2) + 1]? = some (adP (plcP (jnOr w L) 0) (lkD (mpO w 0 L) p.2))) ∧ (imgP (jnOr w L) 0).e = adP (plcP (jnOr w L) 0) (lkD (mpO w 0 L) nmMainL) := by
  have hC := whOr_C P.h
  have hl := img_Cl P
  rw [plc_id P qOr2 (Nat.le_refl _), hC] at hl
  refine ⟨by exact_mod_cast hl, fun i p hi => ?_, ?_⟩
  · have hlen := (List.getElem?_eq_some_iff.1 hi).1
    have hb : i * (w + 2) + 1 < L.length * (w + 2) := by
      have := Nat.mul_le_mul_right (w + 2) (show i + 1 ≤ L.length by omega)
      rw [Nat.succ_mul] at this
      omega
    have h := word_at P qOr2 (qOr_at hi) rfl (by rw [hC]; exact hb)
    have e : (((i * (w + 2) + 1 : Nat) : Int)).toNat = i * (w + 2) + 1 := Int.toNat_natCast _
    rw [show (⟨((i * (w + 2) + 1 : Nat) : Int), 1, lkD (mpO w 0 L) p.2, 0⟩ : Fx).a.toNat = i * (w + 2) + 1 from e] at h
    rw [h]
    unfold wdP adP
    simp only [Int.add_zero]
    split
    · rw [Int.emod_emod_of_dvd _ (Int.dvd_refl _)]
    · rw [Int.emod_emod_of_dvd _ (Int.dvd_refl _)]
  · unfold imgP
    rw [imP_is]
    rfl
/-! ### the ring of LinkOrder -/
def ringL (n f : Nat) : List NP := (List.range n).map fun i => (nmM ((f + i) % n), nmM (((f + i) % n + 1) % n))
def ringB (L : List NP) : Bool := L.all (fun p => decide ((1 ≤ p.1.size ∧ p.1.size ≤ 32) ∧ (1 ≤ p.2.size ∧ p.2.size ≤ 32) ∧ p.1 ≠ p.2)) && decide ((L.map (·.1)).Nodup) && L.all (fun p => L.any fun q => decide (q.1 = p.2)) && (L.any fun q => decide (q.1 = nmMainL)) && decide (L.length ≤ 16)
theorem ring_of {L : List NP} (h : ringB L = true) : RingOk L := by
  unfold ringB at h
  simp only [Bool.and_eq_true, decide_eq_true_eq, List.all_eq_true, List.any_eq_true] at h
  obtain ⟨⟨⟨⟨h1, h2⟩, h3⟩, h4⟩, h5⟩ := h
  refine ⟨h1, h2, fun p hp => ?_, ?_, h5⟩
  · obtain ⟨q, hq, e⟩ := h3 p hp
    exact List.mem_map.2 ⟨q, hq, e⟩
  · obtain ⟨q, hq, e⟩ := h4
    exact List.mem_map.2 ⟨q, hq, e⟩
theorem ring_ok {n f : Nat} (hn : n < 5) (hf : f < n + 2) : RingOk (ringL (n + 2) f) := by
  have key : ((List.range 5).all fun n => (List.range (n + 2)).all fun f => ringB (ringL (n + 2) f)) = true := by decide +kernel
  exact ring_of (List.all_eq_true.1 (List.all_eq_true.1 key n (List.mem_range.2 hn)) f (List.mem_range.2 hf))
theorem ring_len (n f : Nat) : (ringL n f).length = n := by simp [ringL]
theorem ring_at {n f i : Nat} (h : i < n) : (ringL n f)[i]? = some (nmM ((f + i) % n), nmM (((f + i) % n + 1) % n)) := by
  unfold ringL
  rw [List.getElem?_map, List.getElem?_range h]; rfl
end Go.Proofs.YtnpnafidhcnkhaaGreatDoor
namespace Go.Proofs.YtnpnafidhcnkhaaGreatDoor
open Go.RowKit
theorem itW_le {K : List Int} : ∀ n, (itW K n).length ≤ n
  | 0 => by simp [itW]
  | n + 1 => by
    have ih := itW_le (K := K) n
    unfold itW
    split
    · rw [List.length_modify]; omega
    · rw [List.length_append, List.length_singleton]; omega
/-- words alone: not too long -/
theorem lng_words {W : Wh} (hQ : ∀ r ∈ W.Q, r.k ≠ 2) (h0 : W.K[0]? ≠ some 0) (hl : W.K.length = W.C.length) (hC : W.C.length ≤ 2048) (hD : W.D.length ≤ 2048) : lngB W 0 = false := by
  have hi := itsP_words hQ
  have hv : validR (itsP W) = true := by
    rw [hi]
    unfold validR okR
    simp only [Bool.and_eq_true, decide_eq_true_eq, List.all_eq_true]
    refine ⟨by have := itW_le (K := W.K) W.C.length; omega, fun it hit => ?_⟩
    have hs := itW_sz (K := W.K) W.C.length it hit
    unfold okRI
    rw [itW_b _ it hit]
    simp
    omega
  have ht : ldN W (itR (itsP W) 0) W.C.length = (W.C.length : Int) := by
    unfold ldN
    rw [if_neg (Nat.lt_irrefl _), plR_sum (fun i => by
      show (List.replicate (itsP W).length false).getD i false = false
      rw [List.getD_eq_getElem?_getD, List.getElem?_replicate]
      split <;> rfl) _ (Nat.le_refl _), List.take_length, hi, sum_itW h0 _ (by omega)]
  unfold lngB
  rw [hv, ht]
  simp
  omega
theorem lngOr {w : Nat} {L : List NP} (hw : w ≤ 1000) (h : RingOk L) (hC : L.length * (w + 2) ≤ 2048) : lngB (whP (jnOr w L)) 0 = false := by
  have hj := (joinP_ok (joinOr hw h)).1
  have hcl := whOr_C hj
  refine lng_words qOr2 ?_ (whP_kl hj) (by omega) (by rw [whP_Dl hj]; exact Nat.zero_le _)
  rw [whP_K]
  refine flat_first _ (fun p hp => ?_) (fun p hp hC => first_mark (hj.v p hp) hC)
  obtain ⟨i, q, _, rfl⟩ := psO_mem L 0 p hp
  simp [obOr]
theorem lkp_mpO2 {w : Nat} {n : ByteArray} : ∀ (L : List NP) (c : Nat), n ∈ L.map (·.1) → ∃ a : Nat, lkp (mpO w c L) n = some ⟨2, (a : Int)⟩ ∧ a < c + L.length * (w + 2)
  | [], c, h => by cases h
  | p :: L, c, h => by
    rw [mpO, lkp_cons, List.length_cons, Nat.succ_mul]
    by_cases e : p.1 = n
    · rw [if_pos e]; exact ⟨c, rfl, by omega⟩
    · rw [if_neg e]
      rw [List.map_cons, List.mem_cons] at h
      rcases h with h | h
      · exact absurd h.symm e
      · obtain ⟨a, h1, h2⟩ := lkp_mpO2 L (c + (w + 2)) h
        exact ⟨a, h1, by omega⟩
/-- the ring's first k objects -/
def rgp (n f k : Nat) : List NP := (List.range k).map fun i => (nmM ((f + i) % n), nmM (((f + i) % n + 1) % n))
theorem rgp_all (n f : Nat) : rgp n f n = ringL n f := rfl
theorem rgp_succ (n f k : Nat) : rgp n f (k + 1) = rgp n f k ++ [(nmM ((f + k) % n), nmM (((f + k) % n + 1) % n))] := by
  unfold rgp
  rw [List.range_succ, List.map_append]
  rfl
theorem rgp_len (n f k : Nat) : (rgp n f k).length = k := by simp [rgp]
theorem rg_ok {n f : Nat} (h0 : 2 ≤ n) (h1 : n ≤ 6) (hf : f < n) : RingOk (ringL n f) := by
  obtain ⟨m, rfl⟩ : ∃ m, n = m + 2 := ⟨n - 2, by omega⟩
  exact ring_ok (by omega) hf
theorem rg_nm {n f k : Nat} (h0 : 2 ≤ n) (h1 : n ≤ 6) (hf : f < n) (hk : k < n) : NmOk (nmM ((f + k) % n), nmM (((f + k) % n + 1) % n)) :=
  (rg_ok h0 h1 hf).ok _ (List.mem_of_getElem? (ring_at hk))
end Go.Proofs.YtnpnafidhcnkhaaGreatDoor

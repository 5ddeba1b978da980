/- Package link: Link: contracts. -/
import Derived.Test.YtogdpaaofihkgaaGreatDoorYLnk16
import Derived.Test.YtogdpaaofihkgaaGreatDoorYLnk13
import Derived.Test.YtogdpaaofihkgaaGreatDoorYRvB
namespace Go.Proofs.YtogdpaaofihkgaaGreatDoor
open Go.RowKit
theorem build_image0 (w : World) : (Instr.build 43 #[]).run Tryz.prog w = .ok (.agg #[.int .u32 0, .slice none 0 0, .slice none 0 0, .slice none 0 0, .slice none 0 0, .slice none 0 0]) w := by kernel_rfl
theorem obAt_words {L : List Ob} {J : Jn} (hf : ∀ o ∈ L, OFit o.x) (hj : joinP (L.map (·.x)) = (none, J)) : ∀ p ∈ J.ps, OFit p.x := by
  have gen : ∀ (xs : List PO) (J0 J1 : Jn), jnRun xs J0 = (none, J1) → (∀ x ∈ xs, OFit x) → (∀ p ∈ J0.ps, OFit p.x) → ∀ p ∈ J1.ps, OFit p.x := by
    intro xs
    induction xs with
    | nil => intro J0 J1 h _ h0; cases h; exact h0
    | cons x xs ih =>
      intro J0 J1 h hx h0
      cases ha : jnAdd J0 x with
      | inl f =>
        unfold jnRun at h
        rw [ha] at h
        simp only at h
        have h2 := congrArg Prod.fst h
        exfalso
        unfold jnAdd at ha
        split at ha
        · cases ha; cases h2
        · split at ha
          · cases ha; cases h2
          · cases ha
      | inr J2 =>
        rw [jnRun_yes ha] at h
        obtain ⟨_, hps, _, _⟩ := jnAdd_inr ha
        refine ih J2 J1 h (fun y hy => hx y (List.mem_cons_of_mem _ hy)) (fun p hp => ?_)
        rw [hps] at hp
        rcases List.mem_append.1 hp with h1 | h1
        · exact h0 p h1
        · obtain rfl := List.mem_singleton.1 h1
          exact hx x List.mem_cons_self
  have hx : ∀ x ∈ L.map (·.x), OFit x := fun x hx => by obtain ⟨o, ho, rfl⟩ := List.mem_map.1 hx; exact hf o ho
  unfold joinP at hj
  split at hj
  · cases hj
  · split at hj
    · cases hj
    · rename_i J1 hr
      split at hj
      · cases hj
      · split at hj
        · cases hj
        · split at hj
          · cases hj
            exact gen _ jn0 _ hr hx (by intro p hp; cases hp)
          · cases hj
theorem whP_words {J : Jn} (h : ∀ p ∈ J.ps, OFit p.x) : ∀ x ∈ (whP J).C, 0 ≤ x ∧ x < 4294967296 := by
  intro x hx
  rw [whP_C] at hx
  obtain ⟨l, hl, hx⟩ := List.mem_flatten.1 hx
  obtain ⟨p, hp, rfl⟩ := List.mem_map.1 hl
  exact (h p hp).c x hx
theorem PgOk.imq {J : Jn} {K : Nat} (P : PgOk J K) (hw : ∀ p ∈ J.ps, OFit p.x) (hn : J.ps.length ≤ 16) : ImQ J.M (whP J) (plcP J K) := by
  have htg := (lkD_tgt P.h P.ho P.e).2
  refine ⟨P.inc, P.bd.1, P.bd.2, whP_kl P.h, whP_Rok P.h P.ho P.hm, whP_Qok P.h P.ho P.hm, whP_Qbr P.h P.ho P.hm P.hl, htg, ?_, whP_words hw, ?_, whP_Ql P.h hn⟩
  · obtain ⟨_, k, _, hk⟩ := htg.2 (by have := P.e; omega)
    omega
  · rw [whP_R, len_flat]
    have h1 := sum_le (fun p : Pt => (p.x.R.map (fxOf J.M p p.d)).length) 1024 J.ps (fun p hp => by
      have hok := valid_ok (P.h.v p hp)
      have hmany := hok.many
      unfold manyB at hmany
      simp only [decide_eq_false_iff_not] at hmany
      have hR : (woC p.x).R.length = p.x.R.length := rfl
      simp only [List.length_map]
      omega)
    omega
/-- what Link answers: an image of the call's own, or what is wrong -/
def LinkAt (W : World) (L : List Ob) (A : Nat → Addr) (e : Ending) (w' : World) : Prop :=
  match joinP (L.map (·.x)) with
  | (some f, _) => ∃ u, e = .returned (.tuple #[.agg #[.int .u32 0, .slice none 0 0, .slice none 0 0, .slice none 0 0, .slice none 0 0, .slice none 0 0], u]) ∧ u ≠ .nilIface ∧ LftAt A w' u (some f) ∧ W.grownBy w' none
  | (none, J) => ∃ K, RndR (itsP (whP J)) K ∧ if lngB (whP J) K = true then e = .returned (.tuple #[.agg #[.int .u32 0, .slice none 0 0, .slice none 0 0, .slice none 0 0, .slice none 0 0, .slice none 0 0], errV (A 3)]) ∧ W.grownBy w' none
    else PgOk J K ∧ (∀ p ∈ J.ps, OFit p.x) ∧ ∃ v1 vC vd vp vs, e = .returned (.tuple #[.agg #[.int .u32 (imgP J K).e, v1, vC, vd, vp, vs], .nilIface]) ∧ (∀ r ∈ imRo v1 vC vd vp vs (imgP J K), w'.ownsRow W.heap.size r.e r.z r.v r.n r.xs) ∧ W.grownBy w' none
theorem joinP_len {xs : List PO} {J : Jn} (h : joinP xs = (none, J)) : J.ps.length ≤ 16 := by
  have gen : ∀ (xs : List PO) (J0 J1 : Jn), jnRun xs J0 = (none, J1) → J1.ps.length = J0.ps.length + xs.length := by
    intro xs
    induction xs with
    | nil => intro J0 J1 h; cases h; rfl
    | cons x xs ih =>
      intro J0 J1 h
      cases ha : jnAdd J0 x with
      | inl f =>
        unfold jnRun at h
        rw [ha] at h
        simp only at h
        have h2 := congrArg Prod.fst h
        exfalso
        unfold jnAdd at ha
        split at ha
        · cases ha; cases h2
        · split at ha
          · cases ha; cases h2
          · cases ha
      | inr J2 =>
        rw [jnRun_yes ha] at h
        obtain ⟨_, hps, _, _⟩ := jnAdd_inr ha
        rw [ih J2 J1 h, hps, List.length_append, List.length_singleton, List.length_cons]
        omega
  unfold joinP at h
  split at h
  · cases h
  · rename_i hl
    split at h
    · cases h
    · rename_i J1 hr
      have := gen _ _ _ hr
      split at h
      · cases h
      · split at h
        · cases h
        · split at h
          · cases h
            simp [jn0] at this
            omega
          · cases h
set_option maxRecDepth 100000 in
set_option maxHeartbeats 16000000 in
theorem link_any {W : World} {v : Value} {L : List Ob} {A : Nat → Addr} (h : ObsAt W v L) (he : ErrC W A) (hb : ∀ o ∈ L, ObB o.x) (hl : L.length ≤ 1000000) :
    Calls Tryz.prog 11 #[v] W (LinkAt W L A) := by
  have Hzi := zero_image
  have hbi := build_image0
  have HR0 := hid (RwAt.new W 43 #[.int .u32 0, .slice none 0 0, .slice none 0 0, .slice none 0 0, .slice none 0 0, .slice none 0 0])
  have HG0 := hid (World.grownBy_alloc W (.cells #[.int .u32 0, .slice none 0 0, .slice none 0 0, .slice none 0 0, .slice none 0 0, .slice none 0 0] 43) none)
  have HP := hid (prog_any (h.kept0 HG0.out) (he.kept0 HG0.out) hb hl)
  have HF := hid (fun o ho => (hb o ho).fit)
  have HS0 : Hid ((W.alloc (.cells #[.int .u32 0, .slice none 0 0, .slice none 0 0, .slice none 0 0, .slice none 0 0, .slice none 0 0] 43)).heap.size = W.heap.size + 1) := hid (by simp)
  clear h he hb hl
  go_enter Tryz.func11, Tryz.ntmps11
  go_upto_region 1 with (fail)
  obtain ⟨R, hR⟩ : ∃ R, W.heap.size = R := ⟨_, rfl⟩
  have HRe := hid hR
  try rw [hR]
  rw [hR] at HR0 HS0
  clear hR Hzi
  generalize W.alloc (.cells #[.int .u32 0, .slice none 0 0, .slice none 0 0, .slice none 0 0, .slice none 0 0, .slice none 0 0] 43) = w1 at HR0 HG0 HS0 HP ⊢
  have Hzp := zero_program
  go_wp2_with fail
  refine HP.out.mono ?_
  rintro e w2 hJ
  unfold ProAt at hJ
  cases hjp : joinP (L.map (·.x)) with
  | mk f J =>
    have Hjp := hid hjp
    rw [hjp] at hJ
    cases f with
    | some f =>
      obtain ⟨u, rfl, hne, hlft, hg⟩ := hJ
      obtain ⟨ut, up, rfl, hnn⟩ := lft_is_e hlft
      have hal := World.grownBy_alloc w2 (.cells zPr 71) none
      have HR3 := hid (HR0.out.kept0 (grown_trans hg hal))
      have HG3 := hid (grown_trans HG0.out (grown_trans hg hal))
      have Hl3 := hid (LftAt.kept0 hlft hal)
      have Hne := hid hne
      clear hal hlft hne hg hjp HR0 HG0 HP
      unfold zPr at *
      go_upto_region 3 with (fail)
      generalize w2.alloc (.cells #[.slice none 0 0, .slice none 0 0, .slice none 0 0, .slice none 0 0, .slice none 0 0, .slice none 0 0, .map none] 71) = w3 at HR3 HG3 Hl3 ⊢
      go_wp2_with (first
        | (refine wpList_store_rw rfl 43 _ _ rfl rfl rfl HR3.out info_image rfl (by simp [Value.oneCell']) ?_)
        | fail)
      have hw := HR3.out.row #[.int .u32 0, .slice none 0 0, .slice none 0 0, .slice none 0 0, .slice none 0 0, .slice none 0 0]
      have q0 := hw.cell 0 (v := .int .u32 0) rfl
      have q1 := hw.cell 1 (v := .slice none 0 0) rfl
      have q2 := hw.cell 2 (v := .slice none 0 0) rfl
      have q3 := hw.cell 3 (v := .slice none 0 0) rfl
      have q4 := hw.cell 4 (v := .slice none 0 0) rfl
      have q5 := hw.cell 5 (v := .slice none 0 0) rfl
      refine bodyPost_ret (v := .tuple #[.agg #[.int .u32 0, .slice none 0 0, .slice none 0 0, .slice none 0 0, .slice none 0 0, .slice none 0 0], .iface ut up]) (by simp [results, Tryz.results11, go_sem, q0, q1, q2, q3, q4, q5]) rfl ?_
      unfold LinkAt
      rw [Hjp.out]
      exact ⟨_, rfl, Hne.out, lft_row Hl3.out HR3.out (by decide) _, grown_setRow HG3.out (Nat.le_of_eq HRe.out) _⟩
    | none =>
      obtain ⟨K, hK, hJ⟩ := hJ
      have HK := hid hK
      by_cases hlg : lngB (whP J) K = true
      · have Hlg := hid hlg
        rw [if_pos hlg] at hJ
        obtain ⟨rfl, hg⟩ := hJ
        have hal := World.grownBy_alloc w2 (.cells zPr 71) none
        have HR3 := hid (HR0.out.kept0 (grown_trans hg hal))
        have HG3 := hid (grown_trans HG0.out (grown_trans hg hal))
        have hnn : ∀ W : World, (binOp .neq 45 (errV (A 3)) .nilIface).run Tryz.prog W = .ok (.bool true) W := fun W => run_err_neq_nil (A 3) W
        clear hal hg hjp HR0 HG0 HP hK hlg
        unfold zPr errV at *
        go_upto_region 3 with (fail)
        generalize w2.alloc (.cells #[.slice none 0 0, .slice none 0 0, .slice none 0 0, .slice none 0 0, .slice none 0 0, .slice none 0 0, .map none] 71) = w3 at HR3 HG3 ⊢
        go_wp2_with (first
          | (refine wpList_store_rw rfl 43 _ _ rfl rfl rfl HR3.out info_image rfl (by simp [Value.oneCell']) ?_)
          | fail)
        have hw := HR3.out.row #[.int .u32 0, .slice none 0 0, .slice none 0 0, .slice none 0 0, .slice none 0 0, .slice none 0 0]
        have q0 := hw.cell 0 (v := .int .u32 0) rfl
        have q1 := hw.cell 1 (v := .slice none 0 0) rfl
        have q2 := hw.cell 2 (v := .slice none 0 0) rfl
        have q3 := hw.cell 3 (v := .slice none 0 0) rfl
        have q4 := hw.cell 4 (v := .slice none 0 0) rfl
        have q5 := hw.cell 5 (v := .slice none 0 0) rfl
        refine bodyPost_ret (v := .tuple #[.agg #[.int .u32 0, .slice none 0 0, .slice none 0 0, .slice none 0 0, .slice none 0 0, .slice none 0 0], errV (A 3)]) (by simp [results, Tryz.results11, go_sem, q0, q1, q2, q3, q4, q5, errV]) rfl ?_
        unfold LinkAt
        rw [Hjp.out]
        refine ⟨K, HK.out, ?_⟩
        rw [if_pos Hlg.out]
        exact ⟨rfl, grown_setRow HG3.out (Nat.le_of_eq HRe.out) _⟩
      · rw [if_neg hlg] at hJ
        obtain ⟨v1, v2, v3, v4, v5, vl, B, rfl, hrow, hlo, hmp, hok, hpt, hap, hg⟩ := hJ
        obtain ⟨_, hmi, hle, hmain⟩ := joinP_ok hjp
        have hP : PgOk J K := ⟨hok, hpt, hmi, hle, hmain, hK, by simpa using hlg⟩
        have hOF := obAt_words HF.out hjp
        have HPg := hid hP
        have HOF := hid hOF
        have HQ := hid (hP.imq hOF (joinP_len hjp))
        have r1 := hrow ⟨v1, 25, 1, (whP J).D.length, (whP J).D.map (Value.int .u32)⟩ (by simp [whRo])
        have r2 := hrow ⟨v2, 25, 1, (whP J).C.length, (whP J).C.map (Value.int .u32)⟩ (by simp [whRo])
        have r3 := hrow ⟨v3, 5, 1, (whP J).K.length, (whP J).K.map (Value.int .u8)⟩ (by simp [whRo])
        have r4 := hrow ⟨v4, 95, 5, (whP J).R.length, fxsL (whP J).R⟩ (by simp [whRo])
        have r5 := hrow ⟨v5, 95, 5, (whP J).Q.length, fxsL (whP J).Q⟩ (by simp [whRo])
        have hB0 : PgB w1 w2 w1.heap.size v1 v2 v3 v4 v5 vl (whP J) (plcP J K) := ⟨hg, Nat.le_refl _, r1, fun r hr => by
          simp only [pgRd, List.mem_cons, List.not_mem_nil, or_false] at hr
          rcases hr with rfl | rfl | rfl | rfl | rfl
          · exact r2
          · exact r3
          · exact r4
          · exact r5
          · exact hlo, hap, hg.size⟩
        obtain ⟨p1, c1, e1⟩ := own_slice r1
        obtain ⟨p2, c2, e2⟩ := own_slice r2
        obtain ⟨p3, c3, e3⟩ := own_slice r3
        obtain ⟨p4, c4, e4⟩ := own_slice r4
        obtain ⟨p5, c5, e5⟩ := own_slice r5
        obtain ⟨p6, c6, e6⟩ := own_slice hlo
        simp only at e1 e2 e3 e4 e5 e6
        obtain ⟨n1, hn1⟩ : ∃ n, (whP J).D.length = n := ⟨_, rfl⟩
        obtain ⟨n2, hn2⟩ : ∃ n, (whP J).C.length = n := ⟨_, rfl⟩
        obtain ⟨n3, hn3⟩ : ∃ n, (whP J).K.length = n := ⟨_, rfl⟩
        obtain ⟨n4, hn4⟩ : ∃ n, (whP J).R.length = n := ⟨_, rfl⟩
        obtain ⟨n5, hn5⟩ : ∃ n, (whP J).Q.length = n := ⟨_, rfl⟩
        obtain ⟨n6, hn6⟩ : ∃ n, (whP J).C.length + 1 = n := ⟨_, rfl⟩
        rw [hn1] at e1
        rw [hn6] at e6
        rw [hn2] at e2
        rw [hn3] at e3
        rw [hn4] at e4
        rw [hn5] at e5
        subst e1 e2 e3 e4 e5 e6
        have hal := World.grownBy_alloc w2 (.cells #[.slice p1 n1 c1, .slice p2 n2 c2, .slice p3 n3 c3, .slice p4 n4 c4, .slice p5 n5 c5, .slice p6 n6 c6, .map (some B)] 71) none
        have HB3 := hid (hB0.kept0 hal)
        have HM3 := hid (hmp.kept0 hal)
        have HX3 := hid (RwAt.new w2 71 #[.slice p1 n1 c1, .slice p2 n2 c2, .slice p3 n3 c3, .slice p4 n4 c4, .slice p5 n5 c5, .slice p6 n6 c6, .map (some B)])
        clear r1 r2 r3 r4 r5 hrow hlo hmp hok hpt hap hmi hle hmain hP hOF hB0 hal hg hjp HP hK hlg hn1 hn2 hn3 hn4 hn5 hn6 HF
        go_upto_region 4 with (fail)
        obtain ⟨X, hX⟩ : ∃ X, w2.heap.size = X := ⟨_, rfl⟩
        rw [hX] at HX3 ⊢
        clear hX
        generalize w2.alloc (.cells #[.slice p1 n1 c1, .slice p2 n2 c2, .slice p3 n3 c3, .slice p4 n4 c4, .slice p5 n5 c5, .slice p6 n6 c6, .map (some B)] 71) = w3 at HB3 HM3 HX3 ⊢
        go_wp2_with (first
          | (refine wpList_load_rw rfl 71 _ rfl rfl HX3.out rfl Tryz.underlying71 info_program ?_)
          | fail)
        refine (image_any w1 w3 w1.heap.size B _ _ _ _ _ _ J.M (whP J) (plcP J K) HB3.out HM3.out HQ.out).mono ?_
        rintro e w4 ⟨vC, vd, vp, vs, rfl, hg4, hro⟩
        have hc1 := hro ⟨vC, 25, 1, (imgP J K).C.length, (imgP J K).C.map (Value.int .u32)⟩ (by simp [imRo])
        have hc2 := hro ⟨vd, 3, 1, (imgP J K).dr.length, (imgP J K).dr.map (Value.int .i64)⟩ (by simp [imRo])
        have hc3 := hro ⟨vp, 3, 1, (imgP J K).pl.length, (imgP J K).pl.map (Value.int .i64)⟩ (by simp [imRo])
        have hc4 := hro ⟨vs, 3, 1, (imgP J K).st.length, (imgP J K).st.map (Value.int .i64)⟩ (by simp [imRo])
        obtain ⟨pC, cC, eC⟩ := own_slice hc1
        obtain ⟨pd, cd, ed⟩ := own_slice hc2
        obtain ⟨pp, cp, ep⟩ := own_slice hc3
        obtain ⟨ps, cs, es⟩ := own_slice hc4
        simp only at eC ed ep es
        obtain ⟨m1, hm1⟩ : ∃ n, (imgP J K).C.length = n := ⟨_, rfl⟩
        obtain ⟨m2, hm2⟩ : ∃ n, (imgP J K).dr.length = n := ⟨_, rfl⟩
        obtain ⟨m3, hm3⟩ : ∃ n, (imgP J K).pl.length = n := ⟨_, rfl⟩
        obtain ⟨m4, hm4⟩ : ∃ n, (imgP J K).st.length = n := ⟨_, rfl⟩
        rw [hm1] at eC
        rw [hm2] at ed
        rw [hm3] at ep
        rw [hm4] at es
        subst eC ed ep es
        have Hro := hid hro
        have HR4 := hid (HR0.out.kept0 hg4)
        have HG4 := hid (grown_trans HG0.out hg4)
        obtain ⟨e0, he0⟩ : ∃ e, (imgP J K).e = e := ⟨_, rfl⟩
        have He0 := hid he0
        rw [show (imP (whP J) J.M (plcP J K)).e = e0 from he0]
        clear hc1 hc2 hc3 hc4 hro hg4 hm1 hm2 hm3 hm4 he0 HB3 HM3 HX3
        go_wp2_with (first
          | (refine wpList_store_rw rfl 43 _ _ rfl rfl rfl HR4.out info_image rfl (by simp [Value.oneCell']) ?_)
          | fail)
        have hw := HR4.out.row #[.int .u32 e0, .slice p1 n1 c1, .slice pC m1 cC, .slice pd m2 cd, .slice pp m3 cp, .slice ps m4 cs]
        have q0 := hw.cell 0 (v := .int .u32 e0) rfl
        have q1 := hw.cell 1 (v := .slice p1 n1 c1) rfl
        have q2 := hw.cell 2 (v := .slice pC m1 cC) rfl
        have q3 := hw.cell 3 (v := .slice pd m2 cd) rfl
        have q4 := hw.cell 4 (v := .slice pp m3 cp) rfl
        have q5 := hw.cell 5 (v := .slice ps m4 cs) rfl
        refine bodyPost_ret (v := .tuple #[.agg #[.int .u32 e0, .slice p1 n1 c1, .slice pC m1 cC, .slice pd m2 cd, .slice pp m3 cp, .slice ps m4 cs], .nilIface]) (by simp [results, Tryz.results11, go_sem, q0, q1, q2, q3, q4, q5]) rfl ?_
        unfold LinkAt
        rw [Hjp.out]
        refine ⟨K, HK.out, ?_⟩
        rw [if_neg (by rw [HPg.out.g]; simp)]
        refine ⟨HPg.out, HOF.out, _, _, _, _, _, by rw [He0.out], fun r hr => ?_, grown_setRow HG4.out (Nat.le_of_eq HRe.out) _⟩
        have h := Hro.out r hr
        refine own_baseL (h.kept (grown_setR w4 R _) (.inr (fun e => ?_))) (by have h1 := HS0.out; have h2 := HRe.out; omega)
        have h1 := (h.lt R e).1
        have h2 := HS0.out
        omega
end Go.Proofs.YtogdpaaofihkgaaGreatDoor
namespace Go.Proofs.YtogdpaaofihkgaaGreatDoor
/-- a plain line: an instruction of one word, no label, no symbol -/
def opL (o a : Int) : Lx := ⟨o, a, 0, 0, 0, ByteArray.empty, ByteArray.empty, false⟩
def atL (n : ByteArray) : Lx := ⟨0, 0, 0, 0, 0, n, ByteArray.empty, false⟩
theorem lxD_op (x : PO) {o a : Int} (h : twoB o = false) : lxD x (opL o a) = ⟨x.D, x.C ++ [wordV o a 0 0 0], x.M ++ [1], x.R, x.Q, x.S⟩ := by
  unfold lxD opL
  simp [h, relX, wrdX]
theorem lxs_ops (x : PO) {o a : Int} (h : twoB o = false) (n : Nat) : (List.replicate n (opL o a)).foldl lxD x = ⟨x.D, x.C ++ List.replicate n (wordV o a 0 0 0), x.M ++ List.replicate n 1, x.R, x.Q, x.S⟩ := by
  induction n generalizing x with
  | zero => simp
  | succ n ih => rw [List.replicate_succ, List.foldl_cons, lxD_op x h, ih]; simp [List.replicate_succ]
/-- words that each are an item: the items -/
theorem itN_ones (n k : Nat) (h : k ≤ n) : itN (List.replicate n 1) k = k := by
  unfold itN
  rw [List.take_replicate, List.filter_replicate]
  simp; omega
theorem itOf_ones (n k : Nat) (h : k < n) : itOf (List.replicate n 1) k = k := by unfold itOf; rw [itN_ones n (k + 1) h]; rfl
theorem itW_ones (n k : Nat) (h : k ≤ n) : itW (List.replicate n 1) k = List.replicate k ⟨1, 0, false⟩ := by
  induction k with
  | zero => rfl
  | succ k ih =>
    unfold itW
    rw [if_neg (by rw [List.getD_eq_getElem?_getD, List.getElem?_replicate, if_pos (by omega)]; decide), ih (by omega), List.replicate_succ']
/-- where items of one word stand -/
theorem plR_ones {L : List RIt} {B : List Bool} {n : Nat} (h : ∀ i, i < n → sR L[i]? = 1) (hb : ∀ i, i < n → B.getD i false = false) : ∀ k, k ≤ n → plR L B k = (k : Int)
  | 0, _ => rfl
  | k + 1, hk => by
    unfold plR szR
    rw [plR_ones h hb k (by omega), h k (by omega), hb k (by omega)]
    simp
theorem farR_none {L : List RIt} {B : List Bool} : ∀ n, (∀ k, k < n → tooB L B k = false) → farR L B n = []
  | 0, _ => rfl
  | n + 1, h => by rw [farR_succ_no (h n (by omega)), farR_none n fun k hk => h k (by omega)]
/-- no item goes too far at first: no round -/
theorem rnd_zero {L : List RIt} {K : Nat} (h : RndR L K) (h0 : ∀ k, k < L.length → tooB L (itR L 0) k = false) : K = 0 :=
  rnd_unique h ⟨farR_none _ h0, fun i hi => absurd hi (by omega)⟩
theorem tooB_plain {L : List RIt} {B : List Bool} {k : Nat} (h : ∀ it, L[k]? = some it → it.b = false) : tooB L B k = false := by
  unfold tooB
  cases hk : L[k]? with
  | none => rfl
  | some it => simp [h it hk]
end Go.Proofs.YtogdpaaofihkgaaGreatDoor

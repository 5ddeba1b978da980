/- Package link: Link: contracts. -/
import Derived.Test.YteanjchbnaoopaaDoorYLnk16
import Derived.Test.YteanjchbnaoopaaDoorYLnk13
import Derived.Test.YteanjchbnaoopaaDoorYLnkM
import Derived.Test.YteanjchbnaoopaaDoorYLnk5
import Derived.Test.YteanjchbnaoopaaDoorYRewP
import Derived.Test.YteanjchbnaoopaaDoorYRel5
import Derived.Deep.Slices
import Derived.ChangeArms
import Derived.Carry
import Derived.ChangeSlices
import Derived.WideKeyArgs
import Derived.Lib.SmallJoins
import Derived.OpenShut
namespace Go.Proofs.YteanjchbnaoopaaDoor
open Go.RowKit
theorem build_image0 (w : World) : (Instr.build 29 #[]).run Tryd.prog w = .ok (.agg #[.int .u32 0, .slice none 0 0, .slice none 0 0, .slice none 0 0, .slice none 0 0, .slice none 0 0]) w := by kernel_rfl
theorem obAt_words {L : List Ob} {J : Jn} (hf : ∀ o ∈ L, OFit o.x) (hj : joinP (L.map (·.x)) = (none, J)) : ∀ p ∈ J.ps, OFit p.x := by
  have gen : ∀ (xs : List PO) (J0 J1 : Jn), jnRun xs J0 = (none, J1) → (∀ x ∈ xs, OFit x) → (∀ p ∈ J0.ps, OFit p.x) → ∀ p ∈ J1.ps, OFit p.x := by
    intro xs
    induction xs with
    | nil => intro J0 J1 h _ h0; cases h; exact h0
    | cons x xs ih =>
      intro J0 J1 h hx h0
      cases ha : jnAdd J0 x with
      | inl f =>
        unfold jnRun at h
        rw [ha] at h
        simp only at h
        have h2 := congrArg Prod.fst h
        exfalso
        unfold jnAdd at ha
        split at ha
        · cases ha; cases h2
        · split at ha
          · cases ha; cases h2
          · cases ha
      | inr J2 =>
        rw [jnRun_yes ha] at h
        obtain ⟨_, hps, _, _⟩ := jnAdd_inr ha
        refine ih J2 J1 h (fun y hy => hx y (List.mem_cons_of_mem _ hy)) (fun p hp => ?_)
        rw [hps] at hp
        rcases List.mem_append.1 hp with h1 | h1
        · exact h0 p h1
        · obtain rfl := List.mem_singleton.1 h1
          exact hx x List.mem_cons_self
  have hx : ∀ x ∈ L.map (·.x), OFit x := fun x hx => by obtain ⟨o, ho, rfl⟩ := List.mem_map.1 hx; exact hf o ho
  unfold joinP at hj
  split at hj
  · cases hj
  · split at hj
    · cases hj
    · rename_i J1 hr
      split at hj
      · cases hj
      · split at hj
        · cases hj
        · split at hj
          · cases hj
            exact gen _ jn0 _ hr hx (by intro p hp; cases hp)
          · cases hj
theorem whP_words {J : Jn} (h : ∀ p ∈ J.ps, OFit p.x) : ∀ x ∈ (whP J).C, 0 ≤ x ∧ x < 4294967296 := by
  intro x hx
  rw [whP_C] at hx
  obtain ⟨l, hl, hx⟩ := List.mem_flatten.1 hx
  obtain ⟨p, hp, rfl⟩ := List.mem_map.1 hl
  exact (h p hp).c x hx
theorem PgOk.imq {J : Jn} {K : Nat} (P : PgOk J K) (hw : ∀ p ∈ J.ps, OFit p.x) (hn : J.ps.length ≤ 16) : ImQ J.M (whP J) (plcP J K) := by
  have htg := (lkD_tgt P.h P.ho P.e).2
  refine ⟨P.inc, P.bd.1, P.bd.2, whP_kl P.h, whP_Rok P.h P.ho P.hm, whP_Qok P.h P.ho P.hm, whP_Qbr P.h P.ho P.hm P.hl, htg, ?_, whP_words hw, ?_, whP_Ql P.h hn⟩
  · obtain ⟨_, k, _, hk⟩ := htg.2 (by have := P.e; omega)
    omega
  · rw [whP_R, len_flat]
    have h1 := sum_le (fun p : Pt => (p.x.R.map (fxOf J.M p p.d)).length) 1024 J.ps (fun p hp => by
      have hok := valid_ok (P.h.v p hp)
      have hmany := hok.many
      unfold manyB at hmany
      simp only [decide_eq_false_iff_not] at hmany
      have hR : (woC p.x).R.length = p.x.R.length := rfl
      simp only [List.length_map]
      omega)
    omega
/-- what Link answers: an image of the call's own, or what is wrong -/
def LinkAt (W : World) (L : List Ob) (A : Nat → Addr) (e : Ending) (w' : World) : Prop :=
  match joinP (L.map (·.x)) with
  | (some f, _) => ∃ u, e = .returned (.tuple #[.agg #[.int .u32 0, .slice none 0 0, .slice none 0 0, .slice none 0 0, .slice none 0 0, .slice none 0 0], u]) ∧ u ≠ .nilIface ∧ LftAt A w' u (some f) ∧ W.grownBy w' none
  | (none, J) => ∃ K, RndR (itsP (whP J)) K ∧ if lngB (whP J) K = true then e = .returned (.tuple #[.agg #[.int .u32 0, .slice none 0 0, .slice none 0 0, .slice none 0 0, .slice none 0 0, .slice none 0 0], errV (A 3)]) ∧ W.grownBy w' none
    else PgOk J K ∧ (∀ p ∈ J.ps, OFit p.x) ∧ ∃ v1 vC vd vp vs, e = .returned (.tuple #[.agg #[.int .u32 (imgP J K).e, v1, vC, vd, vp, vs], .nilIface]) ∧ (∀ r ∈ imRo v1 vC vd vp vs (imgP J K), w'.ownsRow W.heap.size r.e r.z r.v r.n r.xs) ∧ W.grownBy w' none
theorem joinP_len {xs : List PO} {J : Jn} (h : joinP xs = (none, J)) : J.ps.length ≤ 16 := by
  have gen : ∀ (xs : List PO) (J0 J1 : Jn), jnRun xs J0 = (none, J1) → J1.ps.length = J0.ps.length + xs.length := by
    intro xs
    induction xs with
    | nil => intro J0 J1 h; cases h; rfl
    | cons x xs ih =>
      intro J0 J1 h
      cases ha : jnAdd J0 x with
      | inl f =>
        unfold jnRun at h
        rw [ha] at h
        simp only at h
        have h2 := congrArg Prod.fst h
        exfalso
        unfold jnAdd at ha
        split at ha
        · cases ha; cases h2
        · split at ha
          · cases ha; cases h2
          · cases ha
      | inr J2 =>
        rw [jnRun_yes ha] at h
        obtain ⟨_, hps, _, _⟩ := jnAdd_inr ha
        rw [ih J2 J1 h, hps, List.length_append, List.length_singleton, List.length_cons]
        omega
  unfold joinP at h
  split at h
  · cases h
  · rename_i hl
    split at h
    · cases h
    · rename_i J1 hr
      have := gen _ _ _ hr
      split at h
      · cases h
      · split at h
        · cases h
        · split at h
          · cases h
            simp [jn0] at this
            omega
          · cases h
set_option maxRecDepth 100000 in
set_option maxHeartbeats 16000000 in
theorem link_any {W : World} {v : Value} {L : List Ob} {A : Nat → Addr} (h : ObsAt W v L) (he : ErrC W A) (hb : ∀ o ∈ L, ObB o.x) (hl : L.length ≤ 1000000) :
    Calls Tryd.prog 7 #[v] W (LinkAt W L A) := by
  have Hzi := zero_image
  have hbi := build_image0
  have HR0 := hid (RwAt.new W 29 #[.int .u32 0, .slice none 0 0, .slice none 0 0, .slice none 0 0, .slice none 0 0, .slice none 0 0])
  have HG0 := hid (World.grownBy_alloc W (.cells #[.int .u32 0, .slice none 0 0, .slice none 0 0, .slice none 0 0, .slice none 0 0, .slice none 0 0] 29) none)
  have HP := hid (prog_any (h.kept0 HG0.out) (he.kept0 HG0.out) hb hl)
  have HF := hid (fun o ho => (hb o ho).fit)
  have HS0 : Hid ((W.alloc (.cells #[.int .u32 0, .slice none 0 0, .slice none 0 0, .slice none 0 0, .slice none 0 0, .slice none 0 0] 29)).heap.size = W.heap.size + 1) := hid (by simp)
  clear h he hb hl
  go_enter Tryd.func7, Tryd.ntmps7
  go_upto_region 1 with (fail)
  obtain ⟨R, hR⟩ : ∃ R, W.heap.size = R := ⟨_, rfl⟩
  have HRe := hid hR
  try rw [hR]
  rw [hR] at HR0 HS0
  clear hR Hzi
  generalize W.alloc (.cells #[.int .u32 0, .slice none 0 0, .slice none 0 0, .slice none 0 0, .slice none 0 0, .slice none 0 0] 29) = w1 at HR0 HG0 HS0 HP ⊢
  have Hzp := zero_program
  go_wp2_with fail
  refine HP.out.mono ?_
  rintro e w2 hJ
  unfold ProAt at hJ
  cases hjp : joinP (L.map (·.x)) with
  | mk f J =>
    have Hjp := hid hjp
    rw [hjp] at hJ
    cases f with
    | some f =>
      obtain ⟨u, rfl, hne, hlft, hg⟩ := hJ
      obtain ⟨ut, up, rfl, hnn⟩ := lft_is_e hlft
      have hal := World.grownBy_alloc w2 (.cells zPr 62) none
      have HR3 := hid (HR0.out.kept0 (grown_trans hg hal))
      have HG3 := hid (grown_trans HG0.out (grown_trans hg hal))
      have Hl3 := hid (LftAt.kept0 hlft hal)
      have Hne := hid hne
      clear hal hlft hne hg hjp HR0 HG0 HP
      unfold zPr at *
      go_upto_region 3 with (fail)
      generalize w2.alloc (.cells #[.slice none 0 0, .slice none 0 0, .slice none 0 0, .slice none 0 0, .slice none 0 0, .slice none 0 0, .map none] 62) = w3 at HR3 HG3 Hl3 ⊢
      go_wp2_with (first
        | (refine wpList_store_rw rfl 29 _ _ rfl rfl rfl HR3.out info_image rfl (by simp [Value.oneCell']) ?_)
        | fail)
      have hw := HR3.out.row #[.int .u32 0, .slice none 0 0, .slice none 0 0, .slice none 0 0, .slice none 0 0, .slice none 0 0]
      have q0 := hw.cell 0 (v := .int .u32 0) rfl
      have q1 := hw.cell 1 (v := .slice none 0 0) rfl
      have q2 := hw.cell 2 (v := .slice none 0 0) rfl
      have q3 := hw.cell 3 (v := .slice none 0 0) rfl
      have q4 := hw.cell 4 (v := .slice none 0 0) rfl
      have q5 := hw.cell 5 (v := .slice none 0 0) rfl
      refine bodyPost_ret (v := .tuple #[.agg #[.int .u32 0, .slice none 0 0, .slice none 0 0, .slice none 0 0, .slice none 0 0, .slice none 0 0], .iface ut up]) (by simp [results, Tryd.results7, go_sem, q0, q1, q2, q3, q4, q5]) rfl ?_
      unfold LinkAt
      rw [Hjp.out]
      exact ⟨_, rfl, Hne.out, lft_row Hl3.out HR3.out (by decide) _, grown_setRow HG3.out (Nat.le_of_eq HRe.out) _⟩
    | none =>
      obtain ⟨K, hK, hJ⟩ := hJ
      have HK := hid hK
      by_cases hlg : lngB (whP J) K = true
      · have Hlg := hid hlg
        rw [if_pos hlg] at hJ
        obtain ⟨rfl, hg⟩ := hJ
        have hal := World.grownBy_alloc w2 (.cells zPr 62) none
        have HR3 := hid (HR0.out.kept0 (grown_trans hg hal))
        have HG3 := hid (grown_trans HG0.out (grown_trans hg hal))
        have hnn : ∀ W : World, (binOp .neq 31 (errV (A 3)) .nilIface).run Tryd.prog W = .ok (.bool true) W := fun W => run_err_neq_nil (A 3) W
        clear hal hg hjp HR0 HG0 HP hK hlg
        unfold zPr errV at *
        go_upto_region 3 with (fail)
        generalize w2.alloc (.cells #[.slice none 0 0, .slice none 0 0, .slice none 0 0, .slice none 0 0, .slice none 0 0, .slice none 0 0, .map none] 62) = w3 at HR3 HG3 ⊢
        go_wp2_with (first
          | (refine wpList_store_rw rfl 29 _ _ rfl rfl rfl HR3.out info_image rfl (by simp [Value.oneCell']) ?_)
          | fail)
        have hw := HR3.out.row #[.int .u32 0, .slice none 0 0, .slice none 0 0, .slice none 0 0, .slice none 0 0, .slice none 0 0]
        have q0 := hw.cell 0 (v := .int .u32 0) rfl
        have q1 := hw.cell 1 (v := .slice none 0 0) rfl
        have q2 := hw.cell 2 (v := .slice none 0 0) rfl
        have q3 := hw.cell 3 (v := .slice none 0 0) rfl
        have q4 := hw.cell 4 (v := .slice none 0 0) rfl
        have q5 := hw.cell 5 (v := .slice none 0 0) rfl
        refine bodyPost_ret (v := .tuple #[.agg #[.int .u32 0, .slice none 0 0, .slice none 0 0, .slice none 0 0, .slice none 0 0, .slice none 0 0], errV (A 3)]) (by simp [results, Tryd.results7, go_sem, q0, q1, q2, q3, q4, q5, errV]) rfl ?_
        unfold LinkAt
        rw [Hjp.out]
        refine ⟨K, HK.out, ?_⟩
        rw [if_pos Hlg.out]
        exact ⟨rfl, grown_setRow HG3.out (Nat.le_of_eq HRe.out) _⟩
      · rw [if_neg hlg] at hJ
        obtain ⟨v1, v2, v3, v4, v5, vl, B, rfl, hrow, hlo, hmp, hok, hpt, hap, hg⟩ := hJ
        obtain ⟨_, hmi, hle, hmain⟩ := joinP_ok hjp
        have hP : PgOk J K := ⟨hok, hpt, hmi, hle, hmain, hK, by simpa using hlg⟩
        have hOF := obAt_words HF.out hjp
        have HPg := hid hP
        have HOF := hid hOF
        have HQ := hid (hP.imq hOF (joinP_len hjp))
        have r1 := hrow ⟨v1, 25, 1, (whP J).D.length, (whP J).D.map (Value.int .u32)⟩ (by simp [whRo])
        have r2 := hrow ⟨v2, 25, 1, (whP J).C.length, (whP J).C.map (Value.int .u32)⟩ (by simp [whRo])
        have r3 := hrow ⟨v3, 5, 1, (whP J).K.length, (whP J).K.map (Value.int .u8)⟩ (by simp [whRo])
        have r4 := hrow ⟨v4, 89, 5, (whP J).R.length, fxsL (whP J).R⟩ (by simp [whRo])
        have r5 := hrow ⟨v5, 89, 5, (whP J).Q.length, fxsL (whP J).Q⟩ (by simp [whRo])
        have hB0 : PgB w1 w2 w1.heap.size v1 v2 v3 v4 v5 vl (whP J) (plcP J K) := ⟨hg, Nat.le_refl _, r1, fun r hr => by
          simp only [pgRd, List.mem_cons, List.not_mem_nil, or_false] at hr
          rcases hr with rfl | rfl | rfl | rfl | rfl
          · exact r2
          · exact r3
          · exact r4
          · exact r5
          · exact hlo, hap, hg.size⟩
        obtain ⟨p1, c1, e1⟩ := own_slice r1
        obtain ⟨p2, c2, e2⟩ := own_slice r2
        obtain ⟨p3, c3, e3⟩ := own_slice r3
        obtain ⟨p4, c4, e4⟩ := own_slice r4
        obtain ⟨p5, c5, e5⟩ := own_slice r5
        obtain ⟨p6, c6, e6⟩ := own_slice hlo
        simp only at e1 e2 e3 e4 e5 e6
        obtain ⟨n1, hn1⟩ : ∃ n, (whP J).D.length = n := ⟨_, rfl⟩
        obtain ⟨n2, hn2⟩ : ∃ n, (whP J).C.length = n := ⟨_, rfl⟩
        obtain ⟨n3, hn3⟩ : ∃ n, (whP J).K.length = n := ⟨_, rfl⟩
        obtain ⟨n4, hn4⟩ : ∃ n, (whP J).R.length = n := ⟨_, rfl⟩
        obtain ⟨n5, hn5⟩ : ∃ n, (whP J).Q.length = n := ⟨_, rfl⟩
        obtain ⟨n6, hn6⟩ : ∃ n, (whP J).C.length + 1 = n := ⟨_, rfl⟩
        rw [hn1] at e1
        rw [hn6] at e6
        rw [hn2] at e2
        rw [hn3] at e3
        rw [hn4] at e4
        rw [hn5] at e5
        subst e1 e2 e3 e4 e5 e6
        have hal := World.grownBy_alloc w2 (.cells #[.slice p1 n1 c1, .slice p2 n2 c2, .slice p3 n3 c3, .slice p4 n4 c4, .slice p5 n5 c5, .slice p6 n6 c6, .map (some B)] 62) none
        have HB3 := hid (hB0.kept0 hal)
        have HM3 := hid (hmp.kept0 hal)
        have HX3 := hid (RwAt.new w2 62 #[.slice p1 n1 c1, .slice p2 n2 c2, .slice p3 n3 c3, .slice p4 n4 c4, .slice p5 n5 c5, .slice p6 n6 c6, .map (some B)])
        clear r1 r2 r3 r4 r5 hrow hlo hmp hok hpt hap hmi hle hmain hP hOF hB0 hal hg hjp HP hK hlg hn1 hn2 hn3 hn4 hn5 hn6 HF
        go_upto_region 4 with (fail)
        obtain ⟨X, hX⟩ : ∃ X, w2.heap.size = X := ⟨_, rfl⟩
        rw [hX] at HX3 ⊢
        clear hX
        generalize w2.alloc (.cells #[.slice p1 n1 c1, .slice p2 n2 c2, .slice p3 n3 c3, .slice p4 n4 c4, .slice p5 n5 c5, .slice p6 n6 c6, .map (some B)] 62) = w3 at HB3 HM3 HX3 ⊢
        go_wp2_with (first
          | (refine wpList_load_rw rfl 62 _ rfl rfl HX3.out rfl Tryd.underlying62 info_program ?_)
          | fail)
        refine (image_any w1 w3 w1.heap.size B _ _ _ _ _ _ J.M (whP J) (plcP J K) HB3.out HM3.out HQ.out).mono ?_
        rintro e w4 ⟨vC, vd, vp, vs, rfl, hg4, hro⟩
        have hc1 := hro ⟨vC, 25, 1, (imgP J K).C.length, (imgP J K).C.map (Value.int .u32)⟩ (by simp [imRo])
        have hc2 := hro ⟨vd, 3, 1, (imgP J K).dr.length, (imgP J K).dr.map (Value.int .i64)⟩ (by simp [imRo])
        have hc3 := hro ⟨vp, 3, 1, (imgP J K).pl.length, (imgP J K).pl.map (Value.int .i64)⟩ (by simp [imRo])
        have hc4 := hro ⟨vs, 3, 1, (imgP J K).st.length, (imgP J K).st.map (Value.int .i64)⟩ (by simp [imRo])
        obtain ⟨pC, cC, eC⟩ := own_slice hc1
        obtain ⟨pd, cd, ed⟩ := own_slice hc2
        obtain ⟨pp, cp, ep⟩ := own_slice hc3
        obtain ⟨ps, cs, es⟩ := own_slice hc4
        simp only at eC ed ep es
        obtain ⟨m1, hm1⟩ : ∃ n, (imgP J K).C.length = n := ⟨_, rfl⟩
        obtain ⟨m2, hm2⟩ : ∃ n, (imgP J K).dr.length = n := ⟨_, rfl⟩
        obtain ⟨m3, hm3⟩ : ∃ n, (imgP J K).pl.length = n := ⟨_, rfl⟩
        obtain ⟨m4, hm4⟩ : ∃ n, (imgP J K).st.length = n := ⟨_, rfl⟩
        rw [hm1] at eC
        rw [hm2] at ed
        rw [hm3] at ep
        rw [hm4] at es
        subst eC ed ep es
        have Hro := hid hro
        have HR4 := hid (HR0.out.kept0 hg4)
        have HG4 := hid (grown_trans HG0.out hg4)
        obtain ⟨e0, he0⟩ : ∃ e, (imgP J K).e = e := ⟨_, rfl⟩
        have He0 := hid he0
        rw [show (imP (whP J) J.M (plcP J K)).e = e0 from he0]
        clear hc1 hc2 hc3 hc4 hro hg4 hm1 hm2 hm3 hm4 he0 HB3 HM3 HX3
        go_wp2_with (first
          | (refine wpList_store_rw rfl 29 _ _ rfl rfl rfl HR4.out info_image rfl (by simp [Value.oneCell']) ?_)
          | fail)
        have hw := HR4.out.row #[.int .u32 e0, .slice p1 n1 c1, .slice pC m1 cC, .slice pd m2 cd, .slice pp m3 cp, .slice ps m4 cs]
        have q0 := hw.cell 0 (v := .int .u32 e0) rfl
        have q1 := hw.cell 1 (v := .slice p1 n1 c1) rfl
        have q2 := hw.cell 2 (v := .slice pC m1 cC) rfl
        have q3 := hw.cell 3 (v := .slice pd m2 cd) rfl
        have q4 := hw.cell 4 (v := .slice pp m3 cp) rfl
        have q5 := hw.cell 5 (v := .slice ps m4 cs) rfl
        refine bodyPost_ret (v := .tuple #[.agg #[.int .u32 e0, .slice p1 n1 c1, .slice pC m1 cC, .slice pd m2 cd, .slice pp m3 cp, .slice ps m4 cs], .nilIface]) (by simp [results, Tryd.results7, go_sem, q0, q1, q2, q3, q4, q5]) rfl ?_
        unfold LinkAt
        rw [Hjp.out]
        refine ⟨K, HK.out, ?_⟩
        rw [if_neg (by rw [HPg.out.g]; simp)]
        refine ⟨HPg.out, HOF.out, _, _, _, _, _, by rw [He0.out], fun r hr => ?_, grown_setRow HG4.out (Nat.le_of_eq HRe.out) _⟩
        have h := Hro.out r hr
        refine own_baseL (h.kept (grown_setR w4 R _) (.inr (fun e => ?_))) (by have h1 := HS0.out; have h2 := HRe.out; omega)
        have h1 := (h.lt R e).1
        have h2 := HS0.out
        omega
end Go.Proofs.YteanjchbnaoopaaDoor
namespace Go.Proofs.YteanjchbnaoopaaDoor
open Go.RowKit
def OssAt (W : World) (L : List Ob) (many words : Int) (e : Ending) (w' : World) : Prop := (∃ b, e = .returned (.bool b) ∧ (b = true → (L.length : Int) ≤ many ∧ ∀ o ∈ L, LightP o.x words)) ∧ W.grownBy w' none
set_option maxRecDepth 100000 in
set_option maxHeartbeats 4000000 in
theorem objects_any {W : World} {v : Value} {L : List Ob} (h : ObsAt W v L) (hf : ∀ o ∈ L, OFit o.x) (many words : Int) (h0 : 0 ≤ words) (h1 : words ≤ 1000000) (hm : many ≤ 1000000) (hl : L.length ≤ maxLen) :
    Calls Tryd.prog 6 #[v, .int .i64 many, .int .i64 words] W (OssAt W L many words) := by
  obtain ⟨vp, vc, rfl⟩ := h.cs.len
  obtain ⟨n, hn⟩ : ∃ n, L.length = n := ⟨_, rfl⟩
  have Hn := hid hn
  have HO := hid h
  have HF := hid hf
  rw [hn] at hl ⊢
  have n0 : (0 : Int) ≤ (n : Int) := by omega
  have nm : (n : Int) ≤ 9223372036854775807 := by unfold maxLen at hl; omega
  have HG0 := hid (grown_refl W none)
  clear h hf hn hl
  go_enter Tryd.func6, Tryd.ntmps6
  by_cases hgt : (n : Int) > many
  · go_wp2
    go_ret
    exact ⟨⟨false, rfl, fun h => by cases h⟩, HG0.out⟩
  · have hgd : decide (many < (n : Int)) = false := by simp; omega
    have Hle : Hid ((n : Int) ≤ many) := hid (by omega)
    have n1 : (n : Int) ≤ 1000000 := by omega
    clear hgt nm
    go_upto_region 4 with (fail)
    go_loopw [7] (fun i wr => ∃ k : Nat, k ≤ n ∧ i = .int .i64 k ∧ Hid (W.grownBy wr none) ∧ Hid (∀ j o, j < k → L[j]? = some o → LightP o.x words)) (fun i _ => n - (intOf i).toNat)
    case atStart => exact ⟨0, Nat.zero_le _, rfl, HG0, hid (fun j o hj => by omega)⟩
    case round =>
      obtain ⟨k, hk, rfl, HG, HK⟩ := hrel
      clear HG0
      have k0 : (0 : Int) ≤ (k : Int) := by omega
      by_cases hlt : k < n
      · have kn : (k : Int) < (n : Int) := by omega
        have Hlt := hid hlt
        obtain ⟨⟨V, x⟩, ho⟩ : ∃ o, L[k]? = some o := ⟨_, List.getElem?_eq_getElem (by rw [Hn.out]; exact hlt)⟩
        have Ho := hid ho
        have hobs := HO.out.kept0 HG.out
        have hoat := hobs.each _ (List.mem_of_getElem? ho)
        have hfit := HF.out _ (List.mem_of_getElem? ho)
        have HLg := hid (light_any hoat hfit words h0 h1)
        obtain ⟨p1, n1', c1, p2, n2, c2, p3, n3, c3, p4, n4, c4, p5, n5, c5, p6, n6, c6, hV⟩ := OAt.cells hoat
        simp only at hV hoat hfit
        subst hV
        obtain ⟨bo, oo, co, hv, hbo, g0, g1, g2, g3, g4, g5⟩ := ob_item hobs ho
        rw [Hn.out] at hv
        simp only [Value.slice.injEq, true_and] at hv
        obtain ⟨rfl, rfl⟩ := hv
        simp only at g0 g1 g2 g3 g4 g5
        clear ho hoat hobs hfit hbo hlt hk
        go_upto_region 6 with (fail)
        go_wp2_with fail
        refine HLg.out.mono ?_
        rintro e w2 ⟨⟨b, rfl, hb⟩, hg⟩
        have HG2 := hid (grown_trans HG.out hg)
        have Hb := hid hb
        clear g0 g1 g2 g3 g4 g5 HLg hg hb HG
        cases b with
        | false =>
          go_wp2
          go_ret
          exact ⟨⟨false, rfl, fun h => by cases h⟩, HG2.out⟩
        | true =>
          have HK2 : Hid (∀ j o, j < k + 1 → L[j]? = some o → LightP o.x words) := hid (fun j o hj hjo => by
            rcases Nat.lt_succ_iff_lt_or_eq.1 hj with h | rfl
            · exact HK.out j o h hjo
            · rw [Ho.out] at hjo; cases hjo; exact Hb.out rfl)
          clear Hb HK
          go_wp2
          go_roundw
          case rel => exact ⟨k + 1, Hlt.out, by go_num, HG2, HK2⟩
          case measure => simp [intOf]; have := Hlt.out; omega
      · obtain rfl : n = k := by omega
        have kn : ¬ ((n : Int) < (n : Int)) := by omega
        clear hlt hk
        go_wp2
        go_ret
        refine ⟨⟨true, rfl, fun _ => ⟨by rw [Hn.out]; exact Hle.out, fun o ho => ?_⟩⟩, HG.out⟩
        obtain ⟨j, hj⟩ := List.getElem?_of_mem ho
        exact HK.out j o (by rw [← Hn.out]; exact (List.getElem?_eq_some_iff.1 hj).1) hj
end Go.Proofs.YteanjchbnaoopaaDoor
namespace Go.Proofs.YteanjchbnaoopaaDoor
open Go.RowKit
set_option maxRecDepth 100000 in
set_option maxHeartbeats 4000000 in
theorem among_any {W : World} {v : Value} {xs : List Int} (h : SlAt W .i64 v xs) (hl : xs.length ≤ 1000000) (n : Int) {t : Bool} (ht : decide (n ∈ xs) = t) :
    Calls Tryd.prog 8 #[v, .int .i64 n] W fun e w' => e = .returned (.bool t) ∧ W = w' := by
  obtain ⟨p, c, rfl⟩ := h.len'
  obtain ⟨N, hN⟩ : ∃ N, xs.length = N := ⟨_, rfl⟩
  have HN := hid hN
  have HS := hid h
  rw [hN] at hl ⊢
  have Ht := hid ht
  have n0 : (0 : Int) ≤ (N : Int) := by omega
  have n1 : (N : Int) ≤ 1000000 := by omega
  clear h hN hl ht
  go_enter Tryd.func8, Tryd.ntmps8
  go_wp2
  go_loop [5] (fun i => ∃ k : Nat, k ≤ N ∧ i = .int .i64 k ∧ Hid (∀ j y, j < k → xs[j]? = some y → y ≠ n)) (fun i => N - (intOf i).toNat)
  case atStart => exact ⟨0, Nat.zero_le _, rfl, hid (fun j y hj => by omega)⟩
  case round =>
    obtain ⟨k, hk, rfl, HK⟩ := hrel
    have k0 : (0 : Int) ≤ (k : Int) := by omega
    by_cases hlt : k < N
    · have kn : (k : Int) < (N : Int) := by omega
      obtain ⟨y, hy⟩ : ∃ y, xs[k]? = some y := ⟨_, List.getElem?_eq_getElem (by rw [HN.out]; exact hlt)⟩
      obtain ⟨b, o, c', hv, hb, hc⟩ := HS.out.at_ (by rw [HN.out]; omega)
      rw [HN.out] at hv
      simp only [Value.slice.injEq, true_and] at hv
      obtain ⟨rfl, rfl⟩ := hv
      have e1 := hc k y hy
      have Hy := hid hy
      have Hlt := hid hlt
      clear hy hc hb hlt hk
      by_cases he : y = n
      · have hb : (y == n) = true := by simpa using he
        have HT : Hid (t = true) := hid (by rw [← Ht.out, ← he]; exact decide_eq_true (List.mem_of_getElem? Hy.out))
        clear he
        go_wp2
        go_ret
        exact ⟨by rw [HT.out]; rfl, rfl⟩
      · have hb : (y == n) = false := by simpa using he
        have HK2 : Hid (∀ j y, j < k + 1 → xs[j]? = some y → y ≠ n) := hid (fun j z hj hz => by
          rcases Nat.lt_succ_iff_lt_or_eq.1 hj with h | rfl
          · exact HK.out j z h hz
          · rw [Hy.out] at hz; cases hz; exact he)
        clear he
        go_wp2
        go_round
        case rel => exact ⟨k + 1, Hlt.out, by go_num, HK2⟩
        case measure => simp [intOf]; have := Hlt.out; omega
    · obtain rfl : N = k := by omega
      have kn : ¬ ((N : Int) < (N : Int)) := by omega
      have HT : Hid (t = false) := hid (by
        rw [← Ht.out]
        refine decide_eq_false (fun h => ?_)
        obtain ⟨j, hj⟩ := List.getElem?_of_mem h
        exact HK.out j n (by rw [← HN.out]; exact (List.getElem?_eq_some_iff.1 hj).1) hj rfl)
      clear hlt hk
      go_wp2
      go_ret
      exact ⟨by rw [HT.out]; rfl, rfl⟩
end Go.Proofs.YteanjchbnaoopaaDoor
namespace Go.Proofs.YteanjchbnaoopaaDoor
open Go.RowKit
theorem stR_far_yes {L : List RIt} {B : List Bool} {k : Nat} (h : tooB L B k = true) : stR B (farR L B (k + 1)) = (stR B (farR L B k)).set k true := by
  rw [farR_succ_yes h, stR_snoc, Int.toNat_natCast]
theorem stR_far_no {L : List RIt} {B : List Bool} {k : Nat} (h : tooB L B k = false) : stR B (farR L B (k + 1)) = stR B (farR L B k) := by
  rw [farR_succ_no h]
/-- the loop within: what is long now, where each begins, what becomes long -/
structure R9W (W w : World) (n : Nat) (B : List Bool) (lv av nv : Value) (L : List RIt) (k : Nat) : Prop where
  gr : W.grownBy w none
  lng : w.ownsRow W.heap.size 4 1 lv n (B.map Value.bool)
  at_ : SlAt w .i64 av (plsR L B (n + 1))
  nxt : w.ownsRow W.heap.size 4 1 nv n ((stR B (farR L B k)).map Value.bool)
  n1 : lv.ownBlock = none ∨ lv.ownBlock ≠ nv.ownBlock
  n2 : av.ownBlock = none ∨ av.ownBlock ≠ nv.ownBlock
theorem R9W.kept0 {W w w1 : World} {n k : Nat} {B : List Bool} {lv av nv : Value} {L : List RIt} (h : R9W W w n B lv av nv L k) (hg : w.grownBy w1 none) : R9W W w1 n B lv av nv L k :=
  ⟨grown_trans h.gr hg, h.lng.kept hg (by cases lv.ownBlock <;> simp), h.at_.kept0 hg, h.nxt.kept hg (by cases nv.ownBlock <;> simp), h.n1, h.n2⟩
theorem R9W.skip {W w : World} {n k : Nat} {B : List Bool} {lv av nv : Value} {L : List RIt} (h : R9W W w n B lv av nv L k) (hf : tooB L B k = false) : R9W W w n B lv av nv L (k + 1) :=
  ⟨h.gr, h.lng, h.at_, by rw [stR_far_no hf]; exact h.nxt, h.n1, h.n2⟩
theorem R9W.set {W w : World} {n k : Nat} {B : List Bool} {lv av : Value} {g cap : Nat} {L : List RIt} (h : R9W W w n B lv av (.slice (some ⟨g, 0, none⟩) n cap) L k) (hf : tooB L B k = true) :
    R9W W (w.setCell ⟨g, k, none⟩ (.bool true)) n B lv av (.slice (some ⟨g, 0, none⟩) n cap) L (k + 1) := by
  obtain ⟨h1, h2⟩ := h.nxt.stored k (.bool true)
  have hge := (h.nxt.lt g rfl).1
  refine ⟨grown_new' (grown_trans (grown_none h.gr) h2) (fun j hj => by obtain rfl := Option.some.inj hj; exact hge), h.lng.kept h2 h.n1, h.at_.kept h2 h.n2, ?_, h.n1, h.n2⟩
  rw [stR_far_yes hf, List.map_set]
  exact h1
end Go.Proofs.YteanjchbnaoopaaDoor
namespace Go.Proofs.YteanjchbnaoopaaDoor
open Go.RowKit Go.WideShapes Go.ChangeShapes Go.Deep
section
variable {H : Type} {enc : TypeId × Value → H} {W : World}
set_option maxRecDepth 100000 in
/-- a slice of structs that came in, opened by what opens one -/
theorem structs_of {α : Type} {t e : TypeId} {sz : Nat} (C : α → List Value) (CC : List α → List Value) (hCl : ∀ a, (C a).length = sz) (hsz : 0 < sz)
    (hCC : ∀ (l : List α) (j : Nat) (u : Value), (CC l)[j]? = some u → ∃ k i a, j = k * sz + i ∧ l[k]? = some a ∧ (C a)[i]? = some u)
    (ht : Tryd.prog.underlying t = some (.slice e)) (hc : Tryd.prog.cellsOf e = sz)
    (one : ∀ (fuel : Nat) (cs : List Value) (x : DataW H × List MemPlace), DataW.trod enc Tryd.prog W 0 (fun _ => true) true fuel e cs = some x → ∃ a, cs = C a)
    {base : Nat} {v : Value} {d : DataW H} {ps : List MemPlace} (hv : Value.okWide Tryd.prog W .any base t v) (h : DataW.Trod enc Tryd.prog W 0 (fun _ => true) true t v d ps) (hnil : CC [] = []) :
    ∃ l : List α, CsAt W v l.length (CC l) ∧ l.length ≤ maxLen := by
  obtain ⟨p, len, cap, rfl⟩ := okWide_slice ht hv
  obtain ⟨fuel, hf⟩ := h
  have hf' : DataW.trod enc Tryd.prog W 0 (fun _ => true) true fuel t [.slice p len cap] = some (d, ps) := by simpa [Value.cells] using hf
  rcases open_slice ht hf' with ⟨hcs, _⟩ | ⟨a, len', cap', m, n, D, Pl, hcs, _, hl, hm, hmm, _, hi⟩
  · simp at hcs
    obtain ⟨rfl, rfl, rfl⟩ := hcs
    exact ⟨[], .inl ⟨⟨_, _, rfl⟩, rfl, hnil⟩, by simp⟩
  · simp only [List.cons.injEq, Value.slice.injEq, and_true] at hcs
    obtain ⟨rfl, rfl, rfl⟩ := hcs
    simp only [if_true] at hmm
    by_cases h0 : len = 0
    · subst h0
      exact ⟨[], .inl ⟨⟨_, _, rfl⟩, rfl, hnil⟩, by simp⟩
    · obtain ⟨b, off, spot⟩ := a
      have hspot : spot = none := by
        obtain ⟨cs0, hc0, ht0⟩ := hi 0 (by omega)
        rw [hc] at hc0
        obtain ⟨_, hcl0, hat0⟩ := World.cells?_some hc0
        have h0 := (hat0 0 (by omega)).trans (List.getElem?_eq_getElem (by omega))
        simpa [Addr.add] using World.cell?_spot h0
      subst hspot
      have each : ∀ i, i < len → ∃ d : α, ∀ j c, (C d)[j]? = some c → W.cell? ⟨b, off + (i * sz + j), none⟩ = some c := by
        intro i hil
        obtain ⟨cs', hcc, htt⟩ := hi i (by omega)
        rw [hc] at hcc
        obtain ⟨dd, rfl⟩ := one _ _ _ htt
        obtain ⟨_, hcl, hat⟩ := World.cells?_some hcc
        refine ⟨dd, fun j c hj => ?_⟩
        have hj4 : j < sz := by have := (List.getElem?_eq_some_iff.1 hj).1; rw [hCl] at this; exact this
        have := hat j hj4
        rw [Addr.add_mid, Addr.add_mid, hj] at this
        rw [← this]
        congr 2
        omega
      have hblk : b < W.heap.size := by
        obtain ⟨d0, hd0⟩ := each 0 (by omega)
        have hl0 := hCl d0
        exact World.block_lt_of_cell? W _ (hd0 0 _ (List.getElem?_eq_getElem (by omega)))
      let l := List.ofFn (fun i : Fin len => Classical.choose (each i.1 i.2))
      have hlen : l.length = len := by simp [l]
      refine ⟨l, ?_, by rw [hlen]; omega⟩
      rw [hlen]
      refine .inr ⟨b, off, cap, rfl, hl, hblk, fun j u hu => ?_⟩
      obtain ⟨k, i, a, rfl, hk, hia⟩ := hCC l j u hu
      have hkl : k < len := by have := (List.getElem?_eq_some_iff.1 hk).1; rw [hlen] at this; exact this
      have he : a = Classical.choose (each k hkl) := by
        simp only [l, List.getElem?_ofFn, hkl, dif_pos] at hk
        exact (Option.some.inj hk).symm
      subst he
      exact Classical.choose_spec (each k hkl) i u hia
end
end Go.Proofs.YteanjchbnaoopaaDoor
namespace Go.Proofs.YteanjchbnaoopaaDoor
open Go.Joins Go.ChangeShapes Go.WideShapes Go.RowKit Go.Deep
section
variable {H : Type} {enc : TypeId × Value → H} {W : World}
def RlBd (r : Rl) : Prop := -9223372036854775808 ≤ r.a ∧ r.a ≤ 9223372036854775807
abbrev RlB := {r : Rl // RlBd r}
set_option maxRecDepth 100000 in
theorem rl_ofB {fuel : Nat} {cs : List Value} {x : DataW H × List MemPlace} (h : DataW.trod enc Tryd.prog W 0 (fun _ => true) true fuel 76 cs = some x) : ∃ r : RlB, cs = rlC r.1 := by
  have c1 : Tryd.prog.cellsOf 3 = 1 := by kernel_rfl
  have c4 : Tryd.prog.cellsOf 76 = 4 := by kernel_rfl
  obtain ⟨xs, n, _, _, hlen, hxl, hg⟩ := DataW.trod_struct Tryd.underlying76 h
  rw [c4] at hlen
  match cs, hlen, xs, hxl with
  | [v0, v1, v2, v3], _, [y0, y1, y2, y3], _ =>
    have g0 := hg 0 _ rfl
    have g1 := hg 1 _ rfl
    have g2 := hg 2 _ rfl
    have g3 := hg 3 _ rfl
    simp [c1] at g0 g1 g2 g3
    obtain ⟨a0, e0, _, w0⟩ := DataW.trod_int Tryd.underlying3 g0
    obtain ⟨a1, e1, _, _⟩ := DataW.trod_int Tryd.underlying3 g1
    obtain ⟨a2, e2, _, _⟩ := DataW.trod_int Tryd.underlying3 g2
    obtain ⟨a3, e3, _, _⟩ := DataW.trod_int Tryd.underlying3 g3
    simp only [List.cons.injEq, and_true] at e0 e1 e2 e3
    subst e0; subst e1; subst e2; subst e3
    exact ⟨⟨⟨a0, a1, a2, a3⟩, i64_bd w0⟩, rfl⟩
/-- an object, and its slices: what came in -/
def ObIn (W : World) (o : Ob) : Prop := OAt W o.V o.x ∧ OFit o.x ∧ ∀ r ∈ o.x.Q, RlBd r
abbrev ObI (W : World) := {o : Ob // ObIn W o}
set_option maxRecDepth 100000 in
theorem ob_of {fuel : Nat} {cs : List Value} {x : DataW H × List MemPlace} (h : DataW.trod enc Tryd.prog W 0 (fun _ => true) true fuel 52 cs = some x) : ∃ o : ObI W, cs = obC o.1 := by
  have hs := Tryd.underlying52
  have hC : Tryd.prog.cellsOf 52 = 6 := by kernel_rfl
  have c0 : Tryd.prog.cellsOf 26 = 1 := by kernel_rfl
  have c1 : Tryd.prog.cellsOf 48 = 1 := by kernel_rfl
  have c2 : Tryd.prog.cellsOf 49 = 1 := by kernel_rfl
  have c3 : Tryd.prog.cellsOf 50 = 1 := by kernel_rfl
  have cu : Tryd.prog.cellsOf 25 = 1 := by kernel_rfl
  have cb : Tryd.prog.cellsOf 5 = 1 := by kernel_rfl
  have cr : Tryd.prog.cellsOf 76 = 4 := by kernel_rfl
  have cy : Tryd.prog.cellsOf 74 = 4 := by kernel_rfl
  obtain ⟨xs, n, _, _, hlen, hxl, hg⟩ := DataW.trod_struct hs h
  rw [hC] at hlen
  match cs, hlen, xs, hxl with
  | [v0, v1, v2, v3, v4, v5], _, [y0, y1, y2, y3, y4, y5], _ =>
      have g0 := hg 0 _ rfl
      have g1 := hg 1 _ rfl
      have g2 := hg 2 _ rfl
      have g3 := hg 3 _ rfl
      have g4 := hg 4 _ rfl
      have g5 := hg 5 _ rfl
      clear hg
      simp [c0, c1, c2, c3] at g0 g1 g2 g3 g4 g5
      have ints : ∀ {t e : TypeId} {k : IntKind} {v : Value} {x : DataW H × List MemPlace}, Tryd.prog.underlying t = some (.slice e) → Tryd.prog.underlying e = some (.int k) → Tryd.prog.cellsOf e = 1 →
          DataW.trod enc Tryd.prog W 0 (fun _ => true) true n t [v] = some x → ∃ xs : List Int, SlAt W k v xs ∧ (∀ n ∈ xs, (Lit.int k n).wf = true) ∧ xs.length ≤ maxLen := by
        intro t e k v x ht he hc hh
        rcases open_slice ht hh with ⟨hcs, _⟩ | ⟨a, len, cap, _, _, _, _, hcs, _⟩
        · obtain rfl : v = _ := by simpa using hcs
          exact slat_of_cells ht he hc hh
        · obtain rfl : v = _ := by simpa using hcs
          exact slat_of_cells ht he hc hh
      obtain ⟨D, hD, wD, lD⟩ := ints Tryd.underlying26 Tryd.underlying25 cu g0
      obtain ⟨C, hC, wC, lC⟩ := ints Tryd.underlying26 Tryd.underlying25 cu g1
      obtain ⟨M, hM, wM, lM⟩ := ints Tryd.underlying48 Tryd.underlying5 cb g2
      obtain ⟨R, hR, lR⟩ := csat_of rlC rlsC (fun _ => rfl) rfl (fun _ _ => rfl) Tryd.underlying49 cr rl_of g3
      obtain ⟨Q, hQ, lQ⟩ := csat_of (fun r : RlB => rlC r.1) (fun l => rlsC (l.map (·.1))) (fun _ => rfl) rfl (fun _ _ => rfl) Tryd.underlying49 cr rl_ofB g4
      obtain ⟨S, hS, lS⟩ := csat_of syC sysC (fun _ => rfl) rfl (fun _ _ => rfl) Tryd.underlying50 cy sy_of g5
      refine ⟨⟨⟨⟨v0, v1, v2, v3, v4, v5⟩, ⟨D, C, M, R, Q.map (·.1), S⟩⟩, ⟨hD, hC, hM, hR, (by have h := hQ; rw [← List.length_map (f := fun r : RlB => r.1)] at h; exact h), hS⟩, ⟨fun n hn => ?_, fun n hn => ?_, fun n hn => ?_, lD, lC, lM, lR, (by rw [List.length_map]; exact lQ), lS⟩, fun r hr => ?_⟩, rfl⟩
      · have := u32_bd (wD n hn); omega
      · have := u32_bd (wC n hn); omega
      · have h' := (Bool.and_eq_true _ _).mp (wM n hn)
        have h1 : 0 ≤ n := of_decide_eq_true h'.1
        have h2 : n ≤ 255 := of_decide_eq_true h'.2
        omega
      · obtain ⟨q, _, rfl⟩ := List.mem_map.1 hr
        exact q.2
theorem csL_at {α : Type} (C : α → List Value) (n : Nat) (h : ∀ a, (C a).length = n) (hn : 0 < n) : ∀ (l : List α) (j : Nat) (u : Value), (csL C l)[j]? = some u → ∃ k i a, j = k * n + i ∧ l[k]? = some a ∧ (C a)[i]? = some u
  | [], _, _, e => by simp [csL] at e
  | x :: l, j, u, e => by
    by_cases hj : j < n
    · rw [csL, List.getElem?_append_left (by rw [h]; exact hj)] at e
      exact ⟨0, j, x, by omega, rfl, e⟩
    · rw [csL, List.getElem?_append_right (by rw [h]; omega), h] at e
      obtain ⟨k, i, a, e1, h1, h2⟩ := csL_at C n h hn l _ u e
      exact ⟨k + 1, i, a, by rw [Nat.succ_mul]; omega, by simpa using h1, h2⟩
theorem csL_map {α β : Type} (f : α → β) (C : β → List Value) : ∀ l : List α, csL (fun a => C (f a)) l = csL C (l.map f)
  | [] => rfl
  | a :: l => by rw [List.map_cons, csL, csL, csL_map f C l]
set_option maxRecDepth 100000 in
/-- objects that came in -/
theorem objs_of {base : Nat} {v : Value} {d : DataW H} {ps : List MemPlace} (hv : Value.okWide Tryd.prog W .any base 22 v) (h : DataW.Trod enc Tryd.prog W 0 (fun _ => true) true 22 v d ps) :
    ∃ L : List Ob, ObsAt W v L ∧ (∀ o ∈ L, OFit o.x ∧ ∀ r ∈ o.x.Q, RlBd r) ∧ L.length ≤ maxLen := by
  obtain ⟨l, hc, hl⟩ := structs_of (fun o : ObI W => obC o.1) (csL (fun o : ObI W => obC o.1)) (fun _ => rfl) (by decide) (csL_at _ 6 (fun _ => rfl) (by decide)) Tryd.underlying22 (by kernel_rfl) (fun _ _ _ h => ob_of h) hv h rfl
  refine ⟨l.map (·.1), ⟨?_, fun o ho => ?_⟩, fun o ho => ?_, by rw [List.length_map]; exact hl⟩
  · rw [← csL_map (fun o : ObI W => o.1) obC l, List.length_map]; exact hc
  · obtain ⟨q, _, rfl⟩ := List.mem_map.1 ho; exact q.2.1
  · obtain ⟨q, _, rfl⟩ := List.mem_map.1 ho; exact q.2.2
end
end Go.Proofs.YteanjchbnaoopaaDoor

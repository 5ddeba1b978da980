/- Package link: where a symbol stands; whether a relocation is a jump's: contracts. (Made by golnk3.py.) -/
import Derived.Test.YteanjchbnaoopaaDoorYRwK
import Derived.BigGuardPart
namespace Go.Proofs.YteanjchbnaoopaaDoor
open Go.RowKit
abbrev ptV (V : OV) (p : Pt) : Value := .agg #[V.d, V.c, V.m, V.r, V.q, V.s, .int .i64 (p.d : Int), .int .i64 (p.c : Int)]
abbrev syV (s : Sy) : Value := .agg #[.string s.n, .int .i64 s.i, .int .i64 s.v, .bool s.g]
abbrev rlV (r : Rl) : Value := .agg #[.int .i64 r.a, .int .i64 r.k, .int .i64 r.s, .int .i64 r.d]
/-- three blocks that a call begins with -/
theorem three {W : World} {a b c : Array Value} {t u v : TypeId} : RwAt (((W.alloc (.cells a t)).alloc (.cells b u)).alloc (.cells c v)) W.heap.size t a ∧ RwAt (((W.alloc (.cells a t)).alloc (.cells b u)).alloc (.cells c v)) (W.heap.size + 1) u b ∧ RwAt (((W.alloc (.cells a t)).alloc (.cells b u)).alloc (.cells c v)) (W.heap.size + 1 + 1) v c ∧ W.grownBy (((W.alloc (.cells a t)).alloc (.cells b u)).alloc (.cells c v)) none := by
  refine ⟨((RwAt.new W t a).alloc _).alloc _, (RwAt.new2 W _ u b).alloc _, ?_, grown_trans (grown_trans (World.grownBy_alloc _ _ _) (World.grownBy_alloc _ _ _)) (World.grownBy_alloc _ _ _)⟩
  have := RwAt.new ((W.alloc (.cells a t)).alloc (.cells b u)) v c
  simpa using this
theorem spt_one (s : Sp) : (#[.int .i64 s.i, .int .i64 s.a] : Array Value).all (·.oneCell') = true := by simp [Value.oneCell']
theorem build_spot (i a : Int) (w : World) : (Instr.build 87 #[(0, .int .i64 i), (1, .int .i64 a)]).run Tryd.prog w = .ok (.agg #[.int .i64 i, .int .i64 a]) w := by kernel_rfl
set_option maxRecDepth 100000 in
set_option maxHeartbeats 2000000 in
theorem spot_any (W : World) (V : OV) (p : Pt) (s : Sy) (hd : p.d ≤ 1000000) (hc : p.c ≤ 1000000) (hv : 0 ≤ s.v ∧ s.v ≤ 1000000) :
    Calls Tryd.prog 43 #[ptV V p, syV s] W fun e w' => e = .returned (sptV (ptSp p s)) ∧ W.grownBy w' none := by
  have Hz := zero_spot
  have H3 := hid (three (W := W) (a := #[V.d, V.c, V.m, V.r, V.q, V.s, .int .i64 (p.d : Int), .int .i64 (p.c : Int)]) (b := #[.string s.n, .int .i64 s.i, .int .i64 s.v, .bool s.g]) (c := #[.int .i64 0, .int .i64 0]) (t := 103) (u := 74) (v := 87))
  obtain ⟨pd, hpd⟩ : ∃ pd, p.d = pd := ⟨_, rfl⟩
  obtain ⟨pc, hpc⟩ : ∃ pc, p.c = pc := ⟨_, rfl⟩
  obtain ⟨si, hsi⟩ : ∃ si, s.i = si := ⟨_, rfl⟩
  obtain ⟨sv, hsv⟩ : ∃ sv, s.v = sv := ⟨_, rfl⟩
  obtain ⟨sn, hsn⟩ : ∃ sn, s.n = sn := ⟨_, rfl⟩
  obtain ⟨sg, hsg⟩ : ∃ sg, s.g = sg := ⟨_, rfl⟩
  have Hpt : Hid (ptSp p s = if si = 1 then ⟨si, pd + sv⟩ else ⟨si, pc + sv⟩) := hid (by unfold ptSp; rw [hpd, hpc, hsi, hsv])
  unfold ptV syV at *
  rw [hpd] at hd
  rw [hpc] at hc
  rw [hsv] at hv
  rw [hpd, hpc, hsi, hsv, hsn, hsg] at H3 ⊢
  clear hpd hpc hsi hsv hsn hsg
  obtain ⟨hv0, hv1⟩ := hv
  have d0 : (0 : Int) ≤ (pd : Int) := by omega
  have d1 : (pd : Int) ≤ 1000000 := by omega
  have c0 : (0 : Int) ≤ (pc : Int) := by omega
  have c1 : (pc : Int) ≤ 1000000 := by omega
  obtain ⟨D1, hD1⟩ : ∃ D1 : Int, (pd : Int) + sv = D1 := ⟨_, rfl⟩
  obtain ⟨C1, hC1⟩ : ∃ C1 : Int, (pc : Int) + sv = C1 := ⟨_, rfl⟩
  have e0 : 0 ≤ D1 := by omega
  have e1 : D1 ≤ 2000000 := by omega
  have e2 : 0 ≤ C1 := by omega
  have e3 : C1 ≤ 2000000 := by omega
  rw [hD1, hC1] at Hpt
  go_enter Tryd.func43, Tryd.ntmps43
  go_upto_region 1 with (fail)
  obtain ⟨b1, hb1⟩ : ∃ b, W.heap.size = b := ⟨_, rfl⟩
  obtain ⟨b2, hb2⟩ : ∃ b, b1 + 1 = b := ⟨_, rfl⟩
  obtain ⟨b3, hb3⟩ : ∃ b, b2 + 1 = b := ⟨_, rfl⟩
  have Hb : Hid (W.heap.size ≤ b3) := hid (by omega)
  rw [hb1, hb2, hb3] at H3 ⊢
  clear hb1 hb2 hb3 Hz
  generalize ((W.alloc (.cells #[V.d, V.c, V.m, V.r, V.q, V.s, .int .i64 (pd : Int), .int .i64 (pc : Int)] 103)).alloc (.cells #[.string sn, .int .i64 si, .int .i64 sv, .bool sg] 74)).alloc (.cells #[.int .i64 0, .int .i64 0] 87) = w1 at H3 ⊢
  have p6 := H3.out.1.cell 6 (v := .int .i64 pd) rfl
  have p7 := H3.out.1.cell 7 (v := .int .i64 pc) rfl
  have s1 := H3.out.2.1.cell 1 (v := .int .i64 si) rfl
  have s2 := H3.out.2.1.cell 2 (v := .int .i64 sv) rfl
  have hb1 := build_spot si D1
  have hb2 := build_spot si C1
  by_cases h1 : si = 1
  · have h1b : (si == 1) = true := by simpa using h1
    rw [if_pos h1] at Hpt
    clear h1
    go_wp2_with (first
      | (refine wpList_store_rw rfl 87 _ _ rfl rfl rfl H3.out.2.2.1 info_spot rfl (spt_one ⟨si, D1⟩) ?_)
      | fail)
    refine bodyPost_ret (results_cell_row Tryd.results43 _ _ b3 _ _ _ _ rfl (H3.out.2.2.1.row #[.int .i64 si, .int .i64 D1]).blk Tryd.underlying87 rfl (by kernel_rfl)) rfl ?_
    exact ⟨by rw [Hpt.out], grown_setRow H3.out.2.2.2 Hb.out _⟩
  · have h1b : (si == 1) = false := by simpa using h1
    rw [if_neg h1] at Hpt
    clear h1
    go_wp2_with (first
      | (refine wpList_store_rw rfl 87 _ _ rfl rfl rfl H3.out.2.2.1 info_spot rfl (spt_one ⟨si, C1⟩) ?_)
      | fail)
    refine bodyPost_ret (results_cell_row Tryd.results43 _ _ b3 _ _ _ _ rfl (H3.out.2.2.1.row #[.int .i64 si, .int .i64 C1]).blk Tryd.underlying87 rfl (by kernel_rfl)) rfl ?_
    exact ⟨by rw [Hpt.out], grown_setRow H3.out.2.2.2 Hb.out _⟩
set_option maxRecDepth 100000 in
set_option maxHeartbeats 2000000 in
theorem jspot_any (W : World) (V : OV) (p : Pt) (s : Sy) {G B : Nat} {pv : Value} {dd cc : Int} {M : Mp} (hM : MrAt W G B pv dd cc M) (hd : p.d ≤ 1000000) (hc : p.c ≤ 1000000) (hv : 0 ≤ s.v ∧ s.v ≤ 1000000) (hone : (#[V.d, V.c, V.m, V.r, V.q, V.s] : Array Value).all (·.oneCell') = true) :
    Calls Tryd.prog 44 #[.pointer (some ⟨G, 0, none⟩), ptV V p, syV s] W fun e w' => e = .returned (sptV (spOf M p s)) ∧ W.grownBy w' none := by
  have Hz := zero_spot
  have H3 := hid (three (W := W) (a := #[V.d, V.c, V.m, V.r, V.q, V.s, .int .i64 (p.d : Int), .int .i64 (p.c : Int)]) (b := #[.string s.n, .int .i64 s.i, .int .i64 s.v, .bool s.g]) (c := #[.int .i64 0, .int .i64 0]) (t := 103) (u := 74) (v := 87))
  have HM := hid (hM.kept0 H3.out.2.2.2)
  have HP := hid (And.intro hd (And.intro hc (And.intro hv hone)))
  clear hM hd hc hv hone
  unfold ptV syV at *
  go_enter Tryd.func44, Tryd.ntmps44
  go_upto_region 1 with (fail)
  obtain ⟨b1, hb1⟩ : ∃ b, W.heap.size = b := ⟨_, rfl⟩
  obtain ⟨b2, hb2⟩ : ∃ b, b1 + 1 = b := ⟨_, rfl⟩
  obtain ⟨b3, hb3⟩ : ∃ b, b2 + 1 = b := ⟨_, rfl⟩
  have Hb : Hid (W.heap.size ≤ b3) := hid (by omega)
  rw [hb1, hb2, hb3] at H3 ⊢
  clear hb1 hb2 hb3 Hz
  generalize ((W.alloc (.cells #[V.d, V.c, V.m, V.r, V.q, V.s, .int .i64 (p.d : Int), .int .i64 (p.c : Int)] 103)).alloc (.cells #[.string s.n, .int .i64 s.i, .int .i64 s.v, .bool s.g] 74)).alloc (.cells #[.int .i64 0, .int .i64 0] 87) = w1 at H3 HM ⊢
  have s1 := H3.out.2.1.cell 1 (v := .int .i64 s.i) rfl
  by_cases h1 : s.i = 3
  · have h1b : (s.i == 3) = true := by simpa using h1
    have Hpt : Hid (spOf M p s = lkD M s.n) := hid (by unfold spOf; rw [if_pos h1])
    obtain ⟨⟨qi, qa⟩, hq⟩ : ∃ q, lkD M s.n = q := ⟨_, rfl⟩
    have H3d := hid (H3.out.2.2.1.kept0 (grown_drew (grown_refl w1 none)))
    have s0 := (H3.out.2.1.kept0 (grown_drew (grown_refl w1 none))).cell 0 (v := .string s.n) rfl
    have m3 := (HM.out.row.kept0 (grown_drew (grown_refl w1 none))).cell 3 (v := .map (some B)) rfl
    have hl := (HM.out.mp.drew).look_of s.n hq
    have r0 := H3d.out.cell 0 (v := .int .i64 0) rfl
    have r1 := H3d.out.cell 1 (v := .int .i64 0) rfl
    have z0 := H3d.out.free 0
    have z1 := H3d.out.free 1
    have r0w := H3.out.2.2.1.cell 0 (v := .int .i64 0) rfl
    have r1w := H3.out.2.2.1.cell 1 (v := .int .i64 0) rfl
    have z0w := H3.out.2.2.1.free 0
    have z1w := H3.out.2.2.1.free 1
    rw [hq] at Hpt
    clear h1 hq
    go_wp2_with fail
    go_region
    go_wp2
    refine bodyPost_ret (results_cell_row Tryd.results44 _ _ b3 _ _ _ _ rfl ((H3.out.2.2.1.set 0 (.int .i64 qi)).set 1 (.int .i64 qa)).blk Tryd.underlying87 rfl (by kernel_rfl)) rfl ?_
    exact ⟨congrArg (fun z => Ending.returned (sptV z)) Hpt.out.symm, grown_new' (grown_drew (grown_trans (grown_none H3.out.2.2.2) (grown_setCell (grown_setCell (grown_refl w1 _) _ _) _ _))) (fun k hk => by obtain rfl := Option.some.inj hk; exact Hb.out)⟩
  · have h1b : (s.i == 3) = false := by simpa using h1
    have Hpt : Hid (spOf M p s = ptSp p s) := hid (by unfold spOf; rw [if_neg h1])
    clear h1
    go_wp2_with (first
      | (refine wpList_load_rw rfl 103 _ rfl rfl H3.out.1 rfl Tryd.underlying103 info_part ?_)
      | (refine wpList_load_rw rfl 74 _ rfl rfl H3.out.2.1 rfl Tryd.underlying74 info_sym ?_)
      | fail)
    refine (spot_any w1 V p s HP.out.1 HP.out.2.1 HP.out.2.2.1).mono ?_
    rintro e w2 ⟨rfl, hg⟩
    have H4 := hid (H3.out.2.2.1.kept0 hg)
    have HG := hid (grown_trans H3.out.2.2.2 hg)
    clear hg
    go_wp2_with (first
      | (refine wpList_store_rw rfl 87 _ _ rfl rfl rfl H4.out info_spot rfl (spt_one (ptSp p s)) ?_)
      | fail)
    refine bodyPost_ret (results_cell_row Tryd.results44 _ _ b3 _ _ _ _ rfl (H4.out.row #[.int .i64 (ptSp p s).i, .int .i64 (ptSp p s).a]).blk Tryd.underlying87 rfl (by kernel_rfl)) rfl ?_
    exact ⟨congrArg (fun z => Ending.returned (sptV z)) Hpt.out.symm, grown_setRow HG.out Hb.out _⟩
theorem jump_two {x : PO} {r : Rl} (h : r.k = 2) : jumpB x r = true := by unfold jumpB; rw [if_pos h]
theorem jump_first {x : PO} {r : Rl} (h : r.k ≠ 2) {y : Int} (hy : x.M.getD r.a.toNat 0 = y) (h0 : y ≠ 0) : jumpB x r = false := by unfold jumpB; rw [if_neg h, hy, if_pos h0]
theorem jump_second {x : PO} {r : Rl} (h : r.k ≠ 2) (hy : x.M.getD r.a.toNat 0 = 0) : jumpB x r = jmpB (opW (x.C.getD (r.a.toNat - 1) 0)) := by unfold jumpB; rw [if_neg h, hy]; simp
theorem two_boxes {W : World} {a b : Array Value} {t u : TypeId} : RwAt ((W.alloc (.cells a t)).alloc (.cells b u)) W.heap.size t a ∧ RwAt ((W.alloc (.cells a t)).alloc (.cells b u)) (W.heap.size + 1) u b ∧ W.grownBy ((W.alloc (.cells a t)).alloc (.cells b u)) none :=
  ⟨(RwAt.new W t a).alloc _, RwAt.new2 W _ u b, grown_trans (World.grownBy_alloc _ _ _) (World.grownBy_alloc _ _ _)⟩
set_option maxRecDepth 100000 in
set_option maxHeartbeats 2000000 in
theorem jumps_link (W : World) (V : OV) (p : Pt) (r : Rl) (h : OAt W V p.x) (hf : OFit p.x) (hl : p.x.M.length = p.x.C.length) (ha : 0 ≤ r.a ∧ r.a < p.x.C.length) (h1 : r.k ≠ 2 → p.x.M.getD r.a.toNat 0 = 0 → 1 ≤ r.a) :
    Calls Tryd.prog 45 #[ptV V p, rlV r] W fun e w' => e = .returned (.bool (jumpB p.x r)) ∧ W.grownBy w' none := by
  obtain ⟨d, c, m, rr, q, s⟩ := V
  obtain ⟨ra, rk, rs, rd⟩ := r
  have H2 := hid (two_boxes (W := W) (a := #[d, c, m, rr, q, s, .int .i64 (p.d : Int), .int .i64 (p.c : Int)]) (b := #[.int .i64 ra, .int .i64 rk, .int .i64 rs, .int .i64 rd]) (t := 103) (u := 76))
  have HO := hid (h.kept0 H2.out.2.2)
  have HF := hid hf
  obtain ⟨ha0, ha1⟩ := ha
  obtain ⟨k, rfl⟩ := Int.eq_ofNat_of_zero_le ha0
  have Hk : Hid (k < p.x.C.length) := hid (by simp only at ha1; omega)
  have Hl := hid hl
  have H1 := hid h1
  clear h hf hl ha0 ha1 h1
  unfold ptV rlV
  go_enter Tryd.func45, Tryd.ntmps45
  go_upto_region 1 with (fail)
  obtain ⟨b1, hb1⟩ : ∃ b, W.heap.size = b := ⟨_, rfl⟩
  obtain ⟨b2, hb2⟩ : ∃ b, b1 + 1 = b := ⟨_, rfl⟩
  rw [hb1, hb2] at H2 ⊢
  clear hb1 hb2
  generalize (W.alloc (.cells #[d, c, m, rr, q, s, .int .i64 (p.d : Int), .int .i64 (p.c : Int)] 103)).alloc (.cells #[.int .i64 (k : Int), .int .i64 rk, .int .i64 rs, .int .i64 rd] 76) = w1 at H2 HO ⊢
  have r1 := H2.out.2.1.cell 1 (v := .int .i64 rk) rfl
  have r0 := H2.out.2.1.cell 0 (v := .int .i64 (k : Int)) rfl
  by_cases hk2 : rk = 2
  · have hb : (rk == 2) = true := by simpa using hk2
    have Hr : Hid (jumpB p.x ⟨k, rk, rs, rd⟩ = true) := hid (jump_two hk2)
    clear hk2
    go_wp2
    go_ret
    exact ⟨ret_b Hr.out.symm, H2.out.2.2⟩
  · have hb : (rk == 2) = false := by simpa using hk2
    obtain ⟨y, hy⟩ : ∃ y, p.x.M[k]? = some y := ⟨_, List.getElem?_eq_getElem (by rw [Hl.out]; exact Hk.out)⟩
    have Hy : Hid (p.x.M.getD (k : Int).toNat 0 = y) := hid (by rw [Int.toNat_natCast, List.getD_eq_getElem?_getD, hy]; rfl)
    obtain ⟨bm, om, mc, hmv, hbm, hcm⟩ := HO.out.m.at_ (by rw [Hl.out]; have := Hk.out; omega)
    simp only at hmv
    rw [Hl.out] at hmv
    obtain ⟨n, hn⟩ : ∃ n, p.x.C.length = n := ⟨_, rfl⟩
    have Hn := hid hn
    rw [hn] at hmv
    subst hmv
    have em := hcm k y hy
    have k0 : (0 : Int) ≤ (k : Int) := by omega
    have kn : (k : Int) < (n : Int) := by have := Hk.out; omega
    have m2 := H2.out.1.cell 2 (v := .slice (some ⟨bm, om, none⟩) n mc) rfl
    clear hcm hbm hy hn
    by_cases hy0 : y = 0
    · subst hy0
      have hk1 : (1 : Int) ≤ (k : Int) := H1.out hk2 Hy.out
      obtain ⟨j, hkj⟩ : ∃ j, j + 1 = k := ⟨k - 1, by omega⟩
      obtain ⟨u, hu⟩ : ∃ u, p.x.C[j]? = some u := ⟨_, List.getElem?_eq_getElem (by have := Hk.out; omega)⟩
      have HU := hid (HF.out.c u (List.mem_of_getElem? hu))
      have Hr : Hid (jumpB p.x ⟨(k : Int), rk, rs, rd⟩ = jmpB (opW u)) := hid (by
        rw [jump_second hk2 Hy.out]
        simp only [Int.toNat_natCast, show k - 1 = j by omega, List.getD_eq_getElem?_getD, hu]
        rfl)
      obtain ⟨bc, oc, cc, hcv, hbc, hcc⟩ := HO.out.c.at_ (by have := Hk.out; omega)
      simp only at hcv
      rw [Hn.out] at hcv
      subst hcv
      have eu := hcc j u hu
      have c1 := H2.out.1.cell 1 (v := .slice (some ⟨bc, oc, none⟩) n cc) rfl
      have kj : (k : Int) - 1 = (j : Int) := by omega
      have hle : p.x.C.length ≤ 9223372036854775807 := HF.out.l.2.1
      have j1 : (j : Int) ≤ 9223372036854775807 := by have := Hk.out; omega
      clear hle
      have j0 : (0 : Int) ≤ (j : Int) := by omega
      have jn : (j : Int) < (n : Int) := by omega
      clear hcc hbc hu hk1 hkj hk2 Hy H1
      go_wp2_with fail
      refine (of_op u w1 HU.out).mono ?_
      rintro e w2 ⟨a', b', c', d', t', rfl, hg⟩
      have HG2 := hid (grown_trans H2.out.2.2 hg)
      clear hg em eu m2 c1 r0 r1 H2 HO
      obtain ⟨o, Ho⟩ : ∃ o, Hid (opW u = o) := ⟨_, hid rfl⟩
      rw [Ho.out]
      have Hzi := zero_ins9
      have HI := hid (RwAt.new w2 36 (inC o a' b' c' d'))
      have HG3 := hid (grown_trans HG2.out (World.grownBy_alloc w2 (.cells (inC o a' b' c' d') 36) none))
      unfold inC at HI HG3
      go_upto_region 6 with (fail)
      obtain ⟨X, hX⟩ : ∃ X, w2.heap.size = X := ⟨_, rfl⟩
      rw [hX] at HI ⊢
      clear hX Hzi
      generalize w2.alloc (.cells #[.int .i64 o, .int .i64 a', .int .i64 b', .int .i64 c', .int .u32 d'] 36) = w3 at HI HG3 ⊢
      have HId := hid (HI.out.kept0 (grown_drew (grown_refl w3 none)))
      have k0 := HId.out.cell 0 (v := .int .i64 o) rfl
      go_region_held3 (fun W => W.cell? ⟨X, 0, none⟩ = some (.int .i64 o) ∧ w3.grownBy W none)
        (first | (with_reducible exact ⟨k0, grown_drew (grown_refl _ _)⟩) | (with_reducible exact ⟨k1, hg1⟩) | (with_reducible exact ⟨k2, hg2⟩))
        (first
          | (go_split_ands; go_at_call 54; refine (tables_g _).mono ?_; rintro e w4 ⟨rfl, hg⟩; have hg1 : w3.grownBy w4 none := grown_trans (by assumption) hg; have k1 := (HI.out.kept0 hg1).cell 0 (v := .int .i64 o) rfl)
          | (go_split_ands; go_at_call 55; refine (jumps_any o _).mono ?_; rintro e w5 ⟨rfl, hw⟩; have hg2 : w3.grownBy w5 none := grown_trans hg1 (by rw [hw]; exact World.grownBy_alloc _ _ _); have k2 := (HI.out.kept0 hg2).cell 0 (v := .int .i64 o) rfl; clear hw))
      go_split_ands
      go_wp2
      go_ret
      exact ⟨ret_b (by rw [Hr.out, Ho.out]), grown_trans HG3.out (by assumption)⟩
    · have hyb : (y != 0) = true := by simpa using hy0
      have Hr : Hid (jumpB p.x ⟨k, rk, rs, rd⟩ = false) := hid (jump_first hk2 Hy.out hy0)
      clear hy0 hk2
      go_wp2
      go_ret
      exact ⟨ret_b Hr.out.symm, H2.out.2.2⟩
end Go.Proofs.YteanjchbnaoopaaDoor
namespace Go.Proofs.YteanjchbnaoopaaDoor
open Go.RowKit
/-- the call's own: its part's box, and what it reads -/
structure MsW (W w : World) (G B b : Nat) (V : OV) (p : Pt) (pv : Value) (dd cc : Int) (M : Mp) (A : Nat → Addr) : Prop where
  g : W.grownBy w none
  bx : RwAt w b 103 #[V.d, V.c, V.m, V.r, V.q, V.s, .int .i64 (p.d : Int), .int .i64 (p.c : Int)]
  m : MrAt w G B pv dd cc M
  e : ErrC w A
theorem MsW.kept0 {W w w1 : World} {G B b : Nat} {V : OV} {p : Pt} {pv : Value} {dd cc : Int} {M : Mp} {A : Nat → Addr} (h : MsW W w G B b V p pv dd cc M A) (hg : w.grownBy w1 none) : MsW W w1 G B b V p pv dd cc M A := ⟨grown_trans h.g hg, h.bx.kept0 hg, h.m.kept0 hg, h.e.kept0 hg⟩
/-- the cells of symbol k -/
theorem sy_item {w : World} {v : Value} {l : List Sy} {k : Nat} {s : Sy} (h : SyAt w v l) (hr : l[k]? = some s) :
    ∃ b o c, v = .slice (some ⟨b, o, none⟩) l.length c ∧ b < w.heap.size ∧ w.cell? ⟨b, o + k * 4, none⟩ = some (.string s.n) ∧ w.cell? ⟨b, o + k * 4 + 1, none⟩ = some (.int .i64 s.i) ∧ w.cell? ⟨b, o + k * 4 + 2, none⟩ = some (.int .i64 s.v) ∧ w.cell? ⟨b, o + k * 4 + 3, none⟩ = some (.bool s.g) := by
  obtain ⟨b, o, c, rfl, _, hb, hc⟩ := h.at_ (by have := (List.getElem?_eq_some_iff.1 hr).1; omega)
  refine ⟨b, o, c, rfl, hb, ?_, ?_, ?_, ?_⟩
  · exact hc (k * 4 + 0) _ (by rw [sysC_get l k 0 s hr (by decide)]; rfl)
  · rw [Nat.add_assoc]; exact hc (k * 4 + 1) _ (by rw [sysC_get l k 1 s hr (by decide)]; rfl)
  · rw [Nat.add_assoc]; exact hc (k * 4 + 2) _ (by rw [sysC_get l k 2 s hr (by decide)]; rfl)
  · rw [Nat.add_assoc]; exact hc (k * 4 + 3) _ (by rw [sysC_get l k 3 s hr (by decide)]; rfl)
theorem rl_item {w : World} {v : Value} {l : List Rl} {k : Nat} {s : Rl} (h : RlAt w v l) (hr : l[k]? = some s) :
    ∃ b o c, v = .slice (some ⟨b, o, none⟩) l.length c ∧ b < w.heap.size ∧ w.cell? ⟨b, o + k * 4, none⟩ = some (.int .i64 s.a) ∧ w.cell? ⟨b, o + k * 4 + 1, none⟩ = some (.int .i64 s.k) ∧ w.cell? ⟨b, o + k * 4 + 2, none⟩ = some (.int .i64 s.s) ∧ w.cell? ⟨b, o + k * 4 + 3, none⟩ = some (.int .i64 s.d) := by
  obtain ⟨b, o, c, rfl, _, hb, hc⟩ := h.at_ (by have := (List.getElem?_eq_some_iff.1 hr).1; omega)
  refine ⟨b, o, c, rfl, hb, ?_, ?_, ?_, ?_⟩
  · exact hc (k * 4 + 0) _ (by rw [rlsC_get l k 0 s hr (by decide)]; rfl)
  · rw [Nat.add_assoc]; exact hc (k * 4 + 1) _ (by rw [rlsC_get l k 1 s hr (by decide)]; rfl)
  · rw [Nat.add_assoc]; exact hc (k * 4 + 2) _ (by rw [rlsC_get l k 2 s hr (by decide)]; rfl)
  · rw [Nat.add_assoc]; exact hc (k * 4 + 3) _ (by rw [rlsC_get l k 3 s hr (by decide)]; rfl)
/-- this error, or none -/
def erV (A : Nat → Addr) (c : Nat) (t : Bool) : Value := if t = true then errV (A c) else .nilIface
def msS (M : Mp) (s : Sy) : Bool := !(lkp M s.n).isSome && decide (s.i = 3)
theorem any_take {α : Type} {f : α → Bool} {l : List α} {k : Nat} {a : α} (h : (l.take k).any f = false) (ha : l[k]? = some a) (hf : f a = false) : (l.take (k + 1)).any f = false := by
  rw [List.take_add_one, ha, List.any_append, h]
  simpa using hf
theorem any_at {α : Type} {f : α → Bool} {l : List α} {k : Nat} {a : α} (ha : l[k]? = some a) (hf : f a = true) : l.any f = true := List.any_eq_true.2 ⟨a, List.mem_of_getElem? ha, hf⟩
theorem any_all {α : Type} {f : α → Bool} {l : List α} {n : Nat} (hn : l.length = n) (h : (l.take n).any f = false) : l.any f = false := by rwa [← hn, List.take_length] at h
set_option maxRecDepth 100000 in
set_option maxHeartbeats 4000000 in
theorem misses_any (W : World) (V : OV) (p : Pt) {G B : Nat} {pv : Value} {dd cc : Int} {M : Mp} {A : Nat → Addr} (h : OAt W V p.x) (hM : MrAt W G B pv dd cc M) (he : ErrC W A) (hl : p.x.S.length ≤ 1000000) {t : Bool} (ht : missB M p = t) :
    Calls Tryd.prog 34 #[.pointer (some ⟨G, 0, none⟩), ptV V p] W fun e w' => e = .returned (erV A 6 t) ∧ W.grownBy w' none := by
  have Hzs := zero_spot
  have HG := World.grownBy_alloc W (.cells #[V.d, V.c, V.m, V.r, V.q, V.s, .int .i64 (p.d : Int), .int .i64 (p.c : Int)] 103) none
  have HR0 : Hid (MsW W (W.alloc (.cells #[V.d, V.c, V.m, V.r, V.q, V.s, .int .i64 (p.d : Int), .int .i64 (p.c : Int)] 103)) G B W.heap.size V p pv dd cc M A) := hid ⟨HG, RwAt.new W 103 #[V.d, V.c, V.m, V.r, V.q, V.s, .int .i64 (p.d : Int), .int .i64 (p.c : Int)], hM.kept0 HG, he.kept0 HG⟩
  have HO := hid h
  have Hl := hid hl
  have Ht := hid ht
  obtain ⟨n, hn⟩ : ∃ n, p.x.S.length = n := ⟨_, rfl⟩
  have Hn := hid hn
  obtain ⟨sp, sc, hsv⟩ := h.s.len
  rw [hn] at hsv hl
  have n0 : (0 : Int) ≤ (n : Int) := by omega
  have n1 : (n : Int) ≤ 1000000 := by omega
  have Hsv := hid hsv
  clear HG h hM he ht hn hl hsv
  unfold ptV
  go_enter Tryd.func34, Tryd.ntmps34
  go_upto_region 1 with (fail)
  obtain ⟨b, hb⟩ : ∃ b, W.heap.size = b := ⟨_, rfl⟩
  rw [hb] at HR0 ⊢
  clear hb
  generalize W.alloc (.cells #[V.d, V.c, V.m, V.r, V.q, V.s, .int .i64 (p.d : Int), .int .i64 (p.c : Int)] 103) = w1 at HR0 ⊢
  have e5 := HR0.out.bx.cell 5 (v := .slice sp n sc) (by rw [← Hsv.out]; rfl)
  go_wp2
  clear e5
  go_loopw [13] (fun i wr => ∃ k : Nat, k ≤ n ∧ i = .int .i64 k ∧ Hid (MsW W wr G B b V p pv dd cc M A) ∧ Hid ((p.x.S.take k).any (msS M) = false)) (fun i _ => n - (intOf i).toNat)
  case atStart => exact ⟨0, Nat.zero_le _, rfl, HR0, hid rfl⟩
  case round =>
    obtain ⟨k, hk, rfl, HR, Hno⟩ := hrel
    clear HR0
    have k0 : (0 : Int) ≤ (k : Int) := by omega
    by_cases hlt : k < n
    · have kn : (k : Int) < (n : Int) := by omega
      have Hlt := hid hlt
      obtain ⟨⟨sn, si, sv, sg⟩, hs⟩ : ∃ s, p.x.S[k]? = some s := ⟨_, List.getElem?_eq_getElem (by rw [Hn.out]; exact hlt)⟩
      have Hs := hid hs
      obtain ⟨bs, os, cs, hv, hbs, g0, g1, g2, g3⟩ := sy_item (HO.out.kept0 HR.out.g).s hs
      rw [Hn.out, Hsv.out] at hv
      simp only [Value.slice.injEq, true_and] at hv
      obtain ⟨rfl, rfl⟩ := hv
      have hal := World.grownBy_alloc wr (.cells #[.string sn, .int .i64 si, .int .i64 sv, .bool sg] 74) none
      have HR6 := hid (HR.out.kept0 hal)
      have HX := hid (RwAt.new wr 74 #[.string sn, .int .i64 si, .int .i64 sv, .bool sg])
      clear hal hs hbs hlt
      go_upto_region 4 with (fail)
      clear g0 g1 g2 g3 HR
      obtain ⟨X, hX⟩ : ∃ X, wr.heap.size = X := ⟨_, rfl⟩
      rw [hX] at HX ⊢
      clear hX
      generalize wr.alloc (.cells #[.string sn, .int .i64 si, .int .i64 sv, .bool sg] 74) = w6 at HR6 HX ⊢
      obtain ⟨⟨qi, qa⟩, hq⟩ : ∃ q, lkD M sn = q := ⟨_, rfl⟩
      obtain ⟨tt, htt⟩ : ∃ tt, (lkp M sn).isSome = tt := ⟨_, rfl⟩
      have Htt := hid htt
      have hl0 := HR6.out.m.mp.look_ok sn hq htt
      have hl1 := HR6.out.m.mp.drew.look_ok sn hq htt
      have hl2 := (HR6.out.m.mp.alloc (.cells #[.int .i64 0, .int .i64 0] 87)).look_ok sn hq htt
      have hl3 := (HR6.out.m.mp.alloc (.cells #[.int .i64 0, .int .i64 0] 87)).drew.look_ok sn hq htt
      have hal := World.grownBy_alloc w6 (.cells #[.int .i64 0, .int .i64 0] 87) none
      have m3 := HR6.out.m.row.cell 3 (v := .map (some B)) rfl
      have s0 := HX.out.cell 0 (v := .string sn) rfl
      have m3z := (HR6.out.kept0 hal).m.row.cell 3 (v := .map (some B)) rfl
      have s0z := (HX.out.kept0 hal).cell 0 (v := .string sn) rfl
      clear hq htt
      go_region
      all_goals
        clear hl0 hl1 hl2 hl3 m3 s0 m3z s0z hal
        have HRe := hid (HR6.out.kept0 (grown_drew (World.grownBy_alloc w6 (.cells #[.int .i64 qi, .int .i64 qa] 87) none)))
        have HXe := hid (HX.out.kept0 (grown_drew (World.grownBy_alloc w6 (.cells #[.int .i64 qi, .int .i64 qa] 87) none)))
        generalize (w6.alloc (.cells #[.int .i64 qi, .int .i64 qa] 87)).drew = w7 at HRe HXe ⊢
        have s1 := HXe.out.cell 1 (v := .int .i64 si) rfl
        have e6 := HRe.out.e.c6
        cases tt with
        | true =>
          have Hf := hid (any_take Hno.out Hs.out (by unfold msS; rw [Htt.out]; rfl))
          go_wp2
          go_roundw
          case rel => exact ⟨k + 1, Hlt.out, by go_num, HRe, Hf⟩
          case measure => simp [intOf]; have := Hlt.out; omega
        | false =>
          by_cases h3 : si = 3
          · have h3b : (si == 3) = true := by simpa using h3
            have Hf : Hid (t = true) := hid (by rw [← Ht.out]; exact any_at Hs.out (f := msS M) (by unfold msS; rw [Htt.out]; simpa using h3))
            clear h3
            unfold errV at e6
            go_wp2
            go_ret
            exact ⟨by unfold erV; rw [if_pos Hf.out]; rfl, HRe.out.g⟩
          · have h3b : (si == 3) = false := by simpa using h3
            have Hf := hid (any_take Hno.out Hs.out (by unfold msS; simpa using fun _ => h3))
            clear h3
            go_wp2
            go_roundw
            case rel => exact ⟨k + 1, Hlt.out, by go_num, HRe, Hf⟩
            case measure => simp [intOf]; have := Hlt.out; omega
    · obtain rfl : k = n := by omega
      have kn : ¬ ((k : Int) < (k : Int)) := by omega
      have hall := any_all Hn.out Hno.out
      have Hf : Hid (t = false) := hid (by rw [← Ht.out]; exact hall)
      clear hlt hall
      go_wp2
      go_ret
      exact ⟨by unfold erV; rw [if_neg (by rw [Hf.out]; simp)]; rfl, HR.out.g⟩
/-- of a part: what is known of its object, and where it begins -/
structure PtOk (p : Pt) : Prop where
  b : ObB p.x
  len : p.x.M.length = p.x.C.length
  q : ∀ r ∈ p.x.Q, (0 ≤ r.a ∧ r.a < p.x.C.length) ∧ (0 ≤ r.s ∧ r.s < p.x.S.length) ∧ (r.k = 1 ∨ r.k = 2) ∧ (p.x.M.getD r.a.toNat 0 = 0 → 1 ≤ r.a) ∧ -65536 ≤ r.d ∧ r.d ≤ 65536
  r : ∀ r ∈ p.x.R, (0 ≤ r.a ∧ r.a < p.x.D.length) ∧ (0 ≤ r.s ∧ r.s < p.x.S.length) ∧ r.k = 1 ∧ -65536 ≤ r.d ∧ r.d ≤ 65536
  s : ∀ s ∈ p.x.S, (0 ≤ s.v ∧ s.v ≤ 2048) ∧ (s.i = 1 ∨ s.i = 2 ∨ s.i = 3) ∧ (s.i = 1 → s.v < p.x.D.length ∨ s.v < 1) ∧ (s.i = 2 → s.v < p.x.C.length ∧ p.x.M.getD s.v.toNat 0 = 1)
  dc : p.d ≤ 100000 ∧ p.c ≤ 100000
  len2 : p.x.D.length ≤ 2048 ∧ p.x.C.length ≤ 2048
theorem field_spot (i a : Int) (w : World) : (Instr.field 87 (.agg #[.int .i64 i, .int .i64 a]) 0).run Tryd.prog w = .ok (.int .i64 i) w := by
  simp [Instr.field, run_underlying Tryd.underlying87, asAgg, go_sem]
theorem oat_one {w : World} {V : OV} {x : PO} (h : OAt w V x) : (#[V.d, V.c, V.m, V.r, V.q, V.s] : Array Value).all (·.oneCell') = true := by
  obtain ⟨p1, n1, c1, p2, n2, c2, p3, n3, c3, p4, n4, c4, p5, n5, c5, p6, n6, c6, rfl⟩ := OAt.cells h
  simp [Value.oneCell']
def mlR (M : Mp) (p : Pt) (r : Rl) : Bool := decide ((symN p.x r.s.toNat).i = 3) && (decide ((spOf M p (symN p.x r.s.toNat)).i = 1) && jumpB p.x r)
set_option maxRecDepth 100000 in
set_option maxHeartbeats 4000000 in
theorem misleads_any (W : World) (V : OV) (p : Pt) {G B : Nat} {pv : Value} {dd cc : Int} {M : Mp} {A : Nat → Addr} (h : OAt W V p.x) (hM : MrAt W G B pv dd cc M) (he : ErrC W A) (hp : PtOk p) {t : Bool} (ht : leadB M p = t) :
    Calls Tryd.prog 35 #[.pointer (some ⟨G, 0, none⟩), ptV V p] W fun e w' => e = .returned (erV A 1 t) ∧ W.grownBy w' none := by
  have HG := World.grownBy_alloc W (.cells #[V.d, V.c, V.m, V.r, V.q, V.s, .int .i64 (p.d : Int), .int .i64 (p.c : Int)] 103) none
  have HR0 : Hid (MsW W (W.alloc (.cells #[V.d, V.c, V.m, V.r, V.q, V.s, .int .i64 (p.d : Int), .int .i64 (p.c : Int)] 103)) G B W.heap.size V p pv dd cc M A) := hid ⟨HG, RwAt.new W 103 #[V.d, V.c, V.m, V.r, V.q, V.s, .int .i64 (p.d : Int), .int .i64 (p.c : Int)], hM.kept0 HG, he.kept0 HG⟩
  have HO := hid h
  have HP := hid hp
  have Ht := hid ht
  have Hone := hid (oat_one h)
  have hl := hp.b.len.2.2.2.2.1
  obtain ⟨n, hn⟩ : ∃ n, p.x.Q.length = n := ⟨_, rfl⟩
  have Hn := hid hn
  obtain ⟨qp, qc, hqv⟩ := h.q.len
  obtain ⟨sp, sc, hsv⟩ := h.s.len
  obtain ⟨N, hN⟩ : ∃ N, p.x.S.length = N := ⟨_, rfl⟩
  have HN := hid hN
  rw [hn] at hqv hl
  rw [hN] at hsv
  have n0 : (0 : Int) ≤ (n : Int) := by omega
  have n1 : (n : Int) ≤ 1000000 := by omega
  have N0 : (0 : Int) ≤ (N : Int) := by omega
  have N1 : (N : Int) ≤ 1000000 := by have := hp.b.len.2.2.2.2.2; omega
  have Hqv := hid hqv
  have Hsv := hid hsv
  clear HG h hM he ht hn hl hqv hsv hp hN
  unfold ptV
  go_enter Tryd.func35, Tryd.ntmps35
  go_upto_region 1 with (fail)
  obtain ⟨b, hb⟩ : ∃ b, W.heap.size = b := ⟨_, rfl⟩
  rw [hb] at HR0 ⊢
  clear hb
  generalize W.alloc (.cells #[V.d, V.c, V.m, V.r, V.q, V.s, .int .i64 (p.d : Int), .int .i64 (p.c : Int)] 103) = w1 at HR0 ⊢
  have e4 := HR0.out.bx.cell 4 (v := .slice qp n qc) (by rw [← Hqv.out]; rfl)
  go_wp2
  clear e4
  go_loopw [12] (fun i wr => ∃ k : Nat, k ≤ n ∧ i = .int .i64 k ∧ Hid (MsW W wr G B b V p pv dd cc M A) ∧ Hid ((p.x.Q.take k).any (mlR M p) = false)) (fun i _ => n - (intOf i).toNat)
  case atStart => exact ⟨0, Nat.zero_le _, rfl, HR0, hid rfl⟩
  case round =>
    obtain ⟨k, hk, rfl, HR, Hno⟩ := hrel
    clear HR0
    have k0 : (0 : Int) ≤ (k : Int) := by omega
    by_cases hlt : k < n
    · have kn : (k : Int) < (n : Int) := by omega
      have Hlt := hid hlt
      obtain ⟨⟨ra, rk, rs, rd⟩, hr⟩ : ∃ r, p.x.Q[k]? = some r := ⟨_, List.getElem?_eq_getElem (by rw [Hn.out]; exact hlt)⟩
      have Hr := hid hr
      have Hok := hid (HP.out.q _ (List.mem_of_getElem? hr))
      obtain ⟨bq, oq, cq, hv, hbq, g0, g1, g2, g3⟩ := rl_item (HO.out.kept0 HR.out.g).q hr
      rw [Hn.out, Hqv.out] at hv
      simp only [Value.slice.injEq, true_and] at hv
      obtain ⟨rfl, rfl⟩ := hv
      have hal := World.grownBy_alloc wr (.cells #[.int .i64 ra, .int .i64 rk, .int .i64 rs, .int .i64 rd] 76) none
      have HR6 := hid (HR.out.kept0 hal)
      have HX := hid (RwAt.new wr 76 #[.int .i64 ra, .int .i64 rk, .int .i64 rs, .int .i64 rd])
      clear hal hr hbq hlt
      go_upto_region 4 with (fail)
      clear g0 g1 g2 g3 HR
      obtain ⟨X, hX⟩ : ∃ X, wr.heap.size = X := ⟨_, rfl⟩
      rw [hX] at HX ⊢
      clear hX
      generalize wr.alloc (.cells #[.int .i64 ra, .int .i64 rk, .int .i64 rs, .int .i64 rd] 76) = w6 at HR6 HX ⊢
      obtain ⟨⟨a0, a1⟩, ⟨s0, s1⟩, hk12, hsec, hd⟩ := Hok.out
      simp only at a0 a1 s0 s1
      obtain ⟨j, rfl⟩ := Int.eq_ofNat_of_zero_le s0
      obtain ⟨⟨sn, si, sv, sg⟩, hs⟩ : ∃ s, p.x.S[j]? = some s := ⟨_, List.getElem?_eq_getElem (by omega)⟩
      have Hs := hid (show symN p.x (j : Int).toNat = ⟨sn, si, sv, sg⟩ by unfold symN; rw [Int.toNat_natCast, List.getD_eq_getElem?_getD, hs]; rfl)
      have Hsok := hid (HP.out.s _ (List.mem_of_getElem? hs))
      obtain ⟨bs, os, cs, hv, hbs, g0, g1, g2, g3⟩ := sy_item (HO.out.kept0 HR6.out.g).s hs
      rw [HN.out, Hsv.out] at hv
      simp only [Value.slice.injEq, true_and] at hv
      obtain ⟨rfl, rfl⟩ := hv
      have jN : (j : Int) < (N : Int) := by rw [HN.out] at s1; exact s1
      have x2 := HX.out.cell 2 (v := .int .i64 (j : Int)) rfl
      have e5 := HR6.out.bx.cell 5 (v := .slice (some ⟨bs, os, none⟩) N sc) (by rw [← Hsv.out]; rfl)
      have hal := World.grownBy_alloc w6 (.cells #[.string sn, .int .i64 si, .int .i64 sv, .bool sg] 74) none
      have HR7 := hid (HR6.out.kept0 hal)
      have HX7 := hid (HX.out.kept0 hal)
      have HY := hid (RwAt.new w6 74 #[.string sn, .int .i64 si, .int .i64 sv, .bool sg])
      clear hal hs hbs
      go_upto_region 5 with (fail)
      clear g0 g1 g2 g3 HR6 HX x2 e5 a0 a1 s1 hk12 hsec hd
      obtain ⟨Y, hY⟩ : ∃ Y, w6.heap.size = Y := ⟨_, rfl⟩
      rw [hY] at HY ⊢
      clear hY
      generalize w6.alloc (.cells #[.string sn, .int .i64 si, .int .i64 sv, .bool sg] 74) = w7 at HR7 HX7 HY ⊢
      have y1 := HY.out.cell 1 (v := .int .i64 si) rfl
      by_cases h3 : si = 3
      · subst h3
        obtain ⟨⟨qi, qa⟩, hq⟩ : ∃ q, spOf M p ⟨sn, 3, sv, sg⟩ = q := ⟨_, rfl⟩
        have Hq := hid hq
        have Hcall : Hid (Calls Tryd.prog 44 #[.pointer (some ⟨G, 0, none⟩), .agg #[V.d, V.c, V.m, V.r, V.q, V.s, .int .i64 (p.d : Int), .int .i64 (p.c : Int)], .agg #[.string sn, .int .i64 3, .int .i64 sv, .bool sg]] w7 fun e w' => e = .returned (.agg #[.int .i64 qi, .int .i64 qa]) ∧ w7.grownBy w' none) := hid (by
          have hv := Hsok.out.1
          have hd1 := HP.out.dc.1
          have hd2 := HP.out.dc.2
          have h := jspot_any w7 V p ⟨sn, 3, sv, sg⟩ HR7.out.m (Nat.le_trans hd1 (by decide)) (Nat.le_trans hd2 (by decide)) ⟨hv.1, Int.le_trans hv.2 (by decide)⟩ Hone.out
          rw [hq] at h
          exact h)
        have hfs := field_spot qi qa
        go_wp2_with (first
          | (refine wpList_load_rw_g (by kernel_rfl) 103 _ rfl rfl HR7.out.bx rfl Tryd.underlying103 info_part ?_)
          | (refine wpList_load_rw_g (by kernel_rfl) 74 _ rfl rfl HY.out rfl Tryd.underlying74 info_sym ?_)
          | fail)
        refine Hcall.out.mono ?_
        rintro e w8 ⟨rfl, hg⟩
        clear Hcall
        have HR8 := hid (HR7.out.kept0 hg)
        have HX8 := hid (HX7.out.kept0 hg)
        clear hg HR7 HX7 HY y1 hq
        by_cases hq1 : qi = 1
        · subst hq1
          go_wp2_with (first
            | (refine wpList_load_rw_g (by kernel_rfl) 103 _ rfl rfl HR8.out.bx rfl Tryd.underlying103 info_part ?_)
            | (refine wpList_load_rw_g (by kernel_rfl) 76 _ rfl rfl HX8.out rfl Tryd.underlying76 info_rel ?_)
            | fail)
          refine (jumps_link w8 V p ⟨ra, rk, (j : Int), rd⟩ (HO.out.kept0 HR8.out.g) HP.out.b.fit HP.out.len Hok.out.1 (fun _ => Hok.out.2.2.2.1)).mono ?_
          rintro e w9 ⟨rfl, hg⟩
          have HR9 := hid (HR8.out.kept0 hg)
          have HM : Hid (mlR M p ⟨ra, rk, (j : Int), rd⟩ = jumpB p.x ⟨ra, rk, (j : Int), rd⟩) := hid (by
            unfold mlR
            rw [Hs.out, Hq.out]
            simp)
          clear hg HR8 HX8
          cases hj : jumpB p.x ⟨ra, rk, (j : Int), rd⟩ with
          | false =>
            have Hf := hid (any_take Hno.out Hr.out (by rw [HM.out]; exact hj))
            clear hj
            go_wp2
            go_roundw
            case rel => exact ⟨k + 1, Hlt.out, by go_num, HR9, Hf⟩
            case measure => simp [intOf]; have := Hlt.out; omega
          | true =>
            have Hf : Hid (t = true) := hid (by rw [← Ht.out]; exact any_at Hr.out (f := mlR M p) (by rw [HM.out]; exact hj))
            have e1 := HR9.out.e.c1
            unfold errV at e1
            clear hj
            go_wp2
            go_ret
            exact ⟨by unfold erV; rw [if_pos Hf.out]; rfl, HR9.out.g⟩
        · have hq1b : (qi == 1) = false := by simpa using hq1
          have Hf := hid (any_take Hno.out Hr.out (by unfold mlR; rw [Hs.out, Hq.out]; simp [hq1]))
          clear hq1
          go_wp2
          go_roundw
          case rel => exact ⟨k + 1, Hlt.out, by go_num, HR8, Hf⟩
          case measure => simp [intOf]; have := Hlt.out; omega
      · have h3b : (si == 3) = false := by simpa using h3
        have Hf := hid (any_take Hno.out Hr.out (by unfold mlR; rw [Hs.out, decide_eq_false h3]; rfl))
        clear h3
        go_wp2
        go_roundw
        case rel => exact ⟨k + 1, Hlt.out, by go_num, HR7, Hf⟩
        case measure => simp [intOf]; have := Hlt.out; omega
    · obtain rfl : k = n := by omega
      have kn : ¬ ((k : Int) < (k : Int)) := by omega
      have hall := any_all Hn.out Hno.out
      have Hf : Hid (t = false) := hid (by rw [← Ht.out]; exact hall)
      clear hlt hall
      go_wp2
      go_ret
      exact ⟨by unfold erV; rw [if_neg (by rw [Hf.out]; simp)]; rfl, HR.out.g⟩
end Go.Proofs.YteanjchbnaoopaaDoor

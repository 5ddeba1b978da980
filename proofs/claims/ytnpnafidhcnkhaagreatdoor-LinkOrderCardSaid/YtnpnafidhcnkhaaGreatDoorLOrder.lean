/- LinkOrder: the walk. (Made by golorder.py.) -/
import Derived.Test.YtnpnafidhcnkhaaGreatDoorYToAny
import Derived.Test.YtnpnafidhcnkhaaGreatDoorYLnk17
import Derived.Test.YtnpnafidhcnkhaaGreatDoorYLnk18
import Derived.Test.YtnpnafidhcnkhaaGreatDoorYBase
import Derived.Deep.Cut
import Derived.Deep.CutRange
namespace Go.Proofs.YtnpnafidhcnkhaaGreatDoor
open Go.RowKit
theorem info_strO : ∃ i : TypeInfo, Tryz.prog.info? 9 = some i ∧ i.zero = some (.string ⟨#[]⟩) ∧ i.size = 1 ∧ i.bytes = 16 := info_parts (P := Tryz.prog) (e := 9) (z := .string ⟨#[]⟩) (size := 1) (bytes := 16) (by kernel_rfl)
/-- objects stay when a row of strings grows -/
theorem ObW.keptS {w0 w w1 : World} {v vn : Value} {L : List Ob} {n : Nat} {xs : List Value} (h : ObW w0 w v L) (hv : w.ownsRow w0.heap.size 9 1 vn n xs) (hg : w.grownBy w1 vn.ownBlock) : ObW w0 w1 v L :=
  ⟨h.own.kept hg (own_diff h.own hv (by decide)), fun o ho => by
    have x := h.each o ho
    exact ⟨x.d.kept hg (own_diff x.d hv (by decide)), x.c.kept hg (own_diff x.c hv (by decide)), x.m.kept hg (own_diff x.m hv (by decide)), x.r.kept hg (own_diff x.r hv (by decide)), x.q.kept hg (own_diff x.q hv (by decide)), x.s.kept hg (own_diff x.s hv (by decide)), x.ap⟩,
    grown_new' (grown_trans (grown_none h.g) hg) (fun j hj => (hv.lt j hj).1)⟩
/-- where the loop that makes the objects stands -/
structure OrR (w1 wr : World) (vl vn : Value) (n f V k : Nat) : Prop where
  ob : ∃ L, ObW w1 wr vl L ∧ L.map (·.x) = xsOr V (rgp n f k)
  nm : wr.ownsRow w1.heap.size 9 1 vn k ((rgp n f k).map (fun p => Value.string p.2))
set_option maxRecDepth 100000 in
set_option maxHeartbeats 32000000 in
theorem lorder_walk (n first0 pad : Int) (W : World) (A : Nat → Addr) (hS : ErrC W A) (hT : Lib.TabIs Tryz.prog W "internal/strconv.uint64pow10" .u64 Lib.pow10Tab) (n0 : -9223372036854775808 ≤ n) (n1 : n ≤ 9223372036854775807) (f0 : -9223372036854775808 ≤ first0) (f1 : first0 ≤ 9223372036854775807) (p0 : -9223372036854775808 ≤ pad) (p1 : pad ≤ 9223372036854775807) :
    Calls Tryz.prog 3 #[.int .i64 n, .int .i64 first0, .int .i64 pad] W fun e w' => e = .returned (.bool true) ∧ Below W.heap.size W w' := by
  have HS := hid hS
  have HE := hid hS
  have HT := hid hT
  obtain ⟨a, ha⟩ : ∃ a, numB n 5 = a := ⟨_, rfl⟩
  have ha2 : a < 5 := by subst ha; exact numB_lt n (by omega)
  obtain ⟨N, hN⟩ : ∃ N, a + 2 = N := ⟨_, rfl⟩
  have hN2 : (a : Int) + 2 = (N : Int) := by omega
  obtain ⟨f, hf⟩ : ∃ f, numB first0 N = f := ⟨_, rfl⟩
  have hf2 : f < N := by subst hf; exact numB_lt first0 (by omega)
  obtain ⟨V, hV⟩ : ∃ V, numB pad 40 = V := ⟨_, rfl⟩
  have hV2 : V < 40 := by subst hV; exact numB_lt pad (by omega)
  clear hS hT
  go_enter Tryz.func3, Tryz.ntmps3
  go_wp2_with fail
  refine (first13_any HE.out).mono ?_
  rintro e w1 ⟨rfl, hg1⟩
  have HG1 := hid hg1
  clear hg1
  go_wp2_with fail
  refine (number_of n 5 5 a rfl ha (by omega) (by omega) n0 n1).mono ?_
  rintro e w2 ⟨rfl, rfl⟩
  go_wp2_with fail
  refine (number_of first0 _ N f rfl hf (by omega) (by omega) f0 f1).mono ?_
  rintro e w3 ⟨rfl, rfl⟩
  go_wp2_with fail
  refine (number_of pad 40 40 V rfl hV (by omega) (by omega) p0 p1).mono ?_
  rintro e w4 ⟨rfl, rfl⟩
  have HNb : Hid (2 ≤ N ∧ N ≤ 6 ∧ f < N ∧ V ≤ 39) := hid (by omega)
  have nN0 : (0 : Int) < (N : Int) := by omega
  have nN1 : (N : Int) ≤ 6 := by omega
  have nf0 : (0 : Int) ≤ (f : Int) := by omega
  have nf1 : (f : Int) ≤ 6 := by omega
  have nV0 : (0 : Int) ≤ (V : Int) := by omega
  have nV1 : (V : Int) ≤ 39 := by omega
  clear n0 n1 f0 f1 p0 p1 ha hN ha2 hf hf2 hV hV2 hN2
  have HR0 : Hid (OrR w1 w1 (.slice none 0 0) (.slice none 0 0) N f V 0) := hid ⟨⟨[], ObW.start w1, rfl⟩, World.ownsRow_nil _ _ _ _⟩
  go_wp2
  go_loopw [8, 9, 10] (fun v vn i wr => ∃ k : Nat, k ≤ N ∧ i = .int .i64 k ∧ Hid (OrR w1 wr v vn N f V k)) (fun _ _ i _ => N - (intOf i).toNat)
  case atStart => exact ⟨0, Nat.zero_le _, rfl, HR0⟩
  case round =>
    clear HR0
    obtain ⟨wo, rfl⟩ : ∃ x, x = wr := ⟨_, rfl⟩
    obtain ⟨k, hk, rfl, HP⟩ := hrel
    have k0 : (0 : Int) ≤ (k : Int) := by omega
    have k6 : (k : Int) ≤ 6 := by omega
    obtain ⟨L, HQ⟩ : ∃ L, Hid (ObW w1 wo _ L ∧ L.map (·.x) = xsOr V (rgp N f k)) := by obtain ⟨L, h⟩ := HP.out.ob; exact ⟨L, hid h⟩
    have HNm := hid HP.out.nm
    clear HP
    obtain ⟨vp, vc, hv⟩ := HQ.out.1.len
    obtain ⟨nL, hnL⟩ : ∃ n, L.length = n := ⟨_, rfl⟩
    rw [hnL] at hv
    subst hv
    have HnL := hid hnL
    have HkL : Hid (nL = k) := hid (by rw [← hnL, ← List.length_map (f := fun o : Ob => o.x), HQ.out.2]; simp [xsOr, rgp_len])
    clear hnL
    by_cases hlt : k < N
    rotate_left
    · obtain rfl : k = N := by omega
      have kn : ¬ ((k : Int) < (k : Int)) := by omega
      clear hlt hk
      have hrg : rgp k f k = ringL k f := rgp_all k f
      rw [hrg] at HQ HNm
      clear hrg
      have HRk : Hid (RingOk (ringL k f)) := hid (rg_ok HNb.out.1 HNb.out.2.1 HNb.out.2.2.1)
      obtain ⟨gN, cN, hnv⟩ := own_some HNm.out (by have := HNb.out; omega)
      subst hnv
      obtain ⟨V2, hV2⟩ : ∃ v, V + 2 = v := ⟨_, rfl⟩
      have hV2i : (V : Int) + 2 = (V2 : Int) := by omega
      obtain ⟨m, hm⟩ : ∃ m, k * V2 = m := ⟨_, rfl⟩
      have hmi : (k : Int) * (V2 : Int) = (m : Int) := by rw [← hm, Int.natCast_mul]
      have hmb : m ≤ 6 * 41 := by rw [← hm]; exact Nat.mul_le_mul (by have := HNb.out; omega) (by have := HNb.out; omega)
      have hm0 : (0 : Int) ≤ (m : Int) := by omega
      have hm1 : (m : Int) ≤ 246 := by omega
      have v20 : (0 : Int) ≤ (V2 : Int) := by omega
      have v21 : (V2 : Int) ≤ 41 := by have := HNb.out; omega
      have HV2 := hid hV2
      have Hm : Hid (k * (V + 2) = m) := hid (by rw [hV2]; exact hm)
      have HV4 := hid hm
      clear hV2 hm hmb
      have hobb : Hid (∀ o ∈ L, ObB o.x) := hid (fun o ho => by
        have h := List.mem_map_of_mem (f := fun o : Ob => o.x) ho
        rw [HQ.out.2] at h
        obtain ⟨p, hp, hi⟩ := List.mem_map.1 h
        rw [← hi]
        exact obOr_b (w := V) (by have := HNb.out; omega))
      have hlen : Hid (L.length ≤ 1000000) := hid (by rw [HnL.out, HkL.out]; have := HNb.out; omega)
      have Hj : Hid (joinP (L.map (·.x)) = (none, jnOr V (ringL k f))) := hid (by rw [HQ.out.2]; exact joinOr (by have := HNb.out; omega) HRk.out)
      have Hlg : Hid (lngB (whP (jnOr V (ringL k f))) 0 = false) := hid (lngOr (by have := HNb.out; omega) HRk.out (by rw [ring_len, Hm.out]; omega))
      have HCl : Hid ((whP (jnOr V (ringL k f))).C.length = m) := hid (by rw [whOr_C (joinP_ok Hj.out).1, ring_len, Hm.out])
      go_wp2_with fail
      refine (link_any HQ.out.1.at_ (HE.out.kept0 (grown_trans HG1.out HQ.out.1.g)) hobb.out hlen.out).mono ?_
      rintro e w6 hJ
      unfold LinkAt at hJ
      rw [Hj.out] at hJ
      simp only at hJ
      obtain ⟨K, hK, hJ⟩ := hJ
      obtain rfl := rnd_words qOr2 hK
      rw [Hlg.out, if_neg (by simp)] at hJ
      obtain ⟨hP, _, v1, vC, vd, vp', vs, rfl, hro, hg⟩ := hJ
      obtain ⟨i1, i2, i3⟩ := imgOr hP
      obtain ⟨I, hI⟩ : ∃ I, imgP (jnOr V (ringL k f)) 0 = I := ⟨_, rfl⟩
      rw [hI] at i1 i2 i3 hro ⊢
      clear hI hK hP
      rw [ring_len, Hm.out] at i1
      have r1 := hro ⟨v1, 27, 1, I.D.length, I.D.map (Value.int .u32)⟩ (by simp [imRo])
      have r2 := hro ⟨vC, 27, 1, I.C.length, I.C.map (Value.int .u32)⟩ (by simp [imRo])
      have r3 := hro ⟨vd, 3, 1, I.dr.length, I.dr.map (Value.int .i64)⟩ (by simp [imRo])
      have r4 := hro ⟨vp', 3, 1, I.pl.length, I.pl.map (Value.int .i64)⟩ (by simp [imRo])
      have r5 := hro ⟨vs, 3, 1, I.st.length, I.st.map (Value.int .i64)⟩ (by simp [imRo])
      simp only at r1 r2 r3 r4 r5
      obtain ⟨q1, d1, e1⟩ := own_slice r1
      obtain ⟨gC, d2, e2⟩ := own_some r2 (by
        rw [i1, ← Hm.out]
        exact Nat.mul_pos (by have := HNb.out; omega) (by omega))
      obtain ⟨q3, d3, e3⟩ := own_slice r3
      obtain ⟨q4, d4, e4⟩ := own_slice r4
      obtain ⟨q5, d5, e5⟩ := own_slice r5
      obtain ⟨n1, hn1⟩ : ∃ n, I.D.length = n := ⟨_, rfl⟩
      obtain ⟨n3, hn3⟩ : ∃ n, I.dr.length = n := ⟨_, rfl⟩
      obtain ⟨n4, hn4⟩ : ∃ n, I.pl.length = n := ⟨_, rfl⟩
      obtain ⟨n5, hn5⟩ : ∃ n, I.st.length = n := ⟨_, rfl⟩
      rw [hn1] at e1
      rw [i1] at e2 r2
      rw [hn3] at e3
      rw [hn4] at e4
      rw [hn5] at e5
      subst e1 e2 e3 e4 e5
      obtain ⟨e0, he0⟩ : ∃ e, I.e = e := ⟨_, rfl⟩
      rw [he0] at i3 ⊢
      have al := World.grownBy_alloc w6 (.cells #[.int .u32 e0, .slice q1 n1 d1, .slice (some ⟨gC, 0, none⟩) m d2, .slice q3 n3 d3, .slice q4 n4 d4, .slice q5 n5 d5] 45) none
      have HO8 := hid (HQ.out.1.kept0 (grown_trans hg al))
      have HN8 := hid (own_keep0 HNm.out (grown_trans hg al))
      have HR8 := hid (own_keep0 r2 al)
      have HX8 := hid (RwAt.new w6 45 #[.int .u32 e0, .slice q1 n1 d1, .slice (some ⟨gC, 0, none⟩) m d2, .slice q3 n3 d3, .slice q4 n4 d4, .slice q5 n5 d5])
      have HI2 := hid i2
      have HI3 := hid i3
      have Hzi := zero_image
      clear r1 r2 r3 r4 r5 hro hg al hn1 hn3 hn4 hn5 he0 i1 i2 i3 HQ HNm HnL HkL
      go_upto_region 27 with (fail)
      obtain ⟨X, hX⟩ : ∃ X, w6.heap.size = X := ⟨_, rfl⟩
      rw [hX] at HX8 ⊢
      clear hX Hzi
      generalize w6.alloc (.cells #[.int .u32 e0, .slice q1 n1 d1, .slice (some ⟨gC, 0, none⟩) m d2, .slice q3 n3 d3, .slice q4 n4 d4, .slice q5 n5 d5] 45) = w8 at HO8 HN8 HR8 HX8 ⊢
      have x2 := HX8.out.cell 2 (v := .slice (some ⟨gC, 0, none⟩) m d2) rfl
      have HWh : Hid (∀ (w : World) (nm : ByteArray), w8.grownBy w none → nm ∈ (ringL k f).map (·.1) → Calls Tryz.prog 14 #[.slice vp nL vc, .string nm] w fun e w' => e = .returned (.tuple #[.int .u32 (adP (plcP (jnOr V (ringL k f)) 0) (lkD (mpO V 0 (ringL k f)) nm)), .nilIface]) ∧ w.grownBy w' none) := hid (fun w nm hg hn => by
        obtain ⟨a, ha, hb⟩ := lkp_mpO2 (w := V) (ringL k f) 0 hn
        have hd : lkD (mpO V 0 (ringL k f)) nm = ⟨2, a⟩ := by unfold lkD; rw [ha]; rfl
        rw [hd]
        have HOw := HO8.out.kept0 hg
        exact whr_yes HOw.at_ (HE.out.kept0 (grown_trans HG1.out HOw.g)) hobb.out hlen.out nm Hj.out (fun K h => rnd_words qOr2 h) Hlg.out ha (by rw [HCl.out]; rw [ring_len, Hm.out] at hb; omega))
      clear hobb hlen Hj Hlg HCl
      go_wp2
      go_loopw [18] (fun i wr => ∃ j : Nat, j ≤ k ∧ i = .int .i64 j ∧ Hid (w8.grownBy wr none)) (fun i _ => k - (intOf i).toNat)
      case atStart => exact ⟨0, Nat.zero_le _, rfl, hid (grown_refl _ _)⟩
      case round =>
        obtain ⟨j, hj, rfl, HGr⟩ := hrel
        clear x2
        have j0 : (0 : Int) ≤ (j : Int) := by omega
        by_cases hlt : j < k
        · have jk : (j : Int) < (k : Int) := by omega
          obtain ⟨p, hp⟩ : ∃ p, (ringL k f)[j]? = some p := ⟨_, List.getElem?_eq_getElem (by rw [ring_len]; exact hlt)⟩
          have Hp := hid hp
          have cn : wr.cell? ⟨gN, j, none⟩ = some (.string p.2) := ((own_keep0 HN8.out HGr.out).cellAt j (by omega)).trans (by rw [List.getElem?_map, hp]; rfl)
          have hin : p.2 ∈ (ringL k f).map (·.1) := HRk.out.nx p (List.mem_of_getElem? hp)
          obtain ⟨d, hd⟩ : ∃ d, adP (plcP (jnOr V (ringL k f)) 0) (lkD (mpO V 0 (ringL k f)) p.2) = d := ⟨_, rfl⟩
          obtain ⟨T, hT⟩ : ∃ T, j * V2 = T := ⟨_, rfl⟩
          have hTi : (j : Int) * (V2 : Int) = (T : Int) := by rw [← hT, Int.natCast_mul]
          obtain ⟨T1, hT1⟩ : ∃ T1, T + 1 = T1 := ⟨_, rfl⟩
          have hT1i : (T : Int) + 1 = (T1 : Int) := by omega
          have hTm : T1 < m := by
            have h1 := HV4.out
            have h2 : (j + 1) * V2 ≤ k * V2 := Nat.mul_le_mul_right V2 (by omega)
            rw [Nat.succ_mul, hT] at h2
            have := HV2.out
            omega
          have hTm1 : (T1 : Int) < (m : Int) := by omega
          have hT0 : (0 : Int) ≤ (T : Int) := by omega
          have hT10 : (0 : Int) ≤ (T1 : Int) := by omega
          have hcode : I.C[T1]? = some d := by
            have h := HI2.out j p hp
            have := HV2.out
            rw [this, hT, hT1] at h
            rw [h, hd]
          have HWp := hid (HWh.out wr p.2 HGr.out hin)
          rw [hd] at HWp
          have Hcode := hid hcode
          have HTm := hid hTm
          have Hlt := hid hlt
          clear hp hin hd hT hT1 hcode hlt hTm
          go_wp2_with fail
          refine HWp.out.mono ?_
          rintro e w9 ⟨rfl, hg⟩
          have HG9 := hid (grown_trans HGr.out hg)
          clear hg cn
          have x2 := (HX8.out.kept0 HG9.out).cell 2 (v := .slice (some ⟨gC, 0, none⟩) m d2) rfl
          have cc : w9.cell? ⟨gC, T1, none⟩ = some (.int .u32 d) := ((own_keep0 HR8.out HG9.out).cellAt T1 (by have := HTm.out; omega)).trans (by rw [List.getElem?_map, Hcode.out]; rfl)
          go_wp2
          go_roundw
          case rel => exact ⟨j + 1, Hlt.out, by go_num, HG9⟩
          case measure => simp [intOf]; have := Hlt.out; omega
        · obtain rfl : j = k := by omega
          have jn : ¬ ((j : Int) < (j : Int)) := by omega
          clear hlt hj
          obtain ⟨d, hd⟩ : ∃ d, adP (plcP (jnOr V (ringL j f)) 0) (lkD (mpO V 0 (ringL j f)) nmMainL) = d := ⟨_, rfl⟩
          have HWp : Hid (Calls Tryz.prog 14 #[.slice vp nL vc, .string ⟨#[109, 97, 105, 110]⟩] wr fun e w' => e = .returned (.tuple #[.int .u32 d, .nilIface]) ∧ wr.grownBy w' none) := hid (by rw [← hd]; exact HWh.out wr nmMainL HGr.out HRk.out.mn)
          have hee := HI3.out
          rw [hd] at hee
          subst hee
          clear hd
          go_wp2_with fail
          refine HWp.out.mono ?_
          rintro e w9 ⟨rfl, hg⟩
          have HG9 := hid (grown_trans HGr.out hg)
          have x0 := (HX8.out.kept0 HG9.out).cell 0 (v := .int .u32 e0) rfl
          clear hg
          go_wp2
          go_ret
          exact ⟨rfl, grown_below (grown_trans HG1.out (grown_trans HO8.out.g HG9.out))⟩
    · have kn : (k : Int) < (N : Int) := by omega
      have Hlt := hid hlt
      obtain ⟨np, nc, hnv⟩ := own_slice HNm.out
      subst hnv
      obtain ⟨Q, hQ⟩ : ∃ Q, (f + k) % N = Q := ⟨_, rfl⟩
      have hQN : Q < N := by rw [← hQ]; exact Nat.mod_lt _ (by omega)
      have hQi : ((f : Int) + (k : Int)) % (N : Int) = (Q : Int) := by rw [← hQ, Int.natCast_emod, Int.natCast_add]
      obtain ⟨Q1, hQ1⟩ : ∃ Q1, (Q + 1) % N = Q1 := ⟨_, rfl⟩
      have hQN1 : Q1 < N := by rw [← hQ1]; exact Nat.mod_lt _ (by omega)
      have hQ1i : ((Q : Int) + 1) % (N : Int) = (Q1 : Int) := by rw [← hQ1, Int.natCast_emod]; rfl
      have hs0 : (0 : Int) ≤ (f : Int) + (k : Int) := by omega
      have q0 : (0 : Int) ≤ (Q : Int) := by omega
      have q6 : (Q : Int) ≤ 6 := by omega
      have HQe : Hid (rgp N f (k + 1) = rgp N f k ++ [(nmM Q, nmM Q1)]) := hid (by rw [rgp_succ, hQ, hQ1])
      have HOk : Hid (NmOk (nmM Q, nmM Q1)) := hid (by have := HNb.out; have h := rg_nm (n := N) (f := f) (k := k) this.1 this.2.1 this.2.2.1 hlt; rw [hQ, hQ1] at h; exact h)
      clear hlt hk hQ hQ1
      obtain ⟨sk, hsk⟩ : ∃ sk : ByteArray, ⟨(dgt Q).toArray⟩ = sk := ⟨_, rfl⟩
      have hst : ∀ w : World, (Op.stringOp .add ⟨#[102]⟩ sk).run Tryz.prog w = .ok (.string (nmF Q)) w := fun w => by rw [← hsk]; exact add_f Q w
      have Hnum : Hid (Calls Tryz.prog 8 #[.int .i64 Q] wo fun e w' => e = .returned (.string sk) ∧ wo.grownBy w' none) := hid (by
        rw [← hsk]
        exact num_all HT.out Q (by omega) wo (grown_trans HG1.out HQ.out.1.g))
      clear hsk
      go_wp2_with fail
      refine Hnum.out.mono ?_
      rintro e w5 ⟨rfl, hg⟩
      have HG5 := hid hg
      clear hg Hnum
      obtain ⟨zb, hz1, hz2⟩ : ∃ z, ((Q : Int) == 0) = z ∧ (Q == 0) = z := ⟨Q == 0, by simp [Bool.beq_eq_decide_eq], rfl⟩
      have Hzb := hid hz2
      go_upto_if 48 with (fail)
      clear hz1 hz2 hst
      go_cut [12] from 34 to 82 (fun u wz => u = .string (nmM Q) ∧ Hid (wo.grownBy wz none))
      case first =>
        cases zb with
        | false =>
          have HkM : Hid (nmM Q = nmF Q) := hid (by unfold nmM; rw [if_neg (by have := Hzb.out; simpa using this)])
          clear Hzb
          go_wp2
          go_meet
          case rel => exact ⟨by rw [HkM.out], HG5⟩
        | true =>
          have HkM : Hid (nmM Q = nmMainL) := hid (by unfold nmM; rw [if_pos (by have := Hzb.out; simpa using this)])
          clear Hzb
          go_wp2
          go_meet
          case rel => exact ⟨by rw [HkM.out]; rfl, HG5⟩
      case rest =>
        obtain ⟨rfl, HG6⟩ := hcut
        obtain ⟨wd, rfl⟩ : ∃ x, x = wc := ⟨_, rfl⟩
        clear HG5 Hzb
        obtain ⟨sk, hsk⟩ : ∃ sk : ByteArray, ⟨(dgt Q1).toArray⟩ = sk := ⟨_, rfl⟩
        have hst : ∀ w : World, (Op.stringOp .add ⟨#[102]⟩ sk).run Tryz.prog w = .ok (.string (nmF Q1)) w := fun w => by rw [← hsk]; exact add_f Q1 w
        have Hnum : Hid (Calls Tryz.prog 8 #[.int .i64 Q1] wd fun e w' => e = .returned (.string sk) ∧ wd.grownBy w' none) := hid (by
          rw [← hsk]
          exact num_all HT.out Q1 (by have := HNb.out; omega) wd (grown_trans HG1.out (grown_trans HQ.out.1.g HG6.out)))
        clear hsk
        go_wp2_with fail
        refine Hnum.out.mono ?_
        rintro e w5 ⟨rfl, hg⟩
        have HG5 := hid (grown_trans HG6.out hg)
        clear hg Hnum HG6
        obtain ⟨zb, hz1, hz2⟩ : ∃ z, ((Q1 : Int) == 0) = z ∧ (Q1 == 0) = z := ⟨Q1 == 0, by simp [Bool.beq_eq_decide_eq], rfl⟩
        have Hzb := hid hz2
        go_upto_if 59 with (fail)
        clear hz1 hz2 hst
        go_cut [13] from 34 to 82 (fun u wz => u = .string (nmM Q1) ∧ Hid (wo.grownBy wz none))
        case first =>
          cases zb with
          | false =>
            have HkM : Hid (nmM Q1 = nmF Q1) := hid (by unfold nmM; rw [if_neg (by have := Hzb.out; simpa using this)])
            clear Hzb
            go_wp2
            go_meet
            case rel => exact ⟨by rw [HkM.out], HG5⟩
          | true =>
            have HkM : Hid (nmM Q1 = nmMainL) := hid (by unfold nmM; rw [if_pos (by have := Hzb.out; simpa using this)])
            clear Hzb
            go_wp2
            go_meet
            case rel => exact ⟨by rw [HkM.out]; rfl, HG5⟩
        case rest =>
          obtain ⟨rfl, HG6⟩ := hcut
          clear HG5 Hzb hQi hQ1i
          go_wp2_with fail
          refine (at_any (nmM Q) _).mono ?_
          rintro e w7 ⟨rfl, hg⟩
          unfold lbC
          have HG7 := hid (grown_trans HG6.out hg)
          clear hg HG6
          go_wp2_with fail
          refine (to_any 19 0 (nmM Q1) _).mono ?_
          rintro e w8 ⟨rfl, hg⟩
          unfold tlC
          have al := World.grownBy_alloc w8 (.cells #[.int .i64 0, .int .i64 0, .int .i64 0, .int .i64 0, .int .u32 0, .string (nmM Q), .string ByteArray.empty, .bool false, .int .i64 19, .int .i64 0, .int .i64 0, .int .i64 0, .int .u32 0, .string ByteArray.empty, .string (nmM Q1), .bool false] 31) none
          have HLn : Hid (LxW wo (w8.alloc (.cells #[.int .i64 0, .int .i64 0, .int .i64 0, .int .i64 0, .int .u32 0, .string (nmM Q), .string ByteArray.empty, .bool false, .int .i64 19, .int .i64 0, .int .i64 0, .int .i64 0, .int .u32 0, .string ByteArray.empty, .string (nmM Q1), .bool false] 31)) (.slice (some ⟨w8.heap.size, 0, none⟩) 2 2) (lsOr 0 (nmM Q, nmM Q1))) := hid ⟨World.ownsRow_lit w8 #[.int .i64 0, .int .i64 0, .int .i64 0, .int .i64 0, .int .u32 0, .string (nmM Q), .string ByteArray.empty, .bool false, .int .i64 19, .int .i64 0, .int .i64 0, .int .i64 0, .int .u32 0, .string ByteArray.empty, .string (nmM Q1), .bool false] 2 (grown_trans HG7.out hg).size (by unfold maxLen; omega) rfl, grown_trans HG7.out (grown_trans hg al)⟩
          clear hg al HG7
          go_wp2
          go_loopw [14, 15] (fun v i wr => ∃ j : Nat, j ≤ V ∧ i = .int .i64 j ∧ Hid (LxW wo wr v (lsOr j (nmM Q, nmM Q1)))) (fun _ i _ => V - (intOf i).toNat)
          case atStart => exact ⟨0, Nat.zero_le _, rfl, HLn⟩
          case round =>
            clear HLn
            obtain ⟨j, hj, rfl, HP⟩ := hrel
            have j0 : (0 : Int) ≤ (j : Int) := by omega
            obtain ⟨vp2, vc2, hv⟩ : ∃ p c, _ = Value.slice p (lsOr j (nmM Q, nmM Q1)).length c := own_slice HP.out.own
            obtain ⟨n2, hn2⟩ : ∃ n, (lsOr j (nmM Q, nmM Q1)).length = n := ⟨_, rfl⟩
            rw [hn2] at hv
            subst hv
            have Hn2 := hid hn2
            have Hn2b : Hid (n2 = j + 2 ∧ j ≤ 40) := hid ⟨by rw [← hn2]; simp [lsOr], by have := HNb.out; omega⟩
            clear hn2
            by_cases hjl : j < V
            rotate_left
            · obtain rfl : j = V := by omega
              have kn2 : ¬ ((j : Int) < (j : Int)) := by omega
              clear hjl hj
              have HO5 := hid (HQ.out.1.kept0 HP.out.g)
              have HNm5 := hid (own_keep0 HNm.out HP.out.g)
              have HCs : Hid (CsAt wr (.slice vp2 n2 vc2) (lsOr j (nmM Q, nmM Q1)).length (csL lxC (lsOr j (nmM Q, nmM Q1)))) := hid HP.out.cs
              have HPg := hid HP.out.g
              clear HP
              go_wp2_with fail
              refine (mkx_any (D := []) (ls := lsOr j (nmM Q, nmM Q1)) (by simp) (by rw [Hn2.out]; have := Hn2b.out; omega) (.inl ⟨⟨_, _, rfl⟩, rfl⟩) HCs.out).mono ?_
              rintro e w9 ⟨Vv, rfl, ho, hg⟩
              rw [obOr_is HOk.out] at ho
              obtain ⟨p0, c0, p1, c1, p2, c2, p3, c3, p4, c4, p5, c5, hVv⟩ := ownO_slices ho
              obtain ⟨M, hM⟩ : ∃ M, (obOr j (nmM Q, nmM Q1)).C.length = M := ⟨_, rfl⟩
              obtain ⟨M2, hM2⟩ : ∃ M, (obOr j (nmM Q, nmM Q1)).M.length = M := ⟨_, rfl⟩
              rw [show (obOr j (nmM Q, nmM Q1)).D.length = 0 from rfl, hM, hM2, show (obOr j (nmM Q, nmM Q1)).R.length = 0 from rfl, show (obOr j (nmM Q, nmM Q1)).Q.length = 1 from rfl, show (obOr j (nmM Q, nmM Q1)).S.length = 2 from rfl] at hVv
              subst hVv
              have al := World.grownBy_alloc w9 (.cells #[.slice p0 0 c0, .slice p1 M c1, .slice p2 M2 c2, .slice p3 0 c3, .slice p4 1 c4, .slice p5 2 c5] 41) none
              have HO6 := hid (HO5.out.kept0 (grown_trans hg al))
              have HNm6 := hid (own_keep0 HNm5.out (grown_trans hg al))
              have HOn : Hid (OwnO w1.heap.size (w9.alloc (.cells #[.slice p0 0 c0, .slice p1 M c1, .slice p2 M2 c2, .slice p3 0 c3, .slice p4 1 c4, .slice p5 2 c5] 41)) ⟨.slice p0 0 c0, .slice p1 M c1, .slice p2 M2 c2, .slice p3 0 c3, .slice p4 1 c4, .slice p5 2 c5⟩ (obOr j (nmM Q, nmM Q1))) := hid ((ho.kept0 al).baseW HO5.out.g.size)
              clear ho hg al hM hM2 HCs HO5 HNm5 HPg
              have HOw := HO6.out.own
              rw [HnL.out] at HOw
              have HOw := hid HOw
              have Hnews : Hid (∀ x u, (csL obC [(⟨⟨.slice p0 0 c0, .slice p1 M c1, .slice p2 M2 c2, .slice p3 0 c3, .slice p4 1 c4, .slice p5 2 c5⟩, obOr j (nmM Q, nmM Q1)⟩ : Ob)])[x]? = some u → (w9.alloc (.cells #[.slice p0 0 c0, .slice p1 M c1, .slice p2 M2 c2, .slice p3 0 c3, .slice p4 1 c4, .slice p5 2 c5] 41)).cell? ((⟨w9.heap.size, 0, none⟩ : Addr).add x) = some u) := hid (World.news_of_block (heap_alloc_new w9 _))
              have HLb : Hid (nL ≤ 100 ∧ k ≤ 100) := hid (by have := HkL.out; have := Hlt.out; have := HNb.out; omega)
              obtain ⟨i, hi, hz0, hz1, hz2⟩ := info_obx
              have Hi := hid hi
              have Hz0 := hid hz0
              have Hz1 := hid hz1
              have Hz2 := hid hz2
              clear hi hz0 hz1 hz2
              unfold OV.agg
              go_upto_region 25 with (first
                | (refine is_app _ _ _ rfl ?_
                   refine wpList_append_lies _ rfl _ _ 24 rfl w1.heap.size 41 i _ 6 144 Tryz.underlying24 Hi.out Hz0.out Hz1.out Hz2.out rfl (by decide) _ nL _ rfl HOw.out ⟨w9.heap.size, 0, none⟩ 1 1 _ rfl rfl Hnews.out (by simp [csL, obC, Value.oneCell']) (by decide) (by have := HLb.out; unfold maxLen; omega) (by have := HLb.out; omega) HO6.out.g.size _ rfl ?_
                   intro g cap wz hown hgrow hat hlt2
                   have hgrow0 : (w9.alloc (.cells #[.slice p0 0 c0, .slice p1 M c1, .slice p2 M2 c2, .slice p3 0 c3, .slice p4 1 c4, .slice p5 2 c5] 41)).grownBy wz (Value.slice vp nL vc).ownBlock := hgrow
                   have HOz := hid (HO6.out.add [⟨⟨.slice p0 0 c0, .slice p1 M c1, .slice p2 M2 c2, .slice p3 0 c3, .slice p4 1 c4, .slice p5 2 c5⟩, obOr j (nmM Q, nmM Q1)⟩] (fun o h => by obtain rfl := List.mem_singleton.1 h; exact HOn.out) (by rw [HnL.out]; exact hown) hgrow0)
                   have HNmz := hid (HNm6.out.kept hgrow0 (own_diff HNm6.out HOw.out (by decide)))
                   clear hown hgrow hat hlt2 hgrow0)
                | fail)
              clear HOw Hnews Hi Hz0 Hz1 Hz2 HO6 HNm6 HOn
              have al := World.grownBy_alloc wz (.cells #[.string (nmM Q1)] 9) none
              have HO7 := hid (HOz.out.kept0 al)
              have HNm7 := hid (own_keep0 HNmz.out al)
              have Hnews : Hid (∀ x u, [Value.string (nmM Q1)][x]? = some u → (wz.alloc (.cells #[.string (nmM Q1)] 9)).cell? ((⟨wz.heap.size, 0, none⟩ : Addr).add x) = some u) := hid (World.news_of_block (heap_alloc_new wz _))
              clear al HOz HNmz
              obtain ⟨i, hi, hz0, hz1, hz2⟩ := info_strO
              have Hi := hid hi
              have Hz0 := hid hz0
              have Hz1 := hid hz1
              have Hz2 := hid hz2
              clear hi hz0 hz1 hz2
              go_wp2_with (first
                | (refine is_app _ _ _ rfl ?_
                   refine wpList_append_lies _ rfl _ _ 25 rfl w1.heap.size 9 i _ 1 16 Tryz.underlying25 Hi.out Hz0.out Hz1.out Hz2.out rfl (by decide) _ k _ rfl HNm7.out ⟨wz.heap.size, 0, none⟩ 1 1 _ rfl rfl Hnews.out (by simp [Value.oneCell']) (by decide) (by have := HLb.out; unfold maxLen; omega) (by have := HLb.out; omega) HO7.out.g.size _ rfl ?_
                   intro g2 cap2 wy hown hgrow hat hlt2
                   have hgrow0 : (wz.alloc (.cells #[.string (nmM Q1)] 9)).grownBy wy (Value.slice np k nc).ownBlock := hgrow
                   have HNmy := hid hown
                   have HOy := hid (HO7.out.keptS HNm7.out hgrow0)
                   clear hown hgrow hat hlt2 hgrow0)
                | fail)
              go_roundw
              case rel =>
                refine ⟨k + 1, Hlt.out, by go_num, hid ⟨⟨_, HOy.out, ?_⟩, ?_⟩⟩
                · rw [List.map_append, HQ.out.2, HQe.out]
                  unfold xsOr
                  rw [List.map_append]
                  rfl
                · rw [HQe.out, List.map_append]
                  exact HNmy.out
              case measure => simp [intOf]; have := Hlt.out; omega
            · have kn2 : (j : Int) < (V : Int) := by omega
              have Hjl := hid hjl
              clear hjl hj
              have Hop : Hid (∀ w : World, Calls Tryz.prog 11 #[.int .i64 1, .slice none 0 0] w fun e w' => e = .returned (.agg #[.int .i64 1, .int .i64 0, .int .i64 0, .int .i64 0, .int .u32 0, .string ByteArray.empty, .string ByteArray.empty, .bool false]) ∧ w.grownBy w' none) := hid (fun w => op_nil 1 w)
              go_wp2_with fail
              refine (Hop.out _).mono ?_
              rintro e w7 ⟨rfl, hg⟩
              have HQ7 := hid (HP.out.kept0 hg)
              clear hg HP Hop
              have al := World.grownBy_alloc w7 (.cells #[.int .i64 1, .int .i64 0, .int .i64 0, .int .i64 0, .int .u32 0, .string ByteArray.empty, .string ByteArray.empty, .bool false] 31) none
              have HQ8 := hid (HQ7.out.kept0 al)
              have HOw := HQ8.out.own
              rw [Hn2.out] at HOw
              have HOw := hid HOw
              have Hnews : Hid (∀ x u, (csL lxC [opL 1 0])[x]? = some u → (w7.alloc (.cells #[.int .i64 1, .int .i64 0, .int .i64 0, .int .i64 0, .int .u32 0, .string ByteArray.empty, .string ByteArray.empty, .bool false] 31)).cell? ((⟨w7.heap.size, 0, none⟩ : Addr).add x) = some u) := hid (World.news_of_block (heap_alloc_new w7 _))
              clear al HQ7
              obtain ⟨i, hi, hz0, hz1, hz2⟩ := info_lnx
              have Hi := hid hi
              have Hz0 := hid hz0
              have Hz1 := hid hz1
              have Hz2 := hid hz2
              clear hi hz0 hz1 hz2
              go_wp2_with (first
                | (refine is_app _ _ _ rfl ?_
                   refine wpList_append_lies _ rfl _ _ 34 rfl wo.heap.size 31 i _ 8 80 Tryz.underlying34 Hi.out Hz0.out Hz1.out Hz2.out rfl (by decide) _ n2 _ rfl HOw.out ⟨w7.heap.size, 0, none⟩ 1 1 _ rfl rfl Hnews.out (by simp [csL, lxC, opL, Value.oneCell']) (by decide) (by have := Hn2b.out; unfold maxLen; omega) (by have := Hn2b.out; omega) HQ8.out.g.size _ rfl ?_
                   intro g cap wz hown hgrow hat hlt2
                   have hgrow0 : (w7.alloc (.cells #[.int .i64 1, .int .i64 0, .int .i64 0, .int .i64 0, .int .u32 0, .string ByteArray.empty, .string ByteArray.empty, .bool false] 31)).grownBy wz (Value.slice vp2 n2 vc2).ownBlock := hgrow
                   have HOn := hid (HQ8.out.add [opL 1 0] (by rw [Hn2.out]; exact hown) hgrow0)
                   clear hown hgrow hat hlt2 hgrow0)
                | fail)
              go_roundw
              case rel =>
                refine ⟨j + 1, Hjl.out, by go_num, hid ?_⟩
                have h := HOn.out
                unfold lsOr at h ⊢
                rw [List.append_assoc, ← List.replicate_succ'] at h
                exact h
              case measure => simp [intOf]; have := Hjl.out; omega
end Go.Proofs.YtnpnafidhcnkhaaGreatDoor

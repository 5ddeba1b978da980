/- The walk of the law WalkSays. -/
import Derived.Test.YthjbbkhnfemikaaDoorRWalk4
namespace Go.Proofs.YthjbbkhnfemikaaDoor
open Go.RowKit
set_option maxRecDepth 100000 in
set_option maxHeartbeats 8000000 in
theorem says_walk (v : Value) (xs : List Int) (f : Int) (t x u : Bool) (d root page addr : Int) (write user : Bool) (W : World) (hs : SlAt W .u32 v xs) (hw : ∀ n ∈ xs, (Lit.int .u32 n).wf = true) (_ : xs.length ≤ maxLen)
    (d0 : 0 ≤ d) (d1 : d ≤ 4294967295) (r0 : -9223372036854775808 ≤ root) (r1 : root ≤ 9223372036854775807) (p0 : -9223372036854775808 ≤ page) (p1 : page ≤ 9223372036854775807) (a0 : 0 ≤ addr) (a1 : addr ≤ 4294967295) :
    Calls Tryd.prog 4 #[v, .agg #[.int .i64 f, .bool t, .bool x, .bool u], .int .u32 d, .int .i64 root, .int .i64 page, .int .u32 addr, .bool write, .bool user] W fun e w' => e = .returned (.bool true) ∧ Below W.heap.size W w' := by
  obtain ⟨p, c', rfl⟩ := hs.len
  have HG0 := hid (grown_alloc (grown_refl W none) (.cells #[.int .i64 f, .bool t, .bool x, .bool u] 32))
  have HS0 := hid (hs.kept0 (World.grownBy_alloc W (.cells #[.int .i64 f, .bool t, .bool x, .bool u] 32) none))
  have hux : U32s xs := fun n hn => by have := u32_bd (hw n hn); omega
  have Hux := hid (layW_u32 (k := xs.length) hux)
  have d2 : d < 4294967296 := by omega
  have a2 : addr < 4294967296 := by omega
  clear hs hw hux
  by_cases hlen : xs.length ≤ 320
  · have hl2 : ¬ (xs.length : Int) > 320 := by omega
    obtain ⟨ys, HY⟩ : ∃ ys, Hid (layW xs xs.length = ys) := ⟨_, hid rfl⟩
    rw [HY.out] at Hux
    obtain ⟨A, HA⟩ : ∃ A, Hid (bitV f t x u = A) := ⟨_, hid rfl⟩
    obtain ⟨I, HI⟩ : ∃ A, Hid (bitB f t x u = A) := ⟨_, hid rfl⟩
    obtain ⟨cF, HcF⟩ : ∃ A, Hid (oF (ofO d) = A) := ⟨_, hid rfl⟩
    obtain ⟨cT, HcT⟩ : ∃ A, Hid (oT (ofO d) = A) := ⟨_, hid rfl⟩
    obtain ⟨cX, HcX⟩ : ∃ A, Hid (oW (ofO d) = A) := ⟨_, hid rfl⟩
    obtain ⟨cU, HcU⟩ : ∃ A, Hid (oU (ofO d) = A) := ⟨_, hid rfl⟩
    obtain ⟨C, HC⟩ : ∃ A, Hid (ofB d = A) := ⟨_, hid rfl⟩
    obtain ⟨pF, HpF⟩ : ∃ A, Hid (oF (pageO ys 20 root page) = A) := ⟨_, hid rfl⟩
    obtain ⟨pT, HpT⟩ : ∃ A, Hid (oT (pageO ys 20 root page) = A) := ⟨_, hid rfl⟩
    obtain ⟨pX, HpX⟩ : ∃ A, Hid (oW (pageO ys 20 root page) = A) := ⟨_, hid rfl⟩
    obtain ⟨pU, HpU⟩ : ∃ A, Hid (oU (pageO ys 20 root page) = A) := ⟨_, hid rfl⟩
    obtain ⟨S, HSv⟩ : ∃ A, Hid (wayV (pageO ys 20 root (addr / 16)) 20 addr write user = A) := ⟨_, hid rfl⟩
    obtain ⟨B, HSb⟩ : ∃ A, Hid (wayB (pageO ys 20 root (addr / 16)) 20 write user = A) := ⟨_, hid rfl⟩
    go_enter Tryd.func4, Tryd.ntmps4
    go_wp2_with fail
    refine (first3_any _).mono ?_; rintro e W1 ⟨rfl, hg⟩
    have HG1 := hid (grown_trans HG0.out hg)
    have HS1 := hid (HS0.out.kept0 hg)
    have E1 := hid ((EntAt.new W f t x u).kept0 hg)
    clear hg HG0 HS0
    go_wp2_with fail
    refine (memory_any _ xs _ HS1.out hlen).mono ?_; rintro e W2 ⟨m, b, m', b', rfl, hm, hb, hM, hR, hg⟩
    rw [HY.out] at hM hR
    have HM2 := hid hM
    have HR2 := hid hR
    have HG2 := hid (grown_trans HG1.out hg)
    have E2 := hid (E1.out.kept0 hg)
    clear hg HG1 HS1 E1 hM hR hm hb
    obtain ⟨e0, e1, e2, e3, ef, el⟩ := E2.out.all
    go_wp2_with fail
    refine (bits_of f t x u A I HA.out HI.out _).mono ?_; rintro e W3 ⟨rfl, hg⟩
    have HM3 := hid (HM2.out.kept0 hg)
    have HR3 := hid (HR2.out.kept0 hg)
    have HG3 := hid (grown_trans HG2.out hg)
    have E3 := hid (E2.out.kept0 hg)
    clear hg HG2 HM2 HR2 E2 e0 e1 e2 e3 ef el
    obtain ⟨e0, e1, e2, e3, ef, el⟩ := E3.out.all
    go_wp2_with fail
    refine (rbits_of f t x u A I HA.out HI.out _).mono ?_; rintro e W4 ⟨rfl, hg⟩
    have HM4 := hid (HM3.out.kept0 hg)
    have HR4 := hid (HR3.out.kept0 hg)
    have HG4 := hid (grown_trans HG3.out hg)
    clear hg HG3 HM3 HR3 E3 e0 e1 e2 e3 ef el
    go_wp2_with fail
    refine (of_of d cF cT cX cU C d0 d2 HcF.out HcT.out HcX.out HcU.out HC.out _).mono ?_; rintro e W5 ⟨rfl, hg⟩
    have HM5 := hid ((HM4.out.kept0 hg).kept0 (World.grownBy_alloc W5 (.cells #[.int .i64 cF, .bool cT, .bool cX, .bool cU] 32) none))
    have HR5 := hid ((HR4.out.kept0 hg).kept0 (World.grownBy_alloc W5 (.cells #[.int .i64 cF, .bool cT, .bool cX, .bool cU] 32) none))
    have HG5 := hid (grown_alloc (grown_trans HG4.out hg) (.cells #[.int .i64 cF, .bool cT, .bool cX, .bool cU] 32))
    have Ca5 := hid (EntAt.new W5 cF cT cX cU)
    obtain ⟨ca, hca, Hca⟩ : ∃ k, W5.heap.size = k ∧ Hid (W5.heap.size = k) := ⟨_, rfl, hid rfl⟩
    rw [Hca.out] at Ca5
    clear hg HG4 HM4 HR4
    go_wp2_with fail
    refine (rof_of d cF cT cX cU C d0 d2 HcF.out HcT.out HcX.out HcU.out HC.out _).mono ?_; rintro e W6 ⟨rfl, hg⟩
    have HM6 := hid ((HM5.out.kept0 hg).kept0 (World.grownBy_alloc W6 (.cells #[.int .i64 cF, .bool cT, .bool cX, .bool cU] 32) none))
    have HR6 := hid ((HR5.out.kept0 hg).kept0 (World.grownBy_alloc W6 (.cells #[.int .i64 cF, .bool cT, .bool cX, .bool cU] 32) none))
    have HG6 := hid (grown_alloc (grown_trans HG5.out hg) (.cells #[.int .i64 cF, .bool cT, .bool cX, .bool cU] 32))
    have Ca6 := hid ((Ca5.out.kept0 hg).alloc (.cells #[.int .i64 cF, .bool cT, .bool cX, .bool cU] 32))
    have Da6 := hid (EntAt.new W6 cF cT cX cU)
    obtain ⟨da, hda, Hda⟩ : ∃ k, W6.heap.size = k ∧ Hid (W6.heap.size = k) := ⟨_, rfl, hid rfl⟩
    rw [Hda.out] at Da6
    clear hg HG5 HM5 HR5 Ca5
    go_wp2_with fail
    refine (page_any HM6.out Hux.out root page pF pT pX pU HpF.out HpT.out HpX.out HpU.out).mono ?_; rintro e W7 ⟨rfl, hg⟩
    have HM7 := hid ((HM6.out.kept0 hg).kept0 (World.grownBy_alloc W7 (.cells #[.int .i64 pF, .bool pT, .bool pX, .bool pU] 32) none))
    have HR7 := hid ((HR6.out.kept0 hg).kept0 (World.grownBy_alloc W7 (.cells #[.int .i64 pF, .bool pT, .bool pX, .bool pU] 32) none))
    have HG7 := hid (grown_alloc (grown_trans HG6.out hg) (.cells #[.int .i64 pF, .bool pT, .bool pX, .bool pU] 32))
    have Ca7 := hid ((Ca6.out.kept0 hg).alloc (.cells #[.int .i64 pF, .bool pT, .bool pX, .bool pU] 32))
    have Da7 := hid ((Da6.out.kept0 hg).alloc (.cells #[.int .i64 pF, .bool pT, .bool pX, .bool pU] 32))
    have Pa7 := hid (EntAt.new W7 pF pT pX pU)
    obtain ⟨pa, hpa, Hpa⟩ : ∃ k, W7.heap.size = k ∧ Hid (W7.heap.size = k) := ⟨_, rfl, hid rfl⟩
    rw [Hpa.out] at Pa7
    clear hg HG6 HM6 HR6 Ca6 Da6
    go_wp2_with fail
    refine (rpage_any (n := 20) HR7.out rfl (by omega) Hux.out root page pF pT pX pU HpF.out HpT.out HpX.out HpU.out).mono ?_; rintro e W8 ⟨rfl, hg⟩
    have HM8 := hid ((HM7.out.kept0 hg).kept0 (World.grownBy_alloc W8 (.cells #[.int .i64 pF, .bool pT, .bool pX, .bool pU] 32) none))
    have HR8 := hid ((HR7.out.kept0 hg).kept0 (World.grownBy_alloc W8 (.cells #[.int .i64 pF, .bool pT, .bool pX, .bool pU] 32) none))
    have HG8 := hid (grown_alloc (grown_trans HG7.out hg) (.cells #[.int .i64 pF, .bool pT, .bool pX, .bool pU] 32))
    have Ca8 := hid ((Ca7.out.kept0 hg).alloc (.cells #[.int .i64 pF, .bool pT, .bool pX, .bool pU] 32))
    have Da8 := hid ((Da7.out.kept0 hg).alloc (.cells #[.int .i64 pF, .bool pT, .bool pX, .bool pU] 32))
    have Pa8 := hid ((Pa7.out.kept0 hg).alloc (.cells #[.int .i64 pF, .bool pT, .bool pX, .bool pU] 32))
    have Qa8 := hid (EntAt.new W8 pF pT pX pU)
    obtain ⟨qa, hqa, Hqa⟩ : ∃ k, W8.heap.size = k ∧ Hid (W8.heap.size = k) := ⟨_, rfl, hid rfl⟩
    rw [Hqa.out] at Qa8
    clear hg HG7 HM7 HR7 Ca7 Da7 Pa7
    go_wp2_with fail
    refine (walk_any HM8.out Hux.out root addr a0 a2 write user S B HSb.out HSv.out).mono ?_; rintro e W9 ⟨rfl, hg⟩
    have HM9 := hid (HM8.out.kept0 hg)
    have HR9 := hid (HR8.out.kept0 hg)
    have HG9 := hid (grown_trans HG8.out hg)
    have Ca9 := hid (Ca8.out.kept0 hg)
    have Da9 := hid (Da8.out.kept0 hg)
    have Pa9 := hid (Pa8.out.kept0 hg)
    have Qa9 := hid (Qa8.out.kept0 hg)
    clear hg HG8 HM8 HR8 Ca8 Da8 Pa8 Qa8
    go_wp2_with fail
    refine (rwalk_any (n := 20) HR9.out rfl (by omega) Hux.out root addr a0 a2 write user S B HSb.out HSv.out).mono ?_; rintro e W10 ⟨rfl, hg⟩
    have HM10 := hid (HM9.out.kept0 hg)
    have HR10 := hid (HR9.out.kept0 hg)
    have HG10 := hid (grown_trans HG9.out hg)
    have Ca10 := hid (Ca9.out.kept0 hg)
    have Da10 := hid (Da9.out.kept0 hg)
    have Pa10 := hid (Pa9.out.kept0 hg)
    have Qa10 := hid (Qa9.out.kept0 hg)
    clear hg HG9 HM9 HR9 Ca9 Da9 Pa9 Qa9
    obtain ⟨c0, c1, c2, c3, cf, cl⟩ := Ca10.out.all
    obtain ⟨g0, g1, g2, g3, gf, gl⟩ := Da10.out.all
    go_wp2_with fail
    refine (same_self cF cT cX cU _).mono ?_; rintro e W11 ⟨rfl, hg⟩
    have HG11 := hid (grown_trans HG10.out hg)
    have P11 := hid (Pa10.out.kept0 hg)
    have Q11 := hid (Qa10.out.kept0 hg)
    clear hg HG10 c0 c1 c2 c3 cf cl g0 g1 g2 g3 gf gl Ca10 Da10 Pa10 Qa10
    obtain ⟨c0, c1, c2, c3, cf, cl⟩ := P11.out.all
    obtain ⟨g0, g1, g2, g3, gf, gl⟩ := Q11.out.all
    go_wp2_with fail
    refine (same_self pF pT pX pU _).mono ?_; rintro e W12 ⟨rfl, hg⟩
    have HG12 := hid (grown_trans HG11.out hg)
    clear hg
    go_wp2
    go_ret
    exact ⟨rfl, grown_below HG12.out⟩
  · have hl2 : (xs.length : Int) > 320 := by omega
    go_enter Tryd.func4, Tryd.ntmps4
    go_wp2_with fail
    refine (first3_any _).mono ?_; rintro e W1 ⟨rfl, hg⟩
    have HG1 := hid (grown_trans HG0.out hg)
    clear hg
    go_wp2
    go_ret
    exact ⟨rfl, grown_below HG1.out⟩
end Go.Proofs.YthjbbkhnfemikaaDoor

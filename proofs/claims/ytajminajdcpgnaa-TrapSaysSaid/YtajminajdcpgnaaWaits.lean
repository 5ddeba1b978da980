/- What would interrupt a processor (package trap; the document's own Waits): contracts. -/
import Derived.Test.YtajminajdcpgnaaCpu0
import Derived.Test.YtajminajdcpgnaaDev7
import Derived.Test.YtajminajdcpgnaaRDev1
import Derived.Deep.Cut
namespace Go.Proofs.Ytajminajdcpgnaa
open Go.RowKit
/-- the cause: whether it may, whether the timer is due, how many keys wait, whether there is a port -/
def waitV (ie due : Bool) (n : Nat) (port : Bool) : Int := if ie then (if due then 2 else if 0 < n then 3 else if port then 5 else 0) else 0
section
variable {w : World} {B d : Nat} {x : DvS} {v : Value} {c : Cp}
set_option maxHeartbeats 1000000 in
theorem waits_any (h : DevAt w B d x v) (hl : c.l.length = 16) (now : Int) (f0 : -9223372036854775808 ≤ x.fr) (f1 : x.fr ≤ 9223372036854775807) (a0 : 0 ≤ x.af) (a1 : x.af ≤ 4294967295) (n0 : -9223372036854775808 ≤ now) (n1 : now ≤ 9223372036854775807) (r : Bool) (hr : dueB x.fr x.af now = r) (n : Nat) (hn : x.Q.length = n) (port : Bool) (V : Int) (hV : waitV c.ie r n port = V) :
    Calls Try.prog 16 #[.agg (cpuC c), .pointer (some ⟨d, 0, none⟩), .int .i64 now, .bool port] w fun e w' => e = .returned (.int .i64 V) ∧ w.grownBy w' none := by
  have HA := hid (CpuAt.new w hl)
  have HG := hid (grown_alloc (grown_refl w none) (.cells (cpuC c) 26))
  have HD := hid (h.kept0 HG.out)
  obtain ⟨i, hi⟩ : ∃ i, c.ie = i := ⟨_, rfl⟩
  have HI := hid hi
  have Hv := hid hV
  have Hq := hid (h.q64)
  rw [hn] at Hq
  have HDue := fun (W : World) (hg : (w.alloc (.cells (cpuC c) 26)).grownBy W none) => due_any (HD.out.kept0 hg) now f0 f1 a0 a1 n0 n1 r hr
  have HKeys := fun (W : World) (hg : (w.alloc (.cells (cpuC c) 26)).grownBy W none) => keys_any (HD.out.kept0 hg) n hn
  have Hdue := hid HDue
  have Hkeys := hid HKeys
  clear h hl hi hV hr hn HDue HKeys HD
  rw [HI.out] at Hv
  have k2 := HA.out.ie
  rw [HI.out] at k2
  cases i
  · go_enter Try.func16, Try.ntmps16
    go_wp2_with fail
    go_ret
    exact ⟨by rw [← Hv.out]; rfl, HG.out⟩
  · go_enter Try.func16, Try.ntmps16
    go_wp2_with fail
    refine (Hdue.out _ (grown_refl _ _)).mono ?_
    rintro e w1 ⟨rfl, hg⟩
    have HG1 := hid hg
    have HG2 := hid (grown_trans HG.out hg)
    clear hg
    cases r
    · go_wp2_with fail
      refine (Hkeys.out _ HG1.out).mono ?_
      rintro e w2 ⟨rfl, rfl⟩
      by_cases h0 : n = 0
      · have h1 : ¬ (0 : Int) < (n : Int) := by omega
        subst h0
        cases port
        · go_wp2_with fail
          go_ret
          exact ⟨by rw [← Hv.out]; rfl, HG2.out⟩
        · go_wp2_with fail
          go_ret
          exact ⟨by rw [← Hv.out]; rfl, HG2.out⟩
      · have h1 : (0 : Int) < (n : Int) := by omega
        have h2 : 0 < n := by omega
        have hVV : V = 3 := by rw [← Hv.out]; simp [waitV, h2]
        go_wp2_with fail
        go_ret
        subst hVV
        exact ⟨rfl, HG2.out⟩
    · go_wp2_with fail
      go_ret
      exact ⟨by rw [← Hv.out]; rfl, HG2.out⟩
end
section
variable {w : World} {B b : Nat} {Q S : List Int} {sn : List Sn} {on : Bool} {T : Int} {vw vs : Value} {c : Cp}
set_option maxHeartbeats 1000000 in
theorem rwaits_any (h : RDAt w B b Q S sn on T vw vs) (hl : c.l.length = 16) (now : Int) (r : Bool) (hr : (on && decide (T ≤ now)) = r) (n : Nat) (hn : Q.length = n) (hn1 : n ≤ 64) (port : Bool) (V : Int) (hV : waitV c.ie r n port = V) :
    Calls Try.prog 17 #[.agg (cpuC c), .pointer (some ⟨b, 0, none⟩), .int .i64 now, .bool port] w fun e w' => e = .returned (.int .i64 V) ∧ w.grownBy w' none := by
  have HA := hid (CpuAt.new w hl)
  have HG := hid (grown_alloc (grown_refl w none) (.cells (cpuC c) 26))
  have HD := hid (h.kept0 HG.out)
  obtain ⟨i, hi⟩ : ∃ i, c.ie = i := ⟨_, rfl⟩
  have HI := hid hi
  have Hv := hid hV
  have Hdue := hid (rdue_any HD.out now r hr)
  obtain ⟨p, cp, hq⟩ := h.q
  have hc : (w.alloc (.cells (cpuC c) 26)).cell? ⟨b, 0, none⟩ = some (.slice p n cp) := by
    obtain ⟨cur, hb, hi⟩ := HD.out.hb
    rw [cell_of_row _ b _ _ _ _ hb, hi.c0, hq, hn]
  clear h hl hi hV hr hq hn HD
  rw [HI.out] at Hv
  have k2 := HA.out.ie
  rw [HI.out] at k2
  have hm : n ≤ 1048576 := by omega
  cases i
  · go_enter Try.func17, Try.ntmps17
    go_wp2_with fail
    go_ret
    exact ⟨by rw [← Hv.out]; rfl, HG.out⟩
  · go_enter Try.func17, Try.ntmps17
    go_wp2_with fail
    refine Hdue.out.mono ?_
    rintro e w1 ⟨rfl, rfl⟩
    cases r
    · by_cases h0 : n = 0
      · have h1 : ¬ (0 : Int) < (n : Int) := by omega
        subst h0
        cases port
        · go_wp2_with fail
          go_ret
          exact ⟨by rw [← Hv.out]; rfl, HG.out⟩
        · go_wp2_with fail
          go_ret
          exact ⟨by rw [← Hv.out]; rfl, HG.out⟩
      · have h1 : (0 : Int) < (n : Int) := by omega
        have h2 : 0 < n := by omega
        have hVV : V = 3 := by rw [← Hv.out]; simp [waitV, h2]
        go_wp2_with fail
        go_ret
        subst hVV
        exact ⟨rfl, HG.out⟩
    · go_wp2_with fail
      go_ret
      exact ⟨by rw [← Hv.out]; rfl, HG.out⟩
end
end Go.Proofs.Ytajminajdcpgnaa

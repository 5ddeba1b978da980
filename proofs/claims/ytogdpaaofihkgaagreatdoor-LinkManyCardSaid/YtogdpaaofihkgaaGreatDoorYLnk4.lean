/- Package link: what is missing, what misleads: contracts. (Made by golnk4.py.) -/
import Derived.Test.YtogdpaaofihkgaaGreatDoorYLnk2
import Derived.BigGuardPart
import Derived.Test.YtogdpaaofihkgaaGreatDoorYRvB
namespace Go.Proofs.YtogdpaaofihkgaaGreatDoor
open Go.RowKit
/-- the call's own: its part's box, and what it reads -/
structure MsW (W w : World) (G B b : Nat) (V : OV) (p : Pt) (pv : Value) (dd cc : Int) (M : Mp) (A : Nat → Addr) : Prop where
  g : W.grownBy w none
  bx : RwAt w b 109 #[V.d, V.c, V.m, V.r, V.q, V.s, .int .i64 (p.d : Int), .int .i64 (p.c : Int)]
  m : MrAt w G B pv dd cc M
  e : ErrC w A
theorem MsW.kept0 {W w w1 : World} {G B b : Nat} {V : OV} {p : Pt} {pv : Value} {dd cc : Int} {M : Mp} {A : Nat → Addr} (h : MsW W w G B b V p pv dd cc M A) (hg : w.grownBy w1 none) : MsW W w1 G B b V p pv dd cc M A := ⟨grown_trans h.g hg, h.bx.kept0 hg, h.m.kept0 hg, h.e.kept0 hg⟩
/-- the cells of symbol k -/
theorem sy_item {w : World} {v : Value} {l : List Sy} {k : Nat} {s : Sy} (h : SyAt w v l) (hr : l[k]? = some s) :
    ∃ b o c, v = .slice (some ⟨b, o, none⟩) l.length c ∧ b < w.heap.size ∧ w.cell? ⟨b, o + k * 4, none⟩ = some (.string s.n) ∧ w.cell? ⟨b, o + k * 4 + 1, none⟩ = some (.int .i64 s.i) ∧ w.cell? ⟨b, o + k * 4 + 2, none⟩ = some (.int .i64 s.v) ∧ w.cell? ⟨b, o + k * 4 + 3, none⟩ = some (.bool s.g) := by
  obtain ⟨b, o, c, rfl, _, hb, hc⟩ := h.at_ (by have := (List.getElem?_eq_some_iff.1 hr).1; omega)
  refine ⟨b, o, c, rfl, hb, ?_, ?_, ?_, ?_⟩
  · exact hc (k * 4 + 0) _ (by rw [sysC_get l k 0 s hr (by decide)]; rfl)
  · rw [Nat.add_assoc]; exact hc (k * 4 + 1) _ (by rw [sysC_get l k 1 s hr (by decide)]; rfl)
  · rw [Nat.add_assoc]; exact hc (k * 4 + 2) _ (by rw [sysC_get l k 2 s hr (by decide)]; rfl)
  · rw [Nat.add_assoc]; exact hc (k * 4 + 3) _ (by rw [sysC_get l k 3 s hr (by decide)]; rfl)
theorem rl_item {w : World} {v : Value} {l : List Rl} {k : Nat} {s : Rl} (h : RlAt w v l) (hr : l[k]? = some s) :
    ∃ b o c, v = .slice (some ⟨b, o, none⟩) l.length c ∧ b < w.heap.size ∧ w.cell? ⟨b, o + k * 4, none⟩ = some (.int .i64 s.a) ∧ w.cell? ⟨b, o + k * 4 + 1, none⟩ = some (.int .i64 s.k) ∧ w.cell? ⟨b, o + k * 4 + 2, none⟩ = some (.int .i64 s.s) ∧ w.cell? ⟨b, o + k * 4 + 3, none⟩ = some (.int .i64 s.d) := by
  obtain ⟨b, o, c, rfl, _, hb, hc⟩ := h.at_ (by have := (List.getElem?_eq_some_iff.1 hr).1; omega)
  refine ⟨b, o, c, rfl, hb, ?_, ?_, ?_, ?_⟩
  · exact hc (k * 4 + 0) _ (by rw [rlsC_get l k 0 s hr (by decide)]; rfl)
  · rw [Nat.add_assoc]; exact hc (k * 4 + 1) _ (by rw [rlsC_get l k 1 s hr (by decide)]; rfl)
  · rw [Nat.add_assoc]; exact hc (k * 4 + 2) _ (by rw [rlsC_get l k 2 s hr (by decide)]; rfl)
  · rw [Nat.add_assoc]; exact hc (k * 4 + 3) _ (by rw [rlsC_get l k 3 s hr (by decide)]; rfl)
/-- this error, or none -/
def erV (A : Nat → Addr) (c : Nat) (t : Bool) : Value := if t = true then errV (A c) else .nilIface
def msS (M : Mp) (s : Sy) : Bool := !(lkp M s.n).isSome && decide (s.i = 3)
theorem any_take {α : Type} {f : α → Bool} {l : List α} {k : Nat} {a : α} (h : (l.take k).any f = false) (ha : l[k]? = some a) (hf : f a = false) : (l.take (k + 1)).any f = false := by
  rw [List.take_add_one, ha, List.any_append, h]
  simpa using hf
theorem any_at {α : Type} {f : α → Bool} {l : List α} {k : Nat} {a : α} (ha : l[k]? = some a) (hf : f a = true) : l.any f = true := List.any_eq_true.2 ⟨a, List.mem_of_getElem? ha, hf⟩
theorem any_all {α : Type} {f : α → Bool} {l : List α} {n : Nat} (hn : l.length = n) (h : (l.take n).any f = false) : l.any f = false := by rwa [← hn, List.take_length] at h
set_option maxRecDepth 100000 in
set_option maxHeartbeats 4000000 in
theorem misses_any (W : World) (V : OV) (p : Pt) {G B : Nat} {pv : Value} {dd cc : Int} {M : Mp} {A : Nat → Addr} (h : OAt W V p.x) (hM : MrAt W G B pv dd cc M) (he : ErrC W A) (hl : p.x.S.length ≤ 1000000) {t : Bool} (ht : missB M p = t) :
    Calls Tryz.prog 40 #[.pointer (some ⟨G, 0, none⟩), ptV V p] W fun e w' => e = .returned (erV A 6 t) ∧ W.grownBy w' none := by
  have Hzs := zero_spot
  have HG := World.grownBy_alloc W (.cells #[V.d, V.c, V.m, V.r, V.q, V.s, .int .i64 (p.d : Int), .int .i64 (p.c : Int)] 109) none
  have HR0 : Hid (MsW W (W.alloc (.cells #[V.d, V.c, V.m, V.r, V.q, V.s, .int .i64 (p.d : Int), .int .i64 (p.c : Int)] 109)) G B W.heap.size V p pv dd cc M A) := hid ⟨HG, RwAt.new W 109 #[V.d, V.c, V.m, V.r, V.q, V.s, .int .i64 (p.d : Int), .int .i64 (p.c : Int)], hM.kept0 HG, he.kept0 HG⟩
  have HO := hid h
  have Hl := hid hl
  have Ht := hid ht
  obtain ⟨n, hn⟩ : ∃ n, p.x.S.length = n := ⟨_, rfl⟩
  have Hn := hid hn
  obtain ⟨sp, sc, hsv⟩ := h.s.len
  rw [hn] at hsv hl
  have n0 : (0 : Int) ≤ (n : Int) := by omega
  have n1 : (n : Int) ≤ 1000000 := by omega
  have Hsv := hid hsv
  clear HG h hM he ht hn hl hsv
  unfold ptV
  go_enter Tryz.func40, Tryz.ntmps40
  go_upto_region 1 with (fail)
  obtain ⟨b, hb⟩ : ∃ b, W.heap.size = b := ⟨_, rfl⟩
  rw [hb] at HR0 ⊢
  clear hb
  generalize W.alloc (.cells #[V.d, V.c, V.m, V.r, V.q, V.s, .int .i64 (p.d : Int), .int .i64 (p.c : Int)] 109) = w1 at HR0 ⊢
  have e5 := HR0.out.bx.cell 5 (v := .slice sp n sc) (by rw [← Hsv.out]; rfl)
  go_wp2
  clear e5
  go_loopw [13] (fun i wr => ∃ k : Nat, k ≤ n ∧ i = .int .i64 k ∧ Hid (MsW W wr G B b V p pv dd cc M A) ∧ Hid ((p.x.S.take k).any (msS M) = false)) (fun i _ => n - (intOf i).toNat)
  case atStart => exact ⟨0, Nat.zero_le _, rfl, HR0, hid rfl⟩
  case round =>
    obtain ⟨k, hk, rfl, HR, Hno⟩ := hrel
    clear HR0
    have k0 : (0 : Int) ≤ (k : Int) := by omega
    by_cases hlt : k < n
    · have kn : (k : Int) < (n : Int) := by omega
      have Hlt := hid hlt
      obtain ⟨⟨sn, si, sv, sg⟩, hs⟩ : ∃ s, p.x.S[k]? = some s := ⟨_, List.getElem?_eq_getElem (by rw [Hn.out]; exact hlt)⟩
      have Hs := hid hs
      obtain ⟨bs, os, cs, hv, hbs, g0, g1, g2, g3⟩ := sy_item (HO.out.kept0 HR.out.g).s hs
      rw [Hn.out, Hsv.out] at hv
      simp only [Value.slice.injEq, true_and] at hv
      obtain ⟨rfl, rfl⟩ := hv
      have hal := World.grownBy_alloc wr (.cells #[.string sn, .int .i64 si, .int .i64 sv, .bool sg] 60) none
      have HR6 := hid (HR.out.kept0 hal)
      have HX := hid (RwAt.new wr 60 #[.string sn, .int .i64 si, .int .i64 sv, .bool sg])
      clear hal hs hbs hlt
      go_upto_region 4 with (fail)
      clear g0 g1 g2 g3 HR
      obtain ⟨X, hX⟩ : ∃ X, wr.heap.size = X := ⟨_, rfl⟩
      rw [hX] at HX ⊢
      clear hX
      generalize wr.alloc (.cells #[.string sn, .int .i64 si, .int .i64 sv, .bool sg] 60) = w6 at HR6 HX ⊢
      obtain ⟨⟨qi, qa⟩, hq⟩ : ∃ q, lkD M sn = q := ⟨_, rfl⟩
      obtain ⟨tt, htt⟩ : ∃ tt, (lkp M sn).isSome = tt := ⟨_, rfl⟩
      have Htt := hid htt
      have hl0 := HR6.out.m.mp.look_ok sn hq htt
      have hl1 := HR6.out.m.mp.drew.look_ok sn hq htt
      have hl2 := (HR6.out.m.mp.alloc (.cells #[.int .i64 0, .int .i64 0] 93)).look_ok sn hq htt
      have hl3 := (HR6.out.m.mp.alloc (.cells #[.int .i64 0, .int .i64 0] 93)).drew.look_ok sn hq htt
      have hal := World.grownBy_alloc w6 (.cells #[.int .i64 0, .int .i64 0] 93) none
      have m3 := HR6.out.m.row.cell 3 (v := .map (some B)) rfl
      have s0 := HX.out.cell 0 (v := .string sn) rfl
      have m3z := (HR6.out.kept0 hal).m.row.cell 3 (v := .map (some B)) rfl
      have s0z := (HX.out.kept0 hal).cell 0 (v := .string sn) rfl
      clear hq htt
      go_region
      all_goals
        clear hl0 hl1 hl2 hl3 m3 s0 m3z s0z hal
        have HRe := hid (HR6.out.kept0 (grown_drew (World.grownBy_alloc w6 (.cells #[.int .i64 qi, .int .i64 qa] 93) none)))
        have HXe := hid (HX.out.kept0 (grown_drew (World.grownBy_alloc w6 (.cells #[.int .i64 qi, .int .i64 qa] 93) none)))
        generalize (w6.alloc (.cells #[.int .i64 qi, .int .i64 qa] 93)).drew = w7 at HRe HXe ⊢
        have s1 := HXe.out.cell 1 (v := .int .i64 si) rfl
        have e6 := HRe.out.e.c6
        cases tt with
        | true =>
          have Hf := hid (any_take Hno.out Hs.out (by unfold msS; rw [Htt.out]; rfl))
          go_wp2
          go_roundw
          case rel => exact ⟨k + 1, Hlt.out, by go_num, HRe, Hf⟩
          case measure => simp [intOf]; have := Hlt.out; omega
        | false =>
          by_cases h3 : si = 3
          · have h3b : (si == 3) = true := by simpa using h3
            have Hf : Hid (t = true) := hid (by rw [← Ht.out]; exact any_at Hs.out (f := msS M) (by unfold msS; rw [Htt.out]; simpa using h3))
            clear h3
            unfold errV at e6
            go_wp2
            go_ret
            exact ⟨by unfold erV; rw [if_pos Hf.out]; rfl, HRe.out.g⟩
          · have h3b : (si == 3) = false := by simpa using h3
            have Hf := hid (any_take Hno.out Hs.out (by unfold msS; simpa using fun _ => h3))
            clear h3
            go_wp2
            go_roundw
            case rel => exact ⟨k + 1, Hlt.out, by go_num, HRe, Hf⟩
            case measure => simp [intOf]; have := Hlt.out; omega
    · obtain rfl : k = n := by omega
      have kn : ¬ ((k : Int) < (k : Int)) := by omega
      have hall := any_all Hn.out Hno.out
      have Hf : Hid (t = false) := hid (by rw [← Ht.out]; exact hall)
      clear hlt hall
      go_wp2
      go_ret
      exact ⟨by unfold erV; rw [if_neg (by rw [Hf.out]; simp)]; rfl, HR.out.g⟩
/-- of a part: what is known of its object, and where it begins -/
structure PtOk (p : Pt) : Prop where
  b : ObB p.x
  len : p.x.M.length = p.x.C.length
  q : ∀ r ∈ p.x.Q, (0 ≤ r.a ∧ r.a < p.x.C.length) ∧ (0 ≤ r.s ∧ r.s < p.x.S.length) ∧ (r.k = 1 ∨ r.k = 2) ∧ (p.x.M.getD r.a.toNat 0 = 0 → 1 ≤ r.a) ∧ -65536 ≤ r.d ∧ r.d ≤ 65536
  r : ∀ r ∈ p.x.R, (0 ≤ r.a ∧ r.a < p.x.D.length) ∧ (0 ≤ r.s ∧ r.s < p.x.S.length) ∧ r.k = 1 ∧ -65536 ≤ r.d ∧ r.d ≤ 65536
  s : ∀ s ∈ p.x.S, (0 ≤ s.v ∧ s.v ≤ 2048) ∧ (s.i = 1 ∨ s.i = 2 ∨ s.i = 3) ∧ (s.i = 1 → s.v < p.x.D.length ∨ s.v < 1) ∧ (s.i = 2 → s.v < p.x.C.length ∧ p.x.M.getD s.v.toNat 0 = 1)
  dc : p.d ≤ 100000 ∧ p.c ≤ 100000
  len2 : p.x.D.length ≤ 2048 ∧ p.x.C.length ≤ 2048
theorem field_spot (i a : Int) (w : World) : (Instr.field 93 (.agg #[.int .i64 i, .int .i64 a]) 0).run Tryz.prog w = .ok (.int .i64 i) w := by
  simp [Instr.field, run_underlying Tryz.underlying93, asAgg, go_sem]
theorem oat_one {w : World} {V : OV} {x : PO} (h : OAt w V x) : (#[V.d, V.c, V.m, V.r, V.q, V.s] : Array Value).all (·.oneCell') = true := by
  obtain ⟨p1, n1, c1, p2, n2, c2, p3, n3, c3, p4, n4, c4, p5, n5, c5, p6, n6, c6, rfl⟩ := OAt.cells h
  simp [Value.oneCell']
def mlR (M : Mp) (p : Pt) (r : Rl) : Bool := decide ((symN p.x r.s.toNat).i = 3) && (decide ((spOf M p (symN p.x r.s.toNat)).i = 1) && jumpB p.x r)
set_option maxRecDepth 100000 in
set_option maxHeartbeats 4000000 in
theorem misleads_any (W : World) (V : OV) (p : Pt) {G B : Nat} {pv : Value} {dd cc : Int} {M : Mp} {A : Nat → Addr} (h : OAt W V p.x) (hM : MrAt W G B pv dd cc M) (he : ErrC W A) (hp : PtOk p) {t : Bool} (ht : leadB M p = t) :
    Calls Tryz.prog 41 #[.pointer (some ⟨G, 0, none⟩), ptV V p] W fun e w' => e = .returned (erV A 1 t) ∧ W.grownBy w' none := by
  have HG := World.grownBy_alloc W (.cells #[V.d, V.c, V.m, V.r, V.q, V.s, .int .i64 (p.d : Int), .int .i64 (p.c : Int)] 109) none
  have HR0 : Hid (MsW W (W.alloc (.cells #[V.d, V.c, V.m, V.r, V.q, V.s, .int .i64 (p.d : Int), .int .i64 (p.c : Int)] 109)) G B W.heap.size V p pv dd cc M A) := hid ⟨HG, RwAt.new W 109 #[V.d, V.c, V.m, V.r, V.q, V.s, .int .i64 (p.d : Int), .int .i64 (p.c : Int)], hM.kept0 HG, he.kept0 HG⟩
  have HO := hid h
  have HP := hid hp
  have Ht := hid ht
  have Hone := hid (oat_one h)
  have hl := hp.b.len.2.2.2.2.1
  obtain ⟨n, hn⟩ : ∃ n, p.x.Q.length = n := ⟨_, rfl⟩
  have Hn := hid hn
  obtain ⟨qp, qc, hqv⟩ := h.q.len
  obtain ⟨sp, sc, hsv⟩ := h.s.len
  obtain ⟨N, hN⟩ : ∃ N, p.x.S.length = N := ⟨_, rfl⟩
  have HN := hid hN
  rw [hn] at hqv hl
  rw [hN] at hsv
  have n0 : (0 : Int) ≤ (n : Int) := by omega
  have n1 : (n : Int) ≤ 1000000 := by omega
  have N0 : (0 : Int) ≤ (N : Int) := by omega
  have N1 : (N : Int) ≤ 1000000 := by have := hp.b.len.2.2.2.2.2; omega
  have Hqv := hid hqv
  have Hsv := hid hsv
  clear HG h hM he ht hn hl hqv hsv hp hN
  unfold ptV
  go_enter Tryz.func41, Tryz.ntmps41
  go_upto_region 1 with (fail)
  obtain ⟨b, hb⟩ : ∃ b, W.heap.size = b := ⟨_, rfl⟩
  rw [hb] at HR0 ⊢
  clear hb
  generalize W.alloc (.cells #[V.d, V.c, V.m, V.r, V.q, V.s, .int .i64 (p.d : Int), .int .i64 (p.c : Int)] 109) = w1 at HR0 ⊢
  have e4 := HR0.out.bx.cell 4 (v := .slice qp n qc) (by rw [← Hqv.out]; rfl)
  go_wp2
  clear e4
  go_loopw [12] (fun i wr => ∃ k : Nat, k ≤ n ∧ i = .int .i64 k ∧ Hid (MsW W wr G B b V p pv dd cc M A) ∧ Hid ((p.x.Q.take k).any (mlR M p) = false)) (fun i _ => n - (intOf i).toNat)
  case atStart => exact ⟨0, Nat.zero_le _, rfl, HR0, hid rfl⟩
  case round =>
    obtain ⟨k, hk, rfl, HR, Hno⟩ := hrel
    clear HR0
    have k0 : (0 : Int) ≤ (k : Int) := by omega
    by_cases hlt : k < n
    · have kn : (k : Int) < (n : Int) := by omega
      have Hlt := hid hlt
      obtain ⟨⟨ra, rk, rs, rd⟩, hr⟩ : ∃ r, p.x.Q[k]? = some r := ⟨_, List.getElem?_eq_getElem (by rw [Hn.out]; exact hlt)⟩
      have Hr := hid hr
      have Hok := hid (HP.out.q _ (List.mem_of_getElem? hr))
      obtain ⟨bq, oq, cq, hv, hbq, g0, g1, g2, g3⟩ := rl_item (HO.out.kept0 HR.out.g).q hr
      rw [Hn.out, Hqv.out] at hv
      simp only [Value.slice.injEq, true_and] at hv
      obtain ⟨rfl, rfl⟩ := hv
      have hal := World.grownBy_alloc wr (.cells #[.int .i64 ra, .int .i64 rk, .int .i64 rs, .int .i64 rd] 62) none
      have HR6 := hid (HR.out.kept0 hal)
      have HX := hid (RwAt.new wr 62 #[.int .i64 ra, .int .i64 rk, .int .i64 rs, .int .i64 rd])
      clear hal hr hbq hlt
      go_upto_region 4 with (fail)
      clear g0 g1 g2 g3 HR
      obtain ⟨X, hX⟩ : ∃ X, wr.heap.size = X := ⟨_, rfl⟩
      rw [hX] at HX ⊢
      clear hX
      generalize wr.alloc (.cells #[.int .i64 ra, .int .i64 rk, .int .i64 rs, .int .i64 rd] 62) = w6 at HR6 HX ⊢
      obtain ⟨⟨a0, a1⟩, ⟨s0, s1⟩, hk12, hsec, hd⟩ := Hok.out
      simp only at a0 a1 s0 s1
      obtain ⟨j, rfl⟩ := Int.eq_ofNat_of_zero_le s0
      obtain ⟨⟨sn, si, sv, sg⟩, hs⟩ : ∃ s, p.x.S[j]? = some s := ⟨_, List.getElem?_eq_getElem (by omega)⟩
      have Hs := hid (show symN p.x (j : Int).toNat = ⟨sn, si, sv, sg⟩ by unfold symN; rw [Int.toNat_natCast, List.getD_eq_getElem?_getD, hs]; rfl)
      have Hsok := hid (HP.out.s _ (List.mem_of_getElem? hs))
      obtain ⟨bs, os, cs, hv, hbs, g0, g1, g2, g3⟩ := sy_item (HO.out.kept0 HR6.out.g).s hs
      rw [HN.out, Hsv.out] at hv
      simp only [Value.slice.injEq, true_and] at hv
      obtain ⟨rfl, rfl⟩ := hv
      have jN : (j : Int) < (N : Int) := by rw [HN.out] at s1; exact s1
      have x2 := HX.out.cell 2 (v := .int .i64 (j : Int)) rfl
      have e5 := HR6.out.bx.cell 5 (v := .slice (some ⟨bs, os, none⟩) N sc) (by rw [← Hsv.out]; rfl)
      have hal := World.grownBy_alloc w6 (.cells #[.string sn, .int .i64 si, .int .i64 sv, .bool sg] 60) none
      have HR7 := hid (HR6.out.kept0 hal)
      have HX7 := hid (HX.out.kept0 hal)
      have HY := hid (RwAt.new w6 60 #[.string sn, .int .i64 si, .int .i64 sv, .bool sg])
      clear hal hs hbs
      go_upto_region 5 with (fail)
      clear g0 g1 g2 g3 HR6 HX x2 e5 a0 a1 s1 hk12 hsec hd
      obtain ⟨Y, hY⟩ : ∃ Y, w6.heap.size = Y := ⟨_, rfl⟩
      rw [hY] at HY ⊢
      clear hY
      generalize w6.alloc (.cells #[.string sn, .int .i64 si, .int .i64 sv, .bool sg] 60) = w7 at HR7 HX7 HY ⊢
      have y1 := HY.out.cell 1 (v := .int .i64 si) rfl
      by_cases h3 : si = 3
      · subst h3
        obtain ⟨⟨qi, qa⟩, hq⟩ : ∃ q, spOf M p ⟨sn, 3, sv, sg⟩ = q := ⟨_, rfl⟩
        have Hq := hid hq
        have Hcall : Hid (Calls Tryz.prog 56 #[.pointer (some ⟨G, 0, none⟩), .agg #[V.d, V.c, V.m, V.r, V.q, V.s, .int .i64 (p.d : Int), .int .i64 (p.c : Int)], .agg #[.string sn, .int .i64 3, .int .i64 sv, .bool sg]] w7 fun e w' => e = .returned (.agg #[.int .i64 qi, .int .i64 qa]) ∧ w7.grownBy w' none) := hid (by
          have hv := Hsok.out.1
          have hd1 := HP.out.dc.1
          have hd2 := HP.out.dc.2
          have h := jspot_any w7 V p ⟨sn, 3, sv, sg⟩ HR7.out.m (Nat.le_trans hd1 (by decide)) (Nat.le_trans hd2 (by decide)) ⟨hv.1, Int.le_trans hv.2 (by decide)⟩ Hone.out
          rw [hq] at h
          exact h)
        have hfs := field_spot qi qa
        go_wp2_with (first
          | (refine wpList_load_rw_g (by kernel_rfl) 109 _ rfl rfl HR7.out.bx rfl Tryz.underlying109 info_part ?_)
          | (refine wpList_load_rw_g (by kernel_rfl) 60 _ rfl rfl HY.out rfl Tryz.underlying60 info_sym ?_)
          | fail)
        refine Hcall.out.mono ?_
        rintro e w8 ⟨rfl, hg⟩
        clear Hcall
        have HR8 := hid (HR7.out.kept0 hg)
        have HX8 := hid (HX7.out.kept0 hg)
        clear hg HR7 HX7 HY y1 hq
        by_cases hq1 : qi = 1
        · subst hq1
          go_wp2_with (first
            | (refine wpList_load_rw_g (by kernel_rfl) 109 _ rfl rfl HR8.out.bx rfl Tryz.underlying109 info_part ?_)
            | (refine wpList_load_rw_g (by kernel_rfl) 62 _ rfl rfl HX8.out rfl Tryz.underlying62 info_rel ?_)
            | fail)
          refine (jumps_link w8 V p ⟨ra, rk, (j : Int), rd⟩ (HO.out.kept0 HR8.out.g) HP.out.b.fit HP.out.len Hok.out.1 (fun _ => Hok.out.2.2.2.1)).mono ?_
          rintro e w9 ⟨rfl, hg⟩
          have HR9 := hid (HR8.out.kept0 hg)
          have HM : Hid (mlR M p ⟨ra, rk, (j : Int), rd⟩ = jumpB p.x ⟨ra, rk, (j : Int), rd⟩) := hid (by
            unfold mlR
            rw [Hs.out, Hq.out]
            simp)
          clear hg HR8 HX8
          cases hj : jumpB p.x ⟨ra, rk, (j : Int), rd⟩ with
          | false =>
            have Hf := hid (any_take Hno.out Hr.out (by rw [HM.out]; exact hj))
            clear hj
            go_wp2
            go_roundw
            case rel => exact ⟨k + 1, Hlt.out, by go_num, HR9, Hf⟩
            case measure => simp [intOf]; have := Hlt.out; omega
          | true =>
            have Hf : Hid (t = true) := hid (by rw [← Ht.out]; exact any_at Hr.out (f := mlR M p) (by rw [HM.out]; exact hj))
            have e1 := HR9.out.e.c1
            unfold errV at e1
            clear hj
            go_wp2
            go_ret
            exact ⟨by unfold erV; rw [if_pos Hf.out]; rfl, HR9.out.g⟩
        · have hq1b : (qi == 1) = false := by simpa using hq1
          have Hf := hid (any_take Hno.out Hr.out (by unfold mlR; rw [Hs.out, Hq.out]; simp [hq1]))
          clear hq1
          go_wp2
          go_roundw
          case rel => exact ⟨k + 1, Hlt.out, by go_num, HR8, Hf⟩
          case measure => simp [intOf]; have := Hlt.out; omega
      · have h3b : (si == 3) = false := by simpa using h3
        have Hf := hid (any_take Hno.out Hr.out (by unfold mlR; rw [Hs.out, decide_eq_false h3]; rfl))
        clear h3
        go_wp2
        go_roundw
        case rel => exact ⟨k + 1, Hlt.out, by go_num, HR7, Hf⟩
        case measure => simp [intOf]; have := Hlt.out; omega
    · obtain rfl : k = n := by omega
      have kn : ¬ ((k : Int) < (k : Int)) := by omega
      have hall := any_all Hn.out Hno.out
      have Hf : Hid (t = false) := hid (by rw [← Ht.out]; exact hall)
      clear hlt hall
      go_wp2
      go_ret
      exact ⟨by unfold erV; rw [if_neg (by rw [Hf.out]; simp)]; rfl, HR.out.g⟩
end Go.Proofs.YtogdpaaofihkgaaGreatDoor
namespace Go.Proofs.YtogdpaaofihkgaaGreatDoor
open Go.RowKit
theorem oat_below {W w : World} {V : OV} {x : PO} {b : Nat} (h : OAt W V x) (hb : Below b W w) (hl : W.heap.size ≤ b) : OAt w V x := h.kept0 (below_is_grown (hb.mono hl))
theorem errc_below {W w : World} {A : Nat → Addr} {b : Nat} (h : ErrC W A) (hb : Below b W w) (hl : W.heap.size ≤ b) : ErrC w A := h.kept0 (below_is_grown (hb.mono hl))
theorem below_0 {b : Nat} {W w w1 : World} (h : Below b W w) (hg : w.grownBy w1 none) (hb : b ≤ w.heap.size) : Below b W w1 := h.grown hg hb (fun _ e => by cases e)
theorem JnAt.size {b0 : Nat} {w : World} {G B : Nat} {pv : Value} {Q : List Pv} {J : Jn} (h : JnAt b0 w G B pv Q J) : b0 ≤ w.heap.size := Nat.le_of_lt (Nat.lt_of_le_of_lt h.geG h.row.lt)
theorem zero_part (w : World) : (zeroValue 109).run Tryz.prog w = .ok (.agg #[.slice none 0 0, .slice none 0 0, .slice none 0 0, .slice none 0 0, .slice none 0 0, .slice none 0 0, .int .i64 0, .int .i64 0]) w := by kernel_rfl
theorem build_part (a b c d e f : Value) (i j : Int) (w : World) : (Instr.build 109 #[(0, .agg #[a, b, c, d, e, f]), (1, .int .i64 i), (2, .int .i64 j)]).run Tryz.prog w = .ok (.agg #[a, b, c, d, e, f, .int .i64 i, .int .i64 j]) w := by kernel_rfl
theorem addS_skip {p : Pt} {s : Sy} {r : List Sy} {M : Mp} (h : globB s = false) : addS p (s :: r) M = addS p r M := by rw [addS, if_pos h]
theorem addS_twice {p : Pt} {s : Sy} {r : List Sy} {M : Mp} (h : globB s = true) (ht : (lkp M s.n).isSome = true) : addS p (s :: r) M = none := by rw [addS, if_neg (by simp [h]), if_pos ht]
theorem addS_put {p : Pt} {s : Sy} {r : List Sy} {M : Mp} (h : globB s = true) (ht : (lkp M s.n).isSome = false) : addS p (s :: r) M = addS p r (M ++ [(s.n, ptSp p s)]) := by rw [addS, if_neg (by simp [h]), if_neg (by simp [ht])]
theorem drop_at {α : Type} {l : List α} {k : Nat} {a : α} (h : l[k]? = some a) : l.drop k = a :: l.drop (k + 1) := by
  obtain ⟨hk, rfl⟩ := List.getElem?_eq_some_iff.1 h
  exact List.drop_eq_getElem_cons hk
/-- where the loop over the symbols stands -/
structure AdW (b0 : Nat) (W0 w : World) (G B b1 b6 : Nat) (pv : Value) (Q : List Pv) (J : Jn) (V : OV) (p : Pt) (M : Mp) (A : Nat → Addr) : Prop where
  j : JnAt b0 w G B pv Q ⟨J.ps, J.d, J.c, M⟩
  bw : Below b0 W0 w
  ob : RwAt w b1 39 #[V.d, V.c, V.m, V.r, V.q, V.s]
  pt : RwAt w b6 109 #[V.d, V.c, V.m, V.r, V.q, V.s, .int .i64 (p.d : Int), .int .i64 (p.c : Int)]
  ge : b0 ≤ b1 ∧ b0 ≤ b6
  ne : G ≠ b1 ∧ G ≠ b6 ∧ B ≠ b1 ∧ B ≠ b6 ∧ b1 ≠ b6 ∧ pv.ownBlock ≠ some b1 ∧ pv.ownBlock ≠ some b6
theorem AdW.kept0 {b0 : Nat} {W0 w w1 : World} {G B b1 b6 : Nat} {pv : Value} {Q : List Pv} {J : Jn} {V : OV} {p : Pt} {M : Mp} {A : Nat → Addr} (h : AdW b0 W0 w G B b1 b6 pv Q J V p M A) (hg : w.grownBy w1 none) : AdW b0 W0 w1 G B b1 b6 pv Q J V p M A :=
  ⟨h.j.kept0 hg, below_0 h.bw hg h.j.size, h.ob.kept0 hg, h.pt.kept0 hg, h.ge, h.ne⟩
theorem JnAt.setD {b0 : Nat} {w : World} {G B : Nat} {pv : Value} {Q : List Pv} {J : Jn} (h : JnAt b0 w G B pv Q J) (d : Nat) : JnAt b0 (w.setCell ⟨G, 1, none⟩ (.int .i64 (d : Int))) G B pv Q ⟨J.ps, d, J.c, J.M⟩ :=
  ⟨by have := h.row.set 1 (.int .i64 (d : Int)); simpa using this, h.ps.kept (grown_setCell (grown_refl w _) _ _) (.inr h.nvG), h.mp.setCell (Ne.symm h.neB), h.eq, h.neB, h.nvG, h.nvB, h.geG, h.geB⟩
theorem JnAt.setC {b0 : Nat} {w : World} {G B : Nat} {pv : Value} {Q : List Pv} {J : Jn} (h : JnAt b0 w G B pv Q J) (d : Nat) : JnAt b0 (w.setCell ⟨G, 2, none⟩ (.int .i64 (d : Int))) G B pv Q ⟨J.ps, J.d, d, J.M⟩ :=
  ⟨by have := h.row.set 2 (.int .i64 (d : Int)); simpa using this, h.ps.kept (grown_setCell (grown_refl w _) _ _) (.inr h.nvG), h.mp.setCell (Ne.symm h.neB), h.eq, h.neB, h.nvG, h.nvB, h.geG, h.geB⟩
theorem JnAt.push {b0 : Nat} {w w5 : World} {G B N g cap : Nat} {pv : Value} {Q : List Pv} {J : Jn} {q : Pv} (h : JnAt b0 w G B pv Q J) (hg : w.grownBy w5 pv.ownBlock) (hN : Q.length = N) (ho : w5.ownsRow b0 109 8 (.slice (some ⟨g, 0, none⟩) (N + 1) cap) (N + 1) (ptsC Q ++ ptC q)) (hat : pv.ownBlock = some g ∨ g = w.heap.size) :
    JnAt b0 (w5.setCell ⟨G, 0, none⟩ (.slice (some ⟨g, 0, none⟩) (N + 1) cap)) G B (.slice (some ⟨g, 0, none⟩) (N + 1) cap) (Q ++ [q]) ⟨J.ps ++ [q.p], J.d, J.c, J.M⟩ := by
  have hG : g ≠ G := by
    rcases hat with e | e
    · intro e2; exact h.nvG (by rw [e, e2])
    · have := h.row.lt; omega
  have hB : g ≠ B := by
    rcases hat with e | e
    · intro e2; exact h.nvB (by rw [e, e2])
    · have := h.mp.lt; omega
  have hs : w5.grownBy (w5.setCell ⟨G, 0, none⟩ (.slice (some ⟨g, 0, none⟩) (N + 1) cap)) (some G) := grown_setCell (grown_refl w5 _) _ _
  have hr := (h.row.kept hg (fun e => h.nvG e.symm)).set 0 (.slice (some ⟨g, 0, none⟩) (N + 1) cap)
  refine ⟨by simpa using hr, ?_, (h.mp.kept hg (fun e => h.nvB e.symm)).setCell (Ne.symm h.neB), ?_, h.neB, by simpa [Value.ownBlock] using hG, by simpa [Value.ownBlock] using hB, h.geG, h.geB⟩
  · have := ho.kept hs (.inr (by simpa [Value.ownBlock] using hG))
    rw [List.length_append, hN, List.length_singleton, ptsC, csL_append, csL_one]
    exact this
  · rw [List.map_append, h.eq]; rfl
theorem info_part9 : ∃ i : TypeInfo, Tryz.prog.info? 109 = some i ∧ i.zero = some (.agg #[.slice none 0 0, .slice none 0 0, .slice none 0 0, .slice none 0 0, .slice none 0 0, .slice none 0 0, .int .i64 0, .int .i64 0]) ∧ i.size = 8 ∧ i.bytes = 160 := info_parts (P := Tryz.prog) (e := 109) (z := .agg #[.slice none 0 0, .slice none 0 0, .slice none 0 0, .slice none 0 0, .slice none 0 0, .slice none 0 0, .int .i64 0, .int .i64 0]) (size := 8) (bytes := 160) (by kernel_rfl)
/-- behind add -/
def AddAt (b0 : Nat) (W0 : World) (G B : Nat) (Q : List Pv) (J : Jn) (V : OV) (x : PO) (A : Nat → Addr) (e : Ending) (w' : World) : Prop :=
  ∃ v, e = .returned v ∧ Below b0 W0 w' ∧ (match jnAdd J x with
    | .inl f => f ≠ none ∧ FltAt A w' v f
    | .inr J' => v = .nilIface ∧ ∃ pv', JnAt b0 w' G B pv' (Q ++ [⟨V, ⟨x, J.d, J.c⟩⟩]) J')
set_option maxRecDepth 100000 in
set_option maxHeartbeats 16000000 in
theorem add_any {b0 : Nat} {W0 W : World} {G B : Nat} {pv : Value} {Q : List Pv} {J : Jn} {V : OV} {x : PO} {A : Nat → Addr} (h : OAt W0 V x) (he : ErrC W0 A) (hb0 : W0.heap.size ≤ b0) (hW : Below b0 W0 W) (hb : ObB x) (hJ : JnAt b0 W G B pv Q J) (hd : J.d ≤ 60000 ∧ J.c ≤ 60000 ∧ J.ps.length ≤ 20)
    (hs : validP (woC x) = none → (∀ s ∈ x.S, 0 ≤ s.v ∧ s.v ≤ 2048) ∧ x.D.length ≤ 2048 ∧ x.C.length ≤ 2048) :
    Calls Tryz.prog 39 #[.pointer (some ⟨G, 0, none⟩), V.agg] W (AddAt b0 W0 G B Q J V x A) := by
  have HO := hid h
  have HE := hid he
  have HB := hid hb
  have Hd := hid hd
  have Hsy := hid hs
  have Hb0 := hid hb0
  obtain ⟨p1, n1, c1, p2, n2, c2, p3, n3, c3, p4, n4, c4, p5, n5, c5, p6, n6, c6, rfl⟩ := OAt.cells h
  obtain ⟨jd, hjd⟩ : ∃ d, J.d = d := ⟨_, rfl⟩
  obtain ⟨jc, hjc⟩ : ∃ d, J.c = d := ⟨_, rfl⟩
  have Hjd := hid hjd
  have Hjc := hid hjc
  have j0 : (0 : Int) ≤ (jd : Int) := by omega
  have j1 : (jd : Int) ≤ 60000 := by omega
  have j2 : (0 : Int) ≤ (jc : Int) := by omega
  have j3 : (jc : Int) ≤ 60000 := by omega
  have hal := World.grownBy_alloc W (.cells #[.slice p1 n1 c1, .slice p2 n2 c2, .slice p3 n3 c3, .slice p4 n4 c4, .slice p5 n5 c5, .slice p6 n6 c6] 39) none
  have HJ1 := hid (hJ.kept0 hal)
  have HW1 := hid (below_0 hW hal hJ.size)
  have HX1 := hid (RwAt.new W 39 #[.slice p1 n1 c1, .slice p2 n2 c2, .slice p3 n3 c3, .slice p4 n4 c4, .slice p5 n5 c5, .slice p6 n6 c6])
  have HGB : Hid (G < W.heap.size ∧ B < W.heap.size ∧ (∀ g, pv.ownBlock = some g → g < W.heap.size) ∧ b0 ≤ W.heap.size) := hid ⟨hJ.row.lt, hJ.mp.lt, fun g hg => (hJ.ps.lt g hg).2, hJ.size⟩
  clear h he hb0 hW hb hJ hd hs hal hjd hjc
  go_enter Tryz.func39, Tryz.ntmps39
  go_upto_region 1 with (fail)
  obtain ⟨b1, hb1⟩ : ∃ b, W.heap.size = b := ⟨_, rfl⟩
  rw [hb1] at HX1 HGB ⊢
  clear hb1
  generalize W.alloc (.cells #[.slice p1 n1 c1, .slice p2 n2 c2, .slice p3 n3 c3, .slice p4 n4 c4, .slice p5 n5 c5, .slice p6 n6 c6] 39) = w1 at HJ1 HW1 HX1 ⊢
  go_wp2_with (first
    | (refine wpList_load_rw rfl 39 _ rfl rfl HX1.out rfl Tryz.underlying39 info_object ?_)
    | fail)
  refine (lvalid_any (V := ⟨.slice p1 n1 c1, .slice p2 n2 c2, .slice p3 n3 c3, .slice p4 n4 c4, .slice p5 n5 c5, .slice p6 n6 c6⟩) (oat_below HO.out HW1.out Hb0.out) (errc_below HE.out HW1.out Hb0.out) HB.out).mono ?_
  rintro e w2 ⟨v, rfl, hv, hg⟩
  have HJ2 := hid (HJ1.out.kept0 hg)
  have HW2 := hid (below_0 HW1.out hg HJ1.out.size)
  have HX2 := hid (HX1.out.kept0 hg)
  clear hg HJ1 HW1 HX1
  cases hvp : validP (woC x) with
  | some f =>
    rw [hvp] at hv
    have HF := hid hv
    obtain ⟨ft, fp, rfl, hne0, hne1⟩ := flt_is_e hv (by simp)
    have Hja : Hid (jnAdd J x = .inl (some f)) := hid (by unfold jnAdd; rw [hvp])
    clear hv hvp hne0
    go_wp2
    go_ret
    exact ⟨_, rfl, HW2.out, by rw [Hja.out]; exact ⟨by simp, HF.out⟩⟩
  | none =>
    rw [hvp] at hv
    obtain rfl : v = .nilIface := hv
    have Hvp := hid hvp
    have Hsz := hid (Hsy.out hvp)
    clear hvp
    have Hzp := zero_part
    have hbp := build_part (.slice p1 n1 c1) (.slice p2 n2 c2) (.slice p3 n3 c3) (.slice p4 n4 c4) (.slice p5 n5 c5) (.slice p6 n6 c6) jd jc
    have hal := World.grownBy_alloc w2 (.cells #[.slice none 0 0, .slice none 0 0, .slice none 0 0, .slice none 0 0, .slice none 0 0, .slice none 0 0, .int .i64 0, .int .i64 0] 109) none
    have HXa := hid (HX2.out.kept0 hal)
    have HJa := hid (HJ2.out.kept0 hal)
    have x0 := HX2.out.cell 0 (v := .slice p1 n1 c1) rfl
    have x1 := HX2.out.cell 1 (v := .slice p2 n2 c2) rfl
    have x2 := HX2.out.cell 2 (v := .slice p3 n3 c3) rfl
    have x3 := HX2.out.cell 3 (v := .slice p4 n4 c4) rfl
    have x4 := HX2.out.cell 4 (v := .slice p5 n5 c5) rfl
    have x5 := HX2.out.cell 5 (v := .slice p6 n6 c6) rfl
    have y0 := HXa.out.cell 0 (v := .slice p1 n1 c1) rfl
    have y1 := HXa.out.cell 1 (v := .slice p2 n2 c2) rfl
    have y2 := HXa.out.cell 2 (v := .slice p3 n3 c3) rfl
    have y3 := HXa.out.cell 3 (v := .slice p4 n4 c4) rfl
    have y4 := HXa.out.cell 4 (v := .slice p5 n5 c5) rfl
    have y5 := HXa.out.cell 5 (v := .slice p6 n6 c6) rfl
    have g1 := HJ2.out.row.cell 1 (v := .int .i64 (jd : Int)) (by rw [← Hjd.out]; rfl)
    have g2 := HJ2.out.row.cell 2 (v := .int .i64 (jc : Int)) (by rw [← Hjc.out]; rfl)
    have h1 := HJa.out.row.cell 1 (v := .int .i64 (jd : Int)) (by rw [← Hjd.out]; rfl)
    have h2 := HJa.out.row.cell 2 (v := .int .i64 (jc : Int)) (by rw [← Hjc.out]; rfl)
    go_upto_region 4 with (fail)
    go_cut [6] from 16 to 25 (fun u wz => u = .pointer (some ⟨w2.heap.size, 0, none⟩) ∧ Hid (RwAt wz w2.heap.size 109 #[.slice p1 n1 c1, .slice p2 n2 c2, .slice p3 n3 c3, .slice p4 n4 c4, .slice p5 n5 c5, .slice p6 n6 c6, .int .i64 (jd : Int), .int .i64 (jc : Int)] ∧ w2.grownBy wz none))
    case first =>
      rename_i hJ0 hJ
      go_region
      all_goals
        refine hJ _ _ (Met.intro (hJ0 _ _ ?_))
        repeat apply Exists.intro
        refine ⟨?_, rfl⟩
        exact ⟨rfl, hid ⟨⟨heap_alloc_last w2 _⟩, grown_drew (World.grownBy_alloc w2 _ none)⟩⟩
    case rest =>
      obtain ⟨rfl, HXX⟩ := hcut
      rename World => wz
      obtain ⟨b6, hb6⟩ : ∃ b, w2.heap.size = b := ⟨_, rfl⟩
      have HAd : Hid (AdW b0 W0 wz G B b1 w2.heap.size pv Q J ⟨.slice p1 n1 c1, .slice p2 n2 c2, .slice p3 n3 c3, .slice p4 n4 c4, .slice p5 n5 c5, .slice p6 n6 c6⟩ ⟨x, jd, jc⟩ J.M A) := hid (by
        obtain ⟨h1, h2, h3, h4⟩ := HGB.out
        have s2 := HJ2.out.row.lt
        have s3 := HX2.out.lt
        refine ⟨HJ2.out.kept0 HXX.out.2, below_0 HW2.out HXX.out.2 HJ2.out.size, HX2.out.kept0 HXX.out.2, HXX.out.1, ⟨h4, HJ2.out.size⟩, by omega, by omega, by omega, ?_, by omega, fun e => ?_, fun e => ?_⟩
        · have := HJ2.out.mp.lt; omega
        · have := h3 b1 e; omega
        · have := (HJ2.out.ps.lt _ e).2; omega)
      rw [hb6] at HAd ⊢
      clear hb6 HXX HJ2 HX2 HW2 HGB x0 x1 x2 x3 x4 x5 y0 y1 y2 y3 y4 y5 g1 g2 h1 h2 HXa HJa Hzp hbp hal
      have Hn6 : Hid (x.S.length = n6) := hid (by
        obtain ⟨q1, q2, hq⟩ := HO.out.s.len
        simp only [Value.slice.injEq] at hq
        exact hq.2.1.symm)
      have n60 : (0 : Int) ≤ (n6 : Int) := by omega
      have n61 : (n6 : Int) ≤ 1000000 := by have := HB.out.len.2.2.2.2.2; have := Hn6.out; omega
      have e5 := HAd.out.ob.cell 5 (v := .slice p6 n6 c6) rfl
      go_wp2
      clear e5
      go_loopw [29] (fun i wr => ∃ k : Nat, ∃ M : Mp, k ≤ n6 ∧ i = .int .i64 k ∧ Hid (AdW b0 W0 wr G B b1 b6 pv Q J ⟨.slice p1 n1 c1, .slice p2 n2 c2, .slice p3 n3 c3, .slice p4 n4 c4, .slice p5 n5 c5, .slice p6 n6 c6⟩ ⟨x, jd, jc⟩ M A) ∧ Hid (addS ⟨x, jd, jc⟩ (x.S.drop k) M = addS ⟨x, jd, jc⟩ x.S J.M)) (fun i _ => n6 - (intOf i).toNat)
      case atStart => exact ⟨0, J.M, Nat.zero_le _, rfl, HAd, hid rfl⟩
      case round =>
        obtain ⟨k, M, hk, rfl, HR, Hrest⟩ := hrel
        clear HAd
        have k0 : (0 : Int) ≤ (k : Int) := by omega
        by_cases hlt : k < n6
        · have kn : (k : Int) < (n6 : Int) := by omega
          have Hlt := hid hlt
          obtain ⟨⟨sn, si, sv, sg⟩, hs⟩ : ∃ s, x.S[k]? = some s := ⟨_, List.getElem?_eq_getElem (by rw [Hn6.out]; exact hlt)⟩
          have Hdr := hid (drop_at hs)
          have Hsv := hid (Hsz.out.1 _ (List.mem_of_getElem? hs))
          obtain ⟨bs, os, cs, hv, hbs, g0, g1, g2, g3⟩ := sy_item (oat_below HO.out HR.out.bw Hb0.out).s hs
          rw [Hn6.out] at hv
          simp only [Value.slice.injEq, true_and] at hv
          obtain ⟨rfl, rfl⟩ := hv
          have hal := World.grownBy_alloc wr (.cells #[.string sn, .int .i64 si, .int .i64 sv, .bool sg] 60) none
          have HR6 := hid (HR.out.kept0 hal)
          have HX := hid (RwAt.new wr 60 #[.string sn, .int .i64 si, .int .i64 sv, .bool sg])
          clear hal hs hbs hlt
          go_upto_region 8 with (fail)
          clear g0 g1 g2 g3 HR
          obtain ⟨X, hX⟩ : ∃ X, wr.heap.size = X := ⟨_, rfl⟩
          rw [hX] at HX ⊢
          clear hX
          generalize wr.alloc (.cells #[.string sn, .int .i64 si, .int .i64 sv, .bool sg] 60) = w6 at HR6 HX ⊢
          have s1 := HX.out.cell 1 (v := .int .i64 si) rfl
          have s3 := HX.out.cell 3 (v := .bool sg) rfl
          cases sg with
          | false =>
            have Hnx : Hid (addS ⟨x, jd, jc⟩ (x.S.drop (k + 1)) M = addS ⟨x, jd, jc⟩ x.S J.M) := hid (by rw [← Hrest.out, Hdr.out, addS_skip (by unfold globB; rfl)])
            go_wp2
            go_roundw
            case rel => exact ⟨k + 1, M, Hlt.out, by go_num, HR6, Hnx⟩
            case measure => simp [intOf]; have := Hlt.out; omega
          | true =>
            by_cases h3 : si = 3
            · subst h3
              have Hnx : Hid (addS ⟨x, jd, jc⟩ (x.S.drop (k + 1)) M = addS ⟨x, jd, jc⟩ x.S J.M) := hid (by rw [← Hrest.out, Hdr.out, addS_skip (by unfold globB; rfl)])
              go_wp2
              go_roundw
              case rel => exact ⟨k + 1, M, Hlt.out, by go_num, HR6, Hnx⟩
              case measure => simp [intOf]; have := Hlt.out; omega
            · have h3b : (si == 3) = false := by simpa using h3
              have Hgl : Hid (globB ⟨sn, si, sv, true⟩ = true) := hid (by unfold globB; simpa using h3)
              clear h3
              obtain ⟨⟨qi, qa⟩, hq⟩ : ∃ q, lkD M sn = q := ⟨_, rfl⟩
              obtain ⟨tt, htt⟩ : ∃ tt, (lkp M sn).isSome = tt := ⟨_, rfl⟩
              have Htt := hid htt
              have Hzs := zero_spot
              have hl0 := HR6.out.j.mp.look_ok sn hq htt
              have hl1 := HR6.out.j.mp.drew.look_ok sn hq htt
              have hl2 := (HR6.out.j.mp.alloc (.cells #[.int .i64 0, .int .i64 0] 93)).look_ok sn hq htt
              have hl3 := (HR6.out.j.mp.alloc (.cells #[.int .i64 0, .int .i64 0] 93)).drew.look_ok sn hq htt
              have hal := World.grownBy_alloc w6 (.cells #[.int .i64 0, .int .i64 0] 93) none
              have m3 := HR6.out.j.row.cell 3 (v := .map (some B)) rfl
              have s0 := HX.out.cell 0 (v := .string sn) rfl
              have m3z := (HR6.out.kept0 hal).j.row.cell 3 (v := .map (some B)) rfl
              have s0z := (HX.out.kept0 hal).cell 0 (v := .string sn) rfl
              clear hq htt
              go_upto_region 9 with (fail)
              go_cut [9, 10] from 41 to 50 (fun u v wz => ∃ Y, u = .pointer (some ⟨Y, 0, none⟩) ∧ v = .bool tt ∧ Hid (w6.grownBy wz none))
              case first =>
                rename_i hJ0 hJ
                go_region
                all_goals
                  refine hJ _ _ (Met.intro (hJ0 _ _ ?_))
                  repeat apply Exists.intro
                  refine ⟨?_, rfl⟩
                  exact ⟨_, rfl, rfl, hid (grown_drew (World.grownBy_alloc w6 _ none))⟩
              case rest =>
                obtain ⟨Y, rfl, rfl, HYY⟩ := hcut
                rename World => w8
                have HR8 := hid (HR6.out.kept0 HYY.out)
                have HX8 := hid (HX.out.kept0 HYY.out)
                clear hl0 hl1 hl2 hl3 m3 s0 m3z s0z hal HYY HR6 HX s1 s3 Hzs
                cases tt with
                | true =>
                  have Hno : Hid (addS ⟨x, jd, jc⟩ x.S J.M = none) := hid (by rw [← Hrest.out, Hdr.out, addS_twice Hgl.out Htt.out])
                  have Hja : Hid (jnAdd J x = .inl (some (5, none))) := hid (by
                    unfold jnAdd
                    rw [Hvp.out, Hjd.out, Hjc.out, Hno.out])
                  have e5 := (errc_below HE.out HR8.out.bw Hb0.out).c5
                  unfold errV at e5
                  go_wp2
                  go_ret
                  exact ⟨_, rfl, HR8.out.bw, by rw [Hja.out]; exact ⟨by simp, rfl⟩⟩
                | false =>
                  have Hnone : Hid (lkp M sn = none) := hid (by have := Htt.out; cases h : lkp M sn with | none => rfl | some _ => rw [h] at this; cases this)
                  obtain ⟨⟨ti, ta⟩, ht⟩ : ∃ q, ptSp ⟨x, jd, jc⟩ ⟨sn, si, sv, true⟩ = q := ⟨_, rfl⟩
                  have Hnx : Hid (addS ⟨x, jd, jc⟩ (x.S.drop (k + 1)) (M ++ [(sn, ⟨ti, ta⟩)]) = addS ⟨x, jd, jc⟩ x.S J.M) := hid (by rw [← Hrest.out, Hdr.out, addS_put Hgl.out Htt.out, ht])
                  have Hspot : Hid (∀ W', Calls Tryz.prog 55 #[.agg #[.slice p1 n1 c1, .slice p2 n2 c2, .slice p3 n3 c3, .slice p4 n4 c4, .slice p5 n5 c5, .slice (some ⟨bs, os, none⟩) n6 c6, .int .i64 (jd : Int), .int .i64 (jc : Int)], .agg #[.string sn, .int .i64 si, .int .i64 sv, .bool true]] W' fun e w' => e = .returned (.agg #[.int .i64 ti, .int .i64 ta]) ∧ W'.grownBy w' none) := hid (fun W' => by
                    have h := spot_any W' ⟨.slice p1 n1 c1, .slice p2 n2 c2, .slice p3 n3 c3, .slice p4 n4 c4, .slice p5 n5 c5, .slice (some ⟨bs, os, none⟩) n6 c6⟩ ⟨x, jd, jc⟩ ⟨sn, si, sv, true⟩ (show jd ≤ 1000000 by have := Hd.out.1; have := Hjd.out; omega) (show jc ≤ 1000000 by have := Hd.out.2.1; have := Hjc.out; omega) ⟨Hsv.out.1, Int.le_trans Hsv.out.2 (by decide)⟩
                    rw [ht] at h
                    exact h)
                  have HRd := hid (HR8.out.kept0 (grown_drew (grown_refl w8 none)))
                  have HXd := hid (HX8.out.kept0 (grown_drew (grown_refl w8 none)))
                  have m3 := HRd.out.j.row.cell 3 (v := .map (some B)) rfl
                  have s0 := HXd.out.cell 0 (v := .string sn) rfl
                  have s1 := HXd.out.cell 1 (v := .int .i64 si) rfl
                  have s2 := HXd.out.cell 2 (v := .int .i64 sv) rfl
                  have s3 := HXd.out.cell 3 (v := .bool true) rfl
                  have y0 := HRd.out.pt.cell 0 (v := .slice p1 n1 c1) rfl
                  have y1 := HRd.out.pt.cell 1 (v := .slice p2 n2 c2) rfl
                  have y2 := HRd.out.pt.cell 2 (v := .slice p3 n3 c3) rfl
                  have y3 := HRd.out.pt.cell 3 (v := .slice p4 n4 c4) rfl
                  have y4 := HRd.out.pt.cell 4 (v := .slice p5 n5 c5) rfl
                  have y5 := HRd.out.pt.cell 5 (v := .slice (some ⟨bs, os, none⟩) n6 c6) rfl
                  have y6 := HRd.out.pt.cell 6 (v := .int .i64 (jd : Int)) rfl
                  have y7 := HRd.out.pt.cell 7 (v := .int .i64 (jc : Int)) rfl
                  clear ht
                  go_upto_region 12 with (fail)
                  go_region_law (first
                    | (go_simp
                       go_at_call 55
                       refine (Hspot.out _).mono ?_
                       rintro e w9 ⟨rfl, hg⟩
                       have hg2 : w8.grownBy w9 none := grown_trans (grown_drew (grown_refl w8 none)) hg
                       have HR9 := hid (HR8.out.kept0 hg2)
                       have m39 := HR9.out.j.row.cell 3 (v := .map (some B)) rfl
                       have s09 := (HX8.out.kept0 hg2).cell 0 (v := .string sn) rfl
                       obtain ⟨w10, hput, hmp, hgp⟩ := HR9.out.j.mp.put Hnone.out ⟨ti, ta⟩
                       have HM := hid (And.intro hmp hgp)
                       clear hg hg2 hmp hgp)
                    | fail)
                  all_goals
                    clear m3 s0 s1 s2 s3 y0 y1 y2 y3 y4 y5 y6 y7 m39 s09 hput
                    go_wp2
                    go_roundw
                    case rel =>
                      refine ⟨k + 1, M ++ [(sn, ⟨ti, ta⟩)], Hlt.out, by go_num, hid ?_, Hnx⟩
                      have hj := HR9.out.j
                      have hgp := HM.out.2
                      have hn := HR9.out.ne
                      refine ⟨⟨hj.row.kept hgp (fun e => hj.neB (Option.some.inj e)), hj.ps.kept hgp (.inr hj.nvB), HM.out.1, hj.eq, hj.neB, hj.nvG, hj.nvB, hj.geG, hj.geB⟩, HR9.out.bw.grown hgp hj.size (fun j e => by obtain rfl := Option.some.inj e; exact hj.geB), HR9.out.ob.kept hgp (fun e => hn.2.2.1 (Option.some.inj e).symm), HR9.out.pt.kept hgp (fun e => hn.2.2.2.1 (Option.some.inj e).symm), HR9.out.ge, hn⟩
                    case measure => simp [intOf]; have := Hlt.out; omega
        · obtain rfl : k = n6 := by omega
          have kn : ¬ ((k : Int) < (k : Int)) := by omega
          have Hadd : Hid (addS ⟨x, jd, jc⟩ x.S J.M = some M) := hid (by rw [← Hrest.out, ← Hn6.out, List.drop_length]; rfl)
          clear hlt Hrest
          obtain ⟨i, hi, hz0, hz1, hz2⟩ := info_part9
          have Hi := hid hi
          have Hz0 := hid hz0
          have Hz1 := hid hz1
          have Hz2 := hid hz2
          have Hn12 : Hid (n1 = x.D.length ∧ n2 = x.C.length) := hid (by
            obtain ⟨q1, q2, hq⟩ := HO.out.d.len'
            obtain ⟨q3, q4, hq2⟩ := HO.out.c.len'
            simp only [Value.slice.injEq] at hq hq2
            exact ⟨hq.2.1, hq2.2.1⟩)
          obtain ⟨N, hN⟩ : ∃ N, Q.length = N := ⟨_, rfl⟩
          have HN := hid hN
          have HNl : Hid (N ≤ 20) := hid (by rw [← hN]; have h1 := congrArg List.length HR.out.j.eq; rw [List.length_map] at h1; rw [h1]; exact Hd.out.2.2)
          obtain ⟨vp, vc, hpv⟩ := own_slice HR.out.j.ps
          rw [hN] at hpv
          subst hpv
          have HRd := hid (HR.out.kept0 (grown_drew (grown_refl wr none)))
          have HRa := hid (HR.out.kept0 (grown_drew (World.grownBy_alloc wr (.cells #[.slice p1 n1 c1, .slice p2 n2 c2, .slice p3 n3 c3, .slice p4 n4 c4, .slice p5 n5 c5, .slice p6 k c6, .int .i64 (jd : Int), .int .i64 (jc : Int)] 109) none)))
          have HRb := hid (HR.out.kept0 (World.grownBy_alloc wr (.cells #[.slice p1 n1 c1, .slice p2 n2 c2, .slice p3 n3 c3, .slice p4 n4 c4, .slice p5 n5 c5, .slice p6 k c6, .int .i64 (jd : Int), .int .i64 (jc : Int)] 109) none))
          have HNw : Hid (∀ j u, [.slice p1 n1 c1, .slice p2 n2 c2, .slice p3 n3 c3, .slice p4 n4 c4, .slice p5 n5 c5, .slice p6 k c6, .int .i64 (jd : Int), .int .i64 (jc : Int)][j]? = some u → (wr.alloc (.cells #[.slice p1 n1 c1, .slice p2 n2 c2, .slice p3 n3 c3, .slice p4 n4 c4, .slice p5 n5 c5, .slice p6 k c6, .int .i64 (jd : Int), .int .i64 (jc : Int)] 109)).drew.cell? ((⟨wr.heap.size, 0, none⟩ : Addr).add j) = some u) := hid (World.news_of_block (heap_alloc_new wr _))
          have HOw := HRa.out.j.ps
          rw [hN] at HOw
          have HOw := hid HOw
          have g0 := HRd.out.j.row.cell 0 (v := .slice vp N vc) rfl
          have g0a := HRa.out.j.row.cell 0 (v := .slice vp N vc) rfl
          have g0b := HRb.out.j.row.cell 0 (v := .slice vp N vc) rfl
          have y0 := HRd.out.pt.cell 0 (v := .slice p1 n1 c1) rfl
          have y1 := HRd.out.pt.cell 1 (v := .slice p2 n2 c2) rfl
          have y2 := HRd.out.pt.cell 2 (v := .slice p3 n3 c3) rfl
          have y3 := HRd.out.pt.cell 3 (v := .slice p4 n4 c4) rfl
          have y4 := HRd.out.pt.cell 4 (v := .slice p5 n5 c5) rfl
          have y5 := HRd.out.pt.cell 5 (v := .slice p6 k c6) rfl
          have y6 := HRd.out.pt.cell 6 (v := .int .i64 (jd : Int)) rfl
          have y7 := HRd.out.pt.cell 7 (v := .int .i64 (jc : Int)) rfl
          clear hi hz0 hz1 hz2 hN
          go_wp2_with fail
          go_region_law (first
            | (refine step_append_lies _ rfl (.tmp 67) (.tmp 69) 83 rfl b0 109 i _ 8 160 Tryz.underlying83 Hi.out Hz0.out Hz1.out Hz2.out rfl (by decide) (.slice vp N vc) N (ptsC Q) (by simp [Act.eval]) HOw.out ⟨wr.heap.size, 0, none⟩ 1 1 [.slice p1 n1 c1, .slice p2 n2 c2, .slice p3 n3 c3, .slice p4 n4 c4, .slice p5 n5 c5, .slice p6 k c6, .int .i64 (jd : Int), .int .i64 (jc : Int)] (by simp [Act.eval]) rfl HNw.out (by simp [Value.oneCell']) (by decide) (by have := HNl.out; unfold maxLen; omega) (by have := HNl.out; omega) HRa.out.j.size _ rfl ?_
               intro g cap w5 hown hgrow hat hlt2
               have hgrow0 : (wr.alloc (.cells #[.slice p1 n1 c1, .slice p2 n2 c2, .slice p3 n3 c3, .slice p4 n4 c4, .slice p5 n5 c5, .slice p6 k c6, .int .i64 (jd : Int), .int .i64 (jc : Int)] 109)).drew.grownBy w5 (Value.slice vp N vc).ownBlock := hgrow
               have hat0 : (Value.slice vp N vc).ownBlock = some g ∨ g = (wr.alloc (.cells #[.slice p1 n1 c1, .slice p2 n2 c2, .slice p3 n3 c3, .slice p4 n4 c4, .slice p5 n5 c5, .slice p6 k c6, .int .i64 (jd : Int), .int .i64 (jc : Int)] 109)).drew.heap.size := hat
               have HOn := hid hown
               have HG5 := hid hgrow0
               have HAt := hid hat0
               have b5 := HRa.out.j.row.kept hgrow0 (fun e => HRa.out.j.nvG e.symm)
               have c5 := b5.cell 0 (v := .slice vp N vc) rfl
               have z5 := b5.free 0
               clear hown hgrow hat hlt2 hgrow0 hat0 b5)
            | fail)
          all_goals
            clear g0 g0a g0b y0 y1 y2 y3 y4 y5 y6 y7 c5 z5
            have HJ5 : Hid (JnAt b0 (w5.setCell ⟨G, 0, none⟩ (.slice (some ⟨g, 0, none⟩) (N + 1) cap)) G B (.slice (some ⟨g, 0, none⟩) (N + 1) cap) (Q ++ [⟨⟨.slice p1 n1 c1, .slice p2 n2 c2, .slice p3 n3 c3, .slice p4 n4 c4, .slice p5 n5 c5, .slice p6 k c6⟩, ⟨x, jd, jc⟩⟩]) ⟨J.ps ++ [⟨x, jd, jc⟩], J.d, J.c, M⟩) := hid (HRa.out.j.push (q := ⟨⟨.slice p1 n1 c1, .slice p2 n2 c2, .slice p3 n3 c3, .slice p4 n4 c4, .slice p5 n5 c5, .slice p6 k c6⟩, ⟨x, jd, jc⟩⟩) HG5.out HN.out HOn.out HAt.out)
            have HB5 : Hid (Below b0 W0 (w5.setCell ⟨G, 0, none⟩ (.slice (some ⟨g, 0, none⟩) (N + 1) cap)) ∧ RwAt (w5.setCell ⟨G, 0, none⟩ (.slice (some ⟨g, 0, none⟩) (N + 1) cap)) b1 39 #[.slice p1 n1 c1, .slice p2 n2 c2, .slice p3 n3 c3, .slice p4 n4 c4, .slice p5 n5 c5, .slice p6 k c6]) := hid ⟨(HRa.out.bw.grown HG5.out HRa.out.j.size (fun j e => (HOw.out.lt j e).1)).setCell HR.out.j.geG _, (HRa.out.ob.kept HG5.out (fun e => HRa.out.ne.2.2.2.2.2.1 e.symm)).other G 0 _ (Ne.symm HR.out.ne.1)⟩
            go_wp2_with fail
            generalize w5.setCell ⟨G, 0, none⟩ (.slice (some ⟨g, 0, none⟩) (N + 1) cap) = w6 at HJ5 HB5 ⊢
            obtain ⟨D1, hD1⟩ : ∃ D, jd + n1 = D := ⟨_, rfl⟩
            obtain ⟨C1, hC1⟩ : ∃ C, jc + n2 = C := ⟨_, rfl⟩
            have hn1 := Hn12.out.1
            have hn2 := Hn12.out.2
            have kD : (jd : Int) + (n1 : Int) = (D1 : Int) := by omega
            have kC : (jc : Int) + (n2 : Int) = (C1 : Int) := by omega
            have D10 : (0 : Int) ≤ (D1 : Int) := by omega
            have D11 : (D1 : Int) ≤ 100000 := by have := Hsz.out.2; omega
            have C10 : (0 : Int) ≤ (C1 : Int) := by omega
            have C11 : (C1 : Int) ≤ 100000 := by have := Hsz.out.2; omega
            have HDC := hid (And.intro hD1 hC1)
            clear hn1 hn2 hD1 hC1
            have dr := grown_drew (grown_refl w6 none)
            have q0 := HB5.out.2.cell 0 (v := .slice p1 n1 c1) rfl
            have q0d := (HB5.out.2.kept0 dr).cell 0 (v := .slice p1 n1 c1) rfl
            have g1 := HJ5.out.row.cell 1 (v := .int .i64 (jd : Int)) (by rw [← Hjd.out]; rfl)
            have g1d := (HJ5.out.kept0 dr).row.cell 1 (v := .int .i64 (jd : Int)) (by rw [← Hjd.out]; rfl)
            have z1 := HJ5.out.row.free 1
            have z1d := (HJ5.out.kept0 dr).row.free 1
            go_region
            all_goals
              clear q0 q0d g1 g1d z1 z1d dr
              go_wp2_with fail
              have HJ6 : Hid (JnAt b0 (w6.setCell ⟨G, 1, none⟩ (.int .i64 (D1 : Int))).drew G B (.slice (some ⟨g, 0, none⟩) (N + 1) cap) (Q ++ [⟨⟨.slice p1 n1 c1, .slice p2 n2 c2, .slice p3 n3 c3, .slice p4 n4 c4, .slice p5 n5 c5, .slice p6 k c6⟩, ⟨x, jd, jc⟩⟩]) ⟨J.ps ++ [⟨x, jd, jc⟩], D1, J.c, M⟩) := hid ((HJ5.out.setD D1).kept0 (grown_drew (grown_refl _ none)))
              have HB6 : Hid (Below b0 W0 (w6.setCell ⟨G, 1, none⟩ (.int .i64 (D1 : Int))).drew ∧ RwAt (w6.setCell ⟨G, 1, none⟩ (.int .i64 (D1 : Int))).drew b1 39 #[.slice p1 n1 c1, .slice p2 n2 c2, .slice p3 n3 c3, .slice p4 n4 c4, .slice p5 n5 c5, .slice p6 k c6]) := hid ⟨(HB5.out.1.setCell HR.out.j.geG _).drew, (HB5.out.2.other G 1 _ (Ne.symm HR.out.ne.1)).kept0 (grown_drew (grown_refl _ none))⟩
              generalize (w6.setCell ⟨G, 1, none⟩ (.int .i64 (D1 : Int))).drew = w7 at HJ6 HB6 ⊢
              have dr := grown_drew (grown_refl w7 none)
              have q1 := HB6.out.2.cell 1 (v := .slice p2 n2 c2) rfl
              have q1d := (HB6.out.2.kept0 dr).cell 1 (v := .slice p2 n2 c2) rfl
              have g2 := HJ6.out.row.cell 2 (v := .int .i64 (jc : Int)) (by rw [← Hjc.out]; rfl)
              have g2d := (HJ6.out.kept0 dr).row.cell 2 (v := .int .i64 (jc : Int)) (by rw [← Hjc.out]; rfl)
              have z2 := HJ6.out.row.free 2
              have z2d := (HJ6.out.kept0 dr).row.free 2
              go_region
              all_goals
                clear q1 q1d g2 g2d z2 z2d dr
                go_wp2
                go_ret
                have hJ7 := (HJ6.out.setC C1).kept0 (grown_drew (grown_refl (w7.setCell ⟨G, 2, none⟩ (.int .i64 (C1 : Int))) none))
                have hB7 := (HB6.out.1.setCell (p := ⟨G, 2, none⟩) HR.out.j.geG (.int .i64 (C1 : Int))).drew
                have hja : jnAdd J x = .inr ⟨J.ps ++ [⟨x, J.d, J.c⟩], J.d + x.D.length, J.c + x.C.length, M⟩ := by
                  unfold jnAdd
                  rw [Hvp.out, Hjd.out, Hjc.out, Hadd.out]
                refine ⟨_, rfl, hB7, ?_⟩
                rw [hja]
                refine ⟨rfl, .slice (some ⟨g, 0, none⟩) (N + 1) cap, ?_⟩
                rw [Hjd.out, Hjc.out, ← Hn12.out.1, ← Hn12.out.2, HDC.out.1, HDC.out.2]
                exact hJ7
end Go.Proofs.YtogdpaaofihkgaaGreatDoor
namespace Go.Proofs.YtogdpaaofihkgaaGreatDoor
open Go.RowKit
/-! ### what is known of a part whose object may be -/
theorem in_ok {y : PO} {l : List Rl} {k : Nat} {n : Int} (h : inB y l k n = true) : 0 ≤ (rlN l k).a ∧ (rlN l k).a < n ∧ 0 ≤ (rlN l k).s ∧ (rlN l k).s < y.S.length ∧ -65536 ≤ (rlN l k).d ∧ (rlN l k).d ≤ 65536 := by
  unfold inB at h
  have := of_decide_eq_true h
  exact this.2
theorem rlN_get {l : List Rl} {k : Nat} {r : Rl} (h : l[k]? = some r) : rlN l k = r := by unfold rlN; rw [List.getD_eq_getElem?_getD, h]; rfl
theorem woQ_same (x : PO) (r : Rl) : (woQ x r).a = r.a ∧ (woQ x r).s = r.s ∧ (woQ x r).d = r.d ∧ (r.k = 1 ∨ (woQ x r).k = r.k) := by
  unfold woQ
  split
  · rename_i h; exact ⟨rfl, rfl, rfl, .inl h.1⟩
  · exact ⟨rfl, rfl, rfl, .inr rfl⟩
theorem ptok_of {x : PO} {d c : Nat} (hv : validP (woC x) = none) (hb : ObB x) (hd : d ≤ 100000) (hc : c ≤ 100000) : PtOk ⟨x, d, c⟩ := by
  have hok := valid_ok hv
  have hmany := hok.many
  unfold manyB at hmany
  simp only [decide_eq_false_iff_not] at hmany
  have hCl : (woC x).C.length = x.C.length := woCn_length x _
  have hQl : (woC x).Q.length = x.Q.length := woQn_length x _
  have hlen : x.M.length = x.C.length := by rw [← hCl]; exact hok.len
  refine ⟨hb, hlen, fun r hr => ?_, fun r hr => ?_, fun s hs => ?_, ⟨hd, hc⟩, ?_⟩
  · obtain ⟨k, hk⟩ := List.getElem?_of_mem hr
    have hk : x.Q[k]? = some r := hk
    have hkl := (List.getElem?_eq_some_iff.1 hk).1
    have hw : (woC x).Q[k]? = some (woQ x r) := by
      show (woQn x x.Q.length)[k]? = _
      rw [woQn_get hk, if_pos hkl]
    have h1 := hok.cod k (by rw [hQl]; exact hkl)
    unfold codeF at h1
    by_cases h2 : inB (woC x) (woC x).Q k (woC x).C.length = false ∨ ((rlN (woC x).Q k).k ≠ 1 ∧ (rlN (woC x).Q k).k ≠ 2)
    · rw [if_pos h2] at h1; cases h1
    · rw [not_or] at h2
      have h3 := in_ok (y := woC x) (l := (woC x).Q) (k := k) (n := ((woC x).C.length : Int)) (by simpa using h2.1)
      have h4 := h2.2
      rw [rlN_get hw] at h3 h4
      obtain ⟨e1, e2, e3, e4⟩ := woQ_same x r
      rw [e1, e2, e3, hCl] at h3
      obtain ⟨a0, a1, s0, s1, d0, d1⟩ := h3
      refine ⟨⟨a0, a1⟩, ⟨s0, s1⟩, ?_, fun hm => ?_, d0, d1⟩
      · rcases e4 with e | e
        · exact .inl e
        · rw [e] at h4; omega
      · by_cases h0 : r.a = 0
        · exfalso
          rw [h0] at hm a1
          have hC : 0 < (woC x).C.length := by rw [hCl]; omega
          have hw0 := hok.word 0 hC
          have hm0 : mapN (woC x) 0 = 0 := hm
          unfold wordF opB at hw0
          rw [hm0] at hw0
          simp at hw0
          exact absurd hw0 (by decide)
        · omega
  · obtain ⟨k, hk⟩ := List.getElem?_of_mem hr
    have hk : x.R[k]? = some r := hk
    have hkl := (List.getElem?_eq_some_iff.1 hk).1
    have h1 := hok.dat k hkl
    unfold dataF at h1
    by_cases h2 : inB (woC x) (woC x).R k (woC x).D.length = false ∨ (rlN (woC x).R k).k ≠ 1
    · rw [if_pos h2] at h1; cases h1
    · rw [not_or] at h2
      have h3 := in_ok (y := woC x) (l := (woC x).R) (k := k) (n := ((woC x).D.length : Int)) (by simpa using h2.1)
      have h4 := Classical.not_not.1 h2.2
      have hw : (woC x).R[k]? = some r := hk
      rw [rlN_get hw] at h3 h4
      obtain ⟨a0, a1, s0, s1, d0, d1⟩ := h3
      exact ⟨⟨a0, a1⟩, ⟨s0, s1⟩, h4, d0, d1⟩
  · obtain ⟨k, hk⟩ := List.getElem?_of_mem hs
    have hk : x.S[k]? = some s := hk
    have hkl := (List.getElem?_eq_some_iff.1 hk).1
    have h1 := hok.sym k hkl
    have hsn : symN (woC x) k = s := by
      show x.S.getD k sy0 = s
      rw [List.getD_eq_getElem?_getD, hk]; rfl
    unfold symF at h1
    rw [hsn] at h1
    have hst : standsB (woC x) s = true := by
      by_cases a : s.n.size = 0 ∨ 32 < s.n.size
      · rw [if_pos a] at h1; cases h1
      · rw [if_neg a] at h1
        by_cases b : twiceB (woC x) k = true
        · rw [if_pos b] at h1; cases h1
        · rw [if_neg b] at h1
          by_cases c : standsB (woC x) s = true
          · exact c
          · rw [if_neg c] at h1; cases h1
    have hDl : (woC x).D.length = x.D.length := rfl
    unfold standsB at hst
    by_cases i1 : s.i = 1
    · rw [if_pos i1] at hst
      have := of_decide_eq_true hst
      exact ⟨by omega, .inl i1, fun _ => this.2, fun e => by omega⟩
    · rw [if_neg i1] at hst
      by_cases i2 : s.i = 2
      · rw [if_pos i2] at hst
        have := of_decide_eq_true hst
        rw [hCl] at this
        exact ⟨by omega, .inr (.inl i2), fun e => absurd e i1, fun _ => ⟨this.2.1, this.2.2⟩⟩
      · rw [if_neg i2] at hst
        by_cases i3 : s.i = 3
        · rw [if_pos i3] at hst
          have := of_decide_eq_true hst
          exact ⟨by omega, .inr (.inr i3), fun e => absurd e i1, fun e => absurd e i2⟩
        · rw [if_neg i3] at hst; cases hst
  · show x.D.length ≤ 2048 ∧ x.C.length ≤ 2048
    have hDl : (woC x).D.length = x.D.length := rfl
    omega
/-! ### objects in a slice -/
structure Ob where
  V : OV
  x : PO
def obC (o : Ob) : List Value := [o.V.d, o.V.c, o.V.m, o.V.r, o.V.q, o.V.s]
theorem obC_length (o : Ob) : (obC o).length = 6 := rfl
structure ObsAt (w : World) (v : Value) (L : List Ob) : Prop where
  cs : CsAt w v L.length (csL obC L)
  each : ∀ o ∈ L, OAt w o.V o.x
theorem ObsAt.kept0 {w w1 : World} {v : Value} {L : List Ob} (h : ObsAt w v L) (hg : w.grownBy w1 none) : ObsAt w1 v L := ⟨h.cs.kept0 hg, fun o ho => (h.each o ho).kept0 hg⟩
/-- the cells of object k -/
theorem ob_item {w : World} {v : Value} {L : List Ob} {k : Nat} {o : Ob} (h : ObsAt w v L) (hk : L[k]? = some o) :
    ∃ b q c, v = .slice (some ⟨b, q, none⟩) L.length c ∧ b < w.heap.size ∧ w.cell? ⟨b, q + k * 6, none⟩ = some o.V.d ∧ w.cell? ⟨b, q + k * 6 + 1, none⟩ = some o.V.c ∧ w.cell? ⟨b, q + k * 6 + 2, none⟩ = some o.V.m ∧ w.cell? ⟨b, q + k * 6 + 3, none⟩ = some o.V.r ∧ w.cell? ⟨b, q + k * 6 + 4, none⟩ = some o.V.q ∧ w.cell? ⟨b, q + k * 6 + 5, none⟩ = some o.V.s := by
  obtain ⟨b, q, c, rfl, _, hb, hc⟩ := h.cs.at_ (by have := (List.getElem?_eq_some_iff.1 hk).1; omega)
  have g : ∀ j u, j < 6 → (obC o)[j]? = some u → w.cell? ⟨b, q + (k * 6 + j), none⟩ = some u := fun j u hj hu => hc (k * 6 + j) u (by rw [csL_get obC_length L k j o hk hj]; exact hu)
  exact ⟨b, q, c, rfl, hb, g 0 _ (by decide) rfl, g 1 _ (by decide) rfl, g 2 _ (by decide) rfl, g 3 _ (by decide) rfl, g 4 _ (by decide) rfl, g 5 _ (by decide) rfl⟩
/-- the cells of part k -/
theorem pt_item {w : World} {v : Value} {Q : List Pv} {k : Nat} {q : Pv} (h : CsAt w v Q.length (ptsC Q)) (hk : Q[k]? = some q) :
    ∃ b o c, v = .slice (some ⟨b, o, none⟩) Q.length c ∧ b < w.heap.size ∧ w.cell? ⟨b, o + k * 8, none⟩ = some q.V.d ∧ w.cell? ⟨b, o + k * 8 + 1, none⟩ = some q.V.c ∧ w.cell? ⟨b, o + k * 8 + 2, none⟩ = some q.V.m ∧ w.cell? ⟨b, o + k * 8 + 3, none⟩ = some q.V.r ∧ w.cell? ⟨b, o + k * 8 + 4, none⟩ = some q.V.q ∧ w.cell? ⟨b, o + k * 8 + 5, none⟩ = some q.V.s ∧ w.cell? ⟨b, o + k * 8 + 6, none⟩ = some (.int .i64 q.p.d) ∧ w.cell? ⟨b, o + k * 8 + 7, none⟩ = some (.int .i64 q.p.c) := by
  obtain ⟨b, o, c, rfl, _, hb, hc⟩ := h.at_ (by have := (List.getElem?_eq_some_iff.1 hk).1; omega)
  have g : ∀ j u, j < 8 → (ptC q)[j]? = some u → w.cell? ⟨b, o + (k * 8 + j), none⟩ = some u := fun j u hj hu => hc (k * 8 + j) u (by rw [csL_get ptC_length Q k j q hk hj]; exact hu)
  exact ⟨b, o, c, rfl, hb, g 0 _ (by decide) rfl, g 1 _ (by decide) rfl, g 2 _ (by decide) rfl, g 3 _ (by decide) rfl, g 4 _ (by decide) rfl, g 5 _ (by decide) rfl, g 6 _ (by decide) rfl, g 7 _ (by decide) rfl⟩
end Go.Proofs.YtogdpaaofihkgaaGreatDoor

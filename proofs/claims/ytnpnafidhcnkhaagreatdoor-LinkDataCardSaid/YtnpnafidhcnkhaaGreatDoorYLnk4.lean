/- Package link: what is missing, what misleads: contracts. (Made by golnk4.py.) -/
import Derived.Test.YtnpnafidhcnkhaaGreatDoorYLnk2
import Derived.BigGuardPart
namespace Go.Proofs.YtnpnafidhcnkhaaGreatDoor
open Go.RowKit
/-- the call's own: its part's box, and what it reads -/
structure MsW (W w : World) (G B b : Nat) (V : OV) (p : Pt) (pv : Value) (dd cc : Int) (M : Mp) (A : Nat → Addr) : Prop where
  g : W.grownBy w none
  bx : RwAt w b 121 #[V.d, V.c, V.m, V.r, V.q, V.s, .int .i64 (p.d : Int), .int .i64 (p.c : Int)]
  m : MrAt w G B pv dd cc M
  e : ErrC w A
theorem MsW.kept0 {W w w1 : World} {G B b : Nat} {V : OV} {p : Pt} {pv : Value} {dd cc : Int} {M : Mp} {A : Nat → Addr} (h : MsW W w G B b V p pv dd cc M A) (hg : w.grownBy w1 none) : MsW W w1 G B b V p pv dd cc M A := ⟨grown_trans h.g hg, h.bx.kept0 hg, h.m.kept0 hg, h.e.kept0 hg⟩
/-- the cells of symbol k -/
theorem sy_item {w : World} {v : Value} {l : List Sy} {k : Nat} {s : Sy} (h : SyAt w v l) (hr : l[k]? = some s) :
    ∃ b o c, v = .slice (some ⟨b, o, none⟩) l.length c ∧ b < w.heap.size ∧ w.cell? ⟨b, o + k * 4, none⟩ = some (.string s.n) ∧ w.cell? ⟨b, o + k * 4 + 1, none⟩ = some (.int .i64 s.i) ∧ w.cell? ⟨b, o + k * 4 + 2, none⟩ = some (.int .i64 s.v) ∧ w.cell? ⟨b, o + k * 4 + 3, none⟩ = some (.bool s.g) := by
  obtain ⟨b, o, c, rfl, _, hb, hc⟩ := h.at_ (by have := (List.getElem?_eq_some_iff.1 hr).1; omega)
  refine ⟨b, o, c, rfl, hb, ?_, ?_, ?_, ?_⟩
  · exact hc (k * 4 + 0) _ (by rw [sysC_get l k 0 s hr (by decide)]; rfl)
  · rw [Nat.add_assoc]; exact hc (k * 4 + 1) _ (by rw [sysC_get l k 1 s hr (by decide)]; rfl)
  · rw [Nat.add_assoc]; exact hc (k * 4 + 2) _ (by rw [sysC_get l k 2 s hr (by decide)]; rfl)
  · rw [Nat.add_assoc]; exact hc (k * 4 + 3) _ (by rw [sysC_get l k 3 s hr (by decide)]; rfl)
theorem rl_item {w : World} {v : Value} {l : List Rl} {k : Nat} {s : Rl} (h : RlAt w v l) (hr : l[k]? = some s) :
    ∃ b o c, v = .slice (some ⟨b, o, none⟩) l.length c ∧ b < w.heap.size ∧ w.cell? ⟨b, o + k * 4, none⟩ = some (.int .i64 s.a) ∧ w.cell? ⟨b, o + k * 4 + 1, none⟩ = some (.int .i64 s.k) ∧ w.cell? ⟨b, o + k * 4 + 2, none⟩ = some (.int .i64 s.s) ∧ w.cell? ⟨b, o + k * 4 + 3, none⟩ = some (.int .i64 s.d) := by
  obtain ⟨b, o, c, rfl, _, hb, hc⟩ := h.at_ (by have := (List.getElem?_eq_some_iff.1 hr).1; omega)
  refine ⟨b, o, c, rfl, hb, ?_, ?_, ?_, ?_⟩
  · exact hc (k * 4 + 0) _ (by rw [rlsC_get l k 0 s hr (by decide)]; rfl)
  · rw [Nat.add_assoc]; exact hc (k * 4 + 1) _ (by rw [rlsC_get l k 1 s hr (by decide)]; rfl)
  · rw [Nat.add_assoc]; exact hc (k * 4 + 2) _ (by rw [rlsC_get l k 2 s hr (by decide)]; rfl)
  · rw [Nat.add_assoc]; exact hc (k * 4 + 3) _ (by rw [rlsC_get l k 3 s hr (by decide)]; rfl)
/-- this error, or none -/
def erV (A : Nat → Addr) (c : Nat) (t : Bool) : Value := if t = true then errV (A c) else .nilIface
def msS (M : Mp) (s : Sy) : Bool := !(lkp M s.n).isSome && decide (s.i = 3)
theorem any_take {α : Type} {f : α → Bool} {l : List α} {k : Nat} {a : α} (h : (l.take k).any f = false) (ha : l[k]? = some a) (hf : f a = false) : (l.take (k + 1)).any f = false := by
  rw [List.take_add_one, ha, List.any_append, h]
  simpa using hf
theorem any_at {α : Type} {f : α → Bool} {l : List α} {k : Nat} {a : α} (ha : l[k]? = some a) (hf : f a = true) : l.any f = true := List.any_eq_true.2 ⟨a, List.mem_of_getElem? ha, hf⟩
theorem any_all {α : Type} {f : α → Bool} {l : List α} {n : Nat} (hn : l.length = n) (h : (l.take n).any f = false) : l.any f = false := by rwa [← hn, List.take_length] at h
set_option maxRecDepth 100000 in
set_option maxHeartbeats 4000000 in
theorem misses_any (W : World) (V : OV) (p : Pt) {G B : Nat} {pv : Value} {dd cc : Int} {M : Mp} {A : Nat → Addr} (h : OAt W V p.x) (hM : MrAt W G B pv dd cc M) (he : ErrC W A) (hl : p.x.S.length ≤ 1000000) {t : Bool} (ht : missB M p = t) :
    Calls Tryz.prog 48 #[.pointer (some ⟨G, 0, none⟩), ptV V p] W fun e w' => e = .returned (erV A 6 t) ∧ W.grownBy w' none := by
  have Hzs := zero_spot
  have HG := World.grownBy_alloc W (.cells #[V.d, V.c, V.m, V.r, V.q, V.s, .int .i64 (p.d : Int), .int .i64 (p.c : Int)] 121) none
  have HR0 : Hid (MsW W (W.alloc (.cells #[V.d, V.c, V.m, V.r, V.q, V.s, .int .i64 (p.d : Int), .int .i64 (p.c : Int)] 121)) G B W.heap.size V p pv dd cc M A) := hid ⟨HG, RwAt.new W 121 #[V.d, V.c, V.m, V.r, V.q, V.s, .int .i64 (p.d : Int), .int .i64 (p.c : Int)], hM.kept0 HG, he.kept0 HG⟩
  have HO := hid h
  have Hl := hid hl
  have Ht := hid ht
  obtain ⟨n, hn⟩ : ∃ n, p.x.S.length = n := ⟨_, rfl⟩
  have Hn := hid hn
  obtain ⟨sp, sc, hsv⟩ := h.s.len
  rw [hn] at hsv hl
  have n0 : (0 : Int) ≤ (n : Int) := by omega
  have n1 : (n : Int) ≤ 1000000 := by omega
  have Hsv := hid hsv
  clear HG h hM he ht hn hl hsv
  unfold ptV
  go_enter Tryz.func48, Tryz.ntmps48
  go_upto_region 1 with (fail)
  obtain ⟨b, hb⟩ : ∃ b, W.heap.size = b := ⟨_, rfl⟩
  rw [hb] at HR0 ⊢
  clear hb
  generalize W.alloc (.cells #[V.d, V.c, V.m, V.r, V.q, V.s, .int .i64 (p.d : Int), .int .i64 (p.c : Int)] 121) = w1 at HR0 ⊢
  have e5 := HR0.out.bx.cell 5 (v := .slice sp n sc) (by rw [← Hsv.out]; rfl)
  go_wp2
  clear e5
  go_loopw [13] (fun i wr => ∃ k : Nat, k ≤ n ∧ i = .int .i64 k ∧ Hid (MsW W wr G B b V p pv dd cc M A) ∧ Hid ((p.x.S.take k).any (msS M) = false)) (fun i _ => n - (intOf i).toNat)
  case atStart => exact ⟨0, Nat.zero_le _, rfl, HR0, hid rfl⟩
  case round =>
    obtain ⟨k, hk, rfl, HR, Hno⟩ := hrel
    clear HR0
    have k0 : (0 : Int) ≤ (k : Int) := by omega
    by_cases hlt : k < n
    · have kn : (k : Int) < (n : Int) := by omega
      have Hlt := hid hlt
      obtain ⟨⟨sn, si, sv, sg⟩, hs⟩ : ∃ s, p.x.S[k]? = some s := ⟨_, List.getElem?_eq_getElem (by rw [Hn.out]; exact hlt)⟩
      have Hs := hid hs
      obtain ⟨bs, os, cs, hv, hbs, g0, g1, g2, g3⟩ := sy_item (HO.out.kept0 HR.out.g).s hs
      rw [Hn.out, Hsv.out] at hv
      simp only [Value.slice.injEq, true_and] at hv
      obtain ⟨rfl, rfl⟩ := hv
      have hal := World.grownBy_alloc wr (.cells #[.string sn, .int .i64 si, .int .i64 sv, .bool sg] 63) none
      have HR6 := hid (HR.out.kept0 hal)
      have HX := hid (RwAt.new wr 63 #[.string sn, .int .i64 si, .int .i64 sv, .bool sg])
      clear hal hs hbs hlt
      go_upto_region 4 with (fail)
      clear g0 g1 g2 g3 HR
      obtain ⟨X, hX⟩ : ∃ X, wr.heap.size = X := ⟨_, rfl⟩
      rw [hX] at HX ⊢
      clear hX
      generalize wr.alloc (.cells #[.string sn, .int .i64 si, .int .i64 sv, .bool sg] 63) = w6 at HR6 HX ⊢
      obtain ⟨⟨qi, qa⟩, hq⟩ : ∃ q, lkD M sn = q := ⟨_, rfl⟩
      obtain ⟨tt, htt⟩ : ∃ tt, (lkp M sn).isSome = tt := ⟨_, rfl⟩
      have Htt := hid htt
      have hl0 := HR6.out.m.mp.look_ok sn hq htt
      have hl1 := HR6.out.m.mp.drew.look_ok sn hq htt
      have hl2 := (HR6.out.m.mp.alloc (.cells #[.int .i64 0, .int .i64 0] 83)).look_ok sn hq htt
      have hl3 := (HR6.out.m.mp.alloc (.cells #[.int .i64 0, .int .i64 0] 83)).drew.look_ok sn hq htt
      have hal := World.grownBy_alloc w6 (.cells #[.int .i64 0, .int .i64 0] 83) none
      have m3 := HR6.out.m.row.cell 3 (v := .map (some B)) rfl
      have s0 := HX.out.cell 0 (v := .string sn) rfl
      have m3z := (HR6.out.kept0 hal).m.row.cell 3 (v := .map (some B)) rfl
      have s0z := (HX.out.kept0 hal).cell 0 (v := .string sn) rfl
      clear hq htt
      go_region
      all_goals
        clear hl0 hl1 hl2 hl3 m3 s0 m3z s0z hal
        have HRe := hid (HR6.out.kept0 (grown_drew (World.grownBy_alloc w6 (.cells #[.int .i64 qi, .int .i64 qa] 83) none)))
        have HXe := hid (HX.out.kept0 (grown_drew (World.grownBy_alloc w6 (.cells #[.int .i64 qi, .int .i64 qa] 83) none)))
        generalize (w6.alloc (.cells #[.int .i64 qi, .int .i64 qa] 83)).drew = w7 at HRe HXe ⊢
        have s1 := HXe.out.cell 1 (v := .int .i64 si) rfl
        have e6 := HRe.out.e.c6
        cases tt with
        | true =>
          have Hf := hid (any_take Hno.out Hs.out (by unfold msS; rw [Htt.out]; rfl))
          go_wp2
          go_roundw
          case rel => exact ⟨k + 1, Hlt.out, by go_num, HRe, Hf⟩
          case measure => simp [intOf]; have := Hlt.out; omega
        | false =>
          by_cases h3 : si = 3
          · have h3b : (si == 3) = true := by simpa using h3
            have Hf : Hid (t = true) := hid (by rw [← Ht.out]; exact any_at Hs.out (f := msS M) (by unfold msS; rw [Htt.out]; simpa using h3))
            clear h3
            unfold errV at e6
            go_wp2
            go_ret
            exact ⟨by unfold erV; rw [if_pos Hf.out]; rfl, HRe.out.g⟩
          · have h3b : (si == 3) = false := by simpa using h3
            have Hf := hid (any_take Hno.out Hs.out (by unfold msS; simpa using fun _ => h3))
            clear h3
            go_wp2
            go_roundw
            case rel => exact ⟨k + 1, Hlt.out, by go_num, HRe, Hf⟩
            case measure => simp [intOf]; have := Hlt.out; omega
    · obtain rfl : k = n := by omega
      have kn : ¬ ((k : Int) < (k : Int)) := by omega
      have hall := any_all Hn.out Hno.out
      have Hf : Hid (t = false) := hid (by rw [← Ht.out]; exact hall)
      clear hlt hall
      go_wp2
      go_ret
      exact ⟨by unfold erV; rw [if_neg (by rw [Hf.out]; simp)]; rfl, HR.out.g⟩
/-- of a part: what is known of its object, and where it begins -/
structure PtOk (p : Pt) : Prop where
  b : ObB p.x
  len : p.x.M.length = p.x.C.length
  q : ∀ r ∈ p.x.Q, (0 ≤ r.a ∧ r.a < p.x.C.length) ∧ (0 ≤ r.s ∧ r.s < p.x.S.length) ∧ (r.k = 1 ∨ r.k = 2) ∧ (p.x.M.getD r.a.toNat 0 = 0 → 1 ≤ r.a) ∧ -65536 ≤ r.d ∧ r.d ≤ 65536
  r : ∀ r ∈ p.x.R, (0 ≤ r.a ∧ r.a < p.x.D.length) ∧ (0 ≤ r.s ∧ r.s < p.x.S.length) ∧ r.k = 1 ∧ -65536 ≤ r.d ∧ r.d ≤ 65536
  s : ∀ s ∈ p.x.S, (0 ≤ s.v ∧ s.v ≤ 2048) ∧ (s.i = 1 ∨ s.i = 2 ∨ s.i = 3) ∧ (s.i = 1 → s.v < p.x.D.length ∨ s.v < 1) ∧ (s.i = 2 → s.v < p.x.C.length ∧ p.x.M.getD s.v.toNat 0 = 1)
  dc : p.d ≤ 100000 ∧ p.c ≤ 100000
  len2 : p.x.D.length ≤ 2048 ∧ p.x.C.length ≤ 2048
theorem field_spot (i a : Int) (w : World) : (Instr.field 83 (.agg #[.int .i64 i, .int .i64 a]) 0).run Tryz.prog w = .ok (.int .i64 i) w := by
  simp [Instr.field, run_underlying Tryz.underlying83, asAgg, go_sem]
theorem oat_one {w : World} {V : OV} {x : PO} (h : OAt w V x) : (#[V.d, V.c, V.m, V.r, V.q, V.s] : Array Value).all (·.oneCell') = true := by
  obtain ⟨p1, n1, c1, p2, n2, c2, p3, n3, c3, p4, n4, c4, p5, n5, c5, p6, n6, c6, rfl⟩ := OAt.cells h
  simp [Value.oneCell']
def mlR (M : Mp) (p : Pt) (r : Rl) : Bool := decide ((symN p.x r.s.toNat).i = 3) && (decide ((spOf M p (symN p.x r.s.toNat)).i = 1) && jumpB p.x r)
set_option maxRecDepth 100000 in
set_option maxHeartbeats 4000000 in
theorem misleads_any (W : World) (V : OV) (p : Pt) {G B : Nat} {pv : Value} {dd cc : Int} {M : Mp} {A : Nat → Addr} (h : OAt W V p.x) (hM : MrAt W G B pv dd cc M) (he : ErrC W A) (hp : PtOk p) {t : Bool} (ht : leadB M p = t) :
    Calls Tryz.prog 49 #[.pointer (some ⟨G, 0, none⟩), ptV V p] W fun e w' => e = .returned (erV A 1 t) ∧ W.grownBy w' none := by
  have HG := World.grownBy_alloc W (.cells #[V.d, V.c, V.m, V.r, V.q, V.s, .int .i64 (p.d : Int), .int .i64 (p.c : Int)] 121) none
  have HR0 : Hid (MsW W (W.alloc (.cells #[V.d, V.c, V.m, V.r, V.q, V.s, .int .i64 (p.d : Int), .int .i64 (p.c : Int)] 121)) G B W.heap.size V p pv dd cc M A) := hid ⟨HG, RwAt.new W 121 #[V.d, V.c, V.m, V.r, V.q, V.s, .int .i64 (p.d : Int), .int .i64 (p.c : Int)], hM.kept0 HG, he.kept0 HG⟩
  have HO := hid h
  have HP := hid hp
  have Ht := hid ht
  have Hone := hid (oat_one h)
  have hl := hp.b.len.2.2.2.2.1
  obtain ⟨n, hn⟩ : ∃ n, p.x.Q.length = n := ⟨_, rfl⟩
  have Hn := hid hn
  obtain ⟨qp, qc, hqv⟩ := h.q.len
  obtain ⟨sp, sc, hsv⟩ := h.s.len
  obtain ⟨N, hN⟩ : ∃ N, p.x.S.length = N := ⟨_, rfl⟩
  have HN := hid hN
  rw [hn] at hqv hl
  rw [hN] at hsv
  have n0 : (0 : Int) ≤ (n : Int) := by omega
  have n1 : (n : Int) ≤ 1000000 := by omega
  have N0 : (0 : Int) ≤ (N : Int) := by omega
  have N1 : (N : Int) ≤ 1000000 := by have := hp.b.len.2.2.2.2.2; omega
  have Hqv := hid hqv
  have Hsv := hid hsv
  clear HG h hM he ht hn hl hqv hsv hp hN
  unfold ptV
  go_enter Tryz.func49, Tryz.ntmps49
  go_upto_region 1 with (fail)
  obtain ⟨b, hb⟩ : ∃ b, W.heap.size = b := ⟨_, rfl⟩
  rw [hb] at HR0 ⊢
  clear hb
  generalize W.alloc (.cells #[V.d, V.c, V.m, V.r, V.q, V.s, .int .i64 (p.d : Int), .int .i64 (p.c : Int)] 121) = w1 at HR0 ⊢
  have e4 := HR0.out.bx.cell 4 (v := .slice qp n qc) (by rw [← Hqv.out]; rfl)
  go_wp2
  clear e4
  go_loopw [12] (fun i wr => ∃ k : Nat, k ≤ n ∧ i = .int .i64 k ∧ Hid (MsW W wr G B b V p pv dd cc M A) ∧ Hid ((p.x.Q.take k).any (mlR M p) = false)) (fun i _ => n - (intOf i).toNat)
  case atStart => exact ⟨0, Nat.zero_le _, rfl, HR0, hid rfl⟩
  case round =>
    obtain ⟨k, hk, rfl, HR, Hno⟩ := hrel
    clear HR0
    have k0 : (0 : Int) ≤ (k : Int) := by omega
    by_cases hlt : k < n
    · have kn : (k : Int) < (n : Int) := by omega
      have Hlt := hid hlt
      obtain ⟨⟨ra, rk, rs, rd⟩, hr⟩ : ∃ r, p.x.Q[k]? = some r := ⟨_, List.getElem?_eq_getElem (by rw [Hn.out]; exact hlt)⟩
      have Hr := hid hr
      have Hok := hid (HP.out.q _ (List.mem_of_getElem? hr))
      obtain ⟨bq, oq, cq, hv, hbq, g0, g1, g2, g3⟩ := rl_item (HO.out.kept0 HR.out.g).q hr
      rw [Hn.out, Hqv.out] at hv
      simp only [Value.slice.injEq, true_and] at hv
      obtain ⟨rfl, rfl⟩ := hv
      have hal := World.grownBy_alloc wr (.cells #[.int .i64 ra, .int .i64 rk, .int .i64 rs, .int .i64 rd] 65) none
      have HR6 := hid (HR.out.kept0 hal)
      have HX := hid (RwAt.new wr 65 #[.int .i64 ra, .int .i64 rk, .int .i64 rs, .int .i64 rd])
      clear hal hr hbq hlt
      go_upto_region 4 with (fail)
      clear g0 g1 g2 g3 HR
      obtain ⟨X, hX⟩ : ∃ X, wr.heap.size = X := ⟨_, rfl⟩
      rw [hX] at HX ⊢
      clear hX
      generalize wr.alloc (.cells #[.int .i64 ra, .int .i64 rk, .int .i64 rs, .int .i64 rd] 65) = w6 at HR6 HX ⊢
      obtain ⟨⟨a0, a1⟩, ⟨s0, s1⟩, hk12, hsec, hd⟩ := Hok.out
      simp only at a0 a1 s0 s1
      obtain ⟨j, rfl⟩ := Int.eq_ofNat_of_zero_le s0
      obtain ⟨⟨sn, si, sv, sg⟩, hs⟩ : ∃ s, p.x.S[j]? = some s := ⟨_, List.getElem?_eq_getElem (by omega)⟩
      have Hs := hid (show symN p.x (j : Int).toNat = ⟨sn, si, sv, sg⟩ by unfold symN; rw [Int.toNat_natCast, List.getD_eq_getElem?_getD, hs]; rfl)
      have Hsok := hid (HP.out.s _ (List.mem_of_getElem? hs))
      obtain ⟨bs, os, cs, hv, hbs, g0, g1, g2, g3⟩ := sy_item (HO.out.kept0 HR6.out.g).s hs
      rw [HN.out, Hsv.out] at hv
      simp only [Value.slice.injEq, true_and] at hv
      obtain ⟨rfl, rfl⟩ := hv
      have jN : (j : Int) < (N : Int) := by rw [HN.out] at s1; exact s1
      have x2 := HX.out.cell 2 (v := .int .i64 (j : Int)) rfl
      have e5 := HR6.out.bx.cell 5 (v := .slice (some ⟨bs, os, none⟩) N sc) (by rw [← Hsv.out]; rfl)
      have hal := World.grownBy_alloc w6 (.cells #[.string sn, .int .i64 si, .int .i64 sv, .bool sg] 63) none
      have HR7 := hid (HR6.out.kept0 hal)
      have HX7 := hid (HX.out.kept0 hal)
      have HY := hid (RwAt.new w6 63 #[.string sn, .int .i64 si, .int .i64 sv, .bool sg])
      clear hal hs hbs
      go_upto_region 5 with (fail)
      clear g0 g1 g2 g3 HR6 HX x2 e5 a0 a1 s1 hk12 hsec hd
      obtain ⟨Y, hY⟩ : ∃ Y, w6.heap.size = Y := ⟨_, rfl⟩
      rw [hY] at HY ⊢
      clear hY
      generalize w6.alloc (.cells #[.string sn, .int .i64 si, .int .i64 sv, .bool sg] 63) = w7 at HR7 HX7 HY ⊢
      have y1 := HY.out.cell 1 (v := .int .i64 si) rfl
      by_cases h3 : si = 3
      · subst h3
        obtain ⟨⟨qi, qa⟩, hq⟩ : ∃ q, spOf M p ⟨sn, 3, sv, sg⟩ = q := ⟨_, rfl⟩
        have Hq := hid hq
        have Hcall : Hid (Calls Tryz.prog 67 #[.pointer (some ⟨G, 0, none⟩), .agg #[V.d, V.c, V.m, V.r, V.q, V.s, .int .i64 (p.d : Int), .int .i64 (p.c : Int)], .agg #[.string sn, .int .i64 3, .int .i64 sv, .bool sg]] w7 fun e w' => e = .returned (.agg #[.int .i64 qi, .int .i64 qa]) ∧ w7.grownBy w' none) := hid (by
          have hv := Hsok.out.1
          have hd1 := HP.out.dc.1
          have hd2 := HP.out.dc.2
          have h := jspot_any w7 V p ⟨sn, 3, sv, sg⟩ HR7.out.m (Nat.le_trans hd1 (by decide)) (Nat.le_trans hd2 (by decide)) ⟨hv.1, Int.le_trans hv.2 (by decide)⟩ Hone.out
          rw [hq] at h
          exact h)
        have hfs := field_spot qi qa
        go_wp2_with (first
          | (refine wpList_load_rw_g (by kernel_rfl) 121 _ rfl rfl HR7.out.bx rfl Tryz.underlying121 info_part ?_)
          | (refine wpList_load_rw_g (by kernel_rfl) 63 _ rfl rfl HY.out rfl Tryz.underlying63 info_sym ?_)
          | fail)
        refine Hcall.out.mono ?_
        rintro e w8 ⟨rfl, hg⟩
        clear Hcall
        have HR8 := hid (HR7.out.kept0 hg)
        have HX8 := hid (HX7.out.kept0 hg)
        clear hg HR7 HX7 HY y1 hq
        by_cases hq1 : qi = 1
        · subst hq1
          go_wp2_with (first
            | (refine wpList_load_rw_g (by kernel_rfl) 121 _ rfl rfl HR8.out.bx rfl Tryz.underlying121 info_part ?_)
            | (refine wpList_load_rw_g (by kernel_rfl) 65 _ rfl rfl HX8.out rfl Tryz.underlying65 info_rel ?_)
            | fail)
          refine (jumps_link w8 V p ⟨ra, rk, (j : Int), rd⟩ (HO.out.kept0 HR8.out.g) HP.out.b.fit HP.out.len Hok.out.1 (fun _ => Hok.out.2.2.2.1)).mono ?_
          rintro e w9 ⟨rfl, hg⟩
          have HR9 := hid (HR8.out.kept0 hg)
          have HM : Hid (mlR M p ⟨ra, rk, (j : Int), rd⟩ = jumpB p.x ⟨ra, rk, (j : Int), rd⟩) := hid (by
            unfold mlR
            rw [Hs.out, Hq.out]
            simp)
          clear hg HR8 HX8
          cases hj : jumpB p.x ⟨ra, rk, (j : Int), rd⟩ with
          | false =>
            have Hf := hid (any_take Hno.out Hr.out (by rw [HM.out]; exact hj))
            clear hj
            go_wp2
            go_roundw
            case rel => exact ⟨k + 1, Hlt.out, by go_num, HR9, Hf⟩
            case measure => simp [intOf]; have := Hlt.out; omega
          | true =>
            have Hf : Hid (t = true) := hid (by rw [← Ht.out]; exact any_at Hr.out (f := mlR M p) (by rw [HM.out]; exact hj))
            have e1 := HR9.out.e.c1
            unfold errV at e1
            clear hj
            go_wp2
            go_ret
            exact ⟨by unfold erV; rw [if_pos Hf.out]; rfl, HR9.out.g⟩
        · have hq1b : (qi == 1) = false := by simpa using hq1
          have Hf := hid (any_take Hno.out Hr.out (by unfold mlR; rw [Hs.out, Hq.out]; simp [hq1]))
          clear hq1
          go_wp2
          go_roundw
          case rel => exact ⟨k + 1, Hlt.out, by go_num, HR8, Hf⟩
          case measure => simp [intOf]; have := Hlt.out; omega
      · have h3b : (si == 3) = false := by simpa using h3
        have Hf := hid (any_take Hno.out Hr.out (by unfold mlR; rw [Hs.out, decide_eq_false h3]; rfl))
        clear h3
        go_wp2
        go_roundw
        case rel => exact ⟨k + 1, Hlt.out, by go_num, HR7, Hf⟩
        case measure => simp [intOf]; have := Hlt.out; omega
    · obtain rfl : k = n := by omega
      have kn : ¬ ((k : Int) < (k : Int)) := by omega
      have hall := any_all Hn.out Hno.out
      have Hf : Hid (t = false) := hid (by rw [← Ht.out]; exact hall)
      clear hlt hall
      go_wp2
      go_ret
      exact ⟨by unfold erV; rw [if_neg (by rw [Hf.out]; simp)]; rfl, HR.out.g⟩
end Go.Proofs.YtnpnafidhcnkhaaGreatDoor

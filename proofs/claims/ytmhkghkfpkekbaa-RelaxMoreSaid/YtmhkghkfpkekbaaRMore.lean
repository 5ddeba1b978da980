/- The law RelaxMore: walked. -/
import Derived.Test.YtmhkghkfpkekbaaRLeast
import Derived.Test.YtmhkghkfpkekbaaRFar
namespace Go.Proofs.Ytmhkghkfpkekbaa
open Go.RowKit
theorem itsC_set0 : ∀ (l : List RIt) (k : Nat) (r : RIt) (s : Int), l[k]? = some r → (itsC l).set (k * 3) (.int .i64 s) = itsC (l.set k ⟨s, r.t, r.b⟩)
  | [], _, _, _, h => by simp at h
  | x :: l, 0, r, s, h => by
    obtain rfl : x = r := by simpa using h
    rfl
  | x :: l, k + 1, r, s, h => by
    rw [List.set_cons_succ, itsC, itsC, ← itsC_set0 l k r s (by simpa using h), show (k + 1) * 3 = k * 3 + 1 + 1 + 1 by omega]
    rfl
theorem itsC_set2 : ∀ (l : List RIt) (k : Nat) (r : RIt) (b : Bool), l[k]? = some r → (itsC l).set (k * 3 + 2) (.bool b) = itsC (l.set k ⟨r.s, r.t, b⟩)
  | [], _, _, _, h => by simp at h
  | x :: l, 0, r, b, h => by
    obtain rfl : x = r := by simpa using h
    rfl
  | x :: l, k + 1, r, b, h => by
    rw [List.set_cons_succ, itsC, itsC, ← itsC_set2 l k r b (by simpa using h), show (k + 1) * 3 + 2 = k * 3 + 2 + 1 + 1 + 1 by omega]
    rfl
def clrR (r : RIt) : RIt := ⟨r.s, r.t, false⟩
/-- no branch ahead of j -/
def nbR (L : List RIt) (j : Nat) : List RIt := L.mapIdx fun k r => if k < j then clrR r else r
theorem nbR_length (L : List RIt) (j : Nat) : (nbR L j).length = L.length := by simp [nbR]
theorem nbR_get (L : List RIt) (j k : Nat) : (nbR L j)[k]? = (L[k]?).map fun r => if k < j then clrR r else r := by simp [nbR]
theorem nbR_zero (L : List RIt) : nbR L 0 = L := by
  apply List.ext_getElem?
  intro k
  rw [nbR_get]
  cases L[k]? with
  | none => rfl
  | some r => simp
theorem nbR_step {L : List RIt} {j : Nat} {r : RIt} (h : L[j]? = some r) : (nbR L j).set j ⟨r.s, r.t, false⟩ = nbR L (j + 1) := by
  apply List.ext_getElem?
  intro k
  rw [List.getElem?_set, nbR_length, nbR_get, nbR_get]
  by_cases e : j = k
  · subst e
    rw [if_pos rfl, if_pos (List.getElem?_eq_some_iff.1 h).1, h, Option.map_some, if_pos (Nat.lt_succ_self _)]
    rfl
  · rw [if_neg e]
    congr 1
    funext r
    by_cases e2 : k < j
    · rw [if_pos e2, if_pos (by omega)]
    · rw [if_neg e2, if_neg (by omega)]
theorem nbR_ok {L : List RIt} (h : okR L = true) : okR (nbR L L.length) = true := by
  unfold okR
  rw [nbR_length]
  refine List.all_eq_true.2 fun r hr => ?_
  obtain ⟨k, hk⟩ := List.getElem?_of_mem hr
  rw [nbR_get, Option.map_eq_some_iff] at hk
  obtain ⟨a, ha, rfl⟩ := hk
  rw [if_pos (List.getElem?_eq_some_iff.1 ha).1]
  have := List.all_eq_true.1 h a (List.mem_of_getElem? ha)
  simp only [okRI, Bool.and_eq_true] at this
  simp only [okRI, clrR, Bool.not_false, Bool.true_or, Bool.and_true]
  exact this.1
theorem nbR_rnd (L : List RIt) : RndR (nbR L L.length) 0 := none_far (fun k => by
  unfold isBr
  rw [nbR_get]
  cases e : L[k]? with
  | none => rfl
  | some a =>
    rw [Option.map_some, if_pos (List.getElem?_eq_some_iff.1 e).1]
    rfl)
theorem valid_of {L : List RIt} (h : okR L = true) (hl : L.length ≤ 4096) : validR L = true := by
  unfold validR; rw [h, Bool.and_true]; simpa using hl
/-- one of them made greater -/
theorem up_ok {L : List RIt} {k : Nat} {r : RIt} {s : Int} (h : okR L = true) (hr : L[k]? = some r) (h0 : r.s ≤ s) (h1 : s ≤ 2048) : okR (L.set k ⟨s, r.t, r.b⟩) = true := by
  unfold okR
  rw [List.length_set]
  refine List.all_eq_true.2 fun x hx => ?_
  obtain ⟨j, hj⟩ := List.getElem?_of_mem hx
  rw [List.getElem?_set] at hj
  split at hj
  · rename_i e
    split at hj
    · obtain rfl := Option.some.inj hj
      have := List.all_eq_true.1 h r (List.mem_of_getElem? hr)
      simp only [okRI, Bool.and_eq_true, decide_eq_true_eq] at this ⊢
      exact ⟨by omega, this.2⟩
    · cases hj
  · exact List.all_eq_true.1 h x (List.mem_of_getElem? hj)
theorem up_le {L : List RIt} {k : Nat} {r : RIt} {s : Int} (h : okR L = true) (hr : L[k]? = some r) (h0 : r.s ≤ s) : LeR L (L.set k ⟨s, r.t, r.b⟩) := by
  have hk := (List.getElem?_eq_some_iff.1 hr).1
  refine ⟨by rw [List.length_set], h, fun j => ?_, fun j it it' h1 h2 => ?_⟩
  · rw [List.getElem?_set]
    by_cases e : k = j
    · subst e
      rw [if_pos rfl, if_pos hk, hr]
      exact h0
    · rw [if_neg e]; exact Int.le_refl _
  · rw [List.getElem?_set] at h2
    by_cases e : k = j
    · subst e
      rw [if_pos rfl, if_pos hk] at h2
      rw [hr] at h1
      obtain rfl := Option.some.inj h1
      obtain rfl := Option.some.inj h2
      exact ⟨rfl, fun _ => rfl⟩
    · rw [if_neg e, h1] at h2
      obtain rfl := Option.some.inj h2
      exact ⟨rfl, fun _ => rfl⟩
theorem up_get {L : List RIt} {k j : Nat} {r : RIt} {s : Int} {x : RIt} (hr : L[k]? = some r) (hx : L[j]? = some x) : ∃ s', (L.set k ⟨s, r.t, r.b⟩)[j]? = some ⟨s', x.t, x.b⟩ := by
  rw [List.getElem?_set]
  by_cases e : k = j
  · subst e
    rw [hr] at hx
    obtain rfl := Option.some.inj hx
    rw [if_pos rfl, if_pos (List.getElem?_eq_some_iff.1 hr).1]
    exact ⟨_, rfl⟩
  · rw [if_neg e]
    exact ⟨x.s, hx⟩
structure MoW (W w : World) (av cv pv : Value) (g cap : Nat) (L X : List RIt) (A C : List Bool) : Prop where
  gr : W.grownBy w none
  own : w.ownsRow W.heap.size 29 3 (.slice (some ⟨g, 0, none⟩) L.length cap) L.length (itsC X)
  a : BlAt w av A
  c : BlAt w cv C
  p : SlAt w .i64 pv (plsR L A (L.length + 1))
  na : av.ownBlock = none ∨ av.ownBlock ≠ some g
  nc : cv.ownBlock = none ∨ cv.ownBlock ≠ some g
  np : pv.ownBlock = none ∨ pv.ownBlock ≠ some g
theorem MoW.kept0 {W w w1 : World} {av cv pv : Value} {g cap : Nat} {L X : List RIt} {A C : List Bool} (h : MoW W w av cv pv g cap L X A C) (hg : w.grownBy w1 none) : MoW W w1 av cv pv g cap L X A C :=
  ⟨grown_trans h.gr hg, h.own.kept hg (by simp [Value.ownBlock]), h.a.kept0 hg, h.c.kept0 hg, h.p.kept0 hg, h.na, h.nc, h.np⟩
theorem MoW.clr {W w : World} {av cv pv : Value} {g cap j : Nat} {L X : List RIt} {A C : List Bool} (h : MoW W w av cv pv g cap L (nbR X j) A C) (_hX : X.length = L.length) {r : RIt} (hr : X[j]? = some r) :
    MoW W (w.setCell ⟨g, j * 3 + 2, none⟩ (.bool false)) av cv pv g cap L (nbR X (j + 1)) A C := by
  obtain ⟨h1, h2⟩ := h.own.stored (j * 3 + 2) (.bool false)
  have hge := (h.own.lt g rfl).1
  have hrj : (nbR X j)[j]? = some r := by rw [nbR_get, hr, Option.map_some, if_neg (by omega)]
  rw [itsC_set2 _ j r false hrj, nbR_step hr] at h1
  exact ⟨grown_new' (grown_trans (grown_none h.gr) h2) (fun k hk => by obtain rfl := Option.some.inj hk; exact hge), h1, CsAt.keptV h.a h2 h.na, CsAt.keptV h.c h2 h.nc, h.p.kept h2 h.np, h.na, h.nc, h.np⟩
theorem MoW.cell2 {W w : World} {av cv pv : Value} {g cap j : Nat} {L X : List RIt} {A C : List Bool} (h : MoW W w av cv pv g cap L X A C) (hX : X.length = L.length) (hj : j < L.length) : ∃ b, w.cell? ⟨g, j * 3 + 2, none⟩ = some (.bool b) ∧ w.frozen? ⟨g, j * 3 + 2, none⟩ = false := by
  obtain ⟨r, hr⟩ : ∃ r, X[j]? = some r := ⟨_, List.getElem?_eq_getElem (by omega)⟩
  refine ⟨r.b, ?_, h.own.frozenAt _⟩
  rw [h.own.cellAt (j * 3 + 2) (by omega)]
  exact (itsC_get X j 2 r hr (by decide)).trans rfl
theorem ns_of {W w : World} {v : Value} {g n cap : Nat} {t t' : TypeId} {sz sz' m : Nat} {cs cs' : List Value} {w' : World} (h : w.ownsRow W.heap.size t sz (.slice (some ⟨g, 0, none⟩) n cap) n cs) (h' : w'.ownsRow w.heap.size t' sz' v m cs') : v.ownBlock = none ∨ v.ownBlock ≠ some g := by
  cases e : v.ownBlock with
  | none => exact .inl rfl
  | some b =>
    refine .inr (fun e2 => ?_)
    have h1 := (h'.lt b e).1
    have h2 := (h.lt g rfl).2
    have h3 := Option.some.inj e2
    omega
theorem ns_old {W w : World} {v : Value} {g n cap : Nat} {t t' : TypeId} {sz sz' m : Nat} {cs cs' : List Value} {w0 : World} (h : w.ownsRow w0.heap.size t sz (.slice (some ⟨g, 0, none⟩) n cap) n cs) (h' : w0.ownsRow W.heap.size t' sz' v m cs') : v.ownBlock = none ∨ v.ownBlock ≠ some g := by
  cases e : v.ownBlock with
  | none => exact .inl rfl
  | some b =>
    refine .inr (fun e2 => ?_)
    have h1 := (h'.lt b e).2
    have h2 := (h.lt g rfl).1
    have h3 := Option.some.inj e2
    omega
set_option maxRecDepth 100000 in
set_option maxHeartbeats 16000000 in
theorem more_walk (v : Value) (L : List RIt) (p q : Int) (W : World) (h : RiAt W v L) (hl : L.length ≤ maxLen) (hp0 : -9223372036854775808 ≤ p) (hp1 : p ≤ 9223372036854775807) (hq0 : -9223372036854775808 ≤ q) (hq1 : q ≤ 9223372036854775807) :
    Calls Try.prog 3 #[v, .int .i64 p, .int .i64 q] W fun e W' => e = .returned (.bool true) ∧ Below W.heap.size W W' := by
  have Hp := hid (And.intro hp0 hp1)
  have Hq := hid (And.intro hq0 hq1)
  clear hp0 hp1 hq0 hq1
  obtain ⟨vp, vc, hv⟩ := h.len
  subst hv
  obtain ⟨n, hn⟩ : ∃ n, L.length = n := ⟨_, rfl⟩
  have HNe := hid hn
  have HAv : Hid (RiAt W (.slice vp n vc) L) := hid (by rw [← hn]; exact h)
  rw [hn] at hl ⊢
  unfold maxLen at hl
  have n0 : (0 : Int) ≤ (n : Int) := by omega
  have n9 : (n : Int) ≤ 9223372036854775807 := by omega
  obtain ⟨i, hi, hz0, hz1, hz2⟩ := info_itemR
  have Hi := hid hi
  have Hz0 := hid hz0
  have Hz1 := hid hz1
  have Hz2 := hid hz2
  obtain ⟨ib, hib, hbz0, hbz1, hbz2⟩ := info_boolR
  have Hib := hid hib
  have Hbz0 := hid hbz0
  have Hbz1 := hid hbz1
  have Hbz2 := hid hbz2
  clear h hl hn hi hz0 hz1 hz2 hib hbz0 hbz1 hbz2
  go_enter Try.func3, Try.ntmps3
  go_wp2_with fail
  refine (first12_any _).mono ?_
  rintro e w1 ⟨rfl, hg⟩
  have HG1 := hid hg
  clear hg
  by_cases hbig : 60 < n
  · have d1 : decide ((60 : Int) < (n : Int)) = true := by simp; omega
    go_wp2
    go_ret
    exact ⟨rfl, grown_below HG1.out⟩
  · have d1 : decide ((60 : Int) < (n : Int)) = false := by simp; omega
    have Hn : Hid (n ≤ 60) := hid (by omega)
    clear hbig
    cases hval : validR L
    · go_wp2_with fail
      refine (do_noR (HAv.out.kept0 HG1.out) (by rw [HNe.out]; have := Hn.out; omega) hval).mono ?_
      rintro e w3 ⟨rfl, hg⟩
      have HG3 := hid (grown_trans HG1.out hg)
      clear hg
      go_wp2
      go_ret
      exact ⟨rfl, grown_below HG3.out⟩
    · have hok : okR L = true := by unfold validR at hval; rw [Bool.and_eq_true] at hval; exact hval.2
      have HOk := hid hok
      obtain ⟨K, _, hK⟩ := rounds_ex L
      have HK : Hid (RndR L K) := hid hK
      have HIl : Hid ((itR L K).length = n) := hid (by rw [itR_length, HNe.out])
      have HVal := hid hval
      clear hok hK hval
      go_wp2_with fail
      refine (do_yesR (HAv.out.kept0 HG1.out) HVal.out HK.out).mono ?_
      rintro e w3 ⟨ga, rfl, hoa, hg⟩
      rw [HNe.out] at hoa ⊢
      have HG3 := hid (grown_trans HG1.out hg)
      have HOa := hid (own_base hoa HG1.out.size)
      clear hg hoa
      by_cases hz : n = 0
      · subst hz
        go_wp2
        go_ret
        exact ⟨rfl, grown_below HG3.out⟩
      · have npos : (0 : Int) < (n : Int) := by omega
        have nz : ((n : Int) == 0) = false := by simp; omega
        have nz2 : (n == 0) = false := by simpa using hz
        have Hnp : Hid (0 < n) := hid (by omega)
        have n6 : (n : Int) ≤ 60 := by have := Hn.out; omega
        clear hz
        go_wp2_with fail
        refine (number_any p n Hnp.out (by omega) Hp.out.1 Hp.out.2 _).mono ?_
        rintro e w4 ⟨rfl, rfl⟩
        obtain ⟨k, hk⟩ : ∃ k, numB p n = k := ⟨_, rfl⟩
        have hkn : k < n := by rw [← hk]; exact numB_lt p Hnp.out
        rw [hk]
        have Hkn := hid hkn
        have k0 : (0 : Int) ≤ (k : Int) := by omega
        have kn : (k : Int) < (n : Int) := by omega
        clear hk hkn
        obtain ⟨b, o, c', hv, _, hb, hc⟩ := (HAv.out.kept0 HG3.out : RiAt w3 (.slice vp n vc) L).at_ (by rw [HNe.out]; exact Hnp.out)
        simp only [Value.slice.injEq] at hv
        obtain ⟨rfl, -, -⟩ := hv
        have al := World.grownBy_alloc w3 (.cells #[] 29) none
        have H0 : Hid ((w3.alloc (.cells #[] 29)).ownsRow w3.heap.size 29 3 (.slice (some ⟨w3.heap.size, 0, none⟩) 0 0) 0 []) := hid (World.ownsRow_lit w3 #[] 0 (Nat.le_refl _) (by decide) rfl)
        have HNw : Hid (∀ j u, (itsC L)[j]? = some u → (w3.alloc (.cells #[] 29)).cell? ((⟨b, o, none⟩ : Addr).add j) = some u) := hid (fun j u hu => by
          rw [Addr.add_mid]
          exact (grown_cell (p := ⟨b, o + j, none⟩) al hb (by simp)).trans (hc j u hu))
        have HG4 := hid al
        have HLc : Hid ((itsC L).length = n * 3) := hid (by rw [itsC_length, HNe.out])
        have H1 : Hid (∀ u ∈ itsC L, u.oneCell' = true) := hid (fun u hu => by
          obtain ⟨j, hj⟩ := List.getElem?_of_mem hu
          obtain ⟨k, i, a, _, _, hia⟩ := itsC_at L j u hj
          have : i < 3 := (List.getElem?_eq_some_iff.1 hia).1
          match i, this with
          | 0, _ => obtain rfl := (Option.some.inj hia); rfl
          | 1, _ => obtain rfl := (Option.some.inj hia); rfl
          | 2, _ => obtain rfl := (Option.some.inj hia); rfl)
        clear hb hc al
        go_wp2_with (first
          | (refine wpList_append_lies _ rfl _ _ 22 rfl w3.heap.size 29 i _ 3 24 Try.underlying22 Hi.out Hz0.out Hz1.out Hz2.out rfl (by decide) _ 0 _ rfl H0.out ⟨b, o, none⟩ n vc _ rfl HLc.out HNw.out H1.out Hnp.out (by have := Hn.out; unfold maxLen; omega) (by have := Hn.out; omega) HG4.out.size _ rfl ?_
             intro g cap w5 hown hgrow hat hlt2
             have HOw : Hid (w5.ownsRow w3.heap.size 29 3 (.slice (some ⟨g, 0, none⟩) L.length cap) L.length (itsC L)) := hid (by rw [HNe.out]; simpa using hown)
             have hgw : w3.grownBy w5 none := grown_new' (grown_trans (grown_none HG4.out) hgrow) (fun j hj => (H0.out.lt j hj).1)
             have HG5 := hid hgw
             rw [Nat.zero_add]
             clear hown hgrow hat hlt2 hgw)
          | fail)
        clear H0 HNw HG4 HLc H1
        obtain ⟨r, hr⟩ : ∃ r, L[k]? = some r := ⟨_, List.getElem?_eq_getElem (by have := HNe.out; have := Hkn.out; omega)⟩
        have hrs : 0 ≤ r.s ∧ r.s ≤ 2048 := by
          have := List.all_eq_true.1 HOk.out r (List.mem_of_getElem? hr)
          simp only [okRI, Bool.and_eq_true, decide_eq_true_eq] at this
          exact this.1
        obtain ⟨M, hM⟩ : ∃ M, numB q 100 = M := ⟨_, rfl⟩
        have hM100 : M < 100 := by rw [← hM]; exact numB_lt q (by decide)
        have hnum := fun w => number_any q 100 (by decide) (by decide) Hq.out.1 Hq.out.2 w
        rw [hM] at hnum
        have HNum := hid hnum
        obtain ⟨S, hS⟩ : ∃ S, r.s + (M : Int) = S := ⟨_, rfl⟩
        have hSb : 0 ≤ S ∧ S ≤ 2147 := by omega
        have hw1 := wrap_i64_id (n := S) (by omega) (by omega)
        obtain ⟨T, hT⟩ : ∃ T, (if 2048 < S then 2048 else S) = T := ⟨_, rfl⟩
        have HT : Hid (r.s ≤ T ∧ T ≤ 2048) := hid (by rw [← hT]; split <;> omega)
        have c0 := HOw.out.cellAt (k * 3) (by have := Hkn.out; have := HNe.out; omega)
        rw [show (itsC L)[k * 3]? = some (.int .i64 r.s) from (itsC_get L k 0 r hr (by decide)).trans rfl] at c0
        have f0 := HOw.out.frozenAt (k * 3)
        have hS9 := HOw.out.stored (k * 3) (.int .i64 T)
        rw [itsC_set0 L k r T hr] at hS9
        have HS := hid hS9
        obtain ⟨X, hX⟩ : ∃ X, L.set k ⟨T, r.t, r.b⟩ = X := ⟨_, rfl⟩
        rw [hX] at HS
        have HXl : Hid (X.length = L.length) := hid (by rw [← hX, List.length_set])
        have HXo : Hid (okR X = true) := hid (by rw [← hX]; exact up_ok HOk.out hr HT.out.1 HT.out.2)
        have HXe : Hid (LeR L X) := hid (by rw [← hX]; exact up_le HOk.out hr HT.out.1)
        clear hr hM hM100 hnum hrs hSb hS9 hX HT
        generalize r.s = rs at c0 hS
        go_wp2
        go_cut [] from 58 to 71 (fun wz => Hid (wz.ownsRow w3.heap.size 29 3 (.slice (some ⟨g, 0, none⟩) L.length cap) L.length (itsC X) ∧ w5.grownBy wz (some g)))
        case first =>
          rename_i hJ0 hJ
          go_region_law (first
            | (go_simp
               go_at_call 11
               refine (HNum.out _).mono ?_
               rintro e w6 ⟨rfl, hg⟩
               subst hg)
            | fail)
          all_goals
            go_simp
            refine hJ _ _ (Met.intro (hJ0 _ _ ?_))
            (repeat apply Exists.intro)
            refine ⟨?_, rfl⟩
            exact hid ⟨HS.out.1.kept (grown_drew (grown_refl _ none)) (by simp [Value.ownBlock]), grown_drew HS.out.2⟩
        case rest =>
          clear HS hT hS hw1 c0 f0 HNum
          obtain ⟨K2, _, hK2⟩ := rounds_ex X
          have HK2 : Hid (RndR X K2) := hid hK2
          have HXi : Hid (RiAt _ (.slice (some ⟨g, 0, none⟩) n cap) X) := hid (by have := CsAt.own hcut.out.1; unfold RiAt; rw [HXl.out, HNe.out]; rw [HNe.out] at this; exact this)
          have hgz := grown_new' (grown_trans (grown_none HG5.out) hcut.out.2) (fun j hj => by obtain rfl := Option.some.inj hj; exact (HOw.out.lt _ rfl).1)
          have HGz := hid hgz
          have hAz := HOa.out.kept hgz (by simp [Value.ownBlock])
          have HAz := hid hAz
          have HOz := hid hcut.out.1
          have Hna := hid (ns_old hcut.out.1 HOa.out)
          clear hK2 hgz hAz hcut HG5 HOw
          go_wp2_with fail
          refine (do_yesR HXi.out (valid_of HXo.out (by rw [HXl.out, HNe.out]; have := Hn.out; omega)) HK2.out).mono ?_
          rintro e w7 ⟨gc, rfl, hoc, hg⟩
          rw [HXl.out, HNe.out] at hoc ⊢
          have HG7 := hid (grown_trans HGz.out hg)
          have HA7 := hid (HAz.out.kept hg (by simp [Value.ownBlock]))
          have HO7 := hid (HOz.out.kept hg (by simp [Value.ownBlock]))
          have HC7 := hid hoc
          have Hnc := hid (ns_of HOz.out hoc)
          have HBa7 : Hid (BlAt w7 (.slice (some ⟨ga, 0, none⟩) n n) (itR L K)) := hid (by have := CsAt.own HA7.out; unfold BlAt; rw [HIl.out]; exact this)
          clear hg hoc HGz HAz HOz HXi
          go_wp2_with fail
          refine (places_rel (HAv.out.kept0 (grown_trans HG3.out HG7.out)) HBa7.out (itR_length K) HOk.out (by rw [HNe.out]; have := Hn.out; omega)).mono ?_
          rintro e w8 ⟨g8, rfl, ho8, hg⟩
          have hi2 : (itR X K2).length = n := by rw [itR_length, HXl.out, HNe.out]
          have HMo : Hid (MoW W w8 (.slice (some ⟨ga, 0, none⟩) n n) (.slice (some ⟨gc, 0, none⟩) n n) (.slice (some ⟨g8, 0, none⟩) (L.length + 1) (L.length + 1)) g cap L (nbR X 0) (itR L K) (itR X K2)) := hid (by
            rw [nbR_zero]
            exact ⟨grown_trans (grown_trans HG3.out HG7.out) hg, own_base (HO7.out.kept hg (by simp [Value.ownBlock])) HG3.out.size, HBa7.out.kept0 hg, (by have := CsAt.own HC7.out; unfold BlAt; rw [hi2]; exact this.kept0 hg), SlAt.own ho8, Hna.out, Hnc.out, ns_of HO7.out ho8⟩)
          have c00 := ho8.cellAt 0 (by omega)
          rw [List.getElem?_map, plsR_get (by omega), show plR L (itR L K) 0 = 0 from rfl] at c00
          obtain ⟨N, hN⟩ : ∃ N, L.length + 1 = N := ⟨_, rfl⟩
          have HN : Hid (n + 1 = N) := hid (by rw [← hN, HNe.out])
          rw [hN] at HMo ⊢
          have nN : (n : Int) + 1 = (N : Int) := by have := HN.out; omega
          have N0 : (0 : Int) < (N : Int) := by omega
          have hwN := wrap_i64_id (n := (N : Int)) (by omega) (by omega)
          have NN : ((N : Int) == (N : Int)) = true := by simp
          clear hg ho8 hN HG7 HA7 HO7 HC7 Hnc Hna HBa7
          go_wp2
          go_loopw [17] (fun i wr => ∃ j : Nat, j ≤ n ∧ i = .int .i64 j ∧ Hid (MoW W wr (.slice (some ⟨ga, 0, none⟩) n n) (.slice (some ⟨gc, 0, none⟩) n n) (.slice (some ⟨g8, 0, none⟩) N N) g cap L (nbR X j) (itR L K) (itR X K2))) (fun i _ => n - (intOf i).toNat)
          case atStart => exact ⟨0, Nat.zero_le _, rfl, HMo⟩
          case round =>
            obtain ⟨j, hj, rfl, HR⟩ := hrel
            clear HMo c00 NN
            have j0 : (0 : Int) ≤ (j : Int) := by omega
            by_cases hlt : j < n
            · have jn : (j : Int) < (n : Int) := by omega
              have Hlt := hid hlt
              obtain ⟨r2, hr2⟩ : ∃ r2, L[j]? = some r2 := ⟨_, List.getElem?_eq_getElem (by rw [HNe.out]; exact hlt)⟩
              obtain ⟨rX, hrX⟩ : ∃ rX, X[j]? = some rX := ⟨_, List.getElem?_eq_getElem (by rw [HXl.out, HNe.out]; exact hlt)⟩
              have hrs : 0 ≤ r2.s ∧ r2.s ≤ 2048 := by
                have := List.all_eq_true.1 HOk.out r2 (List.mem_of_getElem? hr2)
                simp only [okRI, Bool.and_eq_true, decide_eq_true_eq] at this
                exact this.1
              obtain ⟨b2, o2, c2', hv, hb, c0, c1, c2⟩ := RiAt.item (HAv.out.kept0 HR.out.gr) hr2
              simp only [Value.slice.injEq, Option.some.injEq, Addr.mk.injEq] at hv
              obtain ⟨⟨rfl, rfl, -⟩, -⟩ := hv
              obtain ⟨ba, oa, ca', hva, hba, cA⟩ := BlAt.item HR.out.a (by rw [HIl.out]; exact hlt)
              simp only [Value.slice.injEq, Option.some.injEq, Addr.mk.injEq] at hva
              obtain ⟨⟨rfl, rfl, -⟩, -⟩ := hva
              obtain ⟨bc, oc, cc', hvc, hbc, cC⟩ := BlAt.item HR.out.c (k := j) (by rw [itR_length, HXl.out, HNe.out]; exact hlt)
              simp only [Value.slice.injEq, Option.some.injEq, Addr.mk.injEq] at hvc
              obtain ⟨⟨rfl, rfl, -⟩, -⟩ := hvc
              rw [Nat.zero_add] at cA cC
              obtain ⟨bp, op, cp', hvp, hbp, hcp⟩ := HR.out.p.at_ (by rw [plsR_length]; omega)
              simp only [Value.slice.injEq, Option.some.injEq, Addr.mk.injEq] at hvp
              obtain ⟨⟨rfl, rfl, -⟩, -⟩ := hvp
              obtain ⟨P, hP⟩ : ∃ P, plR L (itR L K) j = P := ⟨_, rfl⟩
              obtain ⟨Q, hQ⟩ : ∃ Q, plR L (itR L K) (j + 1) = Q := ⟨_, rfl⟩
              have hPQ := plR_succ j (L := L) (B := itR L K)
              rw [hP, hQ, szR_item hr2] at hPQ
              have hPb := plR_bd HOk.out j (B := itR L K)
              rw [hP] at hPb
              have p0 := hcp j P (by rw [plsR_get (by rw [HNe.out]; omega), hP])
              have p1 := hcp (j + 1) Q (by rw [plsR_get (by rw [HNe.out]; omega), hQ])
              rw [Nat.zero_add] at p0 p1
              have hli := least_in HXe.out (show farR X (itR X K2) X.length = [] from HK2.out.1) K j
              obtain ⟨x, hx⟩ : ∃ x, (itR L K).getD j false = x := ⟨_, rfl⟩
              obtain ⟨y, hy⟩ : ∃ y, (itR X K2).getD j false = y := ⟨_, rfl⟩
              rw [hx] at cA hPQ hli
              rw [hy] at cC hli
              have HRk := hid HR.out
              have HrX := hid hrX
              obtain ⟨s2, t2, bb2⟩ := r2
              simp only at c0 hrs hPQ
              have hwP := wrap_i64_id (n := s2) (by omega) (by omega)
              have hwQ := wrap_i64_id (n := Q) (by have := hPQ; cases x <;> simp at this <;> omega) (by have := hPQ; have := Hn.out; cases x <;> simp at this <;> omega)
              have jN : (j : Int) < (N : Int) := by omega
              obtain ⟨J, hJ⟩ : ∃ J, j + 1 = J := ⟨_, rfl⟩
              have jJ : (j : Int) + 1 = (J : Int) := by omega
              have JN : (J : Int) < (N : Int) := by omega
              have J0 : (0 : Int) ≤ (J : Int) := by omega
              have hwJ := wrap_i64_id (n := (J : Int)) (by omega) (by omega)
              rw [hJ] at p1
              clear hr2 hrX hb c1 c2 hba hbc hbp hcp hP hQ hx hy HR hlt hj
              cases x
              · have e1 : P + s2 = Q := by rw [hPQ]; simp
                have QQ : (Q == Q) = true := by simp
                clear hli hPQ hJ
                go_wp2
                go_quiet (fail)
                have HR5 := hid (HRk.out.kept0 (grown_drewN (grown_refl _ none) nq))
                have HCl := hid (HR5.out.clr HXl.out HrX.out)
                obtain ⟨bN, g2, gf⟩ := HR5.out.cell2 (by rw [nbR_length, HXl.out]) (by rw [HNe.out]; exact Hlt.out)
                clear HR5 HRk
                go_wp2
                go_roundw
                case rel => exact ⟨j + 1, Hlt.out, by go_num, HCl⟩
                case measure => simp [intOf]; have := Hlt.out; omega
              · obtain rfl : y = true := hli rfl
                obtain ⟨S, hS⟩ : ∃ S, s2 + 1 = S := ⟨_, rfl⟩
                have hwS := wrap_i64_id (n := S) (by omega) (by omega)
                have e1 : P + S = Q := by rw [hPQ, ← hS]; simp
                have QQ : (Q == Q) = true := by simp
                clear hli hPQ hJ
                go_wp2
                go_quiet (fail)
                have HR5 := hid (HRk.out.kept0 (grown_drewN (grown_refl _ none) nq))
                have HCl := hid (HR5.out.clr HXl.out HrX.out)
                obtain ⟨bN, g2, gf⟩ := HR5.out.cell2 (by rw [nbR_length, HXl.out]) (by rw [HNe.out]; exact Hlt.out)
                clear HR5 HRk
                go_wp2
                go_roundw
                case rel => exact ⟨j + 1, Hlt.out, by go_num, HCl⟩
                case measure => simp [intOf]; have := Hlt.out; omega
            · obtain rfl : j = n := by omega
              clear hlt
              have jn : ¬ ((j : Int) < (j : Int)) := by omega
              have HD : Hid (RiAt wr (.slice (some ⟨g, 0, none⟩) j cap) (nbR X X.length)) := hid (by
                have := CsAt.own HR.out.own
                unfold RiAt
                rw [nbR_length, HXl.out, HNe.out]
                rw [HNe.out] at this
                exact this)
              have HGr := hid HR.out.gr
              clear HR
              go_wp2_with fail
              refine (do_yesR (K := 0) HD.out (valid_of (nbR_ok HXo.out) (by rw [nbR_length, HXl.out, HNe.out]; have := Hn.out; omega)) (nbR_rnd X)).mono ?_
              rintro e w9 ⟨gd, rfl, hod, hg⟩
              rw [nbR_length, HXl.out, HNe.out] at hod ⊢
              have hit : itR (nbR X j) 0 = List.replicate j false := by unfold itR; rw [nbR_length, HXl.out, HNe.out]
              rw [hit] at hod
              have HG9 := hid (grown_trans HGr.out hg)
              obtain ⟨w10, hmk, how, hgr⟩ := run_make_full (P := Try.prog) w9 w9.heap.size 24 4 ib _ 1 Try.underlying24 Hib.out Hbz0.out Hbz1.out .i64 .i64 j (by rw [Hbz2.out]; have := Hn.out; omega) (by have := Hn.out; unfold maxLen; omega) (Nat.le_refl _)
              rw [show (Value.bool false).cells = Array.replicate 1 (.bool false) from rfl, toList_madeZero _ _ 1 (by omega), Array.toList_replicate, Nat.mul_one] at how
              have HBd : Hid (BlAt w10 (.slice (some ⟨gd, 0, none⟩) j j) (List.replicate j false)) := hid (by
                have := (CsAt.own hod).kept0 hgr
                unfold BlAt
                rw [List.length_replicate]
                exact this)
              have HBe : Hid (BlAt w10 (.slice (some ⟨w9.heap.size, 0, none⟩) j j) (List.replicate j false)) := hid (by
                have := CsAt.own how
                unfold BlAt
                rw [List.length_replicate, List.map_replicate]
                exact this)
              have HG10 := hid (grown_trans HG9.out hgr)
              clear hod hg hit how hgr HD HGr HG9
              go_wp2_with fail
              refine (sb_any HBd.out HBe.out (by rw [List.length_replicate]; have := Hn.out; omega) (by rw [List.length_replicate]; have := Hn.out; omega) true (by simp)).mono ?_
              rintro e w11 ⟨rfl, hg⟩
              have HG11 := hid (grown_trans HG10.out hg)
              clear hg
              go_wp2
              go_ret
              exact ⟨rfl, grown_below HG11.out⟩
end Go.Proofs.Ytmhkghkfpkekbaa

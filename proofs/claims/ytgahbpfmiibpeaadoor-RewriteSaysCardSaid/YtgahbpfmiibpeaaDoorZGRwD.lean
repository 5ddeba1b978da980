/- Package rewrite: the object that Do makes: an object of the function's own in a box, its relocations and symbols written. -/
import Derived.Test.YtgahbpfmiibpeaaDoorZRw2
import Derived.Test.YtgahbpfmiibpeaaDoorZOWr0
import Derived.Test.YtgahbpfmiibpeaaDoorZGRwA
import Derived.Test.YtgahbpfmiibpeaaDoorZGSay
import Derived.Test.YtgahbpfmiibpeaaDoorZObjH
namespace Go.Proofs.YtgahbpfmiibpeaaDoor
open Go.RowKit
theorem rw_q {x : PO} (hok : OkP x) {k : Nat} {r : Rl} (hr : x.Q[k]? = some r) : 0 ≤ r.a ∧ r.a < x.C.length := by
  have hi := (List.getElem?_eq_some_iff.1 hr).1
  have hcod := hok.cod k hi
  have hr2 : rlN x.Q k = r := by unfold rlN; rw [List.getD_eq_getElem?_getD, hr]; rfl
  unfold codeF at hcod
  split at hcod
  · cases hcod
  · rename_i hn
    have hin : inB x x.Q k x.C.length = true := by
      cases e2 : inB x x.Q k x.C.length
      · exact absurd (.inl e2) hn
      · rfl
    unfold inB at hin
    rw [hr2] at hin
    simp only [decide_eq_true_eq] at hin
    exact ⟨hin.2.1, hin.2.2.1⟩
theorem rw_s {x : PO} (hok : OkP x) {k : Nat} {s : Sy} (hs : x.S[k]? = some s) (h2 : s.i = 2) : 0 ≤ s.v ∧ s.v < x.C.length := by
  have hi := (List.getElem?_eq_some_iff.1 hs).1
  have hsym := hok.sym k hi
  have hs2 : symN x k = s := by unfold symN; rw [List.getD_eq_getElem?_getD, hs]; rfl
  unfold symF at hsym
  rw [hs2] at hsym
  split at hsym
  · cases hsym
  split at hsym
  · cases hsym
  split at hsym
  · rename_i hst
    unfold standsB at hst
    rw [if_neg (by omega), if_pos h2] at hst
    simp only [decide_eq_true_eq] at hst
    exact ⟨hst.1, hst.2.1⟩
  · cases hsym
/-- the first k changed, the others not yet -/
def mixL {α : Type} (f : α → α) (k : Nat) (l : List α) : List α := (l.take k).map f ++ l.drop k
theorem mix_zero {α : Type} (f : α → α) (l : List α) : mixL f 0 l = l := by simp [mixL]
theorem mix_all {α : Type} (f : α → α) (l : List α) : mixL f l.length l = l.map f := by simp [mixL]
theorem mix_length {α : Type} (f : α → α) (k : Nat) (l : List α) : (mixL f k l).length = l.length := by simp [mixL]; omega
theorem mix_get {α : Type} (f : α → α) {k : Nat} {l : List α} {r : α} (h : l[k]? = some r) : (mixL f k l)[k]? = some r := by
  have hk := (List.getElem?_eq_some_iff.1 h).1
  unfold mixL
  rw [List.getElem?_append_right (by simp; omega)]
  simp [Nat.min_eq_left (Nat.le_of_lt hk), h]
theorem mix_set {α : Type} (f : α → α) {k : Nat} {l : List α} {r : α} (h : l[k]? = some r) : (mixL f k l).set k (f r) = mixL f (k + 1) l := by
  have hk := (List.getElem?_eq_some_iff.1 h).1
  unfold mixL
  have e : k = ((l.take k).map f).length + 0 := by simp; omega
  have hd : l.drop k = r :: l.drop (k + 1) := by
    rw [List.drop_eq_getElem_cons hk]
    congr 1
    exact Option.some.inj ((List.getElem?_eq_getElem hk).symm.trans h)
  conv => lhs; arg 2; rw [e]
  rw [List.set_append_right _ _ (by omega), hd, List.take_add_one, h]
  simp
theorem mix_same {α : Type} (f : α → α) {k : Nat} {l : List α} {r : α} (h : l[k]? = some r) (hf : f r = r) : mixL f k l = mixL f (k + 1) l := by
  rw [← mix_set f h, hf]
  apply List.ext_getElem?
  intro i
  rw [List.getElem?_set]
  split
  · rename_i e
    subst e
    split
    · rw [mix_get f h]
    · rename_i hn
      exact absurd (by rw [mix_length]; exact (List.getElem?_eq_some_iff.1 h).1) hn
  · rfl
theorem rlsC_setA : ∀ {l : List Rl} {k : Nat} {r : Rl} (a : Int), l[k]? = some r → (rlsC l).set (k * 4) (.int .i64 a) = rlsC (l.set k ⟨a, r.k, r.s, r.d⟩)
  | [], _, _, _, h => by simp at h
  | y :: l, 0, r, a, h => by
    obtain rfl : y = r := by simpa using h
    simp [rlsC, rlC]
  | y :: l, k + 1, r, a, h => by
    rw [List.set_cons_succ, rlsC, rlsC, ← rlsC_setA (l := l) (k := k) a (by simpa using h)]
    have e : (k + 1) * 4 = (rlC y).length + k * 4 := by simp [rlC]; omega
    rw [e, List.set_append_right _ _ (by omega)]
    simp
theorem sysC_setV : ∀ {l : List Sy} {k : Nat} {s : Sy} (v : Int), l[k]? = some s → (sysC l).set (k * 4 + 2) (.int .i64 v) = sysC (l.set k ⟨s.n, s.i, v, s.g⟩)
  | [], _, _, _, h => by simp at h
  | y :: l, 0, r, a, h => by
    obtain rfl : y = r := by simpa using h
    simp [sysC, syC]
  | y :: l, k + 1, r, a, h => by
    rw [List.set_cons_succ, sysC, sysC, ← sysC_setV (l := l) (k := k) a (by simpa using h)]
    have e : (k + 1) * 4 + 2 = (syC y).length + (k * 4 + 2) := by simp [syC]; omega
    rw [e, List.set_append_right _ _ (by omega)]
    simp
section
variable {W w : World} {G1 : Nat} {V1 : OV} {x1 : PO}
/-- a cell of the relocations of code written -/
theorem OBx.setQ (h : OBx W w G1 [] V1 x1) {k : Nat} {r : Rl} (hr : x1.Q[k]? = some r) {g N cap : Nat} (hV : V1.q = .slice (some ⟨g, 0, none⟩) N cap) (a : Int) :
    OBx W (w.setCell ⟨g, k * 4, none⟩ (.int .i64 a)) G1 [] V1 { x1 with Q := x1.Q.set k ⟨a, r.k, r.s, r.d⟩ } := by
  obtain ⟨a01, a02, a03, a04, a05, a12, a13, a14, a15, a23, a24, a25, a34, a35, a45⟩ := pairs h.own.ap
  have hq : V1.q.ownBlock = some g := by rw [hV]; rfl
  have hgs : w.grownBy (w.setCell ⟨g, k * 4, none⟩ (.int .i64 a)) (some g) := grown_setCell (grown_refl _ _) _ _
  have hgB := (h.own.q.lt g hq).1
  have hgG : g ≠ G1 := by intro e; have := (h.ne V1.q (by simp)).1; rw [hq, e] at this; exact this rfl
  have kk : ∀ {u : Value}, Ap u V1.q → u.ownBlock = none ∨ u.ownBlock ≠ some g := fun h => by rw [← hq]; exact h
  refine ⟨h.below.grown hgs h.le (fun j hj => by obtain rfl := Option.some.inj hj; exact hgB), h.g1.kept hgs (by simpa using fun e => hgG e.symm), ⟨h.own.d.kept hgs (kk a04), h.own.c.kept hgs (kk a14), h.own.m.kept hgs (kk a24), h.own.r.kept hgs (kk a34), ?_, h.own.s.kept hgs (kk (ap_sym a45)), h.own.ap⟩, h.ge1, h.ne, fun T hT => by cases hT⟩
  have hN : N = x1.Q.length := by
    obtain ⟨p2, c2, e⟩ := own_slice h.own.q
    rw [hV] at e
    simp only [Value.slice.injEq] at e
    exact e.2.1
  subst hN
  have h0 := h.own.q
  rw [hV] at h0 ⊢
  have h1 := (h0.stored (k * 4) (.int .i64 a)).1
  rw [rlsC_setA a hr] at h1
  simpa using h1
theorem OBx.setV (h : OBx W w G1 [] V1 x1) {k : Nat} {s : Sy} (hs : x1.S[k]? = some s) {g N cap : Nat} (hV : V1.s = .slice (some ⟨g, 0, none⟩) N cap) (v : Int) :
    OBx W (w.setCell ⟨g, k * 4 + 2, none⟩ (.int .i64 v)) G1 [] V1 { x1 with S := x1.S.set k ⟨s.n, s.i, v, s.g⟩ } := by
  obtain ⟨a01, a02, a03, a04, a05, a12, a13, a14, a15, a23, a24, a25, a34, a35, a45⟩ := pairs h.own.ap
  have hq : V1.s.ownBlock = some g := by rw [hV]; rfl
  have hgs : w.grownBy (w.setCell ⟨g, k * 4 + 2, none⟩ (.int .i64 v)) (some g) := grown_setCell (grown_refl _ _) _ _
  have hgB := (h.own.s.lt g hq).1
  have hgG : g ≠ G1 := by intro e; have := (h.ne V1.s (by simp)).1; rw [hq, e] at this; exact this rfl
  have kk : ∀ {u : Value}, Ap u V1.s → u.ownBlock = none ∨ u.ownBlock ≠ some g := fun h => by rw [← hq]; exact h
  refine ⟨h.below.grown hgs h.le (fun j hj => by obtain rfl := Option.some.inj hj; exact hgB), h.g1.kept hgs (by simpa using fun e => hgG e.symm), ⟨h.own.d.kept hgs (kk a05), h.own.c.kept hgs (kk a15), h.own.m.kept hgs (kk a25), h.own.r.kept hgs (kk a35), h.own.q.kept hgs (kk a45), ?_, h.own.ap⟩, h.ge1, h.ne, fun T hT => by cases hT⟩
  have hN : N = x1.S.length := by
    obtain ⟨p2, c2, e⟩ := own_slice h.own.s
    rw [hV] at e
    simp only [Value.slice.injEq] at e
    exact e.2.1
  subst hN
  have h0 := h.own.s
  rw [hV] at h0 ⊢
  have h1 := (h0.stored (k * 4 + 2) (.int .i64 v)).1
  rw [sysC_setV v hs] at h1
  simpa using h1
end
/-- the copy in its box, its code and map written anew -/
theorem obx_made {w2 w3 w5 : World} {Q : Nat} {V : OV} {x : PO} {vc vm : Value} {lc lm : List Int} (h3 : OwnO w2.heap.size w3 V x) (g3 : w2.grownBy w3 none) (hQ : w3.heap.size = Q)
    (hT : TwoR (w3.alloc (.cells #[V.d, V.c, V.m, V.r, V.q, V.s] 27)) w5 vc lc vm lm) :
    OBx w2 ((w5.setCell ⟨Q, 1, none⟩ vc).setCell ⟨Q, 2, none⟩ vm) Q [] { V with c := vc, m := vm } { x with C := lc, M := lm } := by
  subst hQ
  obtain ⟨a01, a02, a03, a04, a05, a12, a13, a14, a15, a23, a24, a25, a34, a35, a45⟩ := pairs h3.ap
  have hsz : (w3.alloc (.cells #[V.d, V.c, V.m, V.r, V.q, V.s] 27)).heap.size = w3.heap.size + 1 := by simp
  have hle := g3.size
  have al := World.grownBy_alloc w3 (.cells #[V.d, V.c, V.m, V.r, V.q, V.s] 27) none
  have h5 := (h3.kept0 al).kept0 hT.g
  have b5 := (RwAt.new w3 27 #[V.d, V.c, V.m, V.r, V.q, V.s]).kept0 hT.g
  have b6 := (b5.set 1 vc).set 2 vm
  have hgs : w5.grownBy ((w5.setCell ⟨w3.heap.size, 1, none⟩ vc).setCell ⟨w3.heap.size, 2, none⟩ vm) (some w3.heap.size) := grown_setCell (grown_setCell (grown_refl _ _) _ _) _ _
  have old : ∀ {t : TypeId} {size n : Nat} {u : Value} {cs : List Value}, w3.ownsRow w2.heap.size t size u n cs → u.ownBlock ≠ some w3.heap.size := fun h e => by
    have := (h.lt _ e).2
    omega
  have newc : vc.ownBlock ≠ some w3.heap.size := fun e => by have := (hT.c.lt _ e).1; omega
  have newm : vm.ownBlock ≠ some w3.heap.size := fun e => by have := (hT.m.lt _ e).1; omega
  have kc : ∀ {t : TypeId} {size n : Nat} {u : Value} {cs : List Value}, w3.ownsRow w2.heap.size t size u n cs → Ap u vc := fun h => own_apart h hT.c (by omega)
  have km : ∀ {t : TypeId} {size n : Nat} {u : Value} {cs : List Value}, w3.ownsRow w2.heap.size t size u n cs → Ap u vm := fun h => own_apart h hT.m (by omega)
  refine ⟨(grown_below (grown_trans g3 (grown_trans al hT.g))).grown hgs (grown_trans g3 (grown_trans al hT.g)).size (fun j hj => by obtain rfl := Option.some.inj hj; exact hle), ⟨?_⟩, ⟨h5.d.kept hgs (.inr (old h3.d)), (own_base hT.c (by omega)).kept hgs (.inr newc), (own_base hT.m (by omega)).kept hgs (.inr newm), h5.r.kept hgs (.inr (old h3.r)), h5.q.kept hgs (.inr (old h3.q)), h5.s.kept hgs (.inr (old h3.s)), ?_⟩, hle, ?_, fun T hT => by cases hT⟩
  · rw [b6.blk]; rfl
  · exact unpairs (kc h3.d) (km h3.d) a03 a04 a05 hT.ap (ap_sym (kc h3.r)) (ap_sym (kc h3.q)) (ap_sym (kc h3.s)) (ap_sym (km h3.r)) (ap_sym (km h3.q)) (ap_sym (km h3.s)) a34 a35 a45
  · intro u hu
    refine ⟨?_, fun T hT => by cases hT⟩
    simp only [List.mem_cons, List.not_mem_nil, or_false] at hu
    rcases hu with rfl | rfl | rfl | rfl | rfl | rfl
    · exact old h3.d
    · exact newc
    · exact newm
    · exact old h3.r
    · exact old h3.q
    · exact old h3.s
end Go.Proofs.YtgahbpfmiibpeaaDoor
/- Package rewrite: Do where the object is right: contracts. (Made by gorw4.py.) -/
namespace Go.Proofs.YtgahbpfmiibpeaaDoor
open Go.RowKit
theorem own1w {w : World} {B n size : Nat} {t : TypeId} {v : Value} {cs : List Value} (h : w.ownsRow B t size v n cs) : v.oneCell' = true := by
  obtain ⟨p, c, rfl⟩ := own_slice h; rfl
theorem slat_len {w : World} {B n : Nat} {t : TypeId} {v : Value} {k : IntKind} {l : List Int} (h : w.ownsRow B t 1 v n (l.map (Value.int k))) (hl : l.length = n) : SlAt w k v l := by
  subst hl; exact SlAt.own h
theorem own_at0 {w : World} {B size n : Nat} {t : TypeId} {v : Value} {cs : List Value} (h : w.ownsRow B t size v n cs) (hn : 0 < n) : ∃ g c, v = .slice (some ⟨g, 0, none⟩) n c := by
  rcases h.2 with ⟨rfl, h0⟩ | ⟨g, cap, cur, rfl, _⟩
  · omega
  · exact ⟨_, _, rfl⟩
theorem CsAt.cell0 {w : World} {n : Nat} {cs : List Value} {g c : Nat} (h : CsAt w (.slice (some ⟨g, 0, none⟩) n c) n cs) : ∀ j u, cs[j]? = some u → w.cell? ⟨g, j, none⟩ = some u := by
  rcases h with ⟨_, _, rfl⟩ | ⟨b, o, c2, hv, _, _, hc⟩
  · intro j u h; simp at h
  · simp only [Value.slice.injEq, Option.some.injEq, Addr.mk.injEq, and_true] at hv
    obtain ⟨⟨rfl, rfl⟩, _, _⟩ := hv
    intro j u h
    have := hc j u h
    rwa [Nat.zero_add] at this
theorem zero_rlw (w : World) : (zeroValue 79).run Tryd.prog w = .ok (.agg #[.int .i64 0, .int .i64 0, .int .i64 0, .int .i64 0]) w := by kernel_rfl
theorem zero_syw (w : World) : (zeroValue 72).run Tryd.prog w = .ok (.agg #[.string ⟨#[]⟩, .int .i64 0, .int .i64 0, .bool false]) w := by kernel_rfl
set_option maxRecDepth 100000 in
set_option maxHeartbeats 4000000 in
theorem do_many {W : World} {A : Nat → Addr} {V : OV} {x : PO} (h : OAt W V x) (he : ErrC W A) (hf : OFit x) (hv : validP x = none) (hm : 2048 < plN x x.C.length) :
    Calls Tryd.prog 8 #[V.agg] W fun e w' => e = .returned (.tuple #[zeroO, .slice none 0 0, errV (A 3)]) ∧ W.grownBy w' none := by
  have hok := valid_ok hv
  have hmany := many_of hok
  obtain ⟨d, c, m, r, q, s⟩ := V
  obtain ⟨cp, cc, hcv⟩ := h.c.len'
  simp only at hcv
  obtain ⟨n, hne⟩ : ∃ n, x.C.length = n := ⟨_, rfl⟩
  have Hne := hid hne
  rw [hne] at hcv hm
  subst hcv
  have hmn := hmany.2.1
  rw [hne] at hmn
  have n0 : (0 : Int) ≤ (n : Int) := by omega
  have n1 : (n : Int) ≤ 2048 := by omega
  have Hmany := hid hmany
  have Hok := hid hok
  have Hz := zero_obj
  have HB0 := hid ((RwAt.new W 27 #[d, .slice cp n cc, m, r, q, s]).alloc (.cells #[.slice none 0 0, .slice none 0 0, .slice none 0 0, .slice none 0 0, .slice none 0 0, .slice none 0 0] 27))
  have HR0 := hid (RwAt.new2 W (.cells #[d, .slice cp n cc, m, r, q, s] 27) 27 #[.slice none 0 0, .slice none 0 0, .slice none 0 0, .slice none 0 0, .slice none 0 0, .slice none 0 0])
  have HG0 := hid (grown_trans (World.grownBy_alloc W (.cells #[d, .slice cp n cc, m, r, q, s] 27) none) (World.grownBy_alloc _ (.cells #[.slice none 0 0, .slice none 0 0, .slice none 0 0, .slice none 0 0, .slice none 0 0, .slice none 0 0] 27) none))
  have HO := hid h
  have HE := hid he
  have HF := hid hf
  have HV := hid hv
  have Hm := hid hm
  clear h he hf hv hok hne hmany hmn hm
  go_enter Tryd.func8, Tryd.ntmps8
  go_upto_region 1 with (fail)
  obtain ⟨R, hR⟩ : ∃ R, W.heap.size + 1 = R := ⟨_, rfl⟩
  have HRb : Hid (W.heap.size ≤ R) := hid (by omega)
  obtain ⟨G, hG⟩ : ∃ G, W.heap.size = G := ⟨_, rfl⟩
  rw [hR] at HR0
  rw [hG] at HB0
  generalize (W.alloc (.cells #[d, .slice cp n cc, m, r, q, s] 27)).alloc (.cells #[.slice none 0 0, .slice none 0 0, .slice none 0 0, .slice none 0 0, .slice none 0 0, .slice none 0 0] 27) = w1 at HB0 HR0 HG0 ⊢
  try rw [hR]
  try rw [hG]
  clear hR hG Hz
  go_wp2_with (first
    | (refine wpList_load_rw rfl 27 _ rfl rfl HB0.out rfl Tryd.underlying27 info_object ?_)
    | fail)
  refine (places_yes (V := ⟨d, .slice cp n cc, m, r, q, s⟩) (HO.out.kept0 HG0.out) (HE.out.kept0 HG0.out) HF.out HV.out).mono ?_
  rintro e w2 ⟨v, rfl, hown, hg⟩
  rw [Hne.out] at hown
  have HPv := hid hown
  obtain ⟨b, o, c', rfl, -, hb, hc⟩ := (CsAt.own hown).at_ (by omega)
  obtain ⟨Pn, hPn⟩ : ∃ Pn, plN x n = Pn := ⟨_, rfl⟩
  have HPn := hid hPn
  have HB2 := hid (HB0.out.kept0 hg)
  have HR2 := hid (HR0.out.kept0 hg)
  have HG2 := hid (grown_trans HG0.out hg)
  have Hcp : Hid (∀ k, k < n + 1 → w2.cell? ⟨b, o + k, none⟩ = some (.int .i64 (plN x k : Int))) := hid (fun k hk => hc k _ (by rw [List.getElem?_map, plL_get x hk]; rfl))
  have Hbp := hid hb
  have ep : w2.cell? ⟨b, o + n, none⟩ = some (.int .i64 (Pn : Int)) := by rw [← hPn]; exact Hcp.out n (by omega)
  have e1 := HB2.out.cell 1 (v := .slice cp n cc) rfl
  have nn : (n : Int) < ((n + 1 : Nat) : Int) := by omega
  have nn2 : (n : Int) < (n : Int) + 1 := by omega
  have q0 : (0 : Int) ≤ (Pn : Int) := by omega
  have q1 : (Pn : Int) ≤ 4096 := by have := (pl_le x n).2; omega
  have HW1 : Hid (W.heap.size ≤ w1.heap.size ∧ R < w1.heap.size) := hid ⟨HG0.out.size, HR0.out.lt⟩
  have q2 : (Pn : Int) > 2048 := by have := Hm.out; omega
  have q3 : (2048 : Int) < (Pn : Int) := by have := Hm.out; omega
  clear hown hg hb hc HB0 HR0 HG0 hPn
  have hb := build_obj0
  go_upto_region 5 with (fail)
  clear ep e1
  have c3 := (HE.out.kept0 HG2.out).c3
  have hne : 0 ≠ R := by
    have h1 := World.block_lt_of_cell? W _ HE.out.c3
    have h2 := HRb.out
    simp only at h1
    omega
  have c4 : ((((((w2.setCell ⟨R, 0, none⟩ (.slice none 0 0)).setCell ⟨R, 1, none⟩ (.slice none 0 0)).setCell ⟨R, 2, none⟩ (.slice none 0 0)).setCell ⟨R, 3, none⟩ (.slice none 0 0)).setCell ⟨R, 4, none⟩ (.slice none 0 0)).setCell ⟨R, 5, none⟩ (.slice none 0 0)).cell? ⟨0, 0, none⟩ = some (errV (A 3)) := set6_other hne c3
  have HF6 : RwAt ((((((w2.setCell ⟨R, 0, none⟩ (.slice none 0 0)).setCell ⟨R, 1, none⟩ (.slice none 0 0)).setCell ⟨R, 2, none⟩ (.slice none 0 0)).setCell ⟨R, 3, none⟩ (.slice none 0 0)).setCell ⟨R, 4, none⟩ (.slice none 0 0)).setCell ⟨R, 5, none⟩ (.slice none 0 0)) R 27 #[.slice none 0 0, .slice none 0 0, .slice none 0 0, .slice none 0 0, .slice none 0 0, .slice none 0 0] := by simpa using ((((((HR2.out.set 0 (.slice none 0 0)).set 1 (.slice none 0 0)).set 2 (.slice none 0 0)).set 3 (.slice none 0 0)).set 4 (.slice none 0 0)).set 5 (.slice none 0 0))
  have HGr : w2.grownBy ((((((w2.setCell ⟨R, 0, none⟩ (.slice none 0 0)).setCell ⟨R, 1, none⟩ (.slice none 0 0)).setCell ⟨R, 2, none⟩ (.slice none 0 0)).setCell ⟨R, 3, none⟩ (.slice none 0 0)).setCell ⟨R, 4, none⟩ (.slice none 0 0)).setCell ⟨R, 5, none⟩ (.slice none 0 0)) (some R) := grown_setCell (grown_setCell (grown_setCell (grown_setCell (grown_setCell (grown_setCell (grown_refl w2 _) _ _) _ _) _ _) _ _) _ _) _ _
  have y0 := HR2.out.cell 0 (v := .slice none 0 0) rfl
  have y1 := HR2.out.cell 1 (v := .slice none 0 0) rfl
  have y2 := HR2.out.cell 2 (v := .slice none 0 0) rfl
  have y3 := HR2.out.cell 3 (v := .slice none 0 0) rfl
  have y4 := HR2.out.cell 4 (v := .slice none 0 0) rfl
  have y5 := HR2.out.cell 5 (v := .slice none 0 0) rfl
  have yf := fun j => HR2.out.free j
  have EG := hid (grown_trans (grown_new' (grown_trans (grown_none HG2.out) HGr) (fun j hj => by obtain rfl := Option.some.inj hj; exact HRb.out)) (grown_drew (grown_refl ((((((w2.setCell ⟨R, 0, none⟩ (.slice none 0 0)).setCell ⟨R, 1, none⟩ (.slice none 0 0)).setCell ⟨R, 2, none⟩ (.slice none 0 0)).setCell ⟨R, 3, none⟩ (.slice none 0 0)).setCell ⟨R, 4, none⟩ (.slice none 0 0)).setCell ⟨R, 5, none⟩ (.slice none 0 0)) none)))
  have z0 := HF6.cell 0 (v := .slice none 0 0) rfl
  have z1 := HF6.cell 1 (v := .slice none 0 0) rfl
  have z2 := HF6.cell 2 (v := .slice none 0 0) rfl
  have z3 := HF6.cell 3 (v := .slice none 0 0) rfl
  have z4 := HF6.cell 4 (v := .slice none 0 0) rfl
  have z5 := HF6.cell 5 (v := .slice none 0 0) rfl
  clear HF6 HGr hne
  go_region
  all_goals
    go_wp2
    refine bodyPost_ret (v := .tuple #[zeroO, .slice none 0 0, errV (A 3)]) (by simp [results, zeroO, Tryd.results8, z0, z1, z2, z3, z4, z5, go_sem]) rfl ?_
    exact ⟨rfl, EG.out⟩
/-- behind Do -/
def DoAt (W : World) (x : PO) (e : Ending) (w' : World) : Prop := ∃ V' v, e = .returned (.tuple #[V'.agg, v, .nilIface]) ∧ OwnO W.heap.size w' V' (rwO x) ∧ w'.ownsRow W.heap.size 3 1 v (x.C.length + 1) ((plL x (x.C.length + 1)).map (Value.int .i64)) ∧ W.grownBy w' none
set_option maxRecDepth 100000 in
set_option maxHeartbeats 16000000 in
theorem do_yes {W : World} {A : Nat → Addr} {V : OV} {x : PO} (h : OAt W V x) (he : ErrC W A) (hf : OFit x) (hv : validP x = none) (hm : plN x x.C.length ≤ 2048) :
    Calls Tryd.prog 8 #[V.agg] W (DoAt W x) := by
  have hok := valid_ok hv
  have hmany := many_of hok
  obtain ⟨d, c, m, r, q, s⟩ := V
  obtain ⟨cp, cc, hcv⟩ := h.c.len'
  simp only at hcv
  obtain ⟨n, hne⟩ : ∃ n, x.C.length = n := ⟨_, rfl⟩
  have Hne := hid hne
  rw [hne] at hcv hm
  subst hcv
  have hmn := hmany.2.1
  rw [hne] at hmn
  have n0 : (0 : Int) ≤ (n : Int) := by omega
  have n1 : (n : Int) ≤ 2048 := by omega
  have Hmany := hid hmany
  have Hok := hid hok
  have Hz := zero_obj
  have HB0 := hid ((RwAt.new W 27 #[d, .slice cp n cc, m, r, q, s]).alloc (.cells #[.slice none 0 0, .slice none 0 0, .slice none 0 0, .slice none 0 0, .slice none 0 0, .slice none 0 0] 27))
  have HR0 := hid (RwAt.new2 W (.cells #[d, .slice cp n cc, m, r, q, s] 27) 27 #[.slice none 0 0, .slice none 0 0, .slice none 0 0, .slice none 0 0, .slice none 0 0, .slice none 0 0])
  have HG0 := hid (grown_trans (World.grownBy_alloc W (.cells #[d, .slice cp n cc, m, r, q, s] 27) none) (World.grownBy_alloc _ (.cells #[.slice none 0 0, .slice none 0 0, .slice none 0 0, .slice none 0 0, .slice none 0 0, .slice none 0 0] 27) none))
  have HO := hid h
  have HE := hid he
  have HF := hid hf
  have HV := hid hv
  have Hm := hid hm
  clear h he hf hv hok hne hmany hmn hm
  go_enter Tryd.func8, Tryd.ntmps8
  go_upto_region 1 with (fail)
  obtain ⟨R, hR⟩ : ∃ R, W.heap.size + 1 = R := ⟨_, rfl⟩
  have HRb : Hid (W.heap.size ≤ R) := hid (by omega)
  obtain ⟨G, hG⟩ : ∃ G, W.heap.size = G := ⟨_, rfl⟩
  rw [hR] at HR0
  rw [hG] at HB0
  generalize (W.alloc (.cells #[d, .slice cp n cc, m, r, q, s] 27)).alloc (.cells #[.slice none 0 0, .slice none 0 0, .slice none 0 0, .slice none 0 0, .slice none 0 0, .slice none 0 0] 27) = w1 at HB0 HR0 HG0 ⊢
  try rw [hR]
  try rw [hG]
  clear hR hG Hz
  go_wp2_with (first
    | (refine wpList_load_rw rfl 27 _ rfl rfl HB0.out rfl Tryd.underlying27 info_object ?_)
    | fail)
  refine (places_yes (V := ⟨d, .slice cp n cc, m, r, q, s⟩) (HO.out.kept0 HG0.out) (HE.out.kept0 HG0.out) HF.out HV.out).mono ?_
  rintro e w2 ⟨v, rfl, hown, hg⟩
  rw [Hne.out] at hown
  have HPv := hid hown
  obtain ⟨b, o, c', rfl, -, hb, hc⟩ := (CsAt.own hown).at_ (by omega)
  obtain ⟨Pn, hPn⟩ : ∃ Pn, plN x n = Pn := ⟨_, rfl⟩
  have HPn := hid hPn
  have HB2 := hid (HB0.out.kept0 hg)
  have HR2 := hid (HR0.out.kept0 hg)
  have HG2 := hid (grown_trans HG0.out hg)
  have Hcp : Hid (∀ k, k < n + 1 → w2.cell? ⟨b, o + k, none⟩ = some (.int .i64 (plN x k : Int))) := hid (fun k hk => hc k _ (by rw [List.getElem?_map, plL_get x hk]; rfl))
  have Hbp := hid hb
  have ep : w2.cell? ⟨b, o + n, none⟩ = some (.int .i64 (Pn : Int)) := by rw [← hPn]; exact Hcp.out n (by omega)
  have e1 := HB2.out.cell 1 (v := .slice cp n cc) rfl
  have nn : (n : Int) < ((n + 1 : Nat) : Int) := by omega
  have nn2 : (n : Int) < (n : Int) + 1 := by omega
  have q0 : (0 : Int) ≤ (Pn : Int) := by omega
  have q1 : (Pn : Int) ≤ 4096 := by have := (pl_le x n).2; omega
  have HW1 : Hid (W.heap.size ≤ w1.heap.size ∧ R < w1.heap.size) := hid ⟨HG0.out.size, HR0.out.lt⟩
  have q2 : decide ((2048 : Int) < (Pn : Int)) = false := by have := Hm.out; simp only [decide_eq_false_iff_not]; omega
  have q3 : Pn ≤ 2048 := by have := Hm.out; omega
  have q4 : ¬ 2048 < Pn := by omega
  clear hown hg hb hc HB0 HR0 HG0 hPn
  go_wp2_with (first
    | (refine wpList_load_rw rfl 27 _ rfl rfl HB2.out rfl Tryd.underlying27 info_object ?_)
    | fail)
  refine (oclone_any (V := ⟨d, .slice cp n cc, m, r, q, s⟩) (HO.out.kept0 HG2.out) ⟨by have := Hmany.out; omega, by have := Hmany.out; omega, by have := Hmany.out; have := Hok.out.len; omega, by have := Hmany.out; omega, by have := Hmany.out; omega, by have := Hmany.out; omega⟩).mono ?_
  rintro e w3 ⟨⟨d1, c1, m1, r1, q1', s1⟩, rfl, ho3, hg⟩
  have HO3 := hid ho3
  have HG3 := hid hg
  have hall : (#[d1, c1, m1, r1, q1', s1] : Array Value).all (·.oneCell') = true := by
    have h1 := own1w ho3.d
    have h2 := own1w ho3.c
    have h3 := own1w ho3.m
    have h4 := own1w ho3.r
    have h5 := own1w ho3.q
    have h6 := own1w ho3.s
    simp_all
  have HBq := hid (RwAt.new w3 27 #[d1, c1, m1, r1, q1', s1])
  have HBg := hid ((HB2.out.kept0 hg).kept0 (World.grownBy_alloc w3 (.cells #[d1, c1, m1, r1, q1', s1] 27) none))
  clear ho3 hg e1 ep
  have Hz := zero_obj
  go_upto_region 7 with (first
    | (refine wpList_store_rw rfl 27 _ _ rfl rfl rfl (RwAt.new w3 _ _) info_object rfl hall ?_; rw [World.setRow_alloc_new])
    | fail)
  clear Hz hall
  obtain ⟨w4, hw4⟩ : ∃ w4, w3.alloc (.cells #[d1, c1, m1, r1, q1', s1] 27) = w4 := ⟨_, rfl⟩
  obtain ⟨Q, hQ⟩ : ∃ Q, w3.heap.size = Q := ⟨_, rfl⟩
  have HQ := hid hQ
  have Hw4 := hid hw4
  have HG4 : Hid (w2.grownBy w4 none) := hid (by rw [← hw4]; exact grown_trans HG3.out (World.grownBy_alloc _ _ none))
  rw [hw4, hQ] at HBq
  rw [hw4] at HBg
  rw [hw4, hQ]
  clear hw4 hQ
  go_wp2_with (first
    | (refine wpList_load_rw rfl 27 _ rfl rfl HBg.out rfl Tryd.underlying27 info_object ?_)
    | fail)
  refine (rewritten_any (V := ⟨d, .slice cp n cc, m, r, q, s⟩) ((HO.out.kept0 HG2.out).kept0 HG4.out) Hok.out HF.out (by
    have := (slat_len HPv.out (plL_length x (n + 1))).kept0 HG4.out
    rw [Hne.out]
    exact this)).mono ?_
  rintro e w5 ⟨vc, vm, rfl, ht⟩
  rw [Hne.out] at ht
  obtain ⟨vcp, vcc, hvc⟩ := own_slice ht.c
  obtain ⟨vmp, vmc, hvm⟩ := own_slice ht.m
  rw [rwC_length] at hvc
  rw [rwM_length] at hvm
  subst hvc; subst hvm
  have HMd : Hid (OBx w2 ((w5.setCell ⟨Q, 1, none⟩ (.slice vcp (plN x n) vcc)).setCell ⟨Q, 2, none⟩ (.slice vmp (plN x n) vmc)) Q [] ⟨d1, (.slice vcp (plN x n) vcc), (.slice vmp (plN x n) vmc), r1, q1', s1⟩ ⟨x.D, rwC x n, rwM x n, x.R, x.Q, x.S⟩) := hid (obx_made (V := ⟨d1, c1, m1, r1, q1', s1⟩) HO3.out HG3.out HQ.out (by rw [Hw4.out]; exact ht))
  have hb5 := HBq.out.kept0 ht.g
  have k1 := hb5.cell 1 (v := c1) rfl
  have k2 := hb5.cell 2 (v := m1) rfl
  have kf := fun j => hb5.free j
  clear ht hb5
  go_upto_region 8 with (fail)
  clear k1 k2 kf
  generalize (w5.setCell ⟨Q, 1, none⟩ (.slice vcp (plN x n) vcc)).setCell ⟨Q, 2, none⟩ (.slice vmp (plN x n) vmc) = w6 at HMd ⊢
  -- the relocations of code
  obtain ⟨N, hN⟩ : ∃ N, x.Q.length = N := ⟨_, rfl⟩
  have HN := hid hN
  obtain ⟨qp, qc, hqv⟩ := own_slice HMd.out.own.q
  simp only at hqv
  rw [hN] at hqv
  subst hqv
  have e4 := HMd.out.g1.cell 4 (v := .slice qp N qc) rfl
  have N1 : (N : Int) ≤ 1024 := by have := Hmany.out.2.2.2.1; omega
  have N0 : (0 : Int) ≤ (N : Int) := by omega
  clear hN
  have H0 : Hid (OBx w2 w6 Q [] ⟨d1, (.slice vcp (plN x n) vcc), (.slice vmp (plN x n) vmc), r1, .slice qp N qc, s1⟩ ⟨x.D, rwC x n, rwM x n, x.R, mixL (rwR x) 0 x.Q, x.S⟩) := hid (by rw [mix_zero]; exact HMd.out)
  clear HMd
  go_wp2
  clear e4
  go_loopw [43] (fun i wr => ∃ k : Nat, k ≤ N ∧ i = .int .i64 k ∧ Hid (OBx w2 wr Q [] ⟨d1, (.slice vcp (plN x n) vcc), (.slice vmp (plN x n) vmc), r1, .slice qp N qc, s1⟩ ⟨x.D, rwC x n, rwM x n, x.R, mixL (rwR x) k x.Q, x.S⟩)) (fun i _ => N - (intOf i).toNat)
  case atStart => exact ⟨0, Nat.zero_le _, rfl, H0⟩
  case round =>
    obtain ⟨k, hk, rfl, HR⟩ := hrel
    have k0 : (0 : Int) ≤ (k : Int) := by omega
    by_cases hlt : k < N
    · have kn : (k : Int) < (N : Int) := by omega
      have Hlt := hid hlt
      obtain ⟨rr, hy⟩ : ∃ y, x.Q[k]? = some y := ⟨_, List.getElem?_eq_getElem (by rw [HN.out]; exact hlt)⟩
      have hmx := mix_get (rwR x) hy
      have hms := mix_set (rwR x) hy
      obtain ⟨ra0, ra1⟩ := rw_q Hok.out hy
      obtain ⟨ya, yk, ys, yd⟩ := rr
      simp only at ra0 ra1
      obtain ⟨a, rfl⟩ := Int.eq_ofNat_of_zero_le ra0
      rw [Hne.out] at ra1
      obtain ⟨B, hB⟩ : ∃ B, plN x a = B := ⟨_, rfl⟩
      have hrw : rwR x ⟨(a : Int), yk, ys, yd⟩ = ⟨(B : Int), yk, ys, yd⟩ := by rw [← hB]; simp [rwR]
      rw [hrw] at hms
      have hown := HR.out.own.q
      simp only [mix_length, HN.out] at hown
      obtain ⟨bq, c', hvq⟩ := own_at0 hown (by omega)
      simp only [Value.slice.injEq, true_and] at hvq
      obtain ⟨rfl, rfl⟩ := hvq
      have hcq := (CsAt.own hown).cell0
      have c0 : wr.cell? ⟨bq, k * 4, none⟩ = some (.int .i64 (a : Int)) := hcq (k * 4 + 0) _ (by rw [rlsC_get _ k 0 _ hmx (by decide)]; rfl)
      have c1 : wr.cell? ⟨bq, k * 4 + 1, none⟩ = some (.int .i64 yk) := hcq (k * 4 + 1) _ (by rw [rlsC_get _ k 1 _ hmx (by decide)]; rfl)
      have c2 : wr.cell? ⟨bq, k * 4 + 2, none⟩ = some (.int .i64 ys) := hcq (k * 4 + 2) _ (by rw [rlsC_get _ k 2 _ hmx (by decide)]; rfl)
      have c3 : wr.cell? ⟨bq, k * 4 + 3, none⟩ = some (.int .i64 yd) := hcq (k * 4 + 3) _ (by rw [rlsC_get _ k 3 _ hmx (by decide)]; rfl)
      have al := World.grownBy_alloc wr (.cells #[.int .i64 (a : Int), .int .i64 yk, .int .i64 ys, .int .i64 yd] 79) none
      have HR2 := hid (HR.out.kept0 al)
      have HX := hid (RwAt.new wr 79 #[.int .i64 (a : Int), .int .i64 yk, .int .i64 ys, .int .i64 yd])
      have Hmx := hid hmx
      have Hms := hid hms
      have a0 : (0 : Int) ≤ (a : Int) := by omega
      have a1 : (a : Int) < (n : Int) + 1 := by omega
      have an : a < n + 1 := by omega
      have HB := hid hB
      have Han := hid an
      clear al hcq hown hmx hms hrw hy hB ra0 ra1 HR hlt an
      have Hzr := zero_rlw
      go_upto_region 11 with (fail)
      clear c0 c1 c2 c3 Hzr
      obtain ⟨X, hX⟩ : ∃ X, wr.heap.size = X := ⟨_, rfl⟩
      rw [hX] at HX ⊢
      clear hX
      generalize wr.alloc (.cells #[.int .i64 (a : Int), .int .i64 yk, .int .i64 ys, .int .i64 yd] 79) = w7 at HR2 HX ⊢
      have e4 := HR2.out.g1.cell 4 (v := .slice (some ⟨bq, 0, none⟩) N qc) rfl
      have x0 := HX.out.cell 0 (v := .int .i64 (a : Int)) rfl
      have pa : w7.cell? ⟨b, o + a, none⟩ = some (.int .i64 (B : Int)) := by rw [← HB.out]; exact (grown_cell HR2.out.base_le Hbp.out (by simp)).trans (Hcp.out a Han.out)
      have hown := HR2.out.own.q
      simp only [mix_length, HN.out] at hown
      have t0 : w7.cell? ⟨bq, k * 4, none⟩ = some (.int .i64 (a : Int)) := (CsAt.own hown).cell0 (k * 4 + 0) _ (by rw [rlsC_get _ k 0 _ Hmx.out (by decide)]; rfl)
      have tf := hown.frozenAt (k * 4)
      have HR3 := hid (HR2.out.setQ Hmx.out rfl (B : Int))
      simp only [Hms.out] at HR3
      clear hown HX HR2
      go_region
      all_goals
        go_wp2
        go_roundw
        case rel => exact ⟨k + 1, Hlt.out, by go_num, hid (HR3.out.kept0 (grown_drew (grown_refl _ none)))⟩
        case measure => simp [intOf]; have := Hlt.out; omega
    · obtain rfl : k = N := by omega
      have kn : ¬ ((k : Int) < (k : Int)) := by omega
      clear hlt
      have hmm : mixL (rwR x) k x.Q = x.Q.map (rwR x) := by rw [← HN.out]; exact mix_all _ _
      have HM1 := HR.out
      rw [hmm] at HM1
      clear hmm
      have HM2 := hid HM1
      clear HM1 HR H0
      obtain ⟨S, hS⟩ : ∃ S, x.S.length = S := ⟨_, rfl⟩
      have HS := hid hS
      obtain ⟨sp, sc, hsv⟩ := own_slice HM2.out.own.s
      simp only at hsv
      rw [hS] at hsv
      subst hsv
      have e5 := HM2.out.g1.cell 5 (v := .slice sp S sc) rfl
      have S1 : (S : Int) ≤ 256 := by have := Hmany.out.2.2.2.2; omega
      have S0 : (0 : Int) ≤ (S : Int) := by omega
      clear hS
      have H0 : Hid (OBx w2 wr Q [] ⟨d1, .slice vcp (plN x n) vcc, .slice vmp (plN x n) vmc, r1, .slice qp k qc, .slice sp S sc⟩ ⟨x.D, rwC x n, rwM x n, x.R, x.Q.map (rwR x), mixL (rwS x) 0 x.S⟩) := hid (by rw [mix_zero]; exact HM2.out)
      clear HM2
      go_wp2
      clear e5
      go_loopw [62] (fun i wr => ∃ k2 : Nat, k2 ≤ S ∧ i = .int .i64 k2 ∧ Hid (OBx w2 wr Q [] ⟨d1, .slice vcp (plN x n) vcc, .slice vmp (plN x n) vmc, r1, .slice qp k qc, .slice sp S sc⟩ ⟨x.D, rwC x n, rwM x n, x.R, x.Q.map (rwR x), mixL (rwS x) k2 x.S⟩)) (fun i _ => S - (intOf i).toNat)
      case atStart => exact ⟨0, Nat.zero_le _, rfl, H0⟩
      case round =>
        obtain ⟨k2, hk2, rfl, HR⟩ := hrel
        have k20 : (0 : Int) ≤ (k2 : Int) := by omega
        by_cases hlt : k2 < S
        · have kn2 : (k2 : Int) < (S : Int) := by omega
          have Hlt := hid hlt
          obtain ⟨rr, hy⟩ : ∃ y, x.S[k2]? = some y := ⟨_, List.getElem?_eq_getElem (by rw [HS.out]; exact hlt)⟩
          have hmx := mix_get (rwS x) hy
          have Hy := hid hy
          obtain ⟨yn, yi, yv, yg⟩ := rr
          have hown := HR.out.own.s
          simp only [mix_length, HS.out] at hown
          obtain ⟨bq, c', hvq⟩ := own_at0 hown (by omega)
          simp only [Value.slice.injEq, true_and] at hvq
          obtain ⟨rfl, rfl⟩ := hvq
          have hcq := (CsAt.own hown).cell0
          have c0 : wr.cell? ⟨bq, k2 * 4, none⟩ = some (.string yn) := hcq (k2 * 4 + 0) _ (by rw [sysC_get _ k2 0 _ hmx (by decide)]; rfl)
          have c1 : wr.cell? ⟨bq, k2 * 4 + 1, none⟩ = some (.int .i64 yi) := hcq (k2 * 4 + 1) _ (by rw [sysC_get _ k2 1 _ hmx (by decide)]; rfl)
          have c2 : wr.cell? ⟨bq, k2 * 4 + 2, none⟩ = some (.int .i64 yv) := hcq (k2 * 4 + 2) _ (by rw [sysC_get _ k2 2 _ hmx (by decide)]; rfl)
          have c3 : wr.cell? ⟨bq, k2 * 4 + 3, none⟩ = some (.bool yg) := hcq (k2 * 4 + 3) _ (by rw [sysC_get _ k2 3 _ hmx (by decide)]; rfl)
          have al := World.grownBy_alloc wr (.cells #[.string yn, .int .i64 yi, .int .i64 yv, .bool yg] 72) none
          have HR2 := hid (HR.out.kept0 al)
          have HX := hid (RwAt.new wr 72 #[.string yn, .int .i64 yi, .int .i64 yv, .bool yg])
          have Hmx := hid hmx
          clear al hcq hown hmx hy HR hlt
          have Hzr := zero_syw
          go_upto_region 16 with (fail)
          clear c0 c1 c2 c3 Hzr
          obtain ⟨X, hX⟩ : ∃ X, wr.heap.size = X := ⟨_, rfl⟩
          rw [hX] at HX ⊢
          clear hX
          generalize wr.alloc (.cells #[.string yn, .int .i64 yi, .int .i64 yv, .bool yg] 72) = w7 at HR2 HX ⊢
          have x1 := HX.out.cell 1 (v := .int .i64 yi) rfl
          by_cases h2 : yi = 2
          · subst h2
            obtain ⟨ra0, ra1⟩ := rw_s Hok.out Hy.out rfl
            simp only at ra0 ra1
            obtain ⟨a, rfl⟩ := Int.eq_ofNat_of_zero_le ra0
            rw [Hne.out] at ra1
            obtain ⟨B, hB⟩ : ∃ B, plN x a = B := ⟨_, rfl⟩
            have hms := mix_set (rwS x) Hy.out
            have hrw : rwS x ⟨yn, 2, (a : Int), yg⟩ = ⟨yn, 2, (B : Int), yg⟩ := by rw [← hB]; simp [rwS]
            rw [hrw] at hms
            have Hms := hid hms
            have a0 : (0 : Int) ≤ (a : Int) := by omega
            have a1 : (a : Int) < (n : Int) + 1 := by omega
            have an : a < n + 1 := by omega
            have HB := hid hB
            have Han := hid an
            have e5 := HR2.out.g1.cell 5 (v := .slice (some ⟨bq, 0, none⟩) S sc) rfl
            have x2 := HX.out.cell 2 (v := .int .i64 (a : Int)) rfl
            have pa : w7.cell? ⟨b, o + a, none⟩ = some (.int .i64 (B : Int)) := by rw [← HB.out]; exact (grown_cell HR2.out.base_le Hbp.out (by simp)).trans (Hcp.out a Han.out)
            have hown := HR2.out.own.s
            simp only [mix_length, HS.out] at hown
            have t0 : w7.cell? ⟨bq, k2 * 4 + 2, none⟩ = some (.int .i64 (a : Int)) := (CsAt.own hown).cell0 (k2 * 4 + 2) _ (by rw [sysC_get _ k2 2 _ Hmx.out (by decide)]; rfl)
            have tf := hown.frozenAt (k2 * 4 + 2)
            have HR3 := hid (HR2.out.setV Hmx.out rfl (B : Int))
            simp only [Hms.out] at HR3
            clear hown HX HR2 hms hrw hB ra0 ra1 an
            go_upto_region 17 with (fail)
            go_region
            all_goals
              go_wp2
              go_roundw
              case rel => exact ⟨k2 + 1, Hlt.out, by go_num, hid (HR3.out.kept0 (grown_drew (grown_refl _ none)))⟩
              case measure => simp [intOf]; have := Hlt.out; omega
          · have h2b : (yi == 2) = false := by simpa using h2
            have hsm := mix_same (rwS x) Hy.out (by simp [rwS, h2])
            have Hsm := hid hsm
            clear h2 hsm
            go_wp2
            go_roundw
            case rel => exact ⟨k2 + 1, Hlt.out, by go_num, hid (by rw [← Hsm.out]; exact HR2.out)⟩
            case measure => simp [intOf]; have := Hlt.out; omega
        · obtain rfl : k2 = S := by omega
          have kn : ¬ ((k2 : Int) < (k2 : Int)) := by omega
          clear hlt
          have hmm : mixL (rwS x) k2 x.S = x.S.map (rwS x) := by rw [← HS.out]; exact mix_all _ _
          have HM3 := HR.out
          rw [hmm] at HM3
          clear hmm
          have HRr := HR2.out.kept0 HM3.base_le
          have h1 := own1w HM3.own.d
          have h2 := own1w HM3.own.c
          have h3 := own1w HM3.own.m
          have h4 := own1w HM3.own.r
          have h5 := own1w HM3.own.q
          have h6 := own1w HM3.own.s
          have hall : (#[d1, .slice vcp (plN x n) vcc, .slice vmp (plN x n) vmc, r1, .slice qp k qc, .slice sp k2 sc] : Array Value).all (·.oneCell') = true := by
            simp only at h1 h2 h3 h4 h5 h6
            simp_all
          have HMf := hid HM3
          have HRf := hid HRr
          have E := hid (HRr.row #[d1, .slice vcp (plN x n) vcc, .slice vmp (plN x n) vmc, r1, .slice qp k qc, .slice sp k2 sc])
          have hgs := row_grown wr R #[d1, .slice vcp (plN x n) vcc, .slice vmp (plN x n) vmc, r1, .slice qp k qc, .slice sp k2 sc]
          have hR2 := HR2.out.lt
          have ED := hid ((OwnO.keptR HM3.own hgs hR2).base (B' := W.heap.size) HG2.out.size)
          have EP := hid ((own_base HPv.out HW1.out.1).kept (grown_trans (grown_none HM3.base_le) hgs) (.inr (fun e => by have h1 := (HPv.out.lt _ e).1; have h2 := HW1.out.2; omega)))
          have EG := hid (grown_setRow (grown_trans HG2.out HM3.base_le) HRb.out #[d1, .slice vcp (plN x n) vcc, .slice vmp (plN x n) vmc, r1, .slice qp k qc, .slice sp k2 sc])
          have z0 := E.out.cell 0 rfl
          have z1 := E.out.cell 1 rfl
          have z2 := E.out.cell 2 rfl
          have z3 := E.out.cell 3 rfl
          have z4 := E.out.cell 4 rfl
          have z5 := E.out.cell 5 rfl
          clear h1 h2 h3 h4 h5 h6 hgs hR2 HRr HM3 HR H0
          go_wp2_with (first
            | (refine wpList_load_rw rfl 27 _ rfl rfl HMf.out.g1 rfl Tryd.underlying27 info_object ?_)
            | (refine wpList_store_rw rfl 27 _ _ rfl rfl rfl HRf.out info_object rfl hall ?_)
            | fail)
          refine bodyPost_ret (v := .tuple #[.agg #[d1, .slice vcp (plN x n) vcc, .slice vmp (plN x n) vmc, r1, .slice qp k qc, .slice sp k2 sc], .slice (some ⟨b, o, none⟩) (n + 1) c', .nilIface]) (by simp [results, Tryd.results8, z0, z1, z2, z3, z4, z5, go_sem]) rfl ?_
          have hO : rwO x = ⟨x.D, rwC x n, rwM x n, x.R, x.Q.map (rwR x), x.S.map (rwS x)⟩ := by unfold rwO; rw [Hne.out]
          exact ⟨⟨d1, .slice vcp (plN x n) vcc, .slice vmp (plN x n) vmc, r1, .slice qp k qc, .slice sp k2 sc⟩, _, rfl, by rw [hO]; exact ED.out, by rw [Hne.out]; exact EP.out, EG.out⟩
end Go.Proofs.YtgahbpfmiibpeaaDoor
/- The chapter's examples (facadelaw11.first): contract. -/
namespace Go.Proofs.YtgahbpfmiibpeaaDoor
open Go.RowKit
def emO : PO := ⟨[], [], [], [], [], []⟩
def sayO5 : PO := objL [] (saysL [5])
theorem emO_valid : validP emO = none := by decide +kernel
theorem emO_fit : OFit emO := fitB_fit (by decide +kernel)
theorem emO_pl : plN emO emO.C.length ≤ 2048 := by decide +kernel
theorem emO_len : (rwO emO).D.length = 0 ∧ (rwO emO).C.length = 0 ∧ (rwO emO).M.length = 0 ∧ (rwO emO).R.length = 0 ∧ (rwO emO).Q.length = 0 ∧ (rwO emO).S.length = 0 := by decide +kernel
theorem say5_valid : validP sayO5 = none := by decide +kernel
theorem say5_fit : OFit sayO5 := fitB_fit (by decide +kernel)
theorem say5_pl : plN sayO5 sayO5.C.length ≤ 2048 := by decide +kernel
theorem say5_len : (rwO sayO5).D.length = 0 ∧ (rwO sayO5).C.length = 6 ∧ (rwO sayO5).M.length = 6 ∧ (rwO sayO5).R.length = 0 ∧ (rwO sayO5).Q.length = 0 ∧ (rwO sayO5).S.length = 1 := by decide +kernel
/-- an object of the function's own: its slices as slices -/
theorem OwnO.slices {B : Nat} {w : World} {V : OV} {x : PO} (h : OwnO B w V x) : ∃ p0 c0 p1 c1 p2 c2 p3 c3 p4 c4 p5 c5, V = ⟨.slice p0 x.D.length c0, .slice p1 x.C.length c1, .slice p2 x.M.length c2, .slice p3 x.R.length c3, .slice p4 x.Q.length c4, .slice p5 x.S.length c5⟩ := by
  obtain ⟨d, c, m, r, q, s⟩ := V
  obtain ⟨p0, c0, e0⟩ := own_slice h.d
  obtain ⟨p1, c1, e1⟩ := own_slice h.c
  obtain ⟨p2, c2, e2⟩ := own_slice h.m
  obtain ⟨p3, c3, e3⟩ := own_slice h.r
  obtain ⟨p4, c4, e4⟩ := own_slice h.q
  obtain ⟨p5, c5, e5⟩ := own_slice h.s
  simp only at e0 e1 e2 e3 e4 e5
  subst e0; subst e1; subst e2; subst e3; subst e4; subst e5
  exact ⟨p0, c0, p1, c1, p2, c2, p3, c3, p4, c4, p5, c5, rfl⟩
theorem oat_zero (w : World) : OAt w ⟨.slice none 0 0, .slice none 0 0, .slice none 0 0, .slice none 0 0, .slice none 0 0, .slice none 0 0⟩ emO :=
  ⟨.inl ⟨⟨_, _, rfl⟩, rfl⟩, .inl ⟨⟨_, _, rfl⟩, rfl⟩, .inl ⟨⟨_, _, rfl⟩, rfl⟩, .inl ⟨⟨_, _, rfl⟩, rfl, rfl⟩, .inl ⟨⟨_, _, rfl⟩, rfl, rfl⟩, .inl ⟨⟨_, _, rfl⟩, rfl, rfl⟩⟩
set_option maxRecDepth 100000 in
set_option maxHeartbeats 8000000 in
theorem first11_any {w : World} {A : Nat → Addr} (he : ErrC w A) : Calls Tryd.prog 6 #[] w fun e w' => e = .returned (.bool true) ∧ w.grownBy w' none := by
  have HE := hid he
  have hb := build_obj0
  have Hz := zero_obj
  clear he
  go_enter Tryd.func6, Tryd.ntmps6
  go_wp2_with fail
  refine (do_yes (oat_zero w) HE.out emO_fit emO_valid emO_pl).mono ?_
  rintro e w2 ⟨V, v, rfl, ho, hp, hg⟩
  obtain ⟨p0, c0, p1, c1, p2, c2, p3, c3, p4, c4, p5, c5, rfl⟩ := ho.slices
  obtain ⟨pp, pc, rfl⟩ := own_slice hp
  obtain ⟨l0, l1, l2, l3, l4, l5⟩ := emO_len
  rw [l0, l1, l2, l3, l4, l5]
  rw [show emO.C.length + 1 = 1 from rfl]
  have al := World.grownBy_alloc w2 (.cells #[.slice p0 0 c0, .slice p1 0 c1, .slice p2 0 c2, .slice p3 0 c3, .slice p4 0 c4, .slice p5 0 c5] 27) none
  have HX := hid (RwAt.new w2 27 #[.slice p0 0 c0, .slice p1 0 c1, .slice p2 0 c2, .slice p3 0 c3, .slice p4 0 c4, .slice p5 0 c5])
  have HG := hid (grown_trans hg al)
  clear ho hp hg al l0 l1 l2 l3 l4 l5
  go_upto_region 2 with (fail)
  obtain ⟨X, hX⟩ : ∃ X, w2.heap.size = X := ⟨_, rfl⟩
  rw [hX] at HX ⊢
  clear hX
  generalize w2.alloc (.cells #[.slice p0 0 c0, .slice p1 0 c1, .slice p2 0 c2, .slice p3 0 c3, .slice p4 0 c4, .slice p5 0 c5] 27) = w3 at HX HG ⊢
  have al := World.grownBy_alloc w3 (.cells #[.int .u32 5] 28) none
  have HD : Hid (SlAt (w3.alloc (.cells #[.int .u32 5] 28)) .u32 (.slice (some ⟨w3.heap.size, 0, none⟩) 1 1) [5]) := hid (.inr ⟨w3.heap.size, 0, 1, rfl, by simp, fun j x hx => by
    have := World.news_of_block (heap_alloc_new w3 (.cells #[.int .u32 5] 28)) j (.int .u32 x) (by
      have : ([Value.int .u32 5] : List Value) = [5].map (Value.int .u32) := rfl
      show ([Value.int .u32 5] : List Value)[j]? = _
      rw [this, List.getElem?_map, hx]; rfl)
    rw [Addr.add_mid] at this
    exact this⟩)
  have HX4 := hid (HX.out.kept0 al)
  have HG4 := hid (grown_trans HG.out al)
  clear al HX HG
  go_wp2_with fail
  refine (says_any HD.out (by simp)).mono ?_
  rintro e w5 ⟨V, rfl, ho, hg⟩
  have HO : Hid (OAt w5 V sayO5) := hid ho.at_
  have HX5 := hid (HX4.out.kept0 hg)
  have HG5 := hid (grown_trans HG4.out hg)
  clear ho hg HD HX4 HG4
  go_wp2_with fail
  refine (do_yes HO.out (HE.out.kept0 HG5.out) say5_fit say5_valid say5_pl).mono ?_
  rintro e w6 ⟨V2, v, rfl, ho, hp, hg⟩
  obtain ⟨s0, t0, s1, t1, s2, t2, s3, t3, s4, t4, s5, t5, rfl⟩ := ho.slices
  obtain ⟨sp, tp, rfl⟩ := own_slice hp
  obtain ⟨l0, l1, l2, l3, l4, l5⟩ := say5_len
  rw [l0, l1, l2, l3, l4, l5]
  have al := World.grownBy_alloc w6 (.cells #[.slice s0 0 t0, .slice s1 6 t1, .slice s2 6 t2, .slice s3 0 t3, .slice s4 0 t4, .slice s5 1 t5] 27) none
  have HX6 := hid ((HX5.out.kept0 hg).kept0 al)
  have HY6 := hid (RwAt.new w6 27 #[.slice s0 0 t0, .slice s1 6 t1, .slice s2 6 t2, .slice s3 0 t3, .slice s4 0 t4, .slice s5 1 t5])
  have HG6 := hid (grown_trans (grown_trans HG5.out hg) al)
  clear ho hp hg al l0 l1 l2 l3 l4 l5 HX5
  go_upto_region 3 with (fail)
  obtain ⟨Y, hY⟩ : ∃ Y, w6.heap.size = Y := ⟨_, rfl⟩
  rw [hY] at HY6 ⊢
  clear hY Hz hb
  generalize w6.alloc (.cells #[.slice s0 0 t0, .slice s1 6 t1, .slice s2 6 t2, .slice s3 0 t3, .slice s4 0 t4, .slice s5 1 t5] 27) = w7 at HX6 HY6 HG6 ⊢
  have x1 := HX6.out.cell 1 (v := .slice p1 0 c1) rfl
  have y1 := HY6.out.cell 1 (v := .slice s1 6 t1) rfl
  go_wp2
  go_ret
  exact ⟨rfl, HG6.out⟩
end Go.Proofs.YtgahbpfmiibpeaaDoor

/- An object of lines: so many that do nothing, a label, one that halts (facademake.Object): contract. -/
import Derived.Test.YtgahbpfmiibpeaaGreatDoorZObjN
import Derived.Test.YtgahbpfmiibpeaaGreatDoorZGRef
namespace Go.Proofs.YtgahbpfmiibpeaaGreatDoor
open Go.RowKit
def nmMain : ByteArray := ⟨#[109, 97, 105, 110]⟩
def nopsC : Nat → List Value
  | 0 => []
  | a + 1 => (lnC 1 0).toList ++ nopsC a
theorem nopsC_length : ∀ a, (nopsC a).length = a * 8
  | 0 => rfl
  | a + 1 => by rw [nopsC, List.length_append, nopsC_length a]; simp [lnC]; omega
theorem nopsC_get : ∀ (a j i : Nat), j < a → i < 8 → (nopsC a)[j * 8 + i]? = (lnC 1 0).toList[i]?
  | 0, _, _, h, _ => absurd h (by omega)
  | a + 1, 0, i, _, hi => by rw [nopsC, List.getElem?_append_left (by simp [lnC]; omega)]; simp
  | a + 1, j + 1, i, h, hi => by
    rw [nopsC, List.getElem?_append_right (by simp [lnC]; omega), ← nopsC_get a j i (by omega) hi]
    congr 1
    simp [lnC]; omega
theorem nopsC_succ : ∀ a, nopsC (a + 1) = nopsC a ++ (lnC 1 0).toList
  | 0 => by simp [nopsC]
  | a + 1 => by
    show (lnC 1 0).toList ++ nopsC (a + 1) = ((lnC 1 0).toList ++ nopsC a) ++ (lnC 1 0).toList
    rw [nopsC_succ a, List.append_assoc]
def lnsC (a : Nat) : List Value := nopsC a ++ ((lbC nmMain).toList ++ (lnC 32 1).toList)
theorem lnsC_length (a : Nat) : (lnsC a).length = (a + 2) * 8 := by simp [lnsC, nopsC_length, lbC, lnC]; omega
/-- line j -/
def lnA (a j : Nat) : Array Value := if j < a then lnC 1 0 else if j = a then lbC nmMain else lnC 32 1
theorem lnsC_get (a j i : Nat) (hj : j < a + 2) (hi : i < 8) : (lnsC a)[j * 8 + i]? = (lnA a j).toList[i]? := by
  unfold lnsC lnA
  by_cases h : j < a
  · rw [if_pos h, List.getElem?_append_left (by rw [nopsC_length]; omega), nopsC_get a j i h hi]
  · rw [if_neg h, List.getElem?_append_right (by rw [nopsC_length]; omega), nopsC_length]
    by_cases h2 : j = a
    · rw [if_pos h2, List.getElem?_append_left (by simp [lbC]; omega)]
      congr 1; omega
    · rw [if_neg h2, List.getElem?_append_right (by simp [lbC]; omega)]
      congr 1; simp [lbC]; omega
/-- the object behind k lines -/
def objK (a k : Nat) : PO := ⟨[1, 2], List.replicate (min k a) 16777216 ++ (if k = a + 2 then [536936448] else []), List.replicate (min k a) 1 ++ (if k = a + 2 then [1] else []), [], [], if a < k then [⟨nmMain, 2, a, true⟩] else []⟩
/-! ### the walk -/
theorem objK_nop {a k : Nat} (h : k < a) : ({ objK a k with C := (objK a k).C ++ [16777216], M := (objK a k).M ++ [1] } : PO) = objK a (k + 1) := by
  have e1 : min k a = k := by omega
  have e2 : min (k + 1) a = k + 1 := by omega
  simp only [objK, e1, e2, if_neg (show ¬ k = a + 2 by omega), if_neg (show ¬ k + 1 = a + 2 by omega), if_neg (show ¬ a < k by omega), if_neg (show ¬ a < k + 1 by omega), List.append_nil, List.replicate_succ']
theorem objK_halt {a k : Nat} (h : k = a + 1) : ({ objK a k with C := (objK a k).C ++ [536936448], M := (objK a k).M ++ [1] } : PO) = objK a (k + 1) := by
  subst h
  have e1 : min (a + 1) a = a := by omega
  have e2 : min (a + 1 + 1) a = a := by omega
  simp [objK, e1, e2]
  omega
theorem objK_lab {a k nC : Nat} (h : k = a) (hn : nC = a) : (⟨(objK a k).D, (objK a k).C, (objK a k).M, (objK a k).R, (objK a k).Q, [⟨nmMain, 2, nC, true⟩]⟩ : PO) = objK a (k + 1) := by
  subst h; subst hn
  simp [objK]
theorem objK_zero (a : Nat) : objK a 0 = ⟨[1, 2], [], [], [], [], []⟩ := by simp [objK]
/-- where the loop stands -/
structure Lp (W : World) (R G a k : Nat) (w : World) (V : OV) : Prop where
  ob : OBx W w G [R] V (objK a k)
  res : RwAt w R 27 #[.slice none 0 0, .slice none 0 0, .slice none 0 0, .slice none 0 0, .slice none 0 0, .slice none 0 0]
  d : R ≠ G
  r : V.r = .slice none 0 0
  q : V.q = .slice none 0 0
  s : k ≤ a → V.s = .slice none 0 0
theorem Lp.new {W w1 w2 : World} {R a : Nat} {v : Value} (hR : W.heap.size = R) (hg1 : W.grownBy w1 none) (hr : RwAt w1 R 27 #[.slice none 0 0, .slice none 0 0, .slice none 0 0, .slice none 0 0, .slice none 0 0, .slice none 0 0]) (hg : w1.grownBy w2 none) (ho : w2.ownsRow w1.heap.size 46 1 v 2 [.int .u32 1, .int .u32 2]) :
    Lp W R w2.heap.size a 0 (w2.alloc (.cells #[v, .slice none 0 0, .slice none 0 0, .slice none 0 0, .slice none 0 0, .slice none 0 0] 27)) ⟨v, .slice none 0 0, .slice none 0 0, .slice none 0 0, .slice none 0 0, .slice none 0 0⟩ := by
  have al := World.grownBy_alloc w2 (.cells #[v, .slice none 0 0, .slice none 0 0, .slice none 0 0, .slice none 0 0, .slice none 0 0] 27) none
  have l1 := hr.lt
  have l2 := hg.size
  have hne : ∀ j, v.ownBlock = some j → w1.heap.size ≤ j ∧ j < w2.heap.size := fun j hj => ho.lt j hj
  have hw := hg1.size
  have nil : ∀ (t : TypeId) (size : Nat), (w2.alloc (.cells #[v, .slice none 0 0, .slice none 0 0, .slice none 0 0, .slice none 0 0, .slice none 0 0] 27)).ownsRow W.heap.size t size (.slice none 0 0) 0 [] := fun t size => World.ownsRow_nil _ _ _ _
  have ho2 := own_keep0 (own_base ho hw) al
  have hap : ∀ u : Value, Ap u (.slice none 0 0) := fun u => by
    by_cases h : u.ownBlock = none
    · exact .inl h
    · exact .inr h
  refine ⟨?_, (hr.kept0 hg).kept0 al, by omega, rfl, rfl, fun _ => rfl⟩
  rw [objK_zero]
  refine ⟨grown_below (grown_trans (grown_trans hg1 hg) al), RwAt.new w2 _ _, ⟨ho2, nil _ _, nil _ _, nil _ _, nil _ _, nil _ _, unpairs (hap _) (hap _) (hap _) (hap _) (hap _) (hap _) (hap _) (hap _) (hap _) (hap _) (hap _) (hap _) (hap _) (hap _) (hap _)⟩, by omega, fun u hu => ?_, fun T hT => ?_⟩
  · simp only [List.mem_cons, List.not_mem_nil, or_false] at hu
    rcases hu with rfl | rfl | rfl | rfl | rfl | rfl
    · refine ⟨fun e => ?_, fun T hT e => ?_⟩
      · have := (hne _ e).2; omega
      · obtain rfl := List.mem_singleton.1 hT
        have := (hne _ e).1; omega
    all_goals exact ⟨by simp [Value.ownBlock], fun T _ => by simp [Value.ownBlock]⟩
  · obtain rfl := List.mem_singleton.1 hT
    simp; omega
theorem Lp.done {W w : World} {R G a k : Nat} {V : OV} (h : Lp W R G a k w V) (hR : W.heap.size ≤ R) (cs : Array Value) : OwnO W.heap.size (w.setRow R cs) V (objK a k) ∧ W.grownBy (w.setRow R cs) none := by
  have hg : w.grownBy (w.setRow R cs) (some R) := ⟨rfl, rfl, rfl, by simp [World.setRow], fun i _ hi => setRow_other w R i cs (fun e => hi (by rw [e]))⟩
  have n := fun u hu => (h.ob.ne u hu).2 R (by simp)
  exact ⟨⟨h.ob.own.d.kept hg (.inr (n _ (by simp))), h.ob.own.c.kept hg (.inr (n _ (by simp))), h.ob.own.m.kept hg (.inr (n _ (by simp))), h.ob.own.r.kept hg (.inr (n _ (by simp))), h.ob.own.q.kept hg (.inr (n _ (by simp))), h.ob.own.s.kept hg (.inr (n _ (by simp))), h.ob.own.ap⟩, grown_setRow h.ob.base_le hR cs⟩
theorem Lp.kept0 {W w w1 : World} {R G a k : Nat} {V : OV} (h : Lp W R G a k w V) (hg : w.grownBy w1 none) : Lp W R G a k w1 V := ⟨h.ob.kept0 hg, h.res.kept0 hg, h.d, h.r, h.q, h.s⟩
theorem zero_ln (w : World) : (zeroValue 60).run Tryz.prog w = .ok (.agg #[.int .i64 0, .int .i64 0, .int .i64 0, .int .i64 0, .int .u32 0, .string ByteArray.empty, .string ByteArray.empty, .bool false]) w := by kernel_rfl
theorem own_one {w : World} {B n size : Nat} {t : TypeId} {v : Value} {cs : List Value} (h : w.ownsRow B t size v n cs) : v.oneCell' = true := by
  obtain ⟨p, c, rfl⟩ := own_slice h; rfl
set_option maxRecDepth 100000 in
set_option maxHeartbeats 8000000 in
theorem make_any {W : World} {dv lv : Value} {a : Nat} (ha : a ≤ 40) (hd : SlAt W .u32 dv [1, 2]) (hl : CsAt W lv (a + 2) (lnsC a)) :
    Calls Tryz.prog 26 #[dv, lv] W fun e w' => ∃ V, e = .returned V.agg ∧ OwnO W.heap.size w' V (objK a (a + 2)) ∧ W.grownBy w' none := by
  obtain ⟨b, o, lc, rfl, hn, hb, hc⟩ := hl.at_ (by omega)
  have HD := hid hd
  have HC := hid hc
  have Ha := hid ha
  have Hb := hid hb
  clear hd hl hc hb
  go_enter Tryz.func26, Tryz.ntmps26
  have Hz := zero_obj
  go_upto_region 1 with (fail)
  obtain ⟨R, hR⟩ : ∃ R, W.heap.size = R := ⟨_, rfl⟩
  have HR0 := hid (RwAt.new W 27 #[.slice none 0 0, .slice none 0 0, .slice none 0 0, .slice none 0 0, .slice none 0 0, .slice none 0 0])
  have HD1 := hid (HD.out.kept0 (World.grownBy_alloc W (.cells #[.slice none 0 0, .slice none 0 0, .slice none 0 0, .slice none 0 0, .slice none 0 0, .slice none 0 0] 27) none))
  have HG1 := hid (World.grownBy_alloc W (.cells #[.slice none 0 0, .slice none 0 0, .slice none 0 0, .slice none 0 0, .slice none 0 0, .slice none 0 0] 27) none)
  rw [hR] at HR0 ⊢
  have HRe := hid hR
  clear hR
  generalize W.alloc (.cells #[.slice none 0 0, .slice none 0 0, .slice none 0 0, .slice none 0 0, .slice none 0 0, .slice none 0 0] 27) = w1 at HR0 HD1 HG1 ⊢
  go_wp2_with fail
  refine (rwords_any HD1.out (by simp)).mono ?_
  rintro e w2 ⟨v, rfl, how, hg⟩
  have how : w2.ownsRow w1.heap.size 46 1 v 2 [.int .u32 1, .int .u32 2] := how
  obtain ⟨dp, dc, rfl⟩ := own_slice how
  have HLP := hid (Lp.new (a := a) HRe.out HG1.out HR0.out hg how)
  clear how hg
  go_upto_region 2 with (fail)
  clear Hz
  obtain ⟨G, hG⟩ : ∃ G, w2.heap.size = G := ⟨_, rfl⟩
  rw [hG] at HLP ⊢
  clear hG
  generalize w2.alloc (.cells #[.slice dp 2 dc, .slice none 0 0, .slice none 0 0, .slice none 0 0, .slice none 0 0, .slice none 0 0] 27) = w3 at HLP ⊢
  go_wp2
  go_loopw [6] (fun i wr => ∃ k : Nat, k ≤ a + 2 ∧ i = .int .i64 k ∧ Hid (∃ V, Lp W R G a k wr V)) (fun i _ => a + 2 - (intOf i).toNat)
  case atStart => exact ⟨0, Nat.zero_le _, rfl, hid ⟨_, HLP.out⟩⟩
  case round =>
    obtain ⟨k, hk, rfl, HP⟩ := hrel
    have k0 : (0 : Int) ≤ (k : Int) := by omega
    by_cases hlt : k < a + 2
    · have hcell : ∀ i v, i < 8 → (lnA a k).toList[i]? = some v → wr.cell? ⟨b, o + k * 8 + i, none⟩ = some v := by
        intro i v hi hv
        obtain ⟨V, hp⟩ := HP.out
        have h0 := HC.out (k * 8 + i) v (by rw [lnsC_get a k i hlt hi]; exact hv)
        rw [← Nat.add_assoc] at h0
        exact (hp.ob.below.cell Hb.out).trans h0
      obtain ⟨⟨d, c, m, r, q, s⟩, hp⟩ := HP.out
      have e1 := hp.r
      have e2 := hp.q
      simp only at e1 e2
      subst e1; subst e2
      obtain ⟨cp, cc, hcv⟩ := own_slice hp.ob.own.c
      obtain ⟨mp, mc, hmv⟩ := own_slice hp.ob.own.m
      simp only at hcv hmv
      obtain ⟨nC, hnC⟩ : ∃ n, (objK a k).C.length = n := ⟨_, rfl⟩
      obtain ⟨nM, hnM⟩ : ∃ n, (objK a k).M.length = n := ⟨_, rfl⟩
      rw [hnC] at hcv
      rw [hnM] at hmv
      have HnC := hid hnC
      have HnM := hid hnM
      have HLn : Hid (nC ≤ 42 ∧ nM ≤ 42) := hid (by rw [← hnC, ← hnM]; simp only [objK]; have := Ha.out; rw [if_neg (by omega), if_neg (by omega)]; simp; omega)
      clear hnC hnM
      subst hcv; subst hmv
      have HPk := hid hp
      have Hlt := hid hlt
      have kn : (k : Int) < (a : Int) + 2 := by omega
      clear hp HP hlt
      have hne : ∀ W : World, (Op.stringOp .neq ByteArray.empty ⟨#[]⟩).run Tryz.prog W = .ok (.bool false) W := fun W => by simp [Op.stringOp]
      have Hz := zero_ln
      by_cases hka : k < a
      · have hln : lnA a k = lnC 1 0 := by unfold lnA; rw [if_pos hka]
        have Hka := hid hka
        clear hka
        have c0 : wr.cell? ⟨b, o + k * 8, none⟩ = some (.int .i64 1) := hcell 0 _ (by decide) (by rw [hln]; rfl)
        have c1 : wr.cell? ⟨b, o + k * 8 + 1, none⟩ = some (.int .i64 0) := hcell 1 _ (by decide) (by rw [hln]; rfl)
        have c2 : wr.cell? ⟨b, o + k * 8 + 2, none⟩ = some (.int .i64 0) := hcell 2 _ (by decide) (by rw [hln]; rfl)
        have c3 : wr.cell? ⟨b, o + k * 8 + 3, none⟩ = some (.int .i64 0) := hcell 3 _ (by decide) (by rw [hln]; rfl)
        have c4 : wr.cell? ⟨b, o + k * 8 + 4, none⟩ = some (.int .u32 0) := hcell 4 _ (by decide) (by rw [hln]; rfl)
        have c5 : wr.cell? ⟨b, o + k * 8 + 5, none⟩ = some (.string ByteArray.empty) := hcell 5 _ (by decide) (by rw [hln]; rfl)
        have c6 : wr.cell? ⟨b, o + k * 8 + 6, none⟩ = some (.string ByteArray.empty) := hcell 6 _ (by decide) (by rw [hln]; rfl)
        have c7 : wr.cell? ⟨b, o + k * 8 + 7, none⟩ = some (.bool false) := hcell 7 _ (by decide) (by rw [hln]; rfl)
        clear hcell hln
        go_upto_region 19 with (fail)
        clear c0 c1 c2 c3 c4 c5 c6 c7 Hz
        have HO4 := hid (HPk.out.ob.box (.cells #[.int .i64 1, .int .i64 0, .int .i64 0, .int .i64 0, .int .u32 0, .string ByteArray.empty, .string ByteArray.empty, .bool false] 60))
        have HX4 := hid (RwAt.new wr 60 #[.int .i64 1, .int .i64 0, .int .i64 0, .int .i64 0, .int .u32 0, .string ByteArray.empty, .string ByteArray.empty, .bool false])
        have HR4 := hid (HPk.out.res.kept0 (World.grownBy_alloc wr (.cells #[.int .i64 1, .int .i64 0, .int .i64 0, .int .i64 0, .int .u32 0, .string ByteArray.empty, .string ByteArray.empty, .bool false] 60) none))
        obtain ⟨X, hX⟩ : ∃ X, wr.heap.size = X := ⟨_, rfl⟩
        have HXG : Hid (X ≠ G) := hid (by have := HPk.out.ob.g1.lt; omega)
        rw [hX] at HO4 HX4 ⊢
        clear hX
        generalize wr.alloc (.cells #[.int .i64 1, .int .i64 0, .int .i64 0, .int .i64 0, .int .u32 0, .string ByteArray.empty, .string ByteArray.empty, .bool false] 60) = w4 at HO4 HX4 HR4 ⊢
        have x0 := HX4.out.cell 0 (v := .int .i64 1) rfl
        have x1 := HX4.out.cell 1 (v := .int .i64 0) rfl
        have x2 := HX4.out.cell 2 (v := .int .i64 0) rfl
        have x3 := HX4.out.cell 3 (v := .int .i64 0) rfl
        have x4 := HX4.out.cell 4 (v := .int .u32 0) rfl
        have x5 := HX4.out.cell 5 (v := .string ByteArray.empty) rfl
        have x6 := HX4.out.cell 6 (v := .string ByteArray.empty) rfl
        have x7 := HX4.out.cell 7 (v := .bool false) rfl
        go_wp2_with fail
        refine (rword_any 1 0 0 0 0 _).mono ?_
        rintro e w5 ⟨rfl, hbl⟩
        rw [show wordV 1 0 0 0 0 = 16777216 by decide +kernel, show insB 1 0 0 0 0 = true by decide +kernel]
        have hg := below_is_grown hbl
        have HO5 := hid (HO4.out.kept0 hg)
        have HX5 := hid (HX4.out.kept0 hg)
        have HR5 := hid (HR4.out.kept0 hg)
        clear hbl hg x0 x1 x2 x3 x4 x5 x6 x7 HO4 HX4 HR4
        have x6 := HX5.out.cell 6 (v := .string ByteArray.empty) rfl
        obtain ⟨iC, hi, hz0, hz1, hz2⟩ := info_u32
        have HiC := hid hi
        have Hz0C := hid hz0
        have Hz1C := hid hz1
        have Hz2C := hid hz2
        have eiC := HO5.out.g1.cell 1 rfl
        have HSC := hid (HO5.out.kept0 (World.grownBy_alloc w5 (.cells #[.int .u32 16777216] 46) none))
        have HOwC := HSC.out.own.c
        simp only at HOwC
        rw [HnC.out] at HOwC
        have HOwC := hid HOwC
        have HNC : Hid (∀ j u, [Value.int .u32 16777216][j]? = some u → (w5.alloc (.cells #[.int .u32 16777216] 46)).cell? ((⟨w5.heap.size, 0, none⟩ : Addr).add j) = some u) := hid (World.news_of_block (heap_alloc_new w5 _))
        have HNeC := hid (HSC.out.ne (.slice cp nC cc) (by simp))
        clear hi hz0 hz1 hz2
        go_upto_region 15 with (first
            | (refine wpList_append_lies _ rfl _ _ 22 rfl W.heap.size 46 iC _ 1 4 Tryz.underlying22 HiC.out Hz0C.out Hz1C.out Hz2C.out rfl (by decide) _ nC _ rfl HOwC.out ⟨w5.heap.size, 0, none⟩ 1 1 _ rfl rfl HNC.out (by simp [Value.oneCell']) (by decide) (by have := HLn.out.1; unfold maxLen; omega) (by have := HLn.out.1; omega) HSC.out.le _ rfl ?_
               intro gC capC vC hown hgrow hat hlt2
               have HRC := hid hown
               have hgrow0 : (w5.alloc (.cells #[.int .u32 16777216] 46)).grownBy vC (Value.slice cp nC cc).ownBlock := hgrow
               have hat0 : (Value.slice cp nC cc).ownBlock = some gC ∨ gC = (w5.alloc (.cells #[.int .u32 16777216] 46)).heap.size := hat
               have HGC := hid hgrow0
               have HTC := hid hat0
               have bC := HSC.out.g1.kept hgrow0 (fun e => HNeC.out.1 e.symm)
               have cC := bC.cell 1 rfl
               have zC := bC.free 1
               clear hown hgrow hat hlt2 hgrow0 hat0)
            | fail)
        clear cC zC bC eiC x6
        have HO7 := hid (OBx.tC HSC.out [16777216] HnC.out.symm rfl HGC.out HTC.out HRC.out)
        have HX7 := hid (((HX5.out.kept0 (World.grownBy_alloc w5 (.cells #[.int .u32 16777216] 46) none)).kept HGC.out (fun e => HNeC.out.2 X (by simp) e.symm)).other G 1 (.slice (some ⟨gC, 0, none⟩) (nC + 1) capC) HXG.out)
        have HR7 := hid (((HR5.out.kept0 (World.grownBy_alloc w5 (.cells #[.int .u32 16777216] 46) none)).kept HGC.out (fun e => HNeC.out.2 R (by simp) e.symm)).other G 1 (.slice (some ⟨gC, 0, none⟩) (nC + 1) capC) HPk.out.d)
        generalize vC.setCell ⟨G, 1, none⟩ (.slice (some ⟨gC, 0, none⟩) (nC + 1) capC) = w7 at HO7 HX7 HR7 ⊢
        clear HSC HOwC HNC HNeC HGC HTC HRC HiC Hz0C Hz1C Hz2C HO5 HX5 HR5
        obtain ⟨iM, hi, hz0, hz1, hz2⟩ := info_u8
        have HiM := hid hi
        have Hz0M := hid hz0
        have Hz1M := hid hz1
        have Hz2M := hid hz2
        have eiM := HO7.out.g1.cell 2 rfl
        have HSM := hid (HO7.out.kept0 (World.grownBy_alloc w7 (.cells #[.int .u8 1] 5) none))
        have HOwM := HSM.out.own.m
        simp only at HOwM
        rw [HnM.out] at HOwM
        have HOwM := hid HOwM
        have HNM : Hid (∀ j u, [Value.int .u8 1][j]? = some u → (w7.alloc (.cells #[.int .u8 1] 5)).cell? ((⟨w7.heap.size, 0, none⟩ : Addr).add j) = some u) := hid (World.news_of_block (heap_alloc_new w7 _))
        have HNeM := hid (HSM.out.ne (.slice mp nM mc) (by simp))
        clear hi hz0 hz1 hz2
        go_upto_region 16 with (first
            | (refine wpList_append_lies _ rfl _ _ 23 rfl W.heap.size 5 iM _ 1 1 Tryz.underlying23 HiM.out Hz0M.out Hz1M.out Hz2M.out rfl (by decide) _ nM _ rfl HOwM.out ⟨w7.heap.size, 0, none⟩ 1 1 _ rfl rfl HNM.out (by simp [Value.oneCell']) (by decide) (by have := HLn.out.2; unfold maxLen; omega) (by have := HLn.out.2; omega) HSM.out.le _ rfl ?_
               intro gM capM vM hown hgrow hat hlt2
               have HRM := hid hown
               have hgrow0 : (w7.alloc (.cells #[.int .u8 1] 5)).grownBy vM (Value.slice mp nM mc).ownBlock := hgrow
               have hat0 : (Value.slice mp nM mc).ownBlock = some gM ∨ gM = (w7.alloc (.cells #[.int .u8 1] 5)).heap.size := hat
               have HGM := hid hgrow0
               have HTM := hid hat0
               have bM := HSM.out.g1.kept hgrow0 (fun e => HNeM.out.1 e.symm)
               have cM := bM.cell 2 rfl
               have zM := bM.free 2
               clear hown hgrow hat hlt2 hgrow0 hat0)
            | fail)
        clear cM zM bM eiM
        have HO8 := hid (OBx.tM HSM.out [1] HnM.out.symm rfl HGM.out HTM.out HRM.out)
        have HX8 := hid (((HX7.out.kept0 (World.grownBy_alloc w7 (.cells #[.int .u8 1] 5) none)).kept HGM.out (fun e => HNeM.out.2 X (by simp) e.symm)).other G 2 (.slice (some ⟨gM, 0, none⟩) (nM + 1) capM) HXG.out)
        have HR8 := hid (((HR7.out.kept0 (World.grownBy_alloc w7 (.cells #[.int .u8 1] 5) none)).kept HGM.out (fun e => HNeM.out.2 R (by simp) e.symm)).other G 2 (.slice (some ⟨gM, 0, none⟩) (nM + 1) capM) HPk.out.d)
        generalize vM.setCell ⟨G, 2, none⟩ (.slice (some ⟨gM, 0, none⟩) (nM + 1) capM) = w8 at HO8 HX8 HR8 ⊢
        clear HSM HOwM HNM HNeM HGM HTM HRM HiM Hz0M Hz1M Hz2M HO7 HX7 HR7
        have x0 := HX8.out.cell 0 (v := .int .i64 1) rfl
        have htw : twoB 1 = false := by decide
        have hLp : Hid (Lp W R G a (k + 1) w8 ⟨d, .slice (some ⟨gC, 0, none⟩) (nC + 1) capC, .slice (some ⟨gM, 0, none⟩) (nM + 1) capM, .slice none 0 0, .slice none 0 0, s⟩) := hid ⟨by
          have h := HO8.out.drop
          rw [objK_nop Hka.out] at h
          exact h, HR8.out, HPk.out.d, rfl, rfl, fun _ => HPk.out.s (by have := Hka.out; omega)⟩
        clear HO8 HX8 HR8
        go_wp2_with fail
        refine (rtwo_any 1 _).mono ?_
        rintro e w9 ⟨rfl, rfl⟩
        rw [htw]
        go_wp2
        go_roundw
        case rel => exact ⟨k + 1, Hlt.out, by go_num, hid ⟨_, hLp.out⟩⟩
        case measure => simp [intOf]; have := Hlt.out; omega
      · by_cases hka2 : k = a
        · have hln : lnA a k = lbC nmMain := by unfold lnA; rw [if_neg hka, if_pos hka2]
          have Hka := hid hka2
          clear hka hka2
          have hnm : ∀ W : World, (Op.stringOp .neq nmMain ⟨#[]⟩).run Tryz.prog W = .ok (.bool true) W := fun W => by simp [Op.stringOp, nmMain]
          have hnt : nmMain.toList.isEmpty = false := by first | rfl | decide +kernel | simp [nmMain] | (rw [ByteArray.toList_eq]; rfl)
          have c0 : wr.cell? ⟨b, o + k * 8, none⟩ = some (.int .i64 0) := hcell 0 _ (by decide) (by rw [hln]; rfl)
          have c1 : wr.cell? ⟨b, o + k * 8 + 1, none⟩ = some (.int .i64 0) := hcell 1 _ (by decide) (by rw [hln]; rfl)
          have c2 : wr.cell? ⟨b, o + k * 8 + 2, none⟩ = some (.int .i64 0) := hcell 2 _ (by decide) (by rw [hln]; rfl)
          have c3 : wr.cell? ⟨b, o + k * 8 + 3, none⟩ = some (.int .i64 0) := hcell 3 _ (by decide) (by rw [hln]; rfl)
          have c4 : wr.cell? ⟨b, o + k * 8 + 4, none⟩ = some (.int .u32 0) := hcell 4 _ (by decide) (by rw [hln]; rfl)
          have c5 : wr.cell? ⟨b, o + k * 8 + 5, none⟩ = some (.string nmMain) := hcell 5 _ (by decide) (by rw [hln]; rfl)
          have c6 : wr.cell? ⟨b, o + k * 8 + 6, none⟩ = some (.string ByteArray.empty) := hcell 6 _ (by decide) (by rw [hln]; rfl)
          have c7 : wr.cell? ⟨b, o + k * 8 + 7, none⟩ = some (.bool false) := hcell 7 _ (by decide) (by rw [hln]; rfl)
          clear hcell hln
          go_upto_region 19 with (fail)
          clear c0 c1 c2 c3 c4 c5 c6 c7 Hz
          have HO4 := hid (HPk.out.ob.box (.cells #[.int .i64 0, .int .i64 0, .int .i64 0, .int .i64 0, .int .u32 0, .string nmMain, .string ByteArray.empty, .bool false] 60))
          have HX4 := hid (RwAt.new wr 60 #[.int .i64 0, .int .i64 0, .int .i64 0, .int .i64 0, .int .u32 0, .string nmMain, .string ByteArray.empty, .bool false])
          have HR4 := hid (HPk.out.res.kept0 (World.grownBy_alloc wr (.cells #[.int .i64 0, .int .i64 0, .int .i64 0, .int .i64 0, .int .u32 0, .string nmMain, .string ByteArray.empty, .bool false] 60) none))
          obtain ⟨X, hX⟩ : ∃ X, wr.heap.size = X := ⟨_, rfl⟩
          have HXG : Hid (X ≠ G) := hid (by have := HPk.out.ob.g1.lt; omega)
          rw [hX] at HO4 HX4 ⊢
          clear hX
          generalize wr.alloc (.cells #[.int .i64 0, .int .i64 0, .int .i64 0, .int .i64 0, .int .u32 0, .string nmMain, .string ByteArray.empty, .bool false] 60) = w4 at HO4 HX4 HR4 ⊢
          have x5 := HX4.out.cell 5 (v := .string nmMain) rfl
          have x7 := HX4.out.cell 7 (v := .bool false) rfl
          have hs0 := HPk.out.s (by have := Hka.out; omega)
          simp only at hs0
          subst hs0
          have hS0 : (objK a k).S = [] := by simp only [objK]; rw [if_neg (by have := Hka.out; omega)]
          go_wp2_with fail
          refine (sym_first HO4.out rfl hS0 nmMain).mono ?_
          rintro e w5 ⟨rfl, g, cap, ho, hg⟩
          have HO5 := hid ho
          have HX5 := hid (HX4.out.kept hg (by simpa using HXG.out))
          have HR5 := hid (HR4.out.kept hg (by simpa using HPk.out.d))
          have h5 := CsAt.own ho.own.s
          obtain ⟨b5, o5, c5, hv5, _, _, hc5⟩ := h5.at_ (by show 0 < 1; omega)
          simp only [Value.slice.injEq, Option.some.injEq, Addr.mk.injEq, and_true] at hv5
          obtain ⟨⟨rfl, rfl⟩, -⟩ := hv5
          have hrow := ho.own.s.2
          have s0 : w5.cell? ⟨g, 0, none⟩ = some (.string nmMain) := hc5 0 _ rfl
          have s1 : w5.cell? ⟨g, 1, none⟩ = some (.int .i64 3) := hc5 1 _ rfl
          have s2 : w5.cell? ⟨g, 2, none⟩ = some (.int .i64 0) := hc5 2 _ rfl
          have s3 : w5.cell? ⟨g, 3, none⟩ = some (.bool true) := hc5 3 _ rfl
          have hfz : ∀ j, w5.frozen? ⟨g, j, none⟩ = false := by
            rcases hrow with ⟨hv, _⟩ | ⟨g', cap', cur, hv, _, hblk, _⟩
            · cases hv
            · simp only [Value.slice.injEq, Option.some.injEq, Addr.mk.injEq, and_true] at hv
              obtain ⟨rfl, -⟩ := hv
              exact fun j => frozen_of_row w5 g j _ _ hblk
          have f0 := hfz 0
          have f1 := hfz 1
          have f2 := hfz 2
          have f3 := hfz 3
          have e5 := ho.g1.cell 5 (v := .slice (some ⟨g, 0, none⟩) 1 cap) rfl
          have e1 := ho.g1.cell 1 (v := .slice cp nC cc) rfl
          have x5 := HX5.out.cell 5 (v := .string nmMain) rfl
          have hna : Hid (nC = a) := hid (by have h := HnC.out; have hk := Hka.out; simp only [objK] at h; rw [if_neg (by omega)] at h; simp at h; omega)
          have hx := OBx.setS (s0 := ⟨nmMain, 3, 0, true⟩) ho.drop rfl ⟨nmMain, 2, nC, true⟩
          have hgs : w5.grownBy ((((w5.setCell ⟨g, 0, none⟩ (.string nmMain)).setCell ⟨g, 1, none⟩ (.int .i64 2)).setCell ⟨g, 2, none⟩ (.int .i64 nC)).setCell ⟨g, 3, none⟩ (.bool true)) (some g) := grown_setCell (grown_setCell (grown_setCell (grown_setCell (grown_refl _ _) _ _) _ _) _ _) _ _
          have hgR : R ≠ g := fun e => (ho.ne (.slice (some ⟨g, 0, none⟩) 1 cap) (by simp)).2 R (by simp) (by rw [e]; rfl)
          have hLp : Hid (Lp W R G a (k + 1) ((((w5.setCell ⟨g, 0, none⟩ (.string nmMain)).setCell ⟨g, 1, none⟩ (.int .i64 2)).setCell ⟨g, 2, none⟩ (.int .i64 nC)).setCell ⟨g, 3, none⟩ (.bool true)) ⟨d, .slice cp nC cc, .slice mp nM mc, .slice none 0 0, .slice none 0 0, .slice (some ⟨g, 0, none⟩) 1 cap⟩) := hid ⟨by
            rw [← objK_lab Hka.out hna.out]
            exact hx, HR5.out.kept hgs (by simpa using hgR), HPk.out.d, rfl, rfl, fun h => absurd h (by have := Hka.out; omega)⟩
          clear ho hg HO4 HX4 HR4 x7 h5 hc5 hrow hfz hx hgs hgR HO5 HX5 HR5
          go_wp2
          go_roundw
          case rel => exact ⟨k + 1, Hlt.out, by go_num, hid ⟨_, hLp.out⟩⟩
          case measure => simp [intOf]; have := Hlt.out; omega
        · have hka2 : k = a + 1 := by have := Hlt.out; omega
          have hln : lnA a k = lnC 32 1 := by unfold lnA; rw [if_neg (by omega), if_neg (by omega)]
          have Hka := hid hka2
          clear hka hka2
          have c0 : wr.cell? ⟨b, o + k * 8, none⟩ = some (.int .i64 32) := hcell 0 _ (by decide) (by rw [hln]; rfl)
          have c1 : wr.cell? ⟨b, o + k * 8 + 1, none⟩ = some (.int .i64 1) := hcell 1 _ (by decide) (by rw [hln]; rfl)
          have c2 : wr.cell? ⟨b, o + k * 8 + 2, none⟩ = some (.int .i64 0) := hcell 2 _ (by decide) (by rw [hln]; rfl)
          have c3 : wr.cell? ⟨b, o + k * 8 + 3, none⟩ = some (.int .i64 0) := hcell 3 _ (by decide) (by rw [hln]; rfl)
          have c4 : wr.cell? ⟨b, o + k * 8 + 4, none⟩ = some (.int .u32 0) := hcell 4 _ (by decide) (by rw [hln]; rfl)
          have c5 : wr.cell? ⟨b, o + k * 8 + 5, none⟩ = some (.string ByteArray.empty) := hcell 5 _ (by decide) (by rw [hln]; rfl)
          have c6 : wr.cell? ⟨b, o + k * 8 + 6, none⟩ = some (.string ByteArray.empty) := hcell 6 _ (by decide) (by rw [hln]; rfl)
          have c7 : wr.cell? ⟨b, o + k * 8 + 7, none⟩ = some (.bool false) := hcell 7 _ (by decide) (by rw [hln]; rfl)
          clear hcell hln
          go_upto_region 19 with (fail)
          clear c0 c1 c2 c3 c4 c5 c6 c7 Hz
          have HO4 := hid (HPk.out.ob.box (.cells #[.int .i64 32, .int .i64 1, .int .i64 0, .int .i64 0, .int .u32 0, .string ByteArray.empty, .string ByteArray.empty, .bool false] 60))
          have HX4 := hid (RwAt.new wr 60 #[.int .i64 32, .int .i64 1, .int .i64 0, .int .i64 0, .int .u32 0, .string ByteArray.empty, .string ByteArray.empty, .bool false])
          have HR4 := hid (HPk.out.res.kept0 (World.grownBy_alloc wr (.cells #[.int .i64 32, .int .i64 1, .int .i64 0, .int .i64 0, .int .u32 0, .string ByteArray.empty, .string ByteArray.empty, .bool false] 60) none))
          obtain ⟨X, hX⟩ : ∃ X, wr.heap.size = X := ⟨_, rfl⟩
          have HXG : Hid (X ≠ G) := hid (by have := HPk.out.ob.g1.lt; omega)
          rw [hX] at HO4 HX4 ⊢
          clear hX
          generalize wr.alloc (.cells #[.int .i64 32, .int .i64 1, .int .i64 0, .int .i64 0, .int .u32 0, .string ByteArray.empty, .string ByteArray.empty, .bool false] 60) = w4 at HO4 HX4 HR4 ⊢
          have x0 := HX4.out.cell 0 (v := .int .i64 32) rfl
          have x1 := HX4.out.cell 1 (v := .int .i64 1) rfl
          have x2 := HX4.out.cell 2 (v := .int .i64 0) rfl
          have x3 := HX4.out.cell 3 (v := .int .i64 0) rfl
          have x4 := HX4.out.cell 4 (v := .int .u32 0) rfl
          have x5 := HX4.out.cell 5 (v := .string ByteArray.empty) rfl
          have x6 := HX4.out.cell 6 (v := .string ByteArray.empty) rfl
          have x7 := HX4.out.cell 7 (v := .bool false) rfl
          go_wp2_with fail
          refine (rword_any 32 1 0 0 0 _).mono ?_
          rintro e w5 ⟨rfl, hbl⟩
          rw [show wordV 32 1 0 0 0 = 536936448 by decide +kernel, show insB 32 1 0 0 0 = true by decide +kernel]
          have hg := below_is_grown hbl
          have HO5 := hid (HO4.out.kept0 hg)
          have HX5 := hid (HX4.out.kept0 hg)
          have HR5 := hid (HR4.out.kept0 hg)
          clear hbl hg x0 x1 x2 x3 x4 x5 x6 x7 HO4 HX4 HR4
          have x6 := HX5.out.cell 6 (v := .string ByteArray.empty) rfl
          obtain ⟨iC, hi, hz0, hz1, hz2⟩ := info_u32
          have HiC := hid hi
          have Hz0C := hid hz0
          have Hz1C := hid hz1
          have Hz2C := hid hz2
          have eiC := HO5.out.g1.cell 1 rfl
          have HSC := hid (HO5.out.kept0 (World.grownBy_alloc w5 (.cells #[.int .u32 536936448] 46) none))
          have HOwC := HSC.out.own.c
          simp only at HOwC
          rw [HnC.out] at HOwC
          have HOwC := hid HOwC
          have HNC : Hid (∀ j u, [Value.int .u32 536936448][j]? = some u → (w5.alloc (.cells #[.int .u32 536936448] 46)).cell? ((⟨w5.heap.size, 0, none⟩ : Addr).add j) = some u) := hid (World.news_of_block (heap_alloc_new w5 _))
          have HNeC := hid (HSC.out.ne (.slice cp nC cc) (by simp))
          clear hi hz0 hz1 hz2
          go_upto_region 15 with (first
              | (refine wpList_append_lies _ rfl _ _ 22 rfl W.heap.size 46 iC _ 1 4 Tryz.underlying22 HiC.out Hz0C.out Hz1C.out Hz2C.out rfl (by decide) _ nC _ rfl HOwC.out ⟨w5.heap.size, 0, none⟩ 1 1 _ rfl rfl HNC.out (by simp [Value.oneCell']) (by decide) (by have := HLn.out.1; unfold maxLen; omega) (by have := HLn.out.1; omega) HSC.out.le _ rfl ?_
                 intro gC capC vC hown hgrow hat hlt2
                 have HRC := hid hown
                 have hgrow0 : (w5.alloc (.cells #[.int .u32 536936448] 46)).grownBy vC (Value.slice cp nC cc).ownBlock := hgrow
                 have hat0 : (Value.slice cp nC cc).ownBlock = some gC ∨ gC = (w5.alloc (.cells #[.int .u32 536936448] 46)).heap.size := hat
                 have HGC := hid hgrow0
                 have HTC := hid hat0
                 have bC := HSC.out.g1.kept hgrow0 (fun e => HNeC.out.1 e.symm)
                 have cC := bC.cell 1 rfl
                 have zC := bC.free 1
                 clear hown hgrow hat hlt2 hgrow0 hat0)
              | fail)
          clear cC zC bC eiC x6
          have HO7 := hid (OBx.tC HSC.out [536936448] HnC.out.symm rfl HGC.out HTC.out HRC.out)
          have HX7 := hid (((HX5.out.kept0 (World.grownBy_alloc w5 (.cells #[.int .u32 536936448] 46) none)).kept HGC.out (fun e => HNeC.out.2 X (by simp) e.symm)).other G 1 (.slice (some ⟨gC, 0, none⟩) (nC + 1) capC) HXG.out)
          have HR7 := hid (((HR5.out.kept0 (World.grownBy_alloc w5 (.cells #[.int .u32 536936448] 46) none)).kept HGC.out (fun e => HNeC.out.2 R (by simp) e.symm)).other G 1 (.slice (some ⟨gC, 0, none⟩) (nC + 1) capC) HPk.out.d)
          generalize vC.setCell ⟨G, 1, none⟩ (.slice (some ⟨gC, 0, none⟩) (nC + 1) capC) = w7 at HO7 HX7 HR7 ⊢
          clear HSC HOwC HNC HNeC HGC HTC HRC HiC Hz0C Hz1C Hz2C HO5 HX5 HR5
          obtain ⟨iM, hi, hz0, hz1, hz2⟩ := info_u8
          have HiM := hid hi
          have Hz0M := hid hz0
          have Hz1M := hid hz1
          have Hz2M := hid hz2
          have eiM := HO7.out.g1.cell 2 rfl
          have HSM := hid (HO7.out.kept0 (World.grownBy_alloc w7 (.cells #[.int .u8 1] 5) none))
          have HOwM := HSM.out.own.m
          simp only at HOwM
          rw [HnM.out] at HOwM
          have HOwM := hid HOwM
          have HNM : Hid (∀ j u, [Value.int .u8 1][j]? = some u → (w7.alloc (.cells #[.int .u8 1] 5)).cell? ((⟨w7.heap.size, 0, none⟩ : Addr).add j) = some u) := hid (World.news_of_block (heap_alloc_new w7 _))
          have HNeM := hid (HSM.out.ne (.slice mp nM mc) (by simp))
          clear hi hz0 hz1 hz2
          go_upto_region 16 with (first
              | (refine wpList_append_lies _ rfl _ _ 23 rfl W.heap.size 5 iM _ 1 1 Tryz.underlying23 HiM.out Hz0M.out Hz1M.out Hz2M.out rfl (by decide) _ nM _ rfl HOwM.out ⟨w7.heap.size, 0, none⟩ 1 1 _ rfl rfl HNM.out (by simp [Value.oneCell']) (by decide) (by have := HLn.out.2; unfold maxLen; omega) (by have := HLn.out.2; omega) HSM.out.le _ rfl ?_
                 intro gM capM vM hown hgrow hat hlt2
                 have HRM := hid hown
                 have hgrow0 : (w7.alloc (.cells #[.int .u8 1] 5)).grownBy vM (Value.slice mp nM mc).ownBlock := hgrow
                 have hat0 : (Value.slice mp nM mc).ownBlock = some gM ∨ gM = (w7.alloc (.cells #[.int .u8 1] 5)).heap.size := hat
                 have HGM := hid hgrow0
                 have HTM := hid hat0
                 have bM := HSM.out.g1.kept hgrow0 (fun e => HNeM.out.1 e.symm)
                 have cM := bM.cell 2 rfl
                 have zM := bM.free 2
                 clear hown hgrow hat hlt2 hgrow0 hat0)
              | fail)
          clear cM zM bM eiM
          have HO8 := hid (OBx.tM HSM.out [1] HnM.out.symm rfl HGM.out HTM.out HRM.out)
          have HX8 := hid (((HX7.out.kept0 (World.grownBy_alloc w7 (.cells #[.int .u8 1] 5) none)).kept HGM.out (fun e => HNeM.out.2 X (by simp) e.symm)).other G 2 (.slice (some ⟨gM, 0, none⟩) (nM + 1) capM) HXG.out)
          have HR8 := hid (((HR7.out.kept0 (World.grownBy_alloc w7 (.cells #[.int .u8 1] 5) none)).kept HGM.out (fun e => HNeM.out.2 R (by simp) e.symm)).other G 2 (.slice (some ⟨gM, 0, none⟩) (nM + 1) capM) HPk.out.d)
          generalize vM.setCell ⟨G, 2, none⟩ (.slice (some ⟨gM, 0, none⟩) (nM + 1) capM) = w8 at HO8 HX8 HR8 ⊢
          clear HSM HOwM HNM HNeM HGM HTM HRM HiM Hz0M Hz1M Hz2M HO7 HX7 HR7
          have x0 := HX8.out.cell 0 (v := .int .i64 32) rfl
          have htw : twoB 32 = false := by decide
          have hLp : Hid (Lp W R G a (k + 1) w8 ⟨d, .slice (some ⟨gC, 0, none⟩) (nC + 1) capC, .slice (some ⟨gM, 0, none⟩) (nM + 1) capM, .slice none 0 0, .slice none 0 0, s⟩) := hid ⟨by
            have h := HO8.out.drop
            rw [objK_halt Hka.out] at h
            exact h, HR8.out, HPk.out.d, rfl, rfl, fun h => absurd h (by have := Hka.out; omega)⟩
          clear HO8 HX8 HR8
          go_wp2_with fail
          refine (rtwo_any 32 _).mono ?_
          rintro e w9 ⟨rfl, rfl⟩
          rw [htw]
          go_wp2
          go_roundw
          case rel => exact ⟨k + 1, Hlt.out, by go_num, hid ⟨_, hLp.out⟩⟩
          case measure => simp [intOf]; have := Hlt.out; omega
    · obtain rfl : k = a + 2 := by omega
      clear hlt
      obtain ⟨⟨d, c, m, r, q, s⟩, hp⟩ := HP.out
      have hR : W.heap.size ≤ R := Nat.le_of_eq HRe.out
      have E := hid (hp.res.row #[d, c, m, r, q, s])
      have ED := hid (hp.done hR #[d, c, m, r, q, s])
      have HPo := hid hp
      have h1 := own_one hp.ob.own.d
      have h2 := own_one hp.ob.own.c
      have h3 := own_one hp.ob.own.m
      have h4 := own_one hp.ob.own.r
      have h5 := own_one hp.ob.own.q
      have h6 := own_one hp.ob.own.s
      have hall : (#[d, c, m, r, q, s] : Array Value).all (·.oneCell') = true := by simp_all
      clear h1 h2 h3 h4 h5 h6 hp hR
      go_wp2_with (first
        | (refine wpList_load_rw rfl 27 _ rfl rfl HPo.out.ob.g1 rfl Tryz.underlying27 info_object ?_)
        | (refine wpList_store_rw rfl 27 _ _ rfl rfl rfl HPo.out.res info_object rfl hall ?_)
        | fail)
      refine bodyPost_ret (results_cell_row Tryz.results26 _ _ R _ _ _ _ rfl E.out.blk Tryz.underlying27 rfl info_object) rfl ?_
      exact ⟨⟨d, c, m, r, q, s⟩, rfl, ED.out.1, ED.out.2⟩
end Go.Proofs.YtgahbpfmiibpeaaGreatDoor

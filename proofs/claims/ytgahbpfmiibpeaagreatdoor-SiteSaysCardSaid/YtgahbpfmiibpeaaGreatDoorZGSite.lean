/- What has to be rewritten (package site), as plain data. -/
import Derived.Test.YtgahbpfmiibpeaaGreatDoorZGObjA
import Derived.Test.YtgahbpfmiibpeaaGreatDoorZGCore
import Derived.Test.YtgahbpfmiibpeaaGreatDoorZGIsaA
import Derived.Test.YtgahbpfmiibpeaaGreatDoorZObjH
import Derived.Test.YtgahbpfmiibpeaaGreatDoorZObjN
import Derived.Test.YtgahbpfmiibpeaaGreatDoorZObj13
import Derived.Deep.Cut
import Derived.Deep.RegionHeld3
import Derived.StillTailTactics
namespace Go.Proofs.YtgahbpfmiibpeaaGreatDoor
open Go.RowKit
/-- where instructions begin, below n -/
def stL (x : PO) (n : Nat) : List Nat := (List.range n).filter fun k => decide (mapN x k = 1)
/-- the operation of word k -/
def wOp (x : PO) (k : Nat) : Int := x.C.getD k 0 / 16777216
def isT (x : PO) (k : Nat) : Bool := decide (clsI (wOp x k) = 2 ∨ clsI (wOp x k) = 3)
/-- what has to be rewritten, of these -/
def siL (x : PO) (l : List Nat) : List Nat := l.filter (isT x)
def secN (x : PO) (k : Nat) : Int := x.C.getD (k + 1) 0
/-- the instruction that begins at word k -/
def begC (x : PO) (k : Nat) : List Value := [.int .i64 (x.C.getD k 0 / 16777216), .int .i64 (x.C.getD k 0 / 65536 % 256), .int .i64 (x.C.getD k 0 / 256 % 256), .int .i64 (x.C.getD k 0 % 256), .int .u32 (wantImm (x.C.getD k 0 / 16777216) (secN x k))]
def siC (x : PO) (k : Nat) : List Value := .int .i64 k :: .int .i64 (clsI (wOp x k)) :: begC x k
def sisC (x : PO) : List Nat → List Value
  | [] => []
  | k :: l => siC x k ++ sisC x l
theorem sisC_length (x : PO) : ∀ l, (sisC x l).length = l.length * 7
  | [] => rfl
  | k :: l => by rw [sisC, List.length_append, sisC_length x l, List.length_cons]; simp [siC, begC]; omega
theorem sisC_append (x : PO) : ∀ l m : List Nat, sisC x (l ++ m) = sisC x l ++ sisC x m
  | [], _ => rfl
  | s :: r, m => by rw [List.cons_append, sisC, sisC_append x r m, sisC, List.append_assoc]
theorem sisC_get (x : PO) : ∀ (l : List Nat) (k j p : Nat), l[k]? = some p → j < 7 → (sisC x l)[k * 7 + j]? = (siC x p)[j]?
  | [], _, _, _, h, _ => by simp at h
  | y :: r, 0, j, p, h, hj => by
    obtain rfl : y = p := by simpa using h
    rw [sisC, Nat.zero_mul, Nat.zero_add, List.getElem?_append_left (by simpa [siC, begC] using hj)]
  | y :: r, k + 1, j, p, h, hj => by
    have := sisC_get x r k j p (by simpa using h) hj
    rw [sisC, List.getElem?_append_right (by simp [siC, begC]; omega), ← this]
    congr 1
    simp [siC, begC]; omega
theorem stL_zero (x : PO) : stL x 0 = [] := rfl
theorem stL_yes {x : PO} {n : Nat} (h : mapN x n = 1) : stL x (n + 1) = stL x n ++ [n] := by
  unfold stL
  rw [List.range_succ, List.filter_append, List.filter_cons_of_pos (by simpa using h), List.filter_nil]
theorem stL_no {x : PO} {n : Nat} (h : mapN x n ≠ 1) : stL x (n + 1) = stL x n := by
  unfold stL
  rw [List.range_succ, List.filter_append, List.filter_cons_of_neg (by simpa using h), List.filter_nil, List.append_nil]
theorem stL_mem {x : PO} {n k : Nat} (h : k ∈ stL x n) : k < n ∧ mapN x k = 1 := by
  unfold stL at h
  rw [List.mem_filter] at h
  exact ⟨List.mem_range.1 h.1, by simpa using h.2⟩
theorem stL_length (x : PO) (n : Nat) : (stL x n).length ≤ n := by
  unfold stL
  exact Nat.le_trans (List.length_filter_le _ _) (by simp)
theorem siL_append (x : PO) (l m : List Nat) : siL x (l ++ m) = siL x l ++ siL x m := List.filter_append ..
theorem siL_length (x : PO) (l : List Nat) : (siL x l).length ≤ l.length := List.length_filter_le _ _
theorem siL_take {x : PO} {l : List Nat} {j k : Nat} (h : l[j]? = some k) : siL x (l.take (j + 1)) = siL x (l.take j) ++ (if isT x k = true then [k] else []) := by
  rw [List.take_add_one, h, siL_append]
  congr 1
  simp only [Option.toList, siL, List.filter_cons, List.filter_nil]
/-- what comes behind -/
theorem siL_rest (x : PO) (i : Nat) : ∀ n, i ≤ n → ∃ r, siL x (stL x n) = siL x (stL x i) ++ r ∧ ∀ p ∈ r, i ≤ p := by
  intro n hn
  induction n with
  | zero =>
    obtain rfl : i = 0 := by omega
    exact ⟨[], by simp, by simp⟩
  | succ n ih =>
    by_cases e : i = n + 1
    · exact ⟨[], by rw [e]; simp, by simp⟩
    · obtain ⟨r, hr, hp⟩ := ih (by omega)
      by_cases h : mapN x n = 1
      · refine ⟨r ++ siL x [n], by rw [stL_yes h, siL_append, hr, List.append_assoc], fun p hm => ?_⟩
        rcases List.mem_append.1 hm with hm | hm
        · exact hp p hm
        · have : p = n := by simpa using (List.mem_filter.1 hm).1
          omega
      · exact ⟨r, by rw [stL_no h, hr], hp⟩
/-- word i is to be rewritten: it is the next one -/
theorem siL_next {x : PO} {i n : Nat} (hi : i < n) (hm : mapN x i = 1) (ht : isT x i = true) : (siL x (stL x n))[(siL x (stL x i)).length]? = some i ∧ siL x (stL x (i + 1)) = siL x (stL x i) ++ [i] := by
  have e : siL x (stL x (i + 1)) = siL x (stL x i) ++ [i] := by
    rw [stL_yes hm, siL_append]
    congr 1
    simp [siL, ht]
  obtain ⟨r, hr, _⟩ := siL_rest x (i + 1) n hi
  exact ⟨by rw [hr, e, List.append_assoc, List.getElem?_append_right (by omega)]; simp, e⟩
/-- word i is not: the next one, if there is one, stands behind it -/
theorem siL_other {x : PO} {i n : Nat} (hi : i < n) (h : ¬ (mapN x i = 1 ∧ isT x i = true)) : ((siL x (stL x n)).length ≤ (siL x (stL x i)).length ∨ ∃ p, (siL x (stL x n))[(siL x (stL x i)).length]? = some p ∧ i < p) ∧ siL x (stL x (i + 1)) = siL x (stL x i) := by
  have e : siL x (stL x (i + 1)) = siL x (stL x i) := by
    by_cases hm : mapN x i = 1
    · have ht : isT x i ≠ true := fun ht => h ⟨hm, ht⟩
      rw [stL_yes hm, siL_append]
      simp [siL, ht]
    · rw [stL_no hm]
  obtain ⟨r, hr, hp⟩ := siL_rest x (i + 1) n hi
  refine ⟨?_, e⟩
  rw [hr, e]
  cases r with
  | nil => left; simp
  | cons p r => exact .inr ⟨p, by rw [List.getElem?_append_right (by omega)]; simp, hp p (by simp)⟩
/-- an instruction of a valid object's code is one, whatever stands behind it -/
theorem ins_any {o a b c i : Int} (h : insB o a b c 0 = true) : insB o a b c (wantImm o i) = true := by
  cases ht : twoB o
  · rw [wantImm_no ht]; exact h
  · rw [wantImm_yes ht]
    unfold insB at h ⊢
    simpa [ht] using h
theorem sifirst_ins {x : PO} {k : Nat} (h : firstF x k = none) (hm : mapN x k = 1) : insB (x.C.getD k 0 / 16777216) (x.C.getD k 0 / 65536 % 256) (x.C.getD k 0 / 256 % 256) (x.C.getD k 0 % 256) 0 = true := by
  by_cases h2 : insB (x.C.getD k 0 / 16777216) (x.C.getD k 0 / 65536 % 256) (x.C.getD k 0 / 256 % 256) (x.C.getD k 0 % 256) 0 = true
  · exact h2
  · have h3 : opN x k = 0 := by unfold opN opW; rw [if_pos hm, if_neg h2]
    unfold firstF at h
    rw [if_pos (.inl h3)] at h
    cases h
theorem siword_first {x : PO} {k : Nat} (h : wordF x k = none) (hm : mapN x k = 1) : firstF x k = none := by
  unfold wordF at h
  rw [if_pos hm] at h
  exact h
end Go.Proofs.YtgahbpfmiibpeaaGreatDoor
/- Package site: Starts, begins: contracts. -/
namespace Go.Proofs.YtgahbpfmiibpeaaGreatDoor
open Go.RowKit
theorem info_int : ∃ i : TypeInfo, Tryz.prog.info? 3 = some i ∧ i.zero = some (.int .i64 0) ∧ i.size = 1 ∧ i.bytes = 8 := info_parts (P := Tryz.prog) (e := 3) (z := .int .i64 0) (size := 1) (bytes := 8) (by kernel_rfl)
def natC (l : List Nat) : List Value := l.map fun (k : Nat) => Value.int .i64 (k : Int)
structure SRw (W w : World) (G : Nat) (V : OV) (x : PO) (v : Value) (k : Nat) : Prop where
  box : RwAt w G 27 #[V.d, V.c, V.m, V.r, V.q, V.s]
  g : W.grownBy w none
  own : w.ownsRow W.heap.size 3 1 v (stL x k).length (natC (stL x k))
  ne : v.ownBlock ≠ some G
theorem SRw.kept0 {W w w1 : World} {G : Nat} {V : OV} {x : PO} {v : Value} {k : Nat} (h : SRw W w G V x v k) (hg : w.grownBy w1 none) : SRw W w1 G V x v k := ⟨h.box.kept0 hg, grown_trans h.g hg, own_keep0 h.own hg, h.ne⟩
set_option maxRecDepth 100000 in
set_option maxHeartbeats 4000000 in
theorem starts_any {W : World} {V : OV} {x : PO} (h : OAt W V x) (hl : x.M.length = x.C.length) (hn : x.C.length ≤ 1000000) :
    Calls Tryz.prog 20 #[V.agg] W fun e w' => ∃ v, e = .returned v ∧ w'.ownsRow W.heap.size 3 1 v (stL x x.C.length).length (natC (stL x x.C.length)) ∧ W.grownBy w' none := by
  obtain ⟨d, c, m, r, q, s⟩ := V
  obtain ⟨cp, cc, hcv⟩ := h.c.len'
  obtain ⟨mp, mc, hmv⟩ := h.m.len'
  simp only at hcv hmv
  rw [hl] at hmv
  subst hcv; subst hmv
  have HSR : Hid (SRw W (W.alloc (.cells #[d, .slice cp x.C.length cc, .slice mp x.C.length mc, r, q, s] 27)) W.heap.size ⟨d, .slice cp x.C.length cc, .slice mp x.C.length mc, r, q, s⟩ x (.slice none 0 0) 0) := hid ⟨RwAt.new W _ _, World.grownBy_alloc W _ none, World.ownsRow_nil _ _ _ _, by simp [Value.ownBlock]⟩
  have HOA := hid h
  obtain ⟨n, hne⟩ : ∃ n, x.C.length = n := ⟨_, rfl⟩
  have Hl := hid hl
  rw [hne] at HSR hn Hl ⊢
  have Hne := hid hne
  have Hn := hid hn
  have n0 : (0 : Int) ≤ (n : Int) := by omega
  have n1 : (n : Int) ≤ 1000000 := by omega
  have hmin : min (n : Int) (n : Int) = (n : Int) := Int.min_self _
  clear h hl hn hne
  go_enter Tryz.func20, Tryz.ntmps20
  go_upto_region 1 with (fail)
  obtain ⟨G, hG⟩ : ∃ G, W.heap.size = G := ⟨_, rfl⟩
  have HGe := hid hG
  rw [hG] at HSR ⊢
  clear hG
  generalize W.alloc (.cells #[d, .slice cp n cc, .slice mp n mc, r, q, s] 27) = w1 at HSR ⊢
  have e1 := HSR.out.box.cell 1 (v := .slice cp n cc) rfl
  have e2 := HSR.out.box.cell 2 (v := .slice mp n mc) rfl
  go_wp2
  clear e1 e2 hmin
  go_loopw [3, 12] (fun v i wr => ∃ k : Nat, k ≤ n ∧ i = .int .i64 k ∧ Hid (SRw W wr G ⟨d, .slice cp n cc, .slice mp n mc, r, q, s⟩ x v k)) (fun _ i _ => n - (intOf i).toNat)
  case atStart => exact ⟨0, Nat.zero_le _, rfl, HSR⟩
  case round =>
    obtain ⟨k, hk, rfl, HR⟩ := hrel
    have k0 : (0 : Int) ≤ (k : Int) := by omega
    obtain ⟨vp, vc, rfl⟩ := own_slice HR.out.own
    obtain ⟨L, hL⟩ : ∃ L, (stL x k).length = L := ⟨_, rfl⟩
    have HL := hid hL
    have HLn : Hid (L ≤ 1000000) := hid (by have := stL_length x k; have := Hn.out; omega)
    rw [hL] at HR ⊢
    have HRc := hid HR.out
    clear hL HR
    by_cases hlt : k < n
    · have kn : (k : Int) < (n : Int) := by omega
      have Hlt := hid hlt
      obtain ⟨y, hy⟩ : ∃ y, x.M[k]? = some y := ⟨_, List.getElem?_eq_getElem (by rw [Hl.out]; exact hlt)⟩
      have hmap : mapN x k = y := by unfold mapN; rw [List.getD_eq_getElem?_getD, hy]; rfl
      obtain ⟨b, o, c', hv, hb, hc⟩ := (HOA.out.kept0 HRc.out.g).m.at_ (by rw [Hl.out]; omega)
      simp only [Value.slice.injEq] at hv
      obtain ⟨rfl, -, -⟩ := hv
      have ey := hc k y hy
      have e2 := HRc.out.box.cell 2 (v := .slice (some ⟨b, o, none⟩) n mc) rfl
      clear hb hc hy hlt
      by_cases h1 : y = 1
      · subst h1
        have Hmap := hid hmap
        clear hmap
        obtain ⟨i, hi, hz0, hz1, hz2⟩ := info_int
        have Hi := hid hi
        have Hz0 := hid hz0
        have Hz1 := hid hz1
        have Hz2 := hid hz2
        have HRa := hid (HRc.out.kept0 (World.grownBy_alloc wr (.cells #[.int .i64 k] 3) none))
        have HOw := HRa.out.own
        rw [HL.out] at HOw
        have HOw := hid HOw
        have HN : Hid (∀ j u, [Value.int .i64 (k : Int)][j]? = some u → (wr.alloc (.cells #[.int .i64 k] 3)).cell? ((⟨wr.heap.size, 0, none⟩ : Addr).add j) = some u) := hid (World.news_of_block (heap_alloc_new wr _))
        clear hi hz0 hz1 hz2
        go_wp2_with (first
          | (refine wpList_append_lies _ rfl _ _ 53 rfl W.heap.size 3 i _ 1 8 Tryz.underlying53 Hi.out Hz0.out Hz1.out Hz2.out rfl (by decide) _ L _ rfl HOw.out ⟨wr.heap.size, 0, none⟩ 1 1 _ rfl rfl HN.out (by simp [Value.oneCell']) (by decide) (by have := HLn.out; unfold maxLen; omega) (by have := HLn.out; omega) HRa.out.g.size _ rfl ?_
             intro g cap w5 hown hgrow hat hlt2
             have HO := hid hown
             have hgrow0 : (wr.alloc (.cells #[.int .i64 k] 3)).grownBy w5 (Value.slice vp L vc).ownBlock := hgrow
             have hat0 : (Value.slice vp L vc).ownBlock = some g ∨ g = (wr.alloc (.cells #[.int .i64 k] 3)).heap.size := hat
             have HG5 := hid hgrow0
             have HAt := hid hat0
             clear hown hgrow hat hlt2 hgrow0 hat0)
          | fail)
        go_roundw
        case rel =>
          refine ⟨k + 1, Hlt.out, by go_num, hid ⟨?_, ?_, ?_, ?_⟩⟩
          · exact HRa.out.box.kept HG5.out (fun e => HRa.out.ne e.symm)
          · exact grown_new' (grown_trans (grown_none HRa.out.g) HG5.out) (fun j hj => (HOw.out.lt j hj).1)
          · rw [stL_yes Hmap.out, List.length_append, HL.out, natC, List.map_append]
            exact HO.out
          · rcases HAt.out with e | e
            · exact fun h => HRa.out.ne (e.trans h)
            · have h1 := HRa.out.box.lt
              simp only [Value.ownBlock, ne_eq, Option.some.injEq]
              omega
        case measure => simp [intOf]; have := Hlt.out; omega
      · have h1b : (y == 1) = false := by simpa using h1
        have hmap1 : mapN x k ≠ 1 := by rw [hmap]; exact h1
        have Hmap := hid hmap1
        clear hmap hmap1 h1
        go_wp2
        go_roundw
        case rel => exact ⟨k + 1, Hlt.out, by go_num, hid ⟨HRc.out.box, HRc.out.g, by rw [stL_no Hmap.out]; exact HRc.out.own, HRc.out.ne⟩⟩
        case measure => simp [intOf]; have := Hlt.out; omega
    · obtain rfl : k = n := by omega
      clear hlt
      have kn : ¬ ((k : Int) < (k : Int)) := by omega
      go_wp2
      go_ret
      exact ⟨_, rfl, by have := HRc.out.own; rw [HL.out]; rw [HL.out] at this; exact this, HRc.out.g⟩
theorem info_ins : (Tryz.prog.info? 48).map (·.size) = some 5 := by kernel_rfl
theorem zero_ins5 (w : World) : (zeroValue 48).run Tryz.prog w = .ok (.agg #[.int .i64 0, .int .i64 0, .int .i64 0, .int .i64 0, .int .u32 0]) w := by kernel_rfl
set_option maxRecDepth 100000 in
set_option maxHeartbeats 4000000 in
theorem begins_any {W : World} {V : OV} {x : PO} {k : Nat} (h : OAt W V x) (hf : OFit x) (hk : k < x.C.length) (hn : x.C.length ≤ 1000000)
    (hi : insB (x.C.getD k 0 / 16777216) (x.C.getD k 0 / 65536 % 256) (x.C.getD k 0 / 256 % 256) (x.C.getD k 0 % 256) 0 = true) :
    Calls Tryz.prog 43 #[V.agg, .int .i64 k] W fun e w' => e = .returned (.agg (begC x k).toArray) ∧ W.grownBy w' none := by
  obtain ⟨d, c, m, r, q, s⟩ := V
  obtain ⟨b, o, cc, hcv, hb, hc⟩ := h.c.at_ (by omega)
  simp only at hcv
  subst hcv
  obtain ⟨y, hy⟩ : ∃ y, x.C[k]? = some y := ⟨_, List.getElem?_eq_getElem hk⟩
  have hyd : x.C.getD k 0 = y := by rw [List.getD_eq_getElem?_getD, hy]; rfl
  rw [hyd] at hi
  have hbeg : (begC x k).toArray = #[.int .i64 (y / 16777216), .int .i64 (y / 65536 % 256), .int .i64 (y / 256 % 256), .int .i64 (y % 256), .int .u32 (wantImm (y / 16777216) (secN x k))] := by unfold begC; rw [hyd]
  rw [hbeg]
  have hyr := hf.c y (List.mem_of_getElem? hy)
  have HY := hid hyr
  have HI := hid hi
  have HB0 := hid (RwAt.new W 27 #[d, .slice (some ⟨b, o, none⟩) x.C.length cc, m, r, q, s])
  have HG0 := hid (World.grownBy_alloc W (.cells #[d, .slice (some ⟨b, o, none⟩) x.C.length cc, m, r, q, s] 27) none)
  have HC := hid hc
  have Hb := hid hb
  have Hy := hid hy
  obtain ⟨j, hj⟩ : ∃ j, secN x k = j := ⟨_, rfl⟩
  rw [hj]
  have Hj := hid hj
  obtain ⟨n, hne⟩ : ∃ n, x.C.length = n := ⟨_, rfl⟩
  rw [hne] at HB0 HG0 hk hn ⊢
  have Hne := hid hne
  have Hk := hid hk
  have k0 : (0 : Int) ≤ (k : Int) := by omega
  have kn : (k : Int) < (n : Int) := by omega
  have n1 : (n : Int) ≤ 1000000 := by omega
  have Hz := zero_ins5
  clear h hf hk hn hi hc hb hy hyd hbeg hyr hj hne
  go_enter Tryz.func43, Tryz.ntmps43
  go_upto_region 1 with (fail)
  have HBr := hid (HB0.out.kept0 (World.grownBy_alloc _ (.cells #[.int .i64 0, .int .i64 0, .int .i64 0, .int .i64 0, .int .u32 0] 48) none))
  have HR := hid (RwAt.new2 W (.cells #[d, .slice (some ⟨b, o, none⟩) n cc, m, r, q, s] 27) 48 #[.int .i64 0, .int .i64 0, .int .i64 0, .int .i64 0, .int .u32 0])
  have HG1 := hid (grown_trans HG0.out (World.grownBy_alloc _ (.cells #[.int .i64 0, .int .i64 0, .int .i64 0, .int .i64 0, .int .u32 0] 48) none))
  obtain ⟨R, hR⟩ : ∃ R, W.heap.size + 1 = R := ⟨_, rfl⟩
  have HRe : Hid (W.heap.size ≤ R) := hid (by omega)
  rw [hR] at HR
  clear HB0 HG0
  generalize (W.alloc (.cells #[d, .slice (some ⟨b, o, none⟩) n cc, m, r, q, s] 27)).alloc (.cells #[.int .i64 0, .int .i64 0, .int .i64 0, .int .i64 0, .int .u32 0] 48) = w1 at HBr HR HG1 ⊢
  obtain ⟨G, hG⟩ : ∃ G, W.heap.size = G := ⟨_, rfl⟩
  try rw [hR]
  try rw [hG]
  rw [hG] at HBr
  clear hR hG
  have e1 := HBr.out.cell 1 (v := .slice (some ⟨b, o, none⟩) n cc) rfl
  have ey : w1.cell? ⟨b, o + k, none⟩ = some (.int .u32 y) := by rw [grown_cell HG1.out Hb.out (by simp)]; exact HC.out k y Hy.out
  by_cases hlast : k + 1 < n
  · have kl : (k : Int) + 1 < (n : Int) := by omega
    obtain ⟨z, hz⟩ : ∃ z, x.C[k + 1]? = some z := ⟨_, List.getElem?_eq_getElem (by rw [Hne.out]; exact hlast)⟩
    have hjz : j = z := by rw [← Hj.out]; unfold secN; rw [List.getD_eq_getElem?_getD, hz]; rfl
    subst hjz
    have ez : w1.cell? ⟨b, o + (k + 1), none⟩ = some (.int .u32 j) := by rw [grown_cell HG1.out Hb.out (by simp)]; exact HC.out (k + 1) j hz
    have ez2 : w1.cell? ⟨b, o + k + 1, none⟩ = some (.int .u32 j) := ez
    clear hz hlast
    go_wp2_with fail
    refine (of_yes y j _ HY.out.1 HY.out.2 (ins_any HI.out)).mono ?_
    rintro e w2 ⟨rfl, hbl⟩
    have hg := below_is_grown hbl
    have HR2 := hid (HR.out.kept0 hg)
    have HG2 := hid (grown_trans HG1.out hg)
    clear hbl hg e1 ey ez ez2 HBr HR HG1
    obtain ⟨t, ht⟩ : ∃ t, wantImm (y / 16777216) j = t := ⟨_, rfl⟩
    rw [ht]
    have HTe := hid ht
    clear ht
    go_upto_region 5 with (fail)
    clear Hz
    have HX3 := hid (RwAt.new w2 48 #[.int .i64 (y / 16777216), .int .i64 (y / 65536 % 256), .int .i64 (y / 256 % 256), .int .i64 (y % 256), .int .u32 t])
    have al := World.grownBy_alloc w2 (.cells #[.int .i64 (y / 16777216), .int .i64 (y / 65536 % 256), .int .i64 (y / 256 % 256), .int .i64 (y % 256), .int .u32 t] 48) none
    have HR3 := hid (HR2.out.kept0 al)
    have HG3 := hid (grown_trans HG2.out al)
    clear al
    have E := hid (HR3.out.row #[.int .i64 (y / 16777216), .int .i64 (y / 65536 % 256), .int .i64 (y / 256 % 256), .int .i64 (y % 256), .int .u32 t])
    have EG := hid (grown_setRow HG3.out HRe.out #[.int .i64 (y / 16777216), .int .i64 (y / 65536 % 256), .int .i64 (y / 256 % 256), .int .i64 (y % 256), .int .u32 t])
    go_wp2_with (first
      | (refine wpList_load_rw rfl 48 _ rfl rfl HX3.out rfl Tryz.underlying48 info_ins ?_)
      | (refine wpList_store_rw rfl 48 _ _ rfl rfl rfl HR3.out info_ins rfl (by simp [Value.oneCell']) ?_)
      | fail)
    refine bodyPost_ret (results_cell_row Tryz.results43 _ _ R _ _ _ _ rfl E.out.blk Tryz.underlying48 rfl info_ins) rfl ?_
    exact ⟨by rw [HTe.out], EG.out⟩
  · have kl : ¬ ((k : Int) + 1 < (n : Int)) := by omega
    have hjz : j = 0 := by rw [← Hj.out]; unfold secN; rw [List.getD_eq_getElem?_getD, List.getElem?_eq_none (by rw [Hne.out]; omega)]; rfl
    subst hjz
    clear hlast
    go_wp2_with fail
    refine (of_yes y 0 _ HY.out.1 HY.out.2 (ins_any HI.out)).mono ?_
    rintro e w2 ⟨rfl, hbl⟩
    have hg := below_is_grown hbl
    have HR2 := hid (HR.out.kept0 hg)
    have HG2 := hid (grown_trans HG1.out hg)
    clear hbl hg e1 ey HBr HR HG1
    obtain ⟨t, ht⟩ : ∃ t, wantImm (y / 16777216) 0 = t := ⟨_, rfl⟩
    rw [ht]
    have HTe := hid ht
    clear ht
    go_upto_region 5 with (fail)
    clear Hz
    have HX3 := hid (RwAt.new w2 48 #[.int .i64 (y / 16777216), .int .i64 (y / 65536 % 256), .int .i64 (y / 256 % 256), .int .i64 (y % 256), .int .u32 t])
    have al := World.grownBy_alloc w2 (.cells #[.int .i64 (y / 16777216), .int .i64 (y / 65536 % 256), .int .i64 (y / 256 % 256), .int .i64 (y % 256), .int .u32 t] 48) none
    have HR3 := hid (HR2.out.kept0 al)
    have HG3 := hid (grown_trans HG2.out al)
    clear al
    have E := hid (HR3.out.row #[.int .i64 (y / 16777216), .int .i64 (y / 65536 % 256), .int .i64 (y / 256 % 256), .int .i64 (y % 256), .int .u32 t])
    have EG := hid (grown_setRow HG3.out HRe.out #[.int .i64 (y / 16777216), .int .i64 (y / 65536 % 256), .int .i64 (y / 256 % 256), .int .i64 (y % 256), .int .u32 t])
    go_wp2_with (first
      | (refine wpList_load_rw rfl 48 _ rfl rfl HX3.out rfl Tryz.underlying48 info_ins ?_)
      | (refine wpList_store_rw rfl 48 _ _ rfl rfl rfl HR3.out info_ins rfl (by simp [Value.oneCell']) ?_)
      | fail)
    refine bodyPost_ret (results_cell_row Tryz.results43 _ _ R _ _ _ _ rfl E.out.blk Tryz.underlying48 rfl info_ins) rfl ?_
    exact ⟨by rw [HTe.out], EG.out⟩
end Go.Proofs.YtgahbpfmiibpeaaGreatDoor
/- Package site: Sites: contracts. -/
namespace Go.Proofs.YtgahbpfmiibpeaaGreatDoor
open Go.RowKit
theorem info_site : ∃ i : TypeInfo, Tryz.prog.info? 50 = some i ∧ i.zero = some (.agg #[.int .i64 0, .int .i64 0, .int .i64 0, .int .i64 0, .int .i64 0, .int .i64 0, .int .u32 0]) ∧ i.size = 7 ∧ i.bytes = 56 := info_parts (P := Tryz.prog) (e := 50) (z := .agg #[.int .i64 0, .int .i64 0, .int .i64 0, .int .i64 0, .int .i64 0, .int .i64 0, .int .u32 0]) (size := 7) (bytes := 56) (by kernel_rfl)
theorem build_site (k cl a b c d e : Int) (w : World) : (Instr.build 50 #[(0, .int .i64 k), (1, .int .i64 cl), (2, .agg #[.int .i64 a, .int .i64 b, .int .i64 c, .int .i64 d, .int .u32 e])]).run Tryz.prog w = .ok (.agg #[.int .i64 k, .int .i64 cl, .int .i64 a, .int .i64 b, .int .i64 c, .int .i64 d, .int .u32 e]) w := by kernel_rfl
/-- where the loop stands: behind j of the starts -/
structure SIw (W w : World) (G : Nat) (V : OV) (x : PO) (sv : Value) (l : List Nat) (v : Value) (j : Nat) : Prop where
  box : RwAt w G 27 #[V.d, V.c, V.m, V.r, V.q, V.s]
  g : W.grownBy w none
  st : CsAt w sv l.length (natC l)
  own : w.ownsRow W.heap.size 50 7 v (siL x (l.take j)).length (sisC x (siL x (l.take j)))
  ne : v.ownBlock ≠ some G ∧ (sv.ownBlock = none ∨ v.ownBlock ≠ sv.ownBlock)
theorem SIw.kept0 {W w w1 : World} {G : Nat} {V : OV} {x : PO} {sv v : Value} {l : List Nat} {j : Nat} (h : SIw W w G V x sv l v j) (hg : w.grownBy w1 none) : SIw W w1 G V x sv l v j := ⟨h.box.kept0 hg, grown_trans h.g hg, h.st.kept0 hg, own_keep0 h.own hg, h.ne⟩
theorem CsAt.kept {w w1 : World} {v : Value} {n : Nat} {cs : List Value} {r : Option Nat} (h : CsAt w v n cs) (hg : w.grownBy w1 r) (hr : v.ownBlock = none ∨ v.ownBlock ≠ r) : CsAt w1 v n cs := by
  rcases h with h | ⟨b, o, c, rfl, hn, hb, hc⟩
  · exact .inl h
  · refine .inr ⟨b, o, c, rfl, hn, Nat.lt_of_lt_of_le hb hg.size, fun j x hx => ?_⟩
    rw [grown_cell hg hb (by rcases hr with h | h; cases h; exact h)]
    exact hc j x hx
set_option maxRecDepth 100000 in
set_option maxHeartbeats 8000000 in
theorem sites_yes {W : World} {A : Nat → Addr} {V : OV} {x : PO} (h : OAt W V x) (he : ErrC W A) (hf : OFit x) (hv : validP x = none) :
    Calls Tryz.prog 12 #[V.agg] W fun e w' => ∃ v, e = .returned (.tuple #[v, .nilIface]) ∧ w'.ownsRow W.heap.size 50 7 v (siL x (stL x x.C.length)).length (sisC x (siL x (stL x x.C.length))) ∧ W.grownBy w' none := by
  have hok := valid_ok hv
  have hmany : x.C.length ≤ 2048 := by have := hok.many; unfold manyB at this; simp only [decide_eq_false_iff_not] at this; omega
  obtain ⟨d, c, m, r, q, s⟩ := V
  have HB0 := hid (RwAt.new W 27 #[d, c, m, r, q, s])
  have HG0 := hid (World.grownBy_alloc W (.cells #[d, c, m, r, q, s] 27) none)
  have HO := hid h
  have HE := hid he
  have HF := hid hf
  have HV := hid hv
  have Hok := hid hok
  have Hmany := hid hmany
  obtain ⟨n, hne⟩ : ∃ n, x.C.length = n := ⟨_, rfl⟩
  have Hne := hid hne
  rw [hne] at Hmany ⊢
  clear h he hf hv hok hmany hne
  go_enter Tryz.func12, Tryz.ntmps12
  go_upto_region 1 with (fail)
  obtain ⟨G, hG⟩ : ∃ G, W.heap.size = G := ⟨_, rfl⟩
  have HGe := hid hG
  rw [hG] at HB0 ⊢
  clear hG
  generalize W.alloc (.cells #[d, c, m, r, q, s] 27) = w1 at HB0 HG0 ⊢
  go_wp2_with (first
    | (refine wpList_load_rw rfl 27 _ rfl rfl HB0.out rfl Tryz.underlying27 info_object ?_)
    | fail)
  refine (valid_any (V := ⟨d, c, m, r, q, s⟩) (HO.out.kept0 HG0.out) (HE.out.kept0 HG0.out) HF.out).mono ?_
  rintro e w2 ⟨fv, rfl, hfl, hg⟩
  rw [HV.out] at hfl
  obtain rfl : fv = .nilIface := hfl
  have HB2 := hid (HB0.out.kept0 hg)
  have HG2 := hid (grown_trans HG0.out hg)
  clear hg HB0 HG0
  go_wp2_with (first
    | (refine wpList_load_rw rfl 27 _ rfl rfl HB2.out rfl Tryz.underlying27 info_object ?_)
    | fail)
  refine (starts_any (V := ⟨d, c, m, r, q, s⟩) (HO.out.kept0 HG2.out) Hok.out.len (by rw [Hne.out]; have := Hmany.out; omega)).mono ?_
  rintro e w3 ⟨sv, rfl, hsv, hg⟩
  obtain ⟨sp, sc, rfl⟩ := own_slice hsv
  obtain ⟨l, hl⟩ : ∃ l, stL x x.C.length = l := ⟨_, rfl⟩
  rw [hl] at hsv ⊢
  have Hl : Hid (stL x n = l) := hid (by rw [← Hne.out]; exact hl)
  have HSI : Hid (SIw W w3 G ⟨d, c, m, r, q, s⟩ x (.slice sp l.length sc) l (.slice none 0 0) 0) := hid ⟨HB2.out.kept0 hg, grown_trans HG2.out hg, CsAt.own hsv, World.ownsRow_nil _ _ _ _, by simp [Value.ownBlock], by
    cases sp with
    | none => exact .inl rfl
    | some p => exact .inr (by simp [Value.ownBlock])⟩
  have HLb : Hid (l.length ≤ 2048) := hid (by rw [← Hl.out]; exact Nat.le_trans (stL_length x n) Hmany.out)
  obtain ⟨N, hN⟩ : ∃ N, l.length = N := ⟨_, rfl⟩
  rw [hN] at HLb HSI ⊢
  have HN := hid hN
  have N0 : (0 : Int) ≤ (N : Int) := by omega
  have N1 : (N : Int) ≤ 2048 := by have := HLb.out; omega
  clear hsv hg hl hN HB2 HG2
  go_wp2
  go_loopw [5, 18] (fun v i wr => ∃ j : Nat, ∃ v' : Value, v = v' ∧ j ≤ N ∧ i = .int .i64 j ∧ Hid (SIw W wr G ⟨d, c, m, r, q, s⟩ x (.slice sp N sc) l v' j)) (fun _ i _ => N - (intOf i).toNat)
  case atStart => exact ⟨0, _, rfl, Nat.zero_le _, rfl, HSI⟩
  case round =>
    obtain ⟨j, v, rfl, hj, rfl, HR⟩ := hrel
    have j0 : (0 : Int) ≤ (j : Int) := by omega
    by_cases hlt : j < N
    · have jn : (j : Int) < (N : Int) := by omega
      have Hlt := hid hlt
      obtain ⟨k, hk⟩ : ∃ k, l[j]? = some k := ⟨_, List.getElem?_eq_getElem (by rw [HN.out]; exact hlt)⟩
      have hmem := stL_mem (x := x) (n := n) (k := k) (by rw [Hl.out]; exact List.mem_of_getElem? hk)
      obtain ⟨b, o, c', hv, -, hb, hc⟩ := HR.out.st.at_ (by rw [HN.out]; omega)
      simp only [Value.slice.injEq] at hv
      obtain ⟨rfl, -, -⟩ := hv
      have ek := hc j (.int .i64 (k : Int)) (by rw [natC, List.getElem?_map, hk]; rfl)
      have Hk := hid hk
      have Hmem := hid hmem
      have Hins := hid (sifirst_ins (siword_first (Hok.out.word k (by rw [Hne.out]; exact hmem.1)) hmem.2) hmem.2)
      obtain ⟨vp, vc, rfl⟩ := own_slice HR.out.own
      obtain ⟨L, hL⟩ : ∃ L, (siL x (l.take j)).length = L := ⟨_, rfl⟩
      have HL := hid hL
      have HLn : Hid (L ≤ 2048) := hid (by
        have h1 := siL_length x (l.take j)
        rw [List.length_take] at h1
        have := HLb.out
        have := HN.out
        omega)
      rw [hL] at HR ⊢
      have HRc := hid HR.out
      clear hL HR hb hc hk hmem hlt
      go_wp2_with (first
        | (refine wpList_load_rw rfl 27 _ rfl rfl HRc.out.box rfl Tryz.underlying27 info_object ?_)
        | fail)
      refine (begins_any (V := ⟨d, c, m, r, q, s⟩) (k := k) (HO.out.kept0 HRc.out.g) HF.out (by rw [Hne.out]; exact Hmem.out.1) (by rw [Hne.out]; have := Hmany.out; omega) Hins.out).mono ?_
      rintro e w5 ⟨rfl, hg⟩
      obtain ⟨b0, b1, b2, b3, b4, hbeg⟩ : ∃ b0 b1 b2 b3 b4, begC x k = [.int .i64 b0, .int .i64 b1, .int .i64 b2, .int .i64 b3, .int .u32 b4] ∧ b0 = wOp x k := ⟨_, _, _, _, _, rfl, rfl⟩
      obtain ⟨hbeg, hb0⟩ := hbeg
      rw [show (begC x k).toArray = #[.int .i64 b0, .int .i64 b1, .int .i64 b2, .int .i64 b3, .int .u32 b4] by rw [hbeg]]
      have Hbeg := hid hbeg
      have Hb0 := hid hb0
      have HR5 := hid (HRc.out.kept0 hg)
      have HR6 := hid (HR5.out.kept0 (World.grownBy_alloc w5 (.cells #[.int .i64 b0, .int .i64 b1, .int .i64 b2, .int .i64 b3, .int .u32 b4] 48) none))
      have HI6 := hid (RwAt.new w5 48 #[.int .i64 b0, .int .i64 b1, .int .i64 b2, .int .i64 b3, .int .u32 b4])
      clear hg ek hbeg hb0 HR5 HRc
      go_upto_region 9 with (fail)
      obtain ⟨X, hX⟩ : ∃ X, w5.heap.size = X := ⟨_, rfl⟩
      rw [hX] at HI6 ⊢
      clear hX
      generalize w5.alloc (.cells #[.int .i64 b0, .int .i64 b1, .int .i64 b2, .int .i64 b3, .int .u32 b4] 48) = w6 at HR6 HI6 ⊢
      have dr := grown_drew (grown_refl w6 none)
      have HR7 := hid (HR6.out.kept0 dr)
      have HI7 := hid (HI6.out.kept0 dr)
      have c0 := HI7.out.cell 0 (v := .int .i64 b0) rfl
      have HQ1 : Hid (∀ W' : World, Calls Tryz.prog 44 #[] W' fun e w' => e = .returned (.agg #[]) ∧ W'.grownBy w' none) := hid (fun W' => (tables_any W').mono fun e w' h => ⟨h.1, h.2 ▸ World.grownBy_alloc W' _ none⟩)
      have HQ2 : Hid (∀ W' : World, Calls Tryz.prog 45 #[.agg #[], .int .i64 b0] W' fun e w' => e = .returned (.int .i64 (clsI b0)) ∧ W'.grownBy w' none) := hid (fun W' => (class_any b0 W').mono fun e w' h => ⟨h.1, h.2 ▸ World.grownBy_alloc W' _ none⟩)
      obtain ⟨cl, hcl⟩ : ∃ cl, clsI b0 = cl := ⟨_, rfl⟩
      rw [hcl] at HQ2
      have Hcl : Hid (clsI (wOp x k) = cl) := hid (by rw [← Hb0.out]; exact hcl)
      clear dr HR6 HI6 hcl
      go_region_held3 (fun W' => W'.cell? ⟨X, 0, none⟩ = some (.int .i64 b0) ∧ w6.drew.grownBy W' none)
        (first | (with_reducible exact ⟨c0, grown_refl _ _⟩) | (go_split_ands; have hgr := grown_trans (w := w6.drew) (r := none) (by assumption) hcb; exact ⟨(HI7.out.kept0 hgr).cell 0 rfl, hgr⟩))
        (first
          | (go_split_ands; go_at_call 44; (with_reducible refine (HQ1.out _).mono ?_); rintro e w' ⟨rfl, hcb⟩)
          | (go_split_ands; go_at_call 45; (with_reducible refine (HQ2.out _).mono ?_); rintro e w' ⟨rfl, hcb⟩))
      go_split_ands
      rename_i hx0 hg8
      clear hcb
      have HR8 := hid (HR7.out.kept0 hg8)
      have HI8 := hid (HI7.out.kept0 hg8)
      clear hx0 hg8 c0 HQ1 HQ2 HR7 HI7
      by_cases ht : cl = 2 ∨ cl = 3
      · have hit : isT x k = true := by unfold isT; rw [Hcl.out]; simpa using ht
        have htk := siL_take (x := x) Hk.out
        rw [if_pos hit] at htk
        have Htk := hid htk
        clear htk hit
        have hbs := build_site k cl b0 b1 b2 b3 b4
        obtain ⟨i, hi, hz0, hz1, hz2⟩ := info_site
        have Hi := hid hi
        have Hz0 := hid hz0
        have Hz1 := hid hz1
        have Hz2 := hid hz2
        have HRa := hid (HR8.out.kept0 (World.grownBy_alloc w' (.cells #[.int .i64 k, .int .i64 cl, .int .i64 b0, .int .i64 b1, .int .i64 b2, .int .i64 b3, .int .u32 b4] 50) none))
        have HOw := HRa.out.own
        rw [HL.out] at HOw
        have HOw := hid HOw
        have HNw : Hid (∀ j u, [Value.int .i64 (k : Int), .int .i64 cl, .int .i64 b0, .int .i64 b1, .int .i64 b2, .int .i64 b3, .int .u32 b4][j]? = some u → (w'.alloc (.cells #[.int .i64 k, .int .i64 cl, .int .i64 b0, .int .i64 b1, .int .i64 b2, .int .i64 b3, .int .u32 b4] 50)).cell? ((⟨w'.heap.size, 0, none⟩ : Addr).add j) = some u) := hid (World.news_of_block (heap_alloc_new w' _))
        have Ht := hid ht
        clear hi hz0 hz1 hz2 ht
        rcases Ht.out with rfl | rfl
        · clear Ht
          go_wp2_with (first
            | (refine wpList_load_rw rfl 48 _ rfl rfl HI8.out rfl Tryz.underlying48 info_ins ?_)
            | (refine wpList_append_lies _ rfl _ _ 33 rfl W.heap.size 50 i _ 7 56 Tryz.underlying33 Hi.out Hz0.out Hz1.out Hz2.out rfl (by decide) _ L _ rfl HOw.out ⟨w'.heap.size, 0, none⟩ 1 1 _ rfl rfl HNw.out (by simp [Value.oneCell']) (by decide) (by have := HLn.out; unfold maxLen; omega) (by have := HLn.out; omega) HRa.out.g.size _ rfl ?_
               intro g cap w9 hown hgrow hat hlt2
               have hgrow0 : (w'.alloc (.cells #[.int .i64 k, .int .i64 2, .int .i64 b0, .int .i64 b1, .int .i64 b2, .int .i64 b3, .int .u32 b4] 50)).grownBy w9 (Value.slice vp L vc).ownBlock := hgrow
               have hat0 : (Value.slice vp L vc).ownBlock = some g ∨ g = (w'.alloc (.cells #[.int .i64 k, .int .i64 2, .int .i64 b0, .int .i64 b1, .int .i64 b2, .int .i64 b3, .int .u32 b4] 50)).heap.size := hat
               have HOn := hid hown
               have HGn := hid hgrow0
               have HAt := hid hat0
               clear hown hgrow hat hlt2 hgrow0 hat0)
            | fail)
          clear hbs
          go_roundw
          case rel =>
            refine ⟨j + 1, _, rfl, Hlt.out, by go_num, hid ⟨?_, ?_, ?_, ?_, ?_, ?_⟩⟩
            · exact HRa.out.box.kept HGn.out (fun e => HRa.out.ne.1 e.symm)
            · exact grown_new' (grown_trans (grown_none HRa.out.g) HGn.out) (fun j hj => (HOw.out.lt j hj).1)
            · exact HRa.out.st.kept HGn.out (by rcases HRa.out.ne.2 with e | e; exact .inl e; exact .inr (fun h => e h.symm))
            · rw [Htk.out, List.length_append, HL.out, sisC_append]
              have e : sisC x [k] = [.int .i64 k, .int .i64 2, .int .i64 b0, .int .i64 b1, .int .i64 b2, .int .i64 b3, .int .u32 b4] := by
                simp only [sisC, siC, List.append_nil]
                rw [Hcl.out, Hbeg.out]
              rw [e]
              exact HOn.out
            · rcases HAt.out with e | e
              · exact fun h => HRa.out.ne.1 (e.trans h)
              · have h1 := HRa.out.box.lt
                simp only [Value.ownBlock, ne_eq, Option.some.injEq]
                omega
            · right
              rcases HAt.out with e | e
              · rcases HRa.out.ne.2 with f | f
                · cases f
                · exact fun h => f (e.trans h)
              · obtain ⟨b', o', c', hv', -, hb', -⟩ := HRa.out.st.at_ (by rw [HN.out]; have := Hlt.out; omega)
                simp only [Value.slice.injEq, Option.some.injEq, Addr.mk.injEq, and_true] at hv'
                obtain ⟨⟨rfl, -⟩, -⟩ := hv'
                simp only [Value.ownBlock, ne_eq, Option.some.injEq]
                omega
          case measure => simp [intOf]; have := Hlt.out; omega
        · clear Ht
          go_wp2_with (first
            | (refine wpList_load_rw rfl 48 _ rfl rfl HI8.out rfl Tryz.underlying48 info_ins ?_)
            | (refine wpList_append_lies _ rfl _ _ 33 rfl W.heap.size 50 i _ 7 56 Tryz.underlying33 Hi.out Hz0.out Hz1.out Hz2.out rfl (by decide) _ L _ rfl HOw.out ⟨w'.heap.size, 0, none⟩ 1 1 _ rfl rfl HNw.out (by simp [Value.oneCell']) (by decide) (by have := HLn.out; unfold maxLen; omega) (by have := HLn.out; omega) HRa.out.g.size _ rfl ?_
               intro g cap w9 hown hgrow hat hlt2
               have hgrow0 : (w'.alloc (.cells #[.int .i64 k, .int .i64 3, .int .i64 b0, .int .i64 b1, .int .i64 b2, .int .i64 b3, .int .u32 b4] 50)).grownBy w9 (Value.slice vp L vc).ownBlock := hgrow
               have hat0 : (Value.slice vp L vc).ownBlock = some g ∨ g = (w'.alloc (.cells #[.int .i64 k, .int .i64 3, .int .i64 b0, .int .i64 b1, .int .i64 b2, .int .i64 b3, .int .u32 b4] 50)).heap.size := hat
               have HOn := hid hown
               have HGn := hid hgrow0
               have HAt := hid hat0
               clear hown hgrow hat hlt2 hgrow0 hat0)
            | fail)
          clear hbs
          go_roundw
          case rel =>
            refine ⟨j + 1, _, rfl, Hlt.out, by go_num, hid ⟨?_, ?_, ?_, ?_, ?_, ?_⟩⟩
            · exact HRa.out.box.kept HGn.out (fun e => HRa.out.ne.1 e.symm)
            · exact grown_new' (grown_trans (grown_none HRa.out.g) HGn.out) (fun j hj => (HOw.out.lt j hj).1)
            · exact HRa.out.st.kept HGn.out (by rcases HRa.out.ne.2 with e | e; exact .inl e; exact .inr (fun h => e h.symm))
            · rw [Htk.out, List.length_append, HL.out, sisC_append]
              have e : sisC x [k] = [.int .i64 k, .int .i64 3, .int .i64 b0, .int .i64 b1, .int .i64 b2, .int .i64 b3, .int .u32 b4] := by
                simp only [sisC, siC, List.append_nil]
                rw [Hcl.out, Hbeg.out]
              rw [e]
              exact HOn.out
            · rcases HAt.out with e | e
              · exact fun h => HRa.out.ne.1 (e.trans h)
              · have h1 := HRa.out.box.lt
                simp only [Value.ownBlock, ne_eq, Option.some.injEq]
                omega
            · right
              rcases HAt.out with e | e
              · rcases HRa.out.ne.2 with f | f
                · cases f
                · exact fun h => f (e.trans h)
              · obtain ⟨b', o', c', hv', -, hb', -⟩ := HRa.out.st.at_ (by rw [HN.out]; have := Hlt.out; omega)
                simp only [Value.slice.injEq, Option.some.injEq, Addr.mk.injEq, and_true] at hv'
                obtain ⟨⟨rfl, -⟩, -⟩ := hv'
                simp only [Value.ownBlock, ne_eq, Option.some.injEq]
                omega
          case measure => simp [intOf]; have := Hlt.out; omega
      · have hit : isT x k = false := by unfold isT; rw [Hcl.out]; simpa using ht
        have htk := siL_take (x := x) Hk.out
        rw [if_neg (by simp [hit]), List.append_nil] at htk
        have Htk := hid htk
        have h2 : (cl == 2) = false := by simp only [beq_eq_false_iff_ne]; omega
        have h3 : (cl == 3) = false := by simp only [beq_eq_false_iff_ne]; omega
        clear htk hit ht
        go_wp2
        go_roundw
        case rel =>
          refine ⟨j + 1, _, rfl, Hlt.out, by go_num, hid ⟨HR8.out.box, HR8.out.g, HR8.out.st, ?_, HR8.out.ne⟩⟩
          rw [Htk.out]
          exact HR8.out.own
        case measure => simp [intOf]; have := Hlt.out; omega
    · obtain rfl : j = N := by omega
      clear hlt
      have jn : ¬ ((j : Int) < (j : Int)) := by omega
      go_wp2
      refine bodyPost_ret (v := .tuple #[u5, .nilIface]) (by simp [results, Tryz.results12, go_sem]) rfl ?_
      have h1 := HR.out.own
      rw [List.take_of_length_le (by rw [HN.out]; exact Nat.le_refl _)] at h1
      exact ⟨_, rfl, by rw [Hl.out]; exact h1, HR.out.g⟩
end Go.Proofs.YtgahbpfmiibpeaaGreatDoor

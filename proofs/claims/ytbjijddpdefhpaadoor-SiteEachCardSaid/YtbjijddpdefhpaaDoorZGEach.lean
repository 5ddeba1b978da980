/- Package site: Text, as plain data and where the object may be: contract. -/
import Derived.Test.YtbjijddpdefhpaaDoorZGSite
import Derived.Test.YtbjijddpdefhpaaDoorZGTxt
import Derived.Test.YtbjijddpdefhpaaDoorZObj13
import Derived.Test.YtbjijddpdefhpaaDoorZGSay
import Derived.Test.YtbjijddpdefhpaaDoorZGRefT
import Derived.Deep.Cut
import Derived.Deep.CutRange
import Derived.Deep.CutBlock
import Derived.Deep.RegionHeld3
import Derived.StillTailTactics
namespace Go.Proofs.YtbjijddpdefhpaaDoor
open Go.RowKit
def wN (x : PO) (k : Nat) : Nat := (x.C.getD k 0).toNat
def iN (x : PO) (k : Nat) : Nat := (wantImm (x.C.getD k 0 / 16777216) (secN x k)).toNat
/-- the line of the instruction that begins at word k -/
def linB (x : PO) (k : Nat) : ByteArray := textB (wN x k / 16777216) (wN x k / 65536 % 256) (wN x k / 256 % 256) (wN x k % 256) (iN x k)
def tabB (x : PO) (k : Nat) : ByteArray := ⟨#[119, 111, 114, 100, 32, 48, 120]⟩ ++ hexB (wN x k)
def txL (x : PO) (n : Nat) : List ByteArray := (List.range n).flatMap fun k => if mapN x k = 1 then [linB x k] else if mapN x k = 2 then [tabB x k] else []
theorem txL_zero (x : PO) : txL x 0 = [] := rfl
theorem txL_succ (x : PO) (n : Nat) : txL x (n + 1) = txL x n ++ (if mapN x n = 1 then [linB x n] else if mapN x n = 2 then [tabB x n] else []) := by
  unfold txL
  rw [List.range_succ, List.flatMap_append]
  congr 1
  simp
theorem txL_length (x : PO) (n : Nat) : (txL x n).length ≤ n := by
  induction n with
  | zero => exact Nat.le_refl _
  | succ n ih =>
    rw [txL_succ, List.length_append]
    split
    · simp; omega
    · split
      · simp; omega
      · simp; omega
def strC (l : List ByteArray) : List Value := l.map Value.string
theorem info_str : ∃ i : TypeInfo, Tryd.prog.info? 9 = some i ∧ i.zero = some (.string ⟨#[]⟩) ∧ i.size = 1 ∧ i.bytes = 16 := info_parts (P := Tryd.prog) (e := 9) (z := .string ⟨#[]⟩) (size := 1) (bytes := 16) (by kernel_rfl)
/-- an instruction, its numbers as natural ones -/
theorem begC_nat {x : PO} {k Y : Nat} (hy : x.C.getD k 0 = (Y : Int)) (hs : 0 ≤ secN x k) : begC x k = [.int .i64 ((Y / 16777216 : Nat) : Int), .int .i64 ((Y / 65536 % 256 : Nat) : Int), .int .i64 ((Y / 256 % 256 : Nat) : Int), .int .i64 ((Y % 256 : Nat) : Int), .int .u32 (iN x k : Int)] ∧ wN x k = Y ∧ (iN x k : Int) = wantImm (x.C.getD k 0 / 16777216) (secN x k) := by
  have hi : (iN x k : Int) = wantImm (x.C.getD k 0 / 16777216) (secN x k) := by
    unfold iN
    refine Int.toNat_of_nonneg ?_
    unfold wantImm
    split
    · exact hs
    · decide
  refine ⟨?_, by unfold wN; rw [hy]; simp, hi⟩
  rw [hi]
  unfold begC
  rw [hy]
  have e1 : (Y : Int) / 16777216 = ((Y / 16777216 : Nat) : Int) := by omega
  have e2 : (Y : Int) / 65536 % 256 = ((Y / 65536 % 256 : Nat) : Int) := by omega
  have e3 : (Y : Int) / 256 % 256 = ((Y / 256 % 256 : Nat) : Int) := by omega
  have e4 : (Y : Int) % 256 = ((Y % 256 : Nat) : Int) := by omega
  rw [e1, e2, e3, e4]
/-- the words of code are words -/
theorem sec_fit {x : PO} (hf : OFit x) (k : Nat) : 0 ≤ secN x k ∧ secN x k < 4294967296 := by
  unfold secN
  rw [List.getD_eq_getElem?_getD]
  cases h : x.C[k + 1]? with
  | none => simp
  | some y => exact hf.c y (List.mem_of_getElem? h)
theorem iN_lt {x : PO} (hf : OFit x) (k : Nat) : iN x k < 4294967296 := by
  have h := sec_fit hf k
  unfold iN wantImm
  split
  · omega
  · decide
structure STw (W w : World) (G : Nat) (V : OV) (x : PO) (v : Value) (k : Nat) : Prop where
  box : RwAt w G 37 #[V.d, V.c, V.m, V.r, V.q, V.s]
  g : W.grownBy w none
  own : w.ownsRow W.heap.size 9 1 v (txL x k).length (strC (txL x k))
  ne : v.ownBlock ≠ some G
theorem STw.kept0 {W w w1 : World} {G : Nat} {V : OV} {x : PO} {v : Value} {k : Nat} (h : STw W w G V x v k) (hg : w.grownBy w1 none) : STw W w1 G V x v k := ⟨h.box.kept0 hg, grown_trans h.g hg, own_keep0 h.own hg, h.ne⟩
/-! ### the walk -/
set_option maxRecDepth 100000 in
set_option maxHeartbeats 16000000 in
theorem texts_yes {W : World} {A : Nat → Addr} {V : OV} {x : PO} (h : OAt W V x) (he : ErrC W A) (hvs : Vars W) (hf : OFit x) (hv : validP x = none) :
    Calls Tryd.prog 20 #[V.agg] W fun e w' => ∃ v, e = .returned (.tuple #[v, .nilIface]) ∧ w'.ownsRow W.heap.size 9 1 v (txL x x.C.length).length (strC (txL x x.C.length)) ∧ W.grownBy w' none := by
  have hok := valid_ok hv
  have hmany : x.C.length ≤ 2048 := by have := hok.many; unfold manyB at this; simp only [decide_eq_false_iff_not] at this; omega
  obtain ⟨d, c, m, r, q, s⟩ := V
  obtain ⟨cp, cc, hcv⟩ := h.c.len'
  obtain ⟨mp, mc, hmv⟩ := h.m.len'
  simp only at hcv hmv
  rw [hok.len] at hmv
  subst hcv; subst hmv
  obtain ⟨n, hne⟩ : ∃ n, x.C.length = n := ⟨_, rfl⟩
  rw [hne] at h hmany ⊢
  have Hne := hid hne
  have HB0 := hid (RwAt.new W 37 #[d, .slice cp n cc, .slice mp n mc, r, q, s])
  have HG0 := hid (World.grownBy_alloc W (.cells #[d, .slice cp n cc, .slice mp n mc, r, q, s] 37) none)
  have HO := hid h
  have HE := hid he
  have HV := hid hvs
  have HF := hid hf
  have HVal := hid hv
  have Hok := hid hok
  have Hmany := hid hmany
  have n0 : (0 : Int) ≤ (n : Int) := by omega
  have n1 : (n : Int) ≤ 2048 := by omega
  clear h he hvs hf hv hok hmany hne
  go_enter Tryd.func20, Tryd.ntmps20
  go_upto_region 1 with (fail)
  obtain ⟨G, hG⟩ : ∃ G, W.heap.size = G := ⟨_, rfl⟩
  rw [hG] at HB0 ⊢
  clear hG
  generalize W.alloc (.cells #[d, .slice cp n cc, .slice mp n mc, r, q, s] 37) = w1 at HB0 HG0 ⊢
  go_wp2_with (first
    | (refine wpList_load_rw rfl 37 _ rfl rfl HB0.out rfl Tryd.underlying37 info_object ?_)
    | fail)
  refine (valid_any (V := ⟨d, .slice cp n cc, .slice mp n mc, r, q, s⟩) (HO.out.kept0 HG0.out) (HE.out.kept0 HG0.out) HF.out).mono ?_
  rintro e w2 ⟨fv, rfl, hfl, hg⟩
  rw [HVal.out] at hfl
  obtain rfl : fv = .nilIface := hfl
  have HST : Hid (STw W w2 G ⟨d, .slice cp n cc, .slice mp n mc, r, q, s⟩ x (.slice none 0 0) 0) := hid ⟨HB0.out.kept0 hg, grown_trans HG0.out hg, World.ownsRow_nil _ _ _ _, by simp [Value.ownBlock]⟩
  have e2 := HST.out.box.cell 2 (v := .slice mp n mc) rfl
  clear hg HB0 HG0
  go_wp2
  clear e2
  go_loopw [5, 16] (fun v i wr => ∃ k : Nat, k ≤ n ∧ i = .int .i64 k ∧ Hid (STw W wr G ⟨d, .slice cp n cc, .slice mp n mc, r, q, s⟩ x v k)) (fun _ i _ => n - (intOf i).toNat)
  case atStart => exact ⟨0, Nat.zero_le _, rfl, HST⟩
  case round =>
    obtain ⟨k, hk, rfl, HR⟩ := hrel
    have k0 : (0 : Int) ≤ (k : Int) := by omega
    obtain ⟨vp, vc, rfl⟩ := own_slice HR.out.own
    obtain ⟨L, hL⟩ : ∃ L, (txL x k).length = L := ⟨_, rfl⟩
    have HL := hid hL
    have HLn : Hid (L ≤ 2048) := hid (by have := txL_length x k; have := Hmany.out; omega)
    rw [hL] at HR ⊢
    have HRc := hid HR.out
    clear hL HR
    by_cases hlt : k < n
    · have kn : (k : Int) < (n : Int) := by omega
      have Hlt := hid hlt
      obtain ⟨mk, hmk⟩ : ∃ mk, x.M[k]? = some mk := ⟨_, List.getElem?_eq_getElem (by rw [Hok.out.len, Hne.out]; exact hlt)⟩
      obtain ⟨y, hy⟩ : ∃ y, x.C[k]? = some y := ⟨_, List.getElem?_eq_getElem (by rw [Hne.out]; exact hlt)⟩
      have Hy := hid hy
      have Hyd : Hid (x.C.getD k 0 = y) := hid (by rw [List.getD_eq_getElem?_getD, hy]; rfl)
      have Hyr := hid (HF.out.c y (List.mem_of_getElem? hy))
      have Hmap : Hid (mapN x k = mk) := hid (by unfold mapN; rw [List.getD_eq_getElem?_getD, hmk]; rfl)
      obtain ⟨bm, om, c', hvm, hbm, hcm⟩ := (HO.out.kept0 HRc.out.g).m.at_ (by rw [Hok.out.len, Hne.out]; omega)
      simp only [Value.slice.injEq] at hvm
      obtain ⟨rfl, -, -⟩ := hvm
      have em := hcm k mk hmk
      clear hbm hcm hmk hy hlt
      by_cases h1 : mk = 1
      · subst h1
        have Htx : Hid (txL x (k + 1) = txL x k ++ [linB x k]) := hid (by rw [txL_succ, if_pos Hmap.out])
        have Hins := hid (sifirst_ins (siword_first (Hok.out.word k (by rw [Hne.out]; exact Hlt.out)) Hmap.out) Hmap.out)
        have hgd : x.C.getD k 0 = y := Hyd.out
        obtain ⟨Y, hY⟩ : ∃ Y : Nat, y = (Y : Int) := ⟨y.toNat, by have := Hyr.out.1; omega⟩
        have hbn := begC_nat (x := x) (k := k) (Y := Y) (hgd.trans hY) (sec_fit HF.out k).1
        have Hbn := hid hbn
        have Hi2 : Hid (insB ((Y / 16777216 : Nat) : Int) ((Y / 65536 % 256 : Nat) : Int) ((Y / 256 % 256 : Nat) : Int) ((Y % 256 : Nat) : Int) (iN x k : Int) = true) := hid (by
          have h := ins_any (i := secN x k) Hins.out
          rw [Hbn.out.2.2]
          rw [hgd] at h ⊢
          have e1 : y / 16777216 = ((Y / 16777216 : Nat) : Int) := by omega
          have e2 : y / 65536 % 256 = ((Y / 65536 % 256 : Nat) : Int) := by omega
          have e3 : y / 256 % 256 = ((Y / 256 % 256 : Nat) : Int) := by omega
          have e4 : y % 256 = ((Y % 256 : Nat) : Int) := by omega
          rw [← e1, ← e2, ← e3, ← e4]
          exact h)
        clear hgd hbn hY
        go_wp2_with (first
          | (refine wpList_load_rw rfl 37 _ rfl rfl HRc.out.box rfl Tryd.underlying37 info_object ?_)
          | fail)
        refine (begins_any (V := ⟨d, .slice cp n cc, .slice (some ⟨bm, om, none⟩) n mc, r, q, s⟩) (k := k) (HO.out.kept0 HRc.out.g) HF.out (by rw [Hne.out]; exact Hlt.out) (by rw [Hne.out]; have := Hmany.out; omega) Hins.out).mono ?_
        rintro e wp ⟨rfl, hg⟩
        rw [Hbn.out.1]
        have HRp := hid (HRc.out.kept0 hg)
        clear hg HRc
        obtain ⟨jj, hjj⟩ : ∃ jj, iN x k = jj := ⟨_, rfl⟩
        have Hjj := hid hjj
        rw [hjj] at Hi2 ⊢
        clear hjj
        have Htb : Hid (linB x k = textB (Y / 16777216) (Y / 65536 % 256) (Y / 256 % 256) (Y % 256) jj) := hid (by unfold linB; rw [Hbn.out.2.1, Hjj.out])
        have Hjl : Hid (jj < 4294967296) := hid (by rw [← Hjj.out]; exact iN_lt HF.out k)
        obtain ⟨q0, hq0⟩ : ∃ q0, Y / 16777216 = q0 := ⟨_, rfl⟩
        obtain ⟨q1, hq1⟩ : ∃ q1, Y / 65536 % 256 = q1 := ⟨_, rfl⟩
        obtain ⟨q2, hq2⟩ : ∃ q2, Y / 256 % 256 = q2 := ⟨_, rfl⟩
        obtain ⟨q3, hq3⟩ : ∃ q3, Y % 256 = q3 := ⟨_, rfl⟩
        rw [hq0, hq1, hq2, hq3] at Hi2 Htb ⊢
        clear hq0 hq1 hq2 hq3
        go_wp2_with fail
        refine (text_any q0 q1 q2 q3 jj Hjl.out _ (HV.out.below (grown_below HRp.out.g)) Hi2.out).mono ?_
        rintro e wq ⟨rfl, hbl⟩
        have HRq := hid (HRp.out.kept0 (below_is_grown hbl))
        clear hbl HRp
        rw [← Htb.out]
        obtain ⟨lb, hlb⟩ : ∃ lb, linB x k = lb := ⟨_, rfl⟩
        rw [hlb] at Htx ⊢
        clear hlb
        obtain ⟨i, hi, hz0, hz1, hz2⟩ := info_str
        have Hi := hid hi
        have Hz0 := hid hz0
        have Hz1 := hid hz1
        have Hz2 := hid hz2
        have HRa := hid (HRq.out.kept0 (World.grownBy_alloc wq (.cells #[.string lb] 9) none))
        have HOw := HRa.out.own
        rw [HL.out] at HOw
        have HOw := hid HOw
        have HN : Hid (∀ j u, [Value.string lb][j]? = some u → (wq.alloc (.cells #[.string lb] 9)).cell? ((⟨wq.heap.size, 0, none⟩ : Addr).add j) = some u) := hid (World.news_of_block (heap_alloc_new wq _))
        clear hi hz0 hz1 hz2
        go_wp2_with (first
          | (refine wpList_append_lies _ rfl _ _ 63 rfl W.heap.size 9 i _ 1 16 Tryd.underlying63 Hi.out Hz0.out Hz1.out Hz2.out rfl (by decide) _ L _ rfl HOw.out ⟨wq.heap.size, 0, none⟩ 1 1 _ rfl rfl HN.out (by simp [Value.oneCell']) (by decide) (by have := HLn.out; unfold maxLen; omega) (by have := HLn.out; omega) HRa.out.g.size _ rfl ?_
             intro g cap w5 hown hgrow hat hlt2
             have hgrow0 : (wq.alloc (.cells #[.string lb] 9)).grownBy w5 (Value.slice vp L vc).ownBlock := hgrow
             have hat0 : (Value.slice vp L vc).ownBlock = some g ∨ g = (wq.alloc (.cells #[.string lb] 9)).heap.size := hat
             have HOn := hid hown
             have HG5 := hid hgrow0
             have HAt := hid hat0
             clear hown hgrow hat hlt2 hgrow0 hat0)
          | fail)
        go_roundw
        case rel =>
          refine ⟨k + 1, Hlt.out, by go_num, hid ⟨?_, ?_, ?_, ?_⟩⟩
          · exact HRa.out.box.kept HG5.out (fun e => HRa.out.ne e.symm)
          · exact grown_new' (grown_trans (grown_none HRa.out.g) HG5.out) (fun j hj => (HOw.out.lt j hj).1)
          · rw [Htx.out, List.length_append, HL.out, strC, List.map_append]
            exact HOn.out
          · rcases HAt.out with e | e
            · exact fun h => HRa.out.ne (e.trans h)
            · have h1 := HRa.out.box.lt
              simp only [Value.ownBlock, ne_eq, Option.some.injEq]
              omega
        case measure => simp [intOf]; have := Hlt.out; omega

      · by_cases h2 : mk = 2
        · subst h2
          have h21 : ((2 : Int) == 1) = false := by decide
          have Htx : Hid (txL x (k + 1) = txL x k ++ [tabB x k]) := hid (by rw [txL_succ, if_neg (by rw [Hmap.out]; decide), if_pos Hmap.out])
          obtain ⟨Y, hY⟩ : ∃ Y : Nat, y = (Y : Int) := ⟨y.toNat, by have := Hyr.out.1; omega⟩
          have Hwn : Hid (wN x k = Y) := hid (by unfold wN; rw [Hyd.out, hY]; simp)
          subst hY
          have HYl : Hid (Y < 4294967296) := hid (by have := Hyr.out.2; omega)
          have y0 : (0 : Int) ≤ (Y : Int) := by omega
          have y1 : (Y : Int) < 4294967296 := by have := HYl.out; omega
          obtain ⟨bc, oc, c', hvc, hbc, hcc⟩ := (HO.out.kept0 HRc.out.g).c.at_ (by rw [Hne.out]; have := Hlt.out; omega)
          simp only [Value.slice.injEq] at hvc
          obtain ⟨rfl, -, -⟩ := hvc
          have ey := hcc k (Y : Int) Hy.out
          have e1 := HRc.out.box.cell 1 (v := .slice (some ⟨bc, oc, none⟩) n cc) rfl
          clear hbc hcc
          go_wp2_with fail
          refine (fuint_any Y HYl.out _ (HV.out.below (grown_below HRc.out.g))).mono ?_
          rintro e wq ⟨rfl, hbl⟩
          have HRq := hid (HRc.out.kept0 (below_is_grown hbl))
          clear hbl HRc ey e1
          have hst : ∀ w : World, (Op.stringOp .add ⟨#[119, 111, 114, 100, 32, 48, 120]⟩ (hexB Y)).run Tryd.prog w = .ok (.string (tabB x k)) w := fun w => by
            have h := run_string_add_sum (P := Tryd.prog) w ⟨#[119, 111, 114, 100, 32, 48, 120]⟩ (hexB Y) (by have := hexB_size HYl.out; show 7 + (hexB Y).size ≤ _; omega)
            rw [h]
            unfold tabB
            rw [Hwn.out]
          obtain ⟨lb, hlb⟩ : ∃ lb, tabB x k = lb := ⟨_, rfl⟩
          rw [hlb] at Htx hst
          obtain ⟨hb, hhb⟩ : ∃ hb, hexB Y = hb := ⟨_, rfl⟩
          rw [hhb] at hst ⊢
          clear hlb hhb
          obtain ⟨i, hi, hz0, hz1, hz2⟩ := info_str
          have Hi := hid hi
          have Hz0 := hid hz0
          have Hz1 := hid hz1
          have Hz2 := hid hz2
          have HRa := hid (HRq.out.kept0 (World.grownBy_alloc wq (.cells #[.string lb] 9) none))
          have HOw := HRa.out.own
          rw [HL.out] at HOw
          have HOw := hid HOw
          have HN : Hid (∀ j u, [Value.string lb][j]? = some u → (wq.alloc (.cells #[.string lb] 9)).cell? ((⟨wq.heap.size, 0, none⟩ : Addr).add j) = some u) := hid (World.news_of_block (heap_alloc_new wq _))
          clear hi hz0 hz1 hz2
          go_wp2_with (first
            | (refine wpList_append_lies _ rfl _ _ 63 rfl W.heap.size 9 i _ 1 16 Tryd.underlying63 Hi.out Hz0.out Hz1.out Hz2.out rfl (by decide) _ L _ rfl HOw.out ⟨wq.heap.size, 0, none⟩ 1 1 _ rfl rfl HN.out (by simp [Value.oneCell']) (by decide) (by have := HLn.out; unfold maxLen; omega) (by have := HLn.out; omega) HRa.out.g.size _ rfl ?_
               intro g cap w5 hown hgrow hat hlt2
               have hgrow0 : (wq.alloc (.cells #[.string lb] 9)).grownBy w5 (Value.slice vp L vc).ownBlock := hgrow
               have hat0 : (Value.slice vp L vc).ownBlock = some g ∨ g = (wq.alloc (.cells #[.string lb] 9)).heap.size := hat
               have HOn := hid hown
               have HG5 := hid hgrow0
               have HAt := hid hat0
               clear hown hgrow hat hlt2 hgrow0 hat0)
            | fail)
          go_roundw
          case rel =>
            refine ⟨k + 1, Hlt.out, by go_num, hid ⟨?_, ?_, ?_, ?_⟩⟩
            · exact HRa.out.box.kept HG5.out (fun e => HRa.out.ne e.symm)
            · exact grown_new' (grown_trans (grown_none HRa.out.g) HG5.out) (fun j hj => (HOw.out.lt j hj).1)
            · rw [Htx.out, List.length_append, HL.out, strC, List.map_append]
              exact HOn.out
            · rcases HAt.out with e | e
              · exact fun h => HRa.out.ne (e.trans h)
              · have h1 := HRa.out.box.lt
                simp only [Value.ownBlock, ne_eq, Option.some.injEq]
                omega
          case measure => simp [intOf]; have := Hlt.out; omega

        · have h1b : (mk == 1) = false := by simpa using h1
          have h2b : (mk == 2) = false := by simpa using h2
          have Htx : Hid (txL x (k + 1) = txL x k) := hid (by rw [txL_succ, if_neg (by rw [Hmap.out]; exact h1), if_neg (by rw [Hmap.out]; exact h2), List.append_nil])
          clear h1 h2
          go_wp2
          go_roundw
          case rel => exact ⟨k + 1, Hlt.out, by go_num, hid ⟨HRc.out.box, HRc.out.g, by rw [Htx.out]; exact HRc.out.own, HRc.out.ne⟩⟩
          case measure => simp [intOf]; have := Hlt.out; omega
    · obtain rfl : k = n := by omega
      clear hlt
      have kn : ¬ ((k : Int) < (k : Int)) := by omega
      go_wp2
      refine bodyPost_ret (v := .tuple #[.slice vp L vc, .nilIface]) (by simp [results, Tryd.results20, go_sem]) rfl ?_
      have h1 := HRc.out.own
      exact ⟨_, rfl, h1, HRc.out.g⟩
end Go.Proofs.YtbjijddpdefhpaaDoor
/- The objects of SiteEach as plain data: what stands in each. -/
namespace Go.Proofs.YtbjijddpdefhpaaDoor
/-- the operations that have to be rewritten -/
def opsE : List Int := [32, 33, 34, 35, 36, 37, 38, 39, 40, 41, 42, 43, 44, 64, 65, 66, 67]
def opE (k : Nat) : Int := opsE.getD k 0
def eaN (op : Int) (i : Nat) : Lne := if i % 3 = 0 then .op 1 0 0 0 0 else if i % 3 = 1 then .op 14 1 0 0 536870912 else .tab (op * 16777216)
def eaL (op : Int) (n : Nat) : List Lne := .lab :: (List.range n).map (eaN op)
def atN : Nat → Nat
  | 0 => 0
  | n + 1 => atN n + if n % 3 = 1 then 2 else 1
def eaO (op : Int) (n : Nat) : PO := objL [] (eaL op n ++ [.op op 0 0 0 0])
theorem eaL_succ (op : Int) (n : Nat) : eaL op (n + 1) = eaL op n ++ [eaN op n] := by
  unfold eaL
  rw [List.range_succ, List.map_append]
  rfl
theorem eaL_length (op : Int) (n : Nat) : (eaL op n).length = n + 1 := by simp [eaL]
theorem atN_le : ∀ n, atN n ≤ 2 * n
  | 0 => Nat.le_refl _
  | n + 1 => by have := atN_le n; unfold atN; split <;> omega
def txN (x : PO) : Nat → Nat
  | 0 => 0
  | n + 1 => txN x n + if mapN x n = 1 ∨ mapN x n = 2 then 1 else 0
theorem txL_count (x : PO) : ∀ n, (txL x n).length = txN x n
  | 0 => rfl
  | n + 1 => by
    rw [txL_succ, List.length_append, txL_count x n, txN]
    congr 1
    by_cases h1 : mapN x n = 1
    · rw [if_pos h1, if_pos (.inl h1)]; rfl
    · by_cases h2 : mapN x n = 2
      · rw [if_neg h1, if_pos h2, if_pos (.inr h2)]; rfl
      · rw [if_neg h1, if_neg h2, if_neg (by intro h; exact h.elim h1 h2)]; rfl
/-- all that is asked of one of them -/
def eaB (op : Int) (n : Nat) : Bool :=
  decide (validP (eaO op n) = none) && fitB (eaO op n) && decide ((eaO op n).C.length = atN n + 1) && decide (siL (eaO op n) (stL (eaO op n) (eaO op n).C.length) = [atN n])
    && decide ((eaO op n).C.getD (atN n) 0 = op * 16777216) && decide (secN (eaO op n) (atN n) = 0) && decide (mapN (eaO op n) (atN n) = 1) && decide (txN (eaO op n) (atN n) = n)
    && decide ((stL (eaO op n) (eaO op n).C.length).length + n / 3 = n + 1)
theorem ea_all : ∀ k, k < 17 → ∀ n, n < 20 → eaB (opE k) n = true := by decide +kernel
theorem op_all : ∀ k, k < 17 → clsI (opE k) ≠ 1 ∧ insB (opE k) 0 0 0 0 = true ∧ 0 ≤ opE k ∧ opE k < 256 ∧ (clsI (opE k) = 2 ∨ clsI (opE k) = 3) := by decide +kernel
end Go.Proofs.YtbjijddpdefhpaaDoor
/- The law SiteEach: walked. (Made by goeach.py.) -/
namespace Go.Proofs.YtbjijddpdefhpaaDoor
open Go.RowKit
theorem opsE_at (k : Nat) (h : k < 17) : (#[.int .i64 32, .int .i64 33, .int .i64 34, .int .i64 35, .int .i64 36, .int .i64 37, .int .i64 38, .int .i64 39, .int .i64 40, .int .i64 41, .int .i64 42, .int .i64 43, .int .i64 44, .int .i64 64, .int .i64 65, .int .i64 66, .int .i64 67] : Array Value)[k]? = some (.int .i64 (opE k)) := by
  have e : (#[.int .i64 32, .int .i64 33, .int .i64 34, .int .i64 35, .int .i64 36, .int .i64 37, .int .i64 38, .int .i64 39, .int .i64 40, .int .i64 41, .int .i64 42, .int .i64 43, .int .i64 44, .int .i64 64, .int .i64 65, .int .i64 66, .int .i64 67] : Array Value) = (opsE.map (Value.int .i64)).toArray := rfl
  rw [e, List.getElem?_toArray, List.getElem?_map]
  have h1 : opsE[k]? = some (opE k) := by
    unfold opE
    rw [List.getD_eq_getElem?_getD, List.getElem?_eq_getElem (show k < opsE.length from h)]
    rfl
  rw [h1]
  rfl
theorem good_ea (o : Int) (n : Nat) (h : insB o 0 0 0 0 = true) : GoodL (eaL o n ++ [.op o 0 0 0 0]) := by
  have hm : ∀ x ∈ (List.range n).map (eaN o) ++ [.op o 0 0 0 0], (∃ m, x = .tab m) ∨ ∃ p a b c m, x = .op p a b c m ∧ insB p a b c m = true := by
    intro x hx
    rw [List.mem_append, List.mem_map, List.mem_singleton] at hx
    rcases hx with ⟨i, _, rfl⟩ | rfl
    · unfold eaN
      split
      · exact .inr ⟨_, _, _, _, _, rfl, by decide +kernel⟩
      · split
        · exact .inr ⟨_, _, _, _, _, rfl, by decide +kernel⟩
        · exact .inl ⟨_, rfl⟩
    · exact .inr ⟨_, _, _, _, _, rfl, h⟩
  refine ⟨fun k p a b c m h => ?_, fun k h => ?_⟩
  · cases k with
    | zero => rw [eaL, List.cons_append, List.getElem?_cons_zero] at h; cases h
    | succ k =>
      rw [eaL, List.cons_append, List.getElem?_cons_succ] at h
      rcases hm _ (List.mem_of_getElem? h) with ⟨_, e⟩ | ⟨_, _, _, _, _, e, hi⟩
      · cases e
      · cases e; exact hi
  · cases k with
    | zero => rfl
    | succ k =>
      rw [eaL, List.cons_append, List.getElem?_cons_succ] at h
      rcases hm _ (List.mem_of_getElem? h) with ⟨_, e⟩ | ⟨_, _, _, _, _, e, _⟩ <;> cases e
theorem build_tab (m : Int) (w : World) : (Instr.build 27 #[(4, .int .u32 m)]).run Tryd.prog w = .ok (.agg #[.int .i64 0, .int .i64 0, .int .i64 0, .int .i64 0, .int .u32 m]) w := by kernel_rfl
theorem build_tln (m : Int) (w : World) : (Instr.build 29 #[(3, .bool true), (0, .agg #[.int .i64 0, .int .i64 0, .int .i64 0, .int .i64 0, .int .u32 m])]).run Tryd.prog w = .ok (.agg #[.int .i64 0, .int .i64 0, .int .i64 0, .int .i64 0, .int .u32 m, .string ByteArray.empty, .string ByteArray.empty, .bool true]) w := by kernel_rfl
theorem build_opn (o : Int) (w : World) : (Instr.build 27 #[(0, .int .i64 o)]).run Tryd.prog w = .ok (.agg #[.int .i64 o, .int .i64 0, .int .i64 0, .int .i64 0, .int .u32 0]) w := by kernel_rfl
set_option maxRecDepth 100000 in
set_option maxHeartbeats 16000000 in
theorem each_walk (a0 b0 : Int) (W : World) (A : Nat → Addr) (hS : ErrC W A) (hV : Vars W) (ha0 : -9223372036854775808 ≤ a0) (ha1 : a0 ≤ 9223372036854775807) (hb0 : -9223372036854775808 ≤ b0) (hb1 : b0 ≤ 9223372036854775807) :
    Calls Tryd.prog 5 #[.int .i64 a0, .int .i64 b0] W fun e W' => e = .returned (.bool true) ∧ Below W.heap.size W W' := by
  have HE := hid hS
  have HV := hid hV
  have Ha := hid (And.intro ha0 ha1)
  have Hb := hid (And.intro hb0 hb1)
  clear hS hV ha0 ha1 hb0 hb1
  go_enter Tryd.func5, Tryd.ntmps5
  go_wp2_with fail
  refine (first10_any HE.out).mono ?_
  rintro e w2 ⟨rfl, hg⟩
  have HG2 := hid hg
  clear hg
  obtain ⟨n, hn⟩ : ∃ n, numB a0 20 = n := ⟨_, rfl⟩
  have Hn := hid hn
  have hn20 : n < 20 := by rw [← hn]; exact numB_lt a0 (by omega)
  have Hn20 := hid hn20
  obtain ⟨K, hK⟩ : ∃ K, numB b0 17 = K := ⟨_, rfl⟩
  have HK := hid hK
  have hK17 : K < 17 := by rw [← hK]; exact numB_lt b0 (by omega)
  have HK17 := hid hK17
  have n0 : (0 : Int) ≤ (n : Int) := by omega
  have n1 : (n : Int) < 20 := by omega
  have K0 : (0 : Int) ≤ (K : Int) := by omega
  have K1 : (K : Int) < 17 := by omega
  clear hn hn20 hK hK17
  go_wp2_with fail
  refine (number_of a0 20 20 n rfl Hn.out (by omega) (by omega) Ha.out.1 Ha.out.2).mono ?_
  rintro e w3 ⟨rfl, rfl⟩
  go_upto_region 6 with (fail)
  have HX := hid (RwAt.new w2 3 #[.int .i64 32, .int .i64 33, .int .i64 34, .int .i64 35, .int .i64 36, .int .i64 37, .int .i64 38, .int .i64 39, .int .i64 40, .int .i64 41, .int .i64 42, .int .i64 43, .int .i64 44, .int .i64 64, .int .i64 65, .int .i64 66, .int .i64 67])
  have HG3 := hid (grown_trans HG2.out (World.grownBy_alloc w2 (.cells #[.int .i64 32, .int .i64 33, .int .i64 34, .int .i64 35, .int .i64 36, .int .i64 37, .int .i64 38, .int .i64 39, .int .i64 40, .int .i64 41, .int .i64 42, .int .i64 43, .int .i64 44, .int .i64 64, .int .i64 65, .int .i64 66, .int .i64 67] 3) none))
  obtain ⟨B, hB⟩ : ∃ B, w2.heap.size = B := ⟨_, rfl⟩
  rw [hB] at HX ⊢
  clear hB HG2
  generalize w2.alloc (.cells #[.int .i64 32, .int .i64 33, .int .i64 34, .int .i64 35, .int .i64 36, .int .i64 37, .int .i64 38, .int .i64 39, .int .i64 40, .int .i64 41, .int .i64 42, .int .i64 43, .int .i64 44, .int .i64 64, .int .i64 65, .int .i64 66, .int .i64 67] 3) = w4 at HX HG3 ⊢
  obtain ⟨op, hop⟩ : ∃ op, opE K = op := ⟨_, rfl⟩
  have ek : w4.cell? ⟨B, K, none⟩ = some (.int .i64 op) := HX.out.cell K (by rw [opsE_at K HK17.out, hop])
  have Hea := hid (ea_all K HK17.out n Hn20.out)
  have Hop := hid (op_all K HK17.out)
  rw [hop] at Hea Hop
  have o0 := Hop.out.2.2.1
  have o1 := Hop.out.2.2.2.1
  clear hop
  go_wp2_with fail
  refine (number_of b0 17 17 K rfl HK.out (by omega) (by omega) Hb.out.1 Hb.out.2).mono ?_
  rintro e w5 ⟨rfl, rfl⟩
  have Hat : Hid (∀ w : World, Calls Tryd.prog 9 #[.string ⟨#[109, 97, 105, 110]⟩] w fun e w' => e = .returned (.agg #[.int .i64 0, .int .i64 0, .int .i64 0, .int .i64 0, .int .u32 0, .string nmMain, .string ByteArray.empty, .bool false]) ∧ w.grownBy w' none) := hid (fun w => at_any nmMain w)
  go_wp2_with fail
  refine (Hat.out _).mono ?_
  rintro e w5 ⟨rfl, hg⟩
  have HG5 := hid (grown_trans HG3.out hg)
  have al := World.grownBy_alloc w5 (.cells #[.int .i64 0, .int .i64 0, .int .i64 0, .int .i64 0, .int .u32 0, .string nmMain, .string ByteArray.empty, .bool false] 29) none
  have HLn : Hid (LnW W (w5.alloc (.cells #[.int .i64 0, .int .i64 0, .int .i64 0, .int .i64 0, .int .u32 0, .string nmMain, .string ByteArray.empty, .bool false] 29)) (.slice (some ⟨w5.heap.size, 0, none⟩) 1 1) (eaL op 0)) := hid ⟨World.ownsRow_lit w5 (lneC .lab) 1 HG5.out.size (by decide) rfl, grown_trans HG5.out al⟩
  clear hg al Hat HX HG3 ek HG5
  go_upto_region 8 with (fail)
  obtain ⟨C, hC⟩ : ∃ C, w5.heap.size = C := ⟨_, rfl⟩
  rw [hC] at HLn ⊢
  clear hC
  generalize w5.alloc (.cells #[.int .i64 0, .int .i64 0, .int .i64 0, .int .i64 0, .int .u32 0, .string nmMain, .string ByteArray.empty, .bool false] 29) = w6 at HLn ⊢
  go_wp2
  go_loopw [8, 9, 10] (fun v q i wr => ∃ k : Nat, k ≤ n ∧ i = .int .i64 k ∧ q = .int .i64 (atN k : Int) ∧ Hid (LnW W wr v (eaL op k))) (fun _ _ i _ => n - (intOf i).toNat)
  case atStart => exact ⟨0, Nat.zero_le _, rfl, rfl, HLn⟩
  case round =>
    obtain ⟨k, hk, rfl, rfl, HP⟩ := hrel
    have k0 : (0 : Int) ≤ (k : Int) := by omega
    obtain ⟨vp, vc, rfl⟩ := own_slice HP.out.own
    have hel := eaL_length op k
    rw [hel] at HP ⊢
    obtain ⟨L, hL⟩ : ∃ L, k + 1 = L := ⟨_, rfl⟩
    have HL : Hid ((eaL op k).length = L) := hid (hel.trans hL)
    have HLb : Hid (L ≤ 21) := hid (by have := Hn20.out; omega)
    rw [hL] at HP ⊢
    have HQ := hid HP.out
    have Hat : Hid (atN k ≤ 40) := hid (by have := atN_le k; have := Hn20.out; omega)
    obtain ⟨T, hT⟩ : ∃ T, atN k = T := ⟨_, rfl⟩
    have HT := hid hT
    rw [hT] at Hat ⊢
    have t0 : (0 : Int) ≤ (T : Int) := by omega
    have t1 : (T : Int) ≤ 40 := by have := Hat.out; omega
    clear hL HP hel hT
    by_cases hlt : k < n
    · have kn : (k : Int) < (n : Int) := by omega
      have Hlt := hid hlt
      clear hlt
      obtain ⟨i, hi, hz0, hz1, hz2⟩ := info_line
      have Hi := hid hi
      have Hz0 := hid hz0
      have Hz1 := hid hz1
      have Hz2 := hid hz2
      clear hi hz0 hz1 hz2
      obtain ⟨r, hr⟩ : ∃ r : Nat, k % 3 = r := ⟨_, rfl⟩
      have hr3 : r < 3 := by omega
      have hrI : (k : Int) % 3 = (r : Int) := by omega
      have Hr := hid hr
      obtain ⟨y, hy⟩ : ∃ y : Int, (r : Int) = y := ⟨_, rfl⟩
      rw [hy] at hrI
      have Hy : Hid ((r = 0 ∧ y = 0) ∨ (r = 1 ∧ y = 1) ∨ (r = 2 ∧ y = 2)) := hid (by omega)
      clear hr hr3 hy
      rcases Hy.out with ⟨rfl, rfl⟩ | ⟨rfl, rfl⟩ | ⟨rfl, rfl⟩
      · clear Hy
        have Hop1 : Hid (∀ w : World, Calls Tryd.prog 8 #[.int .i64 1, .slice none 0 0] w fun e w' => e = .returned (.agg #[.int .i64 1, .int .i64 0, .int .i64 0, .int .i64 0, .int .u32 0, .string ByteArray.empty, .string ByteArray.empty, .bool false]) ∧ w.grownBy w' none) := hid (fun w => op_nil 1 w)
        go_wp2_with fail
        refine (Hop1.out _).mono ?_
        rintro e w7 ⟨rfl, hg⟩
        have HQ7 := hid (HQ.out.kept0 hg)
        clear hg Hop1
        have HQ8 := hid (HQ7.out.kept0 (World.grownBy_alloc w7 (.cells #[.int .i64 1, .int .i64 0, .int .i64 0, .int .i64 0, .int .u32 0, .string ByteArray.empty, .string ByteArray.empty, .bool false] 29) none))
        have HOw := HQ8.out.own
        rw [HL.out] at HOw
        have HOw := hid HOw
        have Hnews : Hid (∀ j u, [.int .i64 1, .int .i64 0, .int .i64 0, .int .i64 0, .int .u32 0, .string ByteArray.empty, .string ByteArray.empty, .bool false][j]? = some u → (w7.alloc (.cells #[.int .i64 1, .int .i64 0, .int .i64 0, .int .i64 0, .int .u32 0, .string ByteArray.empty, .string ByteArray.empty, .bool false] 29)).cell? ((⟨w7.heap.size, 0, none⟩ : Addr).add j) = some u) := hid (World.news_of_block (heap_alloc_new w7 _))
        go_wp2_with (first
          | (refine wpList_append_lies _ rfl _ _ 24 rfl W.heap.size 29 i _ 8 80 Tryd.underlying24 Hi.out Hz0.out Hz1.out Hz2.out rfl (by decide) _ L _ rfl HOw.out ⟨w7.heap.size, 0, none⟩ 1 1 _ rfl rfl Hnews.out (by simp [Value.oneCell']) (by decide) (by have := HLb.out; unfold maxLen; omega) (by have := HLb.out; omega) HQ8.out.g.size _ rfl ?_
             intro g cap w9 hown hgrow hat hlt2
             have HOn := hid hown
             have hgrow0 : (w7.alloc (.cells #[.int .i64 1, .int .i64 0, .int .i64 0, .int .i64 0, .int .u32 0, .string ByteArray.empty, .string ByteArray.empty, .bool false] 29)).grownBy w9 (Value.slice vp L vc).ownBlock := hgrow
             have HGn := hid hgrow0
             clear hown hgrow hat hlt2 hgrow0)
          | fail)
        go_roundw
        case rel =>
          refine ⟨k + 1, Hlt.out, by go_num, ?_, hid ⟨?_, grown_new' (grown_trans (grown_none HQ8.out.g) HGn.out) (fun j hj => (HOw.out.lt j hj).1)⟩⟩
          · have h : atN (k + 1) = T + 1 := by rw [atN, HT.out, Hr.out]; rfl
            rw [h]
            go_num
          · rw [eaL_succ, List.length_append, HL.out, lnesC_append]
            have h : eaN op k = .op 1 0 0 0 0 := by unfold eaN; rw [Hr.out]; rfl
            rw [h]
            exact HOn.out
        case measure => simp [intOf]; have := Hlt.out; omega
      · clear Hy
        have Hli : Hid (∀ w : World, Calls Tryd.prog 19 #[.int .i64 1, .int .u32 536870912] w fun e w' => e = .returned (.agg #[.int .i64 14, .int .i64 1, .int .i64 0, .int .i64 0, .int .u32 536870912, .string ByteArray.empty, .string ByteArray.empty, .bool false]) ∧ w.grownBy w' none) := hid (fun w => li_any 1 536870912 w)
        go_wp2_with fail
        refine (Hli.out _).mono ?_
        rintro e w7 ⟨rfl, hg⟩
        have HQ7 := hid (HQ.out.kept0 hg)
        clear hg Hli
        have HQ8 := hid (HQ7.out.kept0 (World.grownBy_alloc w7 (.cells #[.int .i64 14, .int .i64 1, .int .i64 0, .int .i64 0, .int .u32 536870912, .string ByteArray.empty, .string ByteArray.empty, .bool false] 29) none))
        have HOw := HQ8.out.own
        rw [HL.out] at HOw
        have HOw := hid HOw
        have Hnews : Hid (∀ j u, [.int .i64 14, .int .i64 1, .int .i64 0, .int .i64 0, .int .u32 536870912, .string ByteArray.empty, .string ByteArray.empty, .bool false][j]? = some u → (w7.alloc (.cells #[.int .i64 14, .int .i64 1, .int .i64 0, .int .i64 0, .int .u32 536870912, .string ByteArray.empty, .string ByteArray.empty, .bool false] 29)).cell? ((⟨w7.heap.size, 0, none⟩ : Addr).add j) = some u) := hid (World.news_of_block (heap_alloc_new w7 _))
        go_wp2_with (first
          | (refine wpList_append_lies _ rfl _ _ 24 rfl W.heap.size 29 i _ 8 80 Tryd.underlying24 Hi.out Hz0.out Hz1.out Hz2.out rfl (by decide) _ L _ rfl HOw.out ⟨w7.heap.size, 0, none⟩ 1 1 _ rfl rfl Hnews.out (by simp [Value.oneCell']) (by decide) (by have := HLb.out; unfold maxLen; omega) (by have := HLb.out; omega) HQ8.out.g.size _ rfl ?_
             intro g cap w9 hown hgrow hat hlt2
             have HOn := hid hown
             have hgrow0 : (w7.alloc (.cells #[.int .i64 14, .int .i64 1, .int .i64 0, .int .i64 0, .int .u32 536870912, .string ByteArray.empty, .string ByteArray.empty, .bool false] 29)).grownBy w9 (Value.slice vp L vc).ownBlock := hgrow
             have HGn := hid hgrow0
             clear hown hgrow hat hlt2 hgrow0)
          | fail)
        go_roundw
        case rel =>
          refine ⟨k + 1, Hlt.out, by go_num, ?_, hid ⟨?_, grown_new' (grown_trans (grown_none HQ8.out.g) HGn.out) (fun j hj => (HOw.out.lt j hj).1)⟩⟩
          · have h : atN (k + 1) = T + 2 := by rw [atN, HT.out, Hr.out]; rfl
            rw [h]
            go_num
          · rw [eaL_succ, List.length_append, HL.out, lnesC_append]
            have h : eaN op k = .op 14 1 0 0 536870912 := by unfold eaN; rw [Hr.out]; rfl
            rw [h]
            exact HOn.out
        case measure => simp [intOf]; have := Hlt.out; omega
      · clear Hy
        have hb1 := build_tab (op * 16777216)
        have hb2 := build_tln (op * 16777216)
        have HQ8 := hid (HQ.out.kept0 (World.grownBy_alloc wr (.cells #[.int .i64 0, .int .i64 0, .int .i64 0, .int .i64 0, .int .u32 (op * 16777216), .string ByteArray.empty, .string ByteArray.empty, .bool true] 29) none))
        have HOw := HQ8.out.own
        rw [HL.out] at HOw
        have HOw := hid HOw
        have Hnews : Hid (∀ j u, [.int .i64 0, .int .i64 0, .int .i64 0, .int .i64 0, .int .u32 (op * 16777216), .string ByteArray.empty, .string ByteArray.empty, .bool true][j]? = some u → (wr.alloc (.cells #[.int .i64 0, .int .i64 0, .int .i64 0, .int .i64 0, .int .u32 (op * 16777216), .string ByteArray.empty, .string ByteArray.empty, .bool true] 29)).cell? ((⟨wr.heap.size, 0, none⟩ : Addr).add j) = some u) := hid (World.news_of_block (heap_alloc_new wr _))
        go_wp2_with (first
          | (refine wpList_append_lies _ rfl _ _ 24 rfl W.heap.size 29 i _ 8 80 Tryd.underlying24 Hi.out Hz0.out Hz1.out Hz2.out rfl (by decide) _ L _ rfl HOw.out ⟨wr.heap.size, 0, none⟩ 1 1 _ rfl rfl Hnews.out (by simp [Value.oneCell']) (by decide) (by have := HLb.out; unfold maxLen; omega) (by have := HLb.out; omega) HQ8.out.g.size _ rfl ?_
             intro g cap w9 hown hgrow hat hlt2
             have HOn := hid hown
             have hgrow0 : (wr.alloc (.cells #[.int .i64 0, .int .i64 0, .int .i64 0, .int .i64 0, .int .u32 (op * 16777216), .string ByteArray.empty, .string ByteArray.empty, .bool true] 29)).grownBy w9 (Value.slice vp L vc).ownBlock := hgrow
             have HGn := hid hgrow0
             clear hown hgrow hat hlt2 hgrow0)
          | fail)
        go_roundw
        case rel =>
          refine ⟨k + 1, Hlt.out, by go_num, ?_, hid ⟨?_, grown_new' (grown_trans (grown_none HQ8.out.g) HGn.out) (fun j hj => (HOw.out.lt j hj).1)⟩⟩
          · have h : atN (k + 1) = T + 1 := by rw [atN, HT.out, Hr.out]; rfl
            rw [h]
            go_num
          · rw [eaL_succ, List.length_append, HL.out, lnesC_append]
            have h : eaN op k = .tab (op * 16777216) := by unfold eaN; rw [Hr.out]; rfl
            rw [h]
            exact HOn.out
        case measure => simp [intOf]; have := Hlt.out; omega
    · obtain rfl : k = n := by omega
      have kn : ¬ ((k : Int) < (k : Int)) := by omega
      clear hlt
      obtain ⟨i, hi, hz0, hz1, hz2⟩ := info_line
      have Hi := hid hi
      have Hz0 := hid hz0
      have Hz1 := hid hz1
      have Hz2 := hid hz2
      clear hi hz0 hz1 hz2
      have Hop1 : Hid (∀ w : World, Calls Tryd.prog 8 #[.int .i64 op, .slice none 0 0] w fun e w' => e = .returned (.agg #[.int .i64 op, .int .i64 0, .int .i64 0, .int .i64 0, .int .u32 0, .string ByteArray.empty, .string ByteArray.empty, .bool false]) ∧ w.grownBy w' none) := hid (fun w => op_nil op w)
      go_wp2_with fail
      refine (Hop1.out _).mono ?_
      rintro e w7 ⟨rfl, hg⟩
      have HQ7 := hid (HQ.out.kept0 hg)
      clear hg Hop1 HQ
      have HQ8 := hid (HQ7.out.kept0 (World.grownBy_alloc w7 (.cells #[.int .i64 op, .int .i64 0, .int .i64 0, .int .i64 0, .int .u32 0, .string ByteArray.empty, .string ByteArray.empty, .bool false] 29) none))
      have HOw := HQ8.out.own
      rw [HL.out] at HOw
      have HOw := hid HOw
      have Hnews : Hid (∀ j u, [.int .i64 op, .int .i64 0, .int .i64 0, .int .i64 0, .int .u32 0, .string ByteArray.empty, .string ByteArray.empty, .bool false][j]? = some u → (w7.alloc (.cells #[.int .i64 op, .int .i64 0, .int .i64 0, .int .i64 0, .int .u32 0, .string ByteArray.empty, .string ByteArray.empty, .bool false] 29)).cell? ((⟨w7.heap.size, 0, none⟩ : Addr).add j) = some u) := hid (World.news_of_block (heap_alloc_new w7 _))
      go_upto_region 22 with (first
        | (refine wpList_append_lies _ rfl _ _ 24 rfl W.heap.size 29 i _ 8 80 Tryd.underlying24 Hi.out Hz0.out Hz1.out Hz2.out rfl (by decide) _ L _ rfl HOw.out ⟨w7.heap.size, 0, none⟩ 1 1 _ rfl rfl Hnews.out (by simp [Value.oneCell']) (by decide) (by have := HLb.out; unfold maxLen; omega) (by have := HLb.out; omega) HQ8.out.g.size _ rfl ?_
           intro g cap w9 hown hgrow hat hlt2
           have HOn := hid hown
           have hgrow0 : (w7.alloc (.cells #[.int .i64 op, .int .i64 0, .int .i64 0, .int .i64 0, .int .u32 0, .string ByteArray.empty, .string ByteArray.empty, .bool false] 29)).grownBy w9 (Value.slice vp L vc).ownBlock := hgrow
           have HGn := hid hgrow0
           clear hown hgrow hat hlt2 hgrow0)
        | fail)
      have HCs : Hid (CsAt w9 (.slice (some ⟨g, 0, none⟩) (L + 1) cap) (eaL op k ++ [Lne.op op 0 0 0 0]).length (lnesC (eaL op k ++ [Lne.op op 0 0 0 0]))) := hid (by
        rw [List.length_append, HL.out, lnesC_append]
        exact CsAt.own HOn.out)
      have HG9 : Hid (W.grownBy w9 none) := hid (grown_new' (grown_trans (grown_none HQ8.out.g) HGn.out) (fun j hj => (HOw.out.lt j hj).1))
      have HLe : Hid ((eaL op k ++ [Lne.op op 0 0 0 0]).length ≤ 1000 ∧ 0 < (eaL op k ++ [Lne.op op 0 0 0 0]).length) := hid (by
        rw [List.length_append, HL.out]
        have := HLb.out
        simp only [List.length_singleton]
        omega)
      clear HQ7 HQ8 HOw Hnews HOn HGn Hi Hz0 Hz1 Hz2
      have HB := Hea.out
      simp only [eaB, Bool.and_eq_true, decide_eq_true_eq] at HB
      obtain ⟨⟨⟨⟨⟨⟨⟨⟨hval, hfit⟩, hlen⟩, hsi⟩, hcg⟩, hsec⟩, hmap⟩, htxn⟩, hst⟩ := HB
      have HGL := hid (good_ea op k Hop.out.2.1)
      obtain ⟨x, hx⟩ : ∃ x, eaO op k = x := ⟨_, rfl⟩
      have Hx := hid hx
      rw [hx] at hval hfit hlen hsi hcg hsec hmap htxn hst
      have HMk : Hid (∀ W' : World, w9.grownBy W' none → Calls Tryd.prog 10 #[.slice none 0 0, .slice (some ⟨g, 0, none⟩) (L + 1) cap] W' fun e w' => ∃ V, e = .returned V.agg ∧ OwnO W'.heap.size w' V x ∧ W'.grownBy w' none) := hid (fun W' hW => by
        rw [← Hx.out]
        exact mkl_any (D := []) (by simp) HLe.out.1 HLe.out.2 HGL.out (.inl ⟨⟨_, _, rfl⟩, rfl⟩) (HCs.out.kept0 hW))
      have Hval := hid hval
      have Hfit := hid (fitB_fit hfit)
      have Hlen := hid hlen
      have Hsi := hid hsi
      have Hst := hid hst
      have HMl : Hid (x.M.length = x.C.length) := hid (valid_ok hval).len
      have Hcg := hid hcg
      obtain ⟨N, hN⟩ : ∃ N : Nat, op = (N : Int) := ⟨op.toNat, by omega⟩
      have HNe := hid hN
      have hwN : wN x (atN k) = N * 16777216 := by unfold wN; rw [hcg, hN]; exact Int.toNat_natCast (N * 16777216)
      have hiN : iN x (atN k) = 0 := by
        unfold iN
        rw [hsec]
        unfold wantImm
        split <;> rfl
      have hlin : linB x (atN k) = textB N 0 0 0 0 := by
        unfold linB
        rw [hwN, hiN]
        have e1 : N * 16777216 / 16777216 = N := by omega
        have e2 : N * 16777216 / 65536 % 256 = 0 := by omega
        have e3 : N * 16777216 / 256 % 256 = 0 := by omega
        have e4 : N * 16777216 % 256 = 0 := by omega
        rw [e1, e2, e3, e4]
      have htx : txL x x.C.length = txL x (atN k) ++ [textB N 0 0 0 0] := by rw [hlen, txL_succ, if_pos hmap, hlin]
      have Htx := hid htx
      have Htxn : Hid ((txL x (atN k)).length = k) := hid (by rw [txL_count]; exact htxn)
      have HwOp : Hid (wOp x (atN k) = op) := hid (by unfold wOp; rw [hcg]; omega)
      have Hrt : Hid (∀ W' : World, W.grownBy W' none → Calls Tryd.prog 21 #[.agg #[.int .i64 op, .int .i64 0, .int .i64 0, .int .i64 0, .int .u32 0]] W' fun e w' => e = .returned (.string (textB N 0 0 0 0)) ∧ W'.grownBy w' none) := hid (fun W' hW => by
        have h := rtext_any N 0 0 0 0 (by omega) W' (HV.out.below (grown_below hW)) (by have := Hop.out.2.1; rw [HNe.out] at this; exact this)
        rw [HNe.out]
        exact h.mono fun e w' h => ⟨h.1, below_is_grown h.2⟩)
      clear hval hfit hlen hsi hcg hsec hmap htxn hst hx hN hwN hiN hlin htx
      go_wp2_with fail
      refine (HMk.out _ (grown_refl _ _)).mono ?_
      rintro e wa ⟨V1, rfl, ho, hg⟩
      have HO1 := hid ho.at_
      have HGa := hid hg
      have HGa2 := hid (grown_trans HG9.out hg)
      clear ho hg
      go_wp2_with fail
      refine (sites_yes HO1.out (HE.out.kept0 HGa2.out) Hfit.out Hval.out).mono ?_
      rintro e wb ⟨v, rfl, hown, hg⟩
      rw [Hsi.out] at hown
      obtain ⟨sb, scp, rfl, -, hsb⟩ := hown.form (show 0 < 1 by omega)
      have Hs0 : Hid (wb.cell? ⟨sb, 0, none⟩ = some (.int .i64 (T : Int)) ∧ wb.cell? ⟨sb, 1, none⟩ = some (.int .i64 (clsI op)) ∧ wb.cell? ⟨sb, 2, none⟩ = some (.int .i64 op) ∧ sb < wb.heap.size) := hid (by
        refine ⟨?_, ?_, ?_, hsb⟩
        · rw [hown.cellAt 0 (show 0 < 1 * 7 by omega), HT.out.symm]; rfl
        · rw [hown.cellAt 1 (show 1 < 1 * 7 by omega), ← HwOp.out]; rfl
        · rw [hown.cellAt 2 (show 2 < 1 * 7 by omega)]
          have h := HwOp.out
          unfold wOp at h
          show some (Value.int .i64 (x.C.getD (atN k) 0 / 16777216)) = _
          rw [h])
      have HGb := hid (grown_trans HGa.out hg)
      have HGb2 := hid (grown_trans HGa2.out hg)
      clear hown hg hsb HO1
      go_wp2_with fail
      refine (HMk.out _ HGb.out).mono ?_
      rintro e wc ⟨V2, rfl, ho, hg⟩
      have HO2 := hid ho.at_
      have HGc := hid (grown_trans HGb.out hg)
      have HGc2 := hid (grown_trans HGb2.out hg)
      have HGbc := hid hg
      clear ho hg
      go_wp2_with fail
      refine (texts_yes HO2.out (HE.out.kept0 HGc2.out) (HV.out.below (grown_below HGc2.out)) Hfit.out Hval.out).mono ?_
      rintro e wd ⟨v, rfl, hown, hg⟩
      have htl : (txL x x.C.length).length = k + 1 := by rw [Htx.out, List.length_append, Htxn.out]; rfl
      rw [htl] at hown
      obtain ⟨tb, tcp, rfl, -, htb⟩ := hown.form (show 0 < k + 1 by omega)
      obtain ⟨lb, hlb⟩ : ∃ lb, textB N 0 0 0 0 = lb := ⟨_, rfl⟩
      have Ht0 : Hid (wd.cell? ⟨tb, k, none⟩ = some (.string lb) ∧ tb < wd.heap.size) := hid (by
        refine ⟨?_, htb⟩
        rw [hown.cellAt k (by omega), Htx.out, strC, List.map_append, List.getElem?_append_right (by rw [List.length_map, Htxn.out]; omega), List.length_map, Htxn.out, hlb]
        simp)
      have HGd := hid (grown_trans HGc.out hg)
      have HGd2 := hid (grown_trans HGc2.out hg)
      have HGbd := hid (grown_trans HGbc.out hg)
      rw [hlb] at Hrt
      obtain ⟨M1, hM1⟩ : ∃ M1, k + 1 = M1 := ⟨_, rfl⟩
      rw [hM1]
      have m1 : (k : Int) + 1 = (M1 : Int) := by omega
      have m2 : (k : Int) < (M1 : Int) := by omega
      clear hown hg htl htb hlb HO2 hM1
      go_upto_region 24 with (fail)
      have dr := grown_drew (grown_refl wd none)
      have HDb := hid (grown_trans HGbd.out dr)
      have HDd := hid dr
      have HD9 := hid (grown_trans HGd.out dr)
      have HDW := hid (grown_trans HGd2.out dr)
      clear dr
      obtain ⟨cl, hcl⟩ : ∃ cl, clsI op = cl := ⟨_, rfl⟩
      have Hcl : Hid (cl ≠ 1) := hid (by rw [← hcl]; exact Hop.out.1)
      have cl1 : (cl != 1) = true := by simpa using Hcl.out
      rw [hcl] at Hs0
      have HQ1 : Hid (∀ W' : World, Calls Tryd.prog 18 #[.int .i64 op] W' fun e w' => e = .returned (.int .i64 cl) ∧ W'.grownBy w' none) := hid (fun W' => (rclass_any op W').mono fun e w' h => ⟨by rw [h.1, hcl], h.2 ▸ grown_refl _ _⟩)
      clear hcl
      have hls : ∀ w : World, (Op.stringOp .eql lb lb).run Tryd.prog w = .ok (.bool true) w := fun w => by simp [Op.stringOp]
      have hb1 := build_opn op
      have k1 : wd.drew.cell? ⟨sb, 0, none⟩ = some (.int .i64 (T : Int)) := (grown_cell HDb.out Hs0.out.2.2.2 (by simp)).trans Hs0.out.1
      have k2 : wd.drew.cell? ⟨sb, 1, none⟩ = some (.int .i64 cl) := (grown_cell HDb.out Hs0.out.2.2.2 (by simp)).trans Hs0.out.2.1
      have k3 : wd.drew.cell? ⟨sb, 2, none⟩ = some (.int .i64 op) := (grown_cell HDb.out Hs0.out.2.2.2 (by simp)).trans Hs0.out.2.2.1
      have k4 : wd.drew.cell? ⟨tb, k, none⟩ = some (.string lb) := (grown_cell HDd.out Ht0.out.2 (by simp)).trans Ht0.out.1
      have hq : (stL x x.C.length).length + k / 3 = k + 1 := Hst.out
      obtain ⟨M2, hM2⟩ : ∃ M2, (stL x x.C.length).length = M2 := ⟨_, rfl⟩
      have HM2 := hid hM2
      rw [hM2] at hq
      obtain ⟨Q3, hQ3⟩ : ∃ Q3, k / 3 = Q3 := ⟨_, rfl⟩
      rw [hQ3] at hq
      have mq : (k : Int) / 3 = (Q3 : Int) := by omega
      have mq2 : (k : Int).tdiv 3 = (Q3 : Int) := by rw [Int.tdiv_eq_ediv_of_nonneg (by omega)]; omega
      have m3 : (M1 : Int) - (Q3 : Int) = (M2 : Int) := by omega
      have hM21 : (M1 : Int) ≤ 21 ∧ (M2 : Int) ≤ 21 := by have := Hn20.out; omega
      have hw1 := wrap_i64_id (n := (M1 : Int)) (by omega) (by omega)
      have hw2 := wrap_i64_id (n := (M2 : Int)) (by omega) (by omega)
      have hw3 := wrap_i64_id (n := (Q3 : Int)) (by omega) (by omega)
      clear hM21
      clear hq hM2 hQ3
      simp only [List.append_eq, List.cons_append, List.nil_append]

      go_region_held3 (fun W' => W'.cell? ⟨sb, 0, none⟩ = some (.int .i64 (T : Int)) ∧ W'.cell? ⟨sb, 1, none⟩ = some (.int .i64 cl) ∧ W'.cell? ⟨sb, 2, none⟩ = some (.int .i64 op) ∧ W'.cell? ⟨tb, k, none⟩ = some (.string lb) ∧ wd.drew.grownBy W' none)
        (first | (with_reducible exact ⟨k1, k2, k3, k4, grown_refl _ _⟩) | (go_split_ands; have hgr := grown_trans (w := wd.drew) (r := none) (by assumption) hcb; exact ⟨(grown_cell (grown_trans HDb.out hgr) Hs0.out.2.2.2 (by simp)).trans Hs0.out.1, (grown_cell (grown_trans HDb.out hgr) Hs0.out.2.2.2 (by simp)).trans Hs0.out.2.1, (grown_cell (grown_trans HDb.out hgr) Hs0.out.2.2.2 (by simp)).trans Hs0.out.2.2.1, (grown_cell (grown_trans HDd.out hgr) Ht0.out.2 (by simp)).trans Ht0.out.1, hgr⟩))
        (first
          | (go_split_ands; go_at_call 18; (with_reducible refine (HQ1.out _).mono ?_); rintro e w' ⟨rfl, hcb⟩)
          | (go_split_ands; go_at_call 21; (with_reducible refine (Hrt.out _ (grown_trans HDW.out (by assumption))).mono ?_); rintro e w' ⟨rfl, hcb⟩)
          | (go_split_ands; go_at_call 10; (with_reducible refine (HMk.out _ (grown_trans HD9.out (by assumption))).mono ?_); rintro e w' ⟨V3, rfl, hown3, hcb⟩; have HO3 := hid hown3; clear hown3)
          | (go_split_ands; go_at_call 22; (refine (starts_any HO3.out.at_ HMl.out (by rw [Hlen.out]; have := atN_le k; have := Hn20.out; omega)).mono ?_); rintro e w' ⟨sv, rfl, hsv, hcb⟩; rw [HM2.out] at hsv; obtain ⟨svp, svc, rfl⟩ := own_slice hsv; clear hsv))
      go_split_ands
      go_wp2
      go_ret
      exact ⟨rfl, grown_below (grown_trans HDW.out (by assumption))⟩
end Go.Proofs.YtbjijddpdefhpaaDoor

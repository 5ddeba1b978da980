/- Package site: Text, as plain data and where the object may be: contract. -/
import Derived.Test.YtgahbpfmiibpeaaGreatDoorZGSite
import Derived.Test.YtgahbpfmiibpeaaGreatDoorZGTxt
import Derived.Test.YtgahbpfmiibpeaaGreatDoorZObj13
namespace Go.Proofs.YtgahbpfmiibpeaaGreatDoor
open Go.RowKit
def wN (x : PO) (k : Nat) : Nat := (x.C.getD k 0).toNat
def iN (x : PO) (k : Nat) : Nat := (wantImm (x.C.getD k 0 / 16777216) (secN x k)).toNat
/-- the line of the instruction that begins at word k -/
def linB (x : PO) (k : Nat) : ByteArray := textB (wN x k / 16777216) (wN x k / 65536 % 256) (wN x k / 256 % 256) (wN x k % 256) (iN x k)
def tabB (x : PO) (k : Nat) : ByteArray := ⟨#[119, 111, 114, 100, 32, 48, 120]⟩ ++ hexB (wN x k)
def txL (x : PO) (n : Nat) : List ByteArray := (List.range n).flatMap fun k => if mapN x k = 1 then [linB x k] else if mapN x k = 2 then [tabB x k] else []
theorem txL_zero (x : PO) : txL x 0 = [] := rfl
theorem txL_succ (x : PO) (n : Nat) : txL x (n + 1) = txL x n ++ (if mapN x n = 1 then [linB x n] else if mapN x n = 2 then [tabB x n] else []) := by
  unfold txL
  rw [List.range_succ, List.flatMap_append]
  congr 1
  simp
theorem txL_length (x : PO) (n : Nat) : (txL x n).length ≤ n := by
  induction n with
  | zero => exact Nat.le_refl _
  | succ n ih =>
    rw [txL_succ, List.length_append]
    split
    · simp; omega
    · split
      · simp; omega
      · simp; omega
def strC (l : List ByteArray) : List Value := l.map Value.string
theorem info_str : ∃ i : TypeInfo, Tryz.prog.info? 9 = some i ∧ i.zero = some (.string ⟨#[]⟩) ∧ i.size = 1 ∧ i.bytes = 16 := info_parts (P := Tryz.prog) (e := 9) (z := .string ⟨#[]⟩) (size := 1) (bytes := 16) (by kernel_rfl)
/-- an instruction, its numbers as natural ones -/
theorem begC_nat {x : PO} {k Y : Nat} (hy : x.C.getD k 0 = (Y : Int)) (hs : 0 ≤ secN x k) : begC x k = [.int .i64 ((Y / 16777216 : Nat) : Int), .int .i64 ((Y / 65536 % 256 : Nat) : Int), .int .i64 ((Y / 256 % 256 : Nat) : Int), .int .i64 ((Y % 256 : Nat) : Int), .int .u32 (iN x k : Int)] ∧ wN x k = Y ∧ (iN x k : Int) = wantImm (x.C.getD k 0 / 16777216) (secN x k) := by
  have hi : (iN x k : Int) = wantImm (x.C.getD k 0 / 16777216) (secN x k) := by
    unfold iN
    refine Int.toNat_of_nonneg ?_
    unfold wantImm
    split
    · exact hs
    · decide
  refine ⟨?_, by unfold wN; rw [hy]; simp, hi⟩
  rw [hi]
  unfold begC
  rw [hy]
  have e1 : (Y : Int) / 16777216 = ((Y / 16777216 : Nat) : Int) := by omega
  have e2 : (Y : Int) / 65536 % 256 = ((Y / 65536 % 256 : Nat) : Int) := by omega
  have e3 : (Y : Int) / 256 % 256 = ((Y / 256 % 256 : Nat) : Int) := by omega
  have e4 : (Y : Int) % 256 = ((Y % 256 : Nat) : Int) := by omega
  rw [e1, e2, e3, e4]
/-- the words of code are words -/
theorem sec_fit {x : PO} (hf : OFit x) (k : Nat) : 0 ≤ secN x k ∧ secN x k < 4294967296 := by
  unfold secN
  rw [List.getD_eq_getElem?_getD]
  cases h : x.C[k + 1]? with
  | none => simp
  | some y => exact hf.c y (List.mem_of_getElem? h)
theorem iN_lt {x : PO} (hf : OFit x) (k : Nat) : iN x k < 4294967296 := by
  have h := sec_fit hf k
  unfold iN wantImm
  split
  · omega
  · decide
structure STw (W w : World) (G : Nat) (V : OV) (x : PO) (v : Value) (k : Nat) : Prop where
  box : RwAt w G 27 #[V.d, V.c, V.m, V.r, V.q, V.s]
  g : W.grownBy w none
  own : w.ownsRow W.heap.size 9 1 v (txL x k).length (strC (txL x k))
  ne : v.ownBlock ≠ some G
theorem STw.kept0 {W w w1 : World} {G : Nat} {V : OV} {x : PO} {v : Value} {k : Nat} (h : STw W w G V x v k) (hg : w.grownBy w1 none) : STw W w1 G V x v k := ⟨h.box.kept0 hg, grown_trans h.g hg, own_keep0 h.own hg, h.ne⟩
/-! ### the walk -/
set_option maxRecDepth 100000 in
set_option maxHeartbeats 16000000 in
theorem texts_yes {W : World} {A : Nat → Addr} {V : OV} {x : PO} (h : OAt W V x) (he : ErrC W A) (hvs : Vars W) (hf : OFit x) (hv : validP x = none) :
    Calls Tryz.prog 13 #[V.agg] W fun e w' => ∃ v, e = .returned (.tuple #[v, .nilIface]) ∧ w'.ownsRow W.heap.size 9 1 v (txL x x.C.length).length (strC (txL x x.C.length)) ∧ W.grownBy w' none := by
  have hok := valid_ok hv
  have hmany : x.C.length ≤ 2048 := by have := hok.many; unfold manyB at this; simp only [decide_eq_false_iff_not] at this; omega
  obtain ⟨d, c, m, r, q, s⟩ := V
  obtain ⟨cp, cc, hcv⟩ := h.c.len'
  obtain ⟨mp, mc, hmv⟩ := h.m.len'
  simp only at hcv hmv
  rw [hok.len] at hmv
  subst hcv; subst hmv
  obtain ⟨n, hne⟩ : ∃ n, x.C.length = n := ⟨_, rfl⟩
  rw [hne] at h hmany ⊢
  have Hne := hid hne
  have HB0 := hid (RwAt.new W 27 #[d, .slice cp n cc, .slice mp n mc, r, q, s])
  have HG0 := hid (World.grownBy_alloc W (.cells #[d, .slice cp n cc, .slice mp n mc, r, q, s] 27) none)
  have HO := hid h
  have HE := hid he
  have HV := hid hvs
  have HF := hid hf
  have HVal := hid hv
  have Hok := hid hok
  have Hmany := hid hmany
  have n0 : (0 : Int) ≤ (n : Int) := by omega
  have n1 : (n : Int) ≤ 2048 := by omega
  clear h he hvs hf hv hok hmany hne
  go_enter Tryz.func13, Tryz.ntmps13
  go_upto_region 1 with (fail)
  obtain ⟨G, hG⟩ : ∃ G, W.heap.size = G := ⟨_, rfl⟩
  rw [hG] at HB0 ⊢
  clear hG
  generalize W.alloc (.cells #[d, .slice cp n cc, .slice mp n mc, r, q, s] 27) = w1 at HB0 HG0 ⊢
  go_wp2_with (first
    | (refine wpList_load_rw rfl 27 _ rfl rfl HB0.out rfl Tryz.underlying27 info_object ?_)
    | fail)
  refine (valid_any (V := ⟨d, .slice cp n cc, .slice mp n mc, r, q, s⟩) (HO.out.kept0 HG0.out) (HE.out.kept0 HG0.out) HF.out).mono ?_
  rintro e w2 ⟨fv, rfl, hfl, hg⟩
  rw [HVal.out] at hfl
  obtain rfl : fv = .nilIface := hfl
  have HST : Hid (STw W w2 G ⟨d, .slice cp n cc, .slice mp n mc, r, q, s⟩ x (.slice none 0 0) 0) := hid ⟨HB0.out.kept0 hg, grown_trans HG0.out hg, World.ownsRow_nil _ _ _ _, by simp [Value.ownBlock]⟩
  have e2 := HST.out.box.cell 2 (v := .slice mp n mc) rfl
  clear hg HB0 HG0
  go_wp2
  clear e2
  go_loopw [5, 16] (fun v i wr => ∃ k : Nat, k ≤ n ∧ i = .int .i64 k ∧ Hid (STw W wr G ⟨d, .slice cp n cc, .slice mp n mc, r, q, s⟩ x v k)) (fun _ i _ => n - (intOf i).toNat)
  case atStart => exact ⟨0, Nat.zero_le _, rfl, HST⟩
  case round =>
    obtain ⟨k, hk, rfl, HR⟩ := hrel
    have k0 : (0 : Int) ≤ (k : Int) := by omega
    obtain ⟨vp, vc, rfl⟩ := own_slice HR.out.own
    obtain ⟨L, hL⟩ : ∃ L, (txL x k).length = L := ⟨_, rfl⟩
    have HL := hid hL
    have HLn : Hid (L ≤ 2048) := hid (by have := txL_length x k; have := Hmany.out; omega)
    rw [hL] at HR ⊢
    have HRc := hid HR.out
    clear hL HR
    by_cases hlt : k < n
    · have kn : (k : Int) < (n : Int) := by omega
      have Hlt := hid hlt
      obtain ⟨mk, hmk⟩ : ∃ mk, x.M[k]? = some mk := ⟨_, List.getElem?_eq_getElem (by rw [Hok.out.len, Hne.out]; exact hlt)⟩
      obtain ⟨y, hy⟩ : ∃ y, x.C[k]? = some y := ⟨_, List.getElem?_eq_getElem (by rw [Hne.out]; exact hlt)⟩
      have Hy := hid hy
      have Hyd : Hid (x.C.getD k 0 = y) := hid (by rw [List.getD_eq_getElem?_getD, hy]; rfl)
      have Hyr := hid (HF.out.c y (List.mem_of_getElem? hy))
      have Hmap : Hid (mapN x k = mk) := hid (by unfold mapN; rw [List.getD_eq_getElem?_getD, hmk]; rfl)
      obtain ⟨bm, om, c', hvm, hbm, hcm⟩ := (HO.out.kept0 HRc.out.g).m.at_ (by rw [Hok.out.len, Hne.out]; omega)
      simp only [Value.slice.injEq] at hvm
      obtain ⟨rfl, -, -⟩ := hvm
      have em := hcm k mk hmk
      clear hbm hcm hmk hy hlt
      by_cases h1 : mk = 1
      · subst h1
        have Htx : Hid (txL x (k + 1) = txL x k ++ [linB x k]) := hid (by rw [txL_succ, if_pos Hmap.out])
        have Hins := hid (sifirst_ins (siword_first (Hok.out.word k (by rw [Hne.out]; exact Hlt.out)) Hmap.out) Hmap.out)
        have hgd : x.C.getD k 0 = y := Hyd.out
        obtain ⟨Y, hY⟩ : ∃ Y : Nat, y = (Y : Int) := ⟨y.toNat, by have := Hyr.out.1; omega⟩
        have hbn := begC_nat (x := x) (k := k) (Y := Y) (hgd.trans hY) (sec_fit HF.out k).1
        have Hbn := hid hbn
        have Hi2 : Hid (insB ((Y / 16777216 : Nat) : Int) ((Y / 65536 % 256 : Nat) : Int) ((Y / 256 % 256 : Nat) : Int) ((Y % 256 : Nat) : Int) (iN x k : Int) = true) := hid (by
          have h := ins_any (i := secN x k) Hins.out
          rw [Hbn.out.2.2]
          rw [hgd] at h ⊢
          have e1 : y / 16777216 = ((Y / 16777216 : Nat) : Int) := by omega
          have e2 : y / 65536 % 256 = ((Y / 65536 % 256 : Nat) : Int) := by omega
          have e3 : y / 256 % 256 = ((Y / 256 % 256 : Nat) : Int) := by omega
          have e4 : y % 256 = ((Y % 256 : Nat) : Int) := by omega
          rw [← e1, ← e2, ← e3, ← e4]
          exact h)
        clear hgd hbn hY
        go_wp2_with (first
          | (refine wpList_load_rw rfl 27 _ rfl rfl HRc.out.box rfl Tryz.underlying27 info_object ?_)
          | fail)
        refine (begins_any (V := ⟨d, .slice cp n cc, .slice (some ⟨bm, om, none⟩) n mc, r, q, s⟩) (k := k) (HO.out.kept0 HRc.out.g) HF.out (by rw [Hne.out]; exact Hlt.out) (by rw [Hne.out]; have := Hmany.out; omega) Hins.out).mono ?_
        rintro e wp ⟨rfl, hg⟩
        rw [Hbn.out.1]
        have HRp := hid (HRc.out.kept0 hg)
        clear hg HRc
        obtain ⟨jj, hjj⟩ : ∃ jj, iN x k = jj := ⟨_, rfl⟩
        have Hjj := hid hjj
        rw [hjj] at Hi2 ⊢
        clear hjj
        have Htb : Hid (linB x k = textB (Y / 16777216) (Y / 65536 % 256) (Y / 256 % 256) (Y % 256) jj) := hid (by unfold linB; rw [Hbn.out.2.1, Hjj.out])
        have Hjl : Hid (jj < 4294967296) := hid (by rw [← Hjj.out]; exact iN_lt HF.out k)
        obtain ⟨q0, hq0⟩ : ∃ q0, Y / 16777216 = q0 := ⟨_, rfl⟩
        obtain ⟨q1, hq1⟩ : ∃ q1, Y / 65536 % 256 = q1 := ⟨_, rfl⟩
        obtain ⟨q2, hq2⟩ : ∃ q2, Y / 256 % 256 = q2 := ⟨_, rfl⟩
        obtain ⟨q3, hq3⟩ : ∃ q3, Y % 256 = q3 := ⟨_, rfl⟩
        rw [hq0, hq1, hq2, hq3] at Hi2 Htb ⊢
        clear hq0 hq1 hq2 hq3
        go_wp2_with fail
        refine (text_any q0 q1 q2 q3 jj Hjl.out _ (HV.out.below (grown_below HRp.out.g)) Hi2.out).mono ?_
        rintro e wq ⟨rfl, hbl⟩
        have HRq := hid (HRp.out.kept0 (below_is_grown hbl))
        clear hbl HRp
        rw [← Htb.out]
        obtain ⟨lb, hlb⟩ : ∃ lb, linB x k = lb := ⟨_, rfl⟩
        rw [hlb] at Htx ⊢
        clear hlb
        obtain ⟨i, hi, hz0, hz1, hz2⟩ := info_str
        have Hi := hid hi
        have Hz0 := hid hz0
        have Hz1 := hid hz1
        have Hz2 := hid hz2
        have HRa := hid (HRq.out.kept0 (World.grownBy_alloc wq (.cells #[.string lb] 9) none))
        have HOw := HRa.out.own
        rw [HL.out] at HOw
        have HOw := hid HOw
        have HN : Hid (∀ j u, [Value.string lb][j]? = some u → (wq.alloc (.cells #[.string lb] 9)).cell? ((⟨wq.heap.size, 0, none⟩ : Addr).add j) = some u) := hid (World.news_of_block (heap_alloc_new wq _))
        clear hi hz0 hz1 hz2
        go_wp2_with (first
          | (refine wpList_append_lies _ rfl _ _ 38 rfl W.heap.size 9 i _ 1 16 Tryz.underlying38 Hi.out Hz0.out Hz1.out Hz2.out rfl (by decide) _ L _ rfl HOw.out ⟨wq.heap.size, 0, none⟩ 1 1 _ rfl rfl HN.out (by simp [Value.oneCell']) (by decide) (by have := HLn.out; unfold maxLen; omega) (by have := HLn.out; omega) HRa.out.g.size _ rfl ?_
             intro g cap w5 hown hgrow hat hlt2
             have hgrow0 : (wq.alloc (.cells #[.string lb] 9)).grownBy w5 (Value.slice vp L vc).ownBlock := hgrow
             have hat0 : (Value.slice vp L vc).ownBlock = some g ∨ g = (wq.alloc (.cells #[.string lb] 9)).heap.size := hat
             have HOn := hid hown
             have HG5 := hid hgrow0
             have HAt := hid hat0
             clear hown hgrow hat hlt2 hgrow0 hat0)
          | fail)
        go_roundw
        case rel =>
          refine ⟨k + 1, Hlt.out, by go_num, hid ⟨?_, ?_, ?_, ?_⟩⟩
          · exact HRa.out.box.kept HG5.out (fun e => HRa.out.ne e.symm)
          · exact grown_new' (grown_trans (grown_none HRa.out.g) HG5.out) (fun j hj => (HOw.out.lt j hj).1)
          · rw [Htx.out, List.length_append, HL.out, strC, List.map_append]
            exact HOn.out
          · rcases HAt.out with e | e
            · exact fun h => HRa.out.ne (e.trans h)
            · have h1 := HRa.out.box.lt
              simp only [Value.ownBlock, ne_eq, Option.some.injEq]
              omega
        case measure => simp [intOf]; have := Hlt.out; omega

      · by_cases h2 : mk = 2
        · subst h2
          have h21 : ((2 : Int) == 1) = false := by decide
          have Htx : Hid (txL x (k + 1) = txL x k ++ [tabB x k]) := hid (by rw [txL_succ, if_neg (by rw [Hmap.out]; decide), if_pos Hmap.out])
          obtain ⟨Y, hY⟩ : ∃ Y : Nat, y = (Y : Int) := ⟨y.toNat, by have := Hyr.out.1; omega⟩
          have Hwn : Hid (wN x k = Y) := hid (by unfold wN; rw [Hyd.out, hY]; simp)
          subst hY
          have HYl : Hid (Y < 4294967296) := hid (by have := Hyr.out.2; omega)
          have y0 : (0 : Int) ≤ (Y : Int) := by omega
          have y1 : (Y : Int) < 4294967296 := by have := HYl.out; omega
          obtain ⟨bc, oc, c', hvc, hbc, hcc⟩ := (HO.out.kept0 HRc.out.g).c.at_ (by rw [Hne.out]; have := Hlt.out; omega)
          simp only [Value.slice.injEq] at hvc
          obtain ⟨rfl, -, -⟩ := hvc
          have ey := hcc k (Y : Int) Hy.out
          have e1 := HRc.out.box.cell 1 (v := .slice (some ⟨bc, oc, none⟩) n cc) rfl
          clear hbc hcc
          go_wp2_with fail
          refine (fuint_any Y HYl.out _ (HV.out.below (grown_below HRc.out.g))).mono ?_
          rintro e wq ⟨rfl, hbl⟩
          have HRq := hid (HRc.out.kept0 (below_is_grown hbl))
          clear hbl HRc ey e1
          have hst : ∀ w : World, (Op.stringOp .add ⟨#[119, 111, 114, 100, 32, 48, 120]⟩ (hexB Y)).run Tryz.prog w = .ok (.string (tabB x k)) w := fun w => by
            have h := run_string_add_sum (P := Tryz.prog) w ⟨#[119, 111, 114, 100, 32, 48, 120]⟩ (hexB Y) (by have := hexB_size HYl.out; show 7 + (hexB Y).size ≤ _; omega)
            rw [h]
            unfold tabB
            rw [Hwn.out]
          obtain ⟨lb, hlb⟩ : ∃ lb, tabB x k = lb := ⟨_, rfl⟩
          rw [hlb] at Htx hst
          obtain ⟨hb, hhb⟩ : ∃ hb, hexB Y = hb := ⟨_, rfl⟩
          rw [hhb] at hst ⊢
          clear hlb hhb
          obtain ⟨i, hi, hz0, hz1, hz2⟩ := info_str
          have Hi := hid hi
          have Hz0 := hid hz0
          have Hz1 := hid hz1
          have Hz2 := hid hz2
          have HRa := hid (HRq.out.kept0 (World.grownBy_alloc wq (.cells #[.string lb] 9) none))
          have HOw := HRa.out.own
          rw [HL.out] at HOw
          have HOw := hid HOw
          have HN : Hid (∀ j u, [Value.string lb][j]? = some u → (wq.alloc (.cells #[.string lb] 9)).cell? ((⟨wq.heap.size, 0, none⟩ : Addr).add j) = some u) := hid (World.news_of_block (heap_alloc_new wq _))
          clear hi hz0 hz1 hz2
          go_wp2_with (first
            | (refine wpList_append_lies _ rfl _ _ 38 rfl W.heap.size 9 i _ 1 16 Tryz.underlying38 Hi.out Hz0.out Hz1.out Hz2.out rfl (by decide) _ L _ rfl HOw.out ⟨wq.heap.size, 0, none⟩ 1 1 _ rfl rfl HN.out (by simp [Value.oneCell']) (by decide) (by have := HLn.out; unfold maxLen; omega) (by have := HLn.out; omega) HRa.out.g.size _ rfl ?_
               intro g cap w5 hown hgrow hat hlt2
               have hgrow0 : (wq.alloc (.cells #[.string lb] 9)).grownBy w5 (Value.slice vp L vc).ownBlock := hgrow
               have hat0 : (Value.slice vp L vc).ownBlock = some g ∨ g = (wq.alloc (.cells #[.string lb] 9)).heap.size := hat
               have HOn := hid hown
               have HG5 := hid hgrow0
               have HAt := hid hat0
               clear hown hgrow hat hlt2 hgrow0 hat0)
            | fail)
          go_roundw
          case rel =>
            refine ⟨k + 1, Hlt.out, by go_num, hid ⟨?_, ?_, ?_, ?_⟩⟩
            · exact HRa.out.box.kept HG5.out (fun e => HRa.out.ne e.symm)
            · exact grown_new' (grown_trans (grown_none HRa.out.g) HG5.out) (fun j hj => (HOw.out.lt j hj).1)
            · rw [Htx.out, List.length_append, HL.out, strC, List.map_append]
              exact HOn.out
            · rcases HAt.out with e | e
              · exact fun h => HRa.out.ne (e.trans h)
              · have h1 := HRa.out.box.lt
                simp only [Value.ownBlock, ne_eq, Option.some.injEq]
                omega
          case measure => simp [intOf]; have := Hlt.out; omega

        · have h1b : (mk == 1) = false := by simpa using h1
          have h2b : (mk == 2) = false := by simpa using h2
          have Htx : Hid (txL x (k + 1) = txL x k) := hid (by rw [txL_succ, if_neg (by rw [Hmap.out]; exact h1), if_neg (by rw [Hmap.out]; exact h2), List.append_nil])
          clear h1 h2
          go_wp2
          go_roundw
          case rel => exact ⟨k + 1, Hlt.out, by go_num, hid ⟨HRc.out.box, HRc.out.g, by rw [Htx.out]; exact HRc.out.own, HRc.out.ne⟩⟩
          case measure => simp [intOf]; have := Hlt.out; omega
    · obtain rfl : k = n := by omega
      clear hlt
      have kn : ¬ ((k : Int) < (k : Int)) := by omega
      go_wp2
      refine bodyPost_ret (v := .tuple #[.slice vp L vc, .nilIface]) (by simp [results, Tryz.results13, go_sem]) rfl ?_
      have h1 := HRc.out.own
      exact ⟨_, rfl, h1, HRc.out.g⟩
end Go.Proofs.YtgahbpfmiibpeaaGreatDoor

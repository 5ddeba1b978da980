/- Lines of a kernel (facademake), with any labels and symbols, as plain data; the object that they make. -/
import Derived.Test.YteanjchbnaoopaaDoorYLnkM
import Derived.Test.YteanjchbnaoopaaDoorYRewP
import Derived.Test.YteanjchbnaoopaaDoorYLnk7
import Derived.Test.YteanjchbnaoopaaDoorYObj2
namespace Go.Proofs.YteanjchbnaoopaaDoor
/-- a line: its instruction, its label, its symbol, whether it is a table's word -/
structure Lx where
  o : Int
  a : Int
  b : Int
  c : Int
  m : Int
  nm : ByteArray
  sy : ByteArray
  t : Bool
deriving DecidableEq
def lxC (l : Lx) : List Value := [.int .i64 l.o, .int .i64 l.a, .int .i64 l.b, .int .i64 l.c, .int .u32 l.m, .string l.nm, .string l.sy, .bool l.t]
theorem lxC_length (l : Lx) : (lxC l).length = 8 := rfl
/-- where a name is among symbols; as many as there are, if it is not -/
def syIx (S : List Sy) (n : ByteArray) : Nat := S.findIdx fun s => decide (s.n = n)
def syS (S : List Sy) (n : ByteArray) : List Sy := if syIx S n < S.length then S else S ++ [⟨n, 3, 0, true⟩]
/-- with a name among the symbols, and a relocation by it -/
def relX (x : PO) (at_ : Nat) (k : Int) (n : ByteArray) : PO := if n = ByteArray.empty then x else ⟨x.D, x.C, x.M, x.R, x.Q ++ [⟨at_, k, syIx x.S n, 0⟩], syS x.S n⟩
def wrdX (x : PO) (ws ms : List Int) : PO := ⟨x.D, x.C ++ ws, x.M ++ ms, x.R, x.Q, x.S⟩
/-- an object, and a line more -/
def lxD (x : PO) (l : Lx) : PO :=
  if l.nm ≠ ByteArray.empty then ⟨x.D, x.C, x.M, x.R, x.Q, (syS x.S l.nm).set (syIx x.S l.nm) ⟨l.nm, 2, x.C.length, true⟩⟩
  else if l.t = true then wrdX (relX x x.C.length 1 l.sy) [l.m] [2]
  else if twoB l.o = true then wrdX (relX x (x.C.length + 1) 1 l.sy) [wordV l.o l.a l.b l.c l.m, l.m] [1, 0]
  else wrdX (relX x x.C.length 2 l.sy) [wordV l.o l.a l.b l.c l.m] [1]
def poX (D : List Int) : PO := ⟨D, [], [], [], [], []⟩
def objX (D : List Int) (ls : List Lx) : PO := ls.foldl lxD (poX D)
theorem objX_succ (D : List Int) {ls : List Lx} {k : Nat} {l : Lx} (h : ls[k]? = some l) : objX D (ls.take (k + 1)) = lxD (objX D (ls.take k)) l := by
  unfold objX
  rw [List.take_add_one, h, List.foldl_append]; rfl
theorem syIx_le (S : List Sy) (n : ByteArray) : syIx S n ≤ S.length := List.findIdx_le_length
theorem syS_length (S : List Sy) (n : ByteArray) : (syS S n).length ≤ S.length + 1 ∧ syIx S n < (syS S n).length ∧ S.length ≤ (syS S n).length := by
  have := syIx_le S n
  unfold syS
  split
  · omega
  · rw [List.length_append, List.length_singleton]; omega
theorem relX_is (x : PO) (a : Nat) (k : Int) (n : ByteArray) : (relX x a k n).D = x.D ∧ (relX x a k n).C = x.C ∧ (relX x a k n).M = x.M ∧ (relX x a k n).R = x.R ∧ (relX x a k n).Q.length ≤ x.Q.length + 1 ∧ (relX x a k n).S.length ≤ x.S.length + 1 := by
  unfold relX
  have := syS_length x.S n
  split
  · exact ⟨rfl, rfl, rfl, rfl, by omega, by omega⟩
  · exact ⟨rfl, rfl, rfl, rfl, by simp, by simp only; omega⟩
/-- what lines make: bounds -/
structure LxOk (n : Nat) (x : PO) : Prop where
  c : x.C.length ≤ 2 * n
  m : x.M.length = x.C.length
  r : x.R = []
  q : x.Q.length ≤ n
  s : x.S.length ≤ n
theorem lxD_ok {n : Nat} {x : PO} (h : LxOk n x) (l : Lx) : LxOk (n + 1) (lxD x l) := by
  have hs := syS_length x.S l.nm
  have hc := h.c
  have hm := h.m
  have hq := h.q
  have hS := h.s
  unfold lxD
  split
  · exact ⟨by simp only; omega, h.m, h.r, by simp only; omega, by simp only [List.length_set]; omega⟩
  · split
    · obtain ⟨_, e1, e2, e3, e4, e5⟩ := relX_is x x.C.length 1 l.sy
      exact ⟨by simp [wrdX, e1]; omega, by simp [wrdX, e1, e2, hm], by simp [wrdX, e3, h.r], by simp only [wrdX]; omega, by simp only [wrdX]; omega⟩
    · split
      · obtain ⟨_, e1, e2, e3, e4, e5⟩ := relX_is x (x.C.length + 1) 1 l.sy
        exact ⟨by simp [wrdX, e1]; omega, by simp [wrdX, e1, e2, hm], by simp [wrdX, e3, h.r], by simp only [wrdX]; omega, by simp only [wrdX]; omega⟩
      · obtain ⟨_, e1, e2, e3, e4, e5⟩ := relX_is x x.C.length 2 l.sy
        exact ⟨by simp [wrdX, e1]; omega, by simp [wrdX, e1, e2, hm], by simp [wrdX, e3, h.r], by simp only [wrdX]; omega, by simp only [wrdX]; omega⟩
theorem objX_ok (D : List Int) (ls : List Lx) : ∀ k, k ≤ ls.length → LxOk k (objX D (ls.take k))
  | 0, _ => ⟨Nat.le_refl 0, rfl, rfl, Nat.le_refl 0, Nat.le_refl 0⟩
  | k + 1, h => by
    rw [objX_succ D (List.getElem?_eq_getElem (show k < ls.length by omega))]
    exact lxD_ok (objX_ok D ls k (by omega)) _
end Go.Proofs.YteanjchbnaoopaaDoor
namespace Go.Proofs.YteanjchbnaoopaaDoor
open Go.RowKit
/-- the rows of an object -/
def obRo (V : OV) (x : PO) : List Ro := [⟨V.d, 25, 1, x.D.length, x.D.map (Value.int .u32)⟩, ⟨V.c, 25, 1, x.C.length, x.C.map (Value.int .u32)⟩, ⟨V.m, 5, 1, x.M.length, x.M.map (Value.int .u8)⟩, ⟨V.r, 76, 4, x.R.length, rlsC x.R⟩, ⟨V.q, 76, 4, x.Q.length, rlsC x.Q⟩, ⟨V.s, 74, 4, x.S.length, sysC x.S⟩]
abbrev OgB (w0 w : World) (base H : Nat) (R : List Ro) (V : OV) (x : PO) : Prop := RosB w0 w base H 52 [] (obRo V x) R
section
variable {w0 w w1 : World} {base H : Nat} {R : List Ro} {V : OV} {x : PO}
theorem OgB.kept0 (h : OgB w0 w base H R V x) (hg : w.grownBy w1 none) : OgB w0 w1 base H R V x := RosB.kept0 h hg
theorem OgB.addS (h : OgB w0 w base H R V x) {v' : Value} (s : Sy) (ho : w1.ownsRow base 74 4 v' (x.S.length + 1) (sysC x.S ++ syC s)) (hg : w.grownBy w1 V.s.ownBlock) (hat : v'.ownBlock = V.s.ownBlock ∨ v'.ownBlock = some w.heap.size) :
    OgB w0 (w1.setCell ⟨H, 5, none⟩ v') base H R ⟨V.d, V.c, V.m, V.r, V.q, v'⟩ ⟨x.D, x.C, x.M, x.R, x.Q, x.S ++ [s]⟩ := by
  have := RosB.step (k := 5) (n' := x.S.length + 1) h rfl ho hg hat
  have e : (obRo V x).set 5 ⟨v', 74, 4, x.S.length + 1, sysC x.S ++ syC s⟩ = obRo ⟨V.d, V.c, V.m, V.r, V.q, v'⟩ ⟨x.D, x.C, x.M, x.R, x.Q, x.S ++ [s]⟩ := by
    simp [obRo, sysC_append, sysC]
  rw [e] at this
  exact this
theorem OgB.sRow (h : OgB w0 w base H R V x) : w.ownsRow base 74 4 V.s x.S.length (sysC x.S) := RosB.at_ (k := 5) h rfl
/-- the name of symbol k -/
theorem OgB.name {g n c : Nat} {d cc m r q : Value} {D C M : List Int} {R' Q' : List Rl} {S : List Sy} (h : OgB w0 w base H R ⟨d, cc, m, r, q, .slice (some ⟨g, 0, none⟩) n c⟩ ⟨D, C, M, R', Q', S⟩) (hn : S.length = n) {k : Nat} {s : Sy} (hk : S[k]? = some s) : w.cell? ⟨g, k * 4, none⟩ = some (.string s.n) := by
  have h1 : w.ownsRow base 74 4 (.slice (some ⟨g, 0, none⟩) n c) S.length (sysC S) := h.sRow
  rw [hn] at h1
  have hkl := (List.getElem?_eq_some_iff.1 hk).1
  rw [h1.cellAt (k * 4) (by omega)]
  have := sysC_get S k 0 s hk (by decide)
  rw [Nat.add_zero] at this
  rw [this]; rfl
end
theorem syIx_at {S : List Sy} {n : ByteArray} {k : Nat} {s : Sy} (hk : S[k]? = some s) (h : s.n = n) (hb : ∀ j t, j < k → S[j]? = some t → t.n ≠ n) : syIx S n = k := by
  have hkl := (List.getElem?_eq_some_iff.1 hk).1
  unfold syIx
  rw [List.findIdx_eq hkl]
  refine ⟨by rw [(List.getElem?_eq_some_iff.1 hk).2]; simpa using h, fun j hj => ?_⟩
  have := hb j _ hj (List.getElem?_eq_getElem (by omega))
  simpa using this
theorem syIx_none {S : List Sy} {n : ByteArray} (hb : ∀ j t, j < S.length → S[j]? = some t → t.n ≠ n) : syIx S n = S.length := by
  unfold syIx
  rw [List.findIdx_eq_length]
  intro t ht
  obtain ⟨j, hj⟩ := List.getElem?_of_mem ht
  have := hb j t (List.getElem?_eq_some_iff.1 hj).1 hj
  simpa using this
theorem syS_in {S : List Sy} {n : ByteArray} (h : syIx S n < S.length) : syS S n = S := by unfold syS; rw [if_pos h]
theorem syS_out {S : List Sy} {n : ByteArray} (h : syIx S n = S.length) : syS S n = S ++ [⟨n, 3, 0, true⟩] := by unfold syS; rw [if_neg (by omega)]
set_option maxRecDepth 100000 in
set_option maxHeartbeats 4000000 in
theorem sym_x {w0 w : World} {base H : Nat} {R : List Ro} {V : OV} {x : PO} (h : OgB w0 w base H R V x) (hS : x.S.length ≤ 100000) (nm : ByteArray) :
    Calls Tryd.prog 23 #[.pointer (some ⟨H, 0, none⟩), .string nm] w fun e w' => e = .returned (.int .i64 (syIx x.S nm : Nat)) ∧ ∃ vs, OgB w0 w' base H R ⟨V.d, V.c, V.m, V.r, V.q, vs⟩ ⟨x.D, x.C, x.M, x.R, x.Q, syS x.S nm⟩ := by
  obtain ⟨d, c, m, r, q, s⟩ := V
  obtain ⟨D, C, M, R', Q, S⟩ := x
  simp only at hS
  obtain ⟨sp, sc, es⟩ := own_slice h.sRow
  simp only at es
  subst es
  obtain ⟨N, hN⟩ : ∃ n, S.length = n := ⟨_, rfl⟩
  have HN := hid hN
  rw [hN] at h hS
  have HO := hid h
  have e5 := h.row.cell 5 (v := .slice sp N sc) rfl
  have n0 : (0 : Int) ≤ (N : Int) := by omega
  have n1 : (N : Int) ≤ 100000 := by omega
  have Hn1 : Hid (N ≤ 100000) := hid hS
  have Hzs := lzero_sym
  clear h hN hS
  go_enter Tryd.func23, Tryd.ntmps23
  go_wp2
  go_loop [5] (fun i => ∃ k : Nat, k ≤ N ∧ i = .int .i64 k ∧ Hid (∀ j t, j < k → S[j]? = some t → t.n ≠ nm)) (fun i => N - (intOf i).toNat)
  case atStart => exact ⟨0, Nat.zero_le _, rfl, hid (fun j t hj => by omega)⟩
  case round =>
    obtain ⟨k, hk, rfl, HK⟩ := hrel
    have k0 : (0 : Int) ≤ (k : Int) := by omega
    by_cases hlt : k < N
    · have kn : (k : Int) < (N : Int) := by omega
      obtain ⟨t, ht⟩ : ∃ t, S[k]? = some t := ⟨_, List.getElem?_eq_getElem (by rw [HN.out]; exact hlt)⟩
      obtain ⟨g, cg, hv⟩ := own_some HO.out.sRow (by simp only; rw [HN.out]; omega)
      simp only [HN.out, Value.slice.injEq, true_and] at hv
      obtain ⟨rfl, rfl⟩ := hv
      have hc := HO.out.name HN.out ht
      have Ht := hid ht
      have Hlt := hid hlt
      obtain ⟨tn, ti, tv, tg⟩ := t
      simp only at hc
      clear ht hlt
      by_cases he : tn = nm
      · have Hix : Hid (syIx S nm = k) := hid (syIx_at Ht.out he HK.out)
        have hb : (tn.toList == nm.toList) = true := by rw [beq_iff_eq]; exact toList_iff.2 he
        have heq : ∀ W : World, (Op.stringOp .eql tn nm).run Tryd.prog W = .ok (.bool true) W := fun W => by unfold Op.stringOp; simp only [hb]; rfl
        clear he
        go_wp2
        go_ret
        refine ⟨ret_i (by rw [Hix.out]), ?_⟩
        rw [syS_in (by rw [Hix.out, HN.out]; exact Hlt.out)]
        exact ⟨_, HO.out⟩
      · have hb : (tn.toList == nm.toList) = false := by rw [beq_eq_false_iff_ne]; exact fun e => he (toList_iff.1 e)
        have heq : ∀ W : World, (Op.stringOp .eql tn nm).run Tryd.prog W = .ok (.bool false) W := fun W => by unfold Op.stringOp; simp only [hb]; rfl
        have HK2 : Hid (∀ j t, j < k + 1 → S[j]? = some t → t.n ≠ nm) := hid (fun j t hj hjt => by
          rcases Nat.lt_succ_iff_lt_or_eq.1 hj with h | rfl
          · exact HK.out j t h hjt
          · rw [Ht.out] at hjt; cases hjt; exact he)
        clear he
        go_wp2
        go_round
        case rel => exact ⟨k + 1, Hlt.out, by go_num, HK2⟩
        case measure => simp [intOf]; have := Hlt.out; omega
    · obtain rfl : k = N := by omega
      clear hlt hk
      have kn : ¬ ((k : Int) < (k : Int)) := by omega
      have Hix : Hid (syIx S nm = S.length) := hid (syIx_none (by rw [HN.out]; exact HK.out))
      obtain ⟨i, hi, hz0, hz1, hz2⟩ := info_symb
      have Hi := hid hi
      have Hz0 := hid hz0
      have Hz1 := hid hz1
      have Hz2 := hid hz2
      have H1 := hid (HO.out.kept0 (World.grownBy_alloc w (.cells #[.string nm, .int .i64 3, .int .i64 0, .bool true] 74) none))
      have HOw := hid H1.out.sRow
      simp only [HN.out] at HOw
      have Hnews : Hid (∀ j u, [Value.string nm, .int .i64 3, .int .i64 0, .bool true][j]? = some u → (w.alloc (.cells #[.string nm, .int .i64 3, .int .i64 0, .bool true] 74)).cell? ((⟨w.heap.size, 0, none⟩ : Addr).add j) = some u) := hid (World.news_of_block (heap_alloc_new w _))
      clear hi hz0 hz1 hz2
      go_wp2_with (first
        | (refine wpList_append_lies _ rfl _ _ 50 rfl base 74 i _ 4 40 Tryd.underlying50 Hi.out Hz0.out Hz1.out Hz2.out rfl (by decide) _ k _ rfl HOw.out ⟨w.heap.size, 0, none⟩ 1 1 _ rfl rfl Hnews.out (by simp [Value.oneCell']) (by decide) (by have := Hn1.out; unfold maxLen; omega) (by have := Hn1.out; omega) H1.out.size _ rfl ?_
           intro gB capB wB hown hgrow hat hlt2
           have hg4 : (w.alloc (.cells #[.string nm, .int .i64 3, .int .i64 0, .bool true] 74)).grownBy wB (Value.slice sp k sc).ownBlock := hgrow
           have HE := hid (H1.out.addS (v' := .slice (some ⟨gB, 0, none⟩) (k + 1) capB) ⟨nm, 3, 0, true⟩ (by simp only [HN.out]; exact hown) hg4 (by rcases hat with e | e; (exact .inl e.symm); (exact .inr (by rw [← e]; rfl))))
           have hne := H1.out.neH ⟨.slice sp k sc, 74, 4, S.length, sysC S⟩ (by simp [obRo])
           have c4' := (H1.out.row.kept hg4 (Ne.symm hne)).cell 5 (v := .slice sp k sc) rfl
           have z4' := (H1.out.row.kept hg4 (Ne.symm hne)).free 5
           clear hown hgrow hat hlt2 hg4 hne)
        | fail)
      go_ret
      refine ⟨ret_i (by rw [Hix.out, HN.out]), ?_⟩
      rw [syS_out Hix.out]
      exact ⟨_, HE.out⟩
end Go.Proofs.YteanjchbnaoopaaDoor

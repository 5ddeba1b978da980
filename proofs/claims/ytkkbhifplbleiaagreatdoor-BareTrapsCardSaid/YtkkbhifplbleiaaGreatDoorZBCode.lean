/- What the laws on a bare machine have in common: code that is laid word by word, and what each instruction of it does. -/
import Derived.Test.YtkkbhifplbleiaaGreatDoorZGBareC
import Derived.Test.YtkkbhifplbleiaaGreatDoorZGDev
import Derived.Deep.AppendLies
namespace Go.Proofs.YtkkbhifplbleiaaGreatDoor
open Go.RowKit
/-! ### two rows of numbers of a law's own -/
structure CB2 (W : World) (v : Value) (l : List Int) (u : Value) (k : List Int) (w : World) : Prop where
  hg : W.grownBy w none
  ov : w.ownsRow W.heap.size 25 1 v l.length (l.map (Value.int .u32))
  ou : w.ownsRow W.heap.size 25 1 u k.length (k.map (Value.int .u32))
  ap : ∀ g, v.ownBlock = some g → u.ownBlock ≠ some g
section
variable {W w w1 : World} {v u : Value} {l k : List Int}
theorem CB2.nil (hg : W.grownBy w none) : CB2 W (.slice none 0 0) [] (.slice none 0 0) [] w :=
  ⟨hg, World.ownsRow_nil _ _ _ _, World.ownsRow_nil _ _ _ _, fun g h => by simp [Value.ownBlock] at h⟩
theorem CB2.swap (h : CB2 W v l u k w) : CB2 W u k v l w := ⟨h.hg, h.ou, h.ov, fun g h1 h2 => h.ap g h2 h1⟩
theorem CB2.keep (h : CB2 W v l u k w) (hg : w.grownBy w1 none) : CB2 W v l u k w1 :=
  ⟨grown_trans h.hg hg, own_keptL h.ov (Lv.of_none hg []) (by simp), own_keptL h.ou (Lv.of_none hg []) (by simp), h.ap⟩
theorem own_ge {B : Nat} {e : TypeId} {size : Nat} {v : Value} {n : Nat} {l : List Value} (h : w.ownsRow B e size v n l) : ∀ g, v.ownBlock = some g → B ≤ g ∧ g < w.heap.size := by
  intro g hg
  rcases h.2 with ⟨rfl, _⟩ | ⟨g', cap, cur, rfl, hb, hgg, _⟩
  · simp [Value.ownBlock] at hg
  · obtain rfl : g' = g := by simpa [Value.ownBlock] using hg
    exact ⟨hb, (Array.getElem?_eq_some_iff.1 hgg).1⟩
theorem CB2.sl (h : CB2 W v l u k w) : SlAt w .u32 v l := SlAt.own h.ov
theorem CB2.oth (h : CB2 W v l u k w) (ho : Oth w w1) (hg : W.grownBy w1 none) : CB2 W v l u k w1 := ⟨hg, ho.own h.ov (by decide), ho.own h.ou (by decide), h.ap⟩
theorem cb_append {ops : Array Oper} {rest : List Oper} {o : Oper} {a : Act} {Q : Exit → Act → World → Prop} (H : CB2 W v l u k w) (hgd : o.guard = none) (s x : Operand)
    (ho : o.op = .call { callee := .builtin .append, args := #[s, x], argTypes := #[24, 24] }) (hs : a.eval s = v) (news : List Int) (N : Nat) (hN : news.length = N) (hn : 0 < N) (hx : a.eval x = .slice (some ⟨w.heap.size, 0, none⟩) N N)
    {cs : Array Value} (hcs : cs = (news.map (Value.int .u32)).toArray) (hl : l.length + N ≤ 100000)
    (h : ∀ v' w', CB2 W v' (l ++ news) u k w' → wpList Tryz.prog ops Q rest (a.put o.dst v') w') : wpList Tryz.prog ops Q (o :: rest) a (w.alloc (.cells cs 25)) := by
  obtain ⟨i, hi, hz0, hz1, hz2⟩ := u32_info
  have ha := World.grownBy_alloc w (.cells cs 25) none
  have Hw := H.keep ha
  refine wpList_append_lies _ hgd s x _ ho W.heap.size 25 i _ 1 4 Tryz.underlying24 hi hz0 hz1 hz2 rfl (by decide) v l.length (l.map (Value.int .u32)) hs Hw.ov ⟨w.heap.size, 0, none⟩ N N (news.map (Value.int .u32)) hx (by simp [hN]) ?_ ?_ hn (by unfold maxLen; omega) (by omega) Hw.hg.size _ rfl ?_
  · exact World.news_of_block (cs := (news.map (Value.int .u32)).toArray) (by rw [← hcs]; exact heap_alloc_new w _)
  · intro y hy
    obtain ⟨z, _, rfl⟩ := List.mem_map.1 hy
    rfl
  · intro g cap w' hown hgrow hat hlt
    have hL : Lv W w' v.ownBlock.toList := (Lv.of_none Hw.hg _).trans (Lv.of_row hgrow)
    refine h _ _ ⟨⟨hL.os, hL.tape, hL.output, hL.size, fun i hi _ => hL.block i hi (fun hm => ?_)⟩, ?_, ?_, ?_⟩
    · have := (own_ge Hw.ov i (Option.mem_toList.1 hm)).1
      omega
    · rw [List.length_append, List.map_append, hN]
      exact hown
    · exact own_keptL Hw.ou (Lv.of_row hgrow) (fun g' hg' hm => Hw.ap g' (Option.mem_toList.1 hm) hg')
    · intro g' hg' hu
      obtain rfl : g = g' := by simpa [Value.ownBlock] using hg'
      rcases hat with h1 | h1
      · exact Hw.ap g h1 hu
      · have := (own_ge Hw.ou g hu).2
        omega
end
/-- behind New, and what else lies there -/
def MNew2 (W : World) (n : Nat) (q : Int) (M : Mc) (w : World) (e : Ending) (w' : World) : Prop := ∃ p, e = .returned (.tuple #[.pointer (some ⟨p, 0, none⟩), .nilIface]) ∧ MBox W p n q M w' ∧ w.grownBy w' none
theorem mb_new2 {W w : World} {n : Nat} {q : Int} {m b cap : Nat} {xs : List Int} (h : MemAt w m b n cap xs) (hW : W.grownBy w none) {c : Cp} (hc : CpOk c) (hu : U32s xs) (q0 : 17 ≤ q) (q1 : q ≤ 256) :
    Calls Tryz.prog 13 #[.pointer (some ⟨m, 0, none⟩), .agg (cpuC c), .int .i64 q] w (MNew2 W n q (initM xs c) w) := by
  refine (bnew_yes h hc.regs.len q q0 q1).mono ?_
  rintro e w' ⟨p, m', bm', d, cap', vs, vw, rfl, hm, hg⟩
  exact ⟨p, rfl, ⟨w.heap.size, m', bm', d, cap', vs, vw, hm, grown_trans hW hg, hW.size, hg.size, init_good hc hu h.len⟩, hg⟩
/-! ### what an instruction does -/
structure Is (xs : List Int) (i : Nat) (ie : Bool) (l Q S : List Int) (sn : List Sn) (t : Int) (ws : List (Int × Int)) (M : Mc) : Prop where
  xs : M.xs = xs
  pc : M.c.pc = 2048 + (i : Int)
  ie : M.c.ie = ie
  l : M.c.l = l
  tv : M.c.tv = 0
  Q : M.d.Q = Q
  S : M.d.S = S
  af : M.d.af = 0
  sn : M.d.sn = sn
  now : M.now = t
  ws : M.ws = ws
  ov : M.ov = false
section
variable {q : Nat} {q' : Int} {code xs : List Int} {i : Nat} {ie : Bool} {l Q S : List Int} {sn : List Sn} {t : Int} {ws : List (Int × Int)} {M : Mc}
theorem is_init (q : Nat) (data code : List Int) : Is (memW8 q data code) 0 false [0, 0, 0, 0, 0, 0, 0, 0, 0, 0, 0, 0, 0, 0, 0, 0] [] (List.replicate 16 0) [] 0 [] (initM (memW8 q data code) (pcP 2048 0)) :=
  ⟨rfl, rfl, rfl, rfl, rfl, rfl, rfl, rfl, rfl, rfl, rfl, rfl⟩
theorem Is.calm (h : Is xs i ie l Q S sn t ws M) (hc : Q = [] ∨ ie = false) : waitM M = 0 := by
  rcases hc with hc | hc
  · exact wait_calm (h.Q.trans hc) h.af
  · exact wait_off (h.ie.trans hc)
theorem Is.sup (h : Is xs i ie l Q S sn t ws M) (hc : Q = [] ∨ ie = false) (C : CodeIn q code xs) (hi : i < code.length) {op a b c : Int} (hx : code.getD i 0 = wrdI op a b c) (hok : insB op a b c 0 = true) (ht : twoB op = false) (hcl : clsI op = 2 ∨ clsI op = 3) :
    stepP (q + 16) q' M = tickP (privP (q + 16) q' M op a b 1) :=
  run_sup (by rw [h.xs]; exact C) hi h.pc hx hok ht hcl h.ov (h.calm hc)
theorem Is.pc1 (h : Is xs i ie l Q S sn t ws M) (C : CodeIn q code xs) (hi : i < code.length) : (M.c.pc + 1) % 4294967296 = 2048 + ((i + 1 : Nat) : Int) := by
  have := C.small
  rw [h.pc]
  omega
theorem is_cli (h : Is xs i ie l Q S sn t ws M) (hc : Q = [] ∨ ie = false) (C : CodeIn q code xs) (hi : i < code.length) (hx : code.getD i 0 = 1073741824) : Is xs (i + 1) false l Q S sn (t + 1) ws (stepP (q + 16) q' M) := by
  rw [h.sup hc C hi (op := 64) (a := 0) (b := 0) (c := 0) hx (by decide) (by decide) (.inr (by decide))]
  exact ⟨h.xs, h.pc1 C hi, rfl, h.l, h.tv, h.Q, h.S, h.af, h.sn, congrArg (· + 1) h.now, h.ws, h.ov⟩
theorem is_sti (h : Is xs i ie l Q S sn t ws M) (hc : Q = [] ∨ ie = false) (C : CodeIn q code xs) (hi : i < code.length) (hx : code.getD i 0 = 1090519040) : Is xs (i + 1) true l Q S sn (t + 1) ws (stepP (q + 16) q' M) := by
  rw [h.sup hc C hi (op := 65) (a := 0) (b := 0) (c := 0) hx (by decide) (by decide) (.inr (by decide))]
  exact ⟨h.xs, h.pc1 C hi, rfl, h.l, h.tv, h.Q, h.S, h.af, h.sn, congrArg (· + 1) h.now, h.ws, h.ov⟩
theorem is_sst (h : Is xs i ie l Q S sn t ws M) (hc : Q = [] ∨ ie = false) (C : CodeIn q code xs) (hi : i < code.length) {a : Int} (hok : insB 67 a 0 0 0 = true) (hx : code.getD i 0 = wrdI 67 a 0 0) : Is xs (i + 1) (decide (regI l a % 2 = 1)) l Q S sn (t + 1) ws (stepP (q + 16) q' M) := by
  rw [h.sup hc C hi hx hok (by decide) (.inr (by decide))]
  exact ⟨h.xs, h.pc1 C hi, by rw [← h.l]; rfl, h.l, h.tv, h.Q, h.S, h.af, h.sn, congrArg (· + 1) h.now, h.ws, h.ov⟩
theorem is_gst (h : Is xs i ie l Q S sn t ws M) (hc : Q = [] ∨ ie = false) (C : CodeIn q code xs) (hi : i < code.length) {a : Int} (hok : insB 66 a 0 0 0 = true) (hx : code.getD i 0 = wrdI 66 a 0 0) : Is xs (i + 1) ie (l.set a.toNat (if ie = true then 3 else 2)) Q S sn (t + 1) ws (stepP (q + 16) q' M) := by
  rw [h.sup hc C hi hx hok (by decide) (.inr (by decide))]
  exact ⟨h.xs, h.pc1 C hi, h.ie, by rw [← h.l, ← h.ie]; rfl, h.tv, h.Q, h.S, h.af, h.sn, congrArg (· + 1) h.now, h.ws, h.ov⟩
theorem is_out (h : Is xs i ie l Q S sn t ws M) (hc : Q = [] ∨ ie = false) (C : CodeIn q code xs) (hi : i < code.length) {a : Int} (hok : insB 35 a 0 0 0 = true) (hx : code.getD i 0 = wrdI 35 a 0 0) : Is xs (i + 1) ie l Q S (sn ++ [(1, 0, regI l a)]) (t + 1) ws (stepP (q + 16) q' M) := by
  rw [h.sup hc C hi hx hok (by decide) (.inl (by decide))]
  exact ⟨h.xs, h.pc1 C hi, h.ie, h.l, h.tv, h.Q, h.S, h.af, by rw [← h.sn, ← h.l]; rfl, congrArg (· + 1) h.now, h.ws, h.ov⟩
theorem is_gtm (h : Is xs i ie l Q S sn t ws M) (hc : Q = [] ∨ ie = false) (C : CodeIn q code xs) (hi : i < code.length) {a : Int} (hok : insB 40 a 0 0 0 = true) (hx : code.getD i 0 = wrdI 40 a 0 0) : Is xs (i + 1) ie (l.set a.toNat (t % 4294967296)) Q S sn (t + 1) ws (stepP (q + 16) q' M) := by
  rw [h.sup hc C hi hx hok (by decide) (.inl (by decide))]
  exact ⟨h.xs, h.pc1 C hi, h.ie, by rw [← h.l, ← h.now]; rfl, h.tv, h.Q, h.S, h.af, h.sn, congrArg (· + 1) h.now, h.ws, h.ov⟩
theorem is_in (h : Is xs i ie l Q S sn t ws M) (hc : Q = [] ∨ ie = false) (C : CodeIn q code xs) (hi : i < code.length) {a : Int} (hok : insB 36 a 0 0 0 = true) (hx : code.getD i 0 = wrdI 36 a 0 0) : Is xs (i + 1) ie (l.set a.toNat (Q.headD 0)) Q.tail S sn (t + 1) ws (stepP (q + 16) q' M) := by
  rw [h.sup hc C hi hx hok (by decide) (.inl (by decide))]
  exact ⟨h.xs, h.pc1 C hi, h.ie, by rw [← h.l, ← h.Q]; rfl, h.tv, by rw [← h.Q]; rfl, h.S, h.af, h.sn, congrArg (· + 1) h.now, h.ws, h.ov⟩
theorem is_bwr (h : Is xs i ie l Q S sn t ws M) (hc : Q = [] ∨ ie = false) (C : CodeIn q code xs) (hi : i < code.length) {a b : Int} (hok : insB 37 a b 0 0 = true) (hx : code.getD i 0 = wrdI 37 a b 0) : Is xs (i + 1) ie l Q (S.set (regI l a % 16).toNat (regI l b)) (sn ++ [(2, regI l a % 16, regI l b)]) (t + 1) ws (stepP (q + 16) q' M) := by
  rw [h.sup hc C hi hx hok (by decide) (.inl (by decide))]
  exact ⟨h.xs, h.pc1 C hi, h.ie, h.l, h.tv, h.Q, by rw [← h.l, ← h.S]; rfl, h.af, by rw [← h.sn, ← h.l]; rfl, congrArg (· + 1) h.now, h.ws, h.ov⟩
theorem is_brd (h : Is xs i ie l Q S sn t ws M) (hc : Q = [] ∨ ie = false) (C : CodeIn q code xs) (hi : i < code.length) {a b : Int} (hok : insB 38 a b 0 0 = true) (hx : code.getD i 0 = wrdI 38 a b 0) : Is xs (i + 1) ie (l.set a.toNat (S.getD (regI l b % 16).toNat 0)) Q S sn (t + 1) ws (stepP (q + 16) q' M) := by
  rw [h.sup hc C hi hx hok (by decide) (.inl (by decide))]
  exact ⟨h.xs, h.pc1 C hi, h.ie, by rw [← h.l, ← h.S]; rfl, h.tv, h.Q, h.S, h.af, h.sn, congrArg (· + 1) h.now, h.ws, h.ov⟩
theorem is_sync (h : Is xs i ie l Q S sn t ws M) (hc : Q = [] ∨ ie = false) (C : CodeIn q code xs) (hi : i < code.length) (hx : code.getD i 0 = 704643072) : Is (flushP (q + 16) xs ws) (i + 1) ie l Q S sn (t + 1) [] (stepP (q + 16) q' M) := by
  rw [h.sup hc C hi (op := 42) (a := 0) (b := 0) (c := 0) hx (by decide) (by decide) (.inl (by decide))]
  exact ⟨by rw [← h.xs, ← h.ws]; rfl, h.pc1 C hi, h.ie, h.l, h.tv, h.Q, h.S, h.af, h.sn, congrArg (· + 1) h.now, rfl, h.ov⟩
theorem is_nop (h : Is xs i ie l Q S sn t ws M) (hc : Q = [] ∨ ie = false) (C : CodeIn q code xs) (hi : i < code.length) (hr : Regs l) (hx : code.getD i 0 = 16777216) : Is xs (i + 1) ie l Q S sn (t + 1) ws (stepP (q + 16) q' M) := by
  rw [run_nop (by rw [h.xs]; exact C) hi h.pc hx (by rw [h.l]; exact hr) h.ov (h.calm hc)]
  exact ⟨h.xs, h.pc1 C hi, h.ie, h.l, h.tv, h.Q, h.S, h.af, h.sn, congrArg (· + 1) h.now, h.ws, h.ov⟩
theorem is_li (h : Is xs i ie l Q S sn t ws M) (hc : Q = [] ∨ ie = false) (C : CodeIn q code xs) (hi : i + 1 < code.length) {a : Nat} (ha : a < 16) (hx : code.getD i 0 = wrdI 14 (a : Int) 0 0) {v : Int} (hv : code.getD (i + 1) 0 = v) : Is xs (i + 2) ie (l.set a v) Q S sn (t + 1) ws (stepP (q + 16) q' M) := by
  rw [run_li (by rw [h.xs]; exact C) hi h.pc ha hx hv h.ov (h.calm hc)]
  have := C.small
  exact ⟨h.xs, by show (M.c.pc + 2) % 4294967296 = _; rw [h.pc]; omega, h.ie, by rw [← h.l], h.tv, h.Q, h.S, h.af, h.sn, congrArg (· + 1) h.now, h.ws, h.ov⟩
/-- it halts -/
theorem is_halt (h : Is xs i ie l Q S sn t ws M) (hc : Q = [] ∨ ie = false) (C : CodeIn q code xs) (hi : i < code.length) {a : Int} (hok : insB 32 a 0 0 0 = true) (hx : code.getD i 0 = wrdI 32 a 0 0) :
    (stepP (q + 16) q' M).ov = true ∧ (stepP (q + 16) q' M).d.sn = sn ++ [(3, 0, regI l a)] ∧ (stepP (q + 16) q' M).now = t + 1 := by
  rw [h.sup hc C hi hx hok (by decide) (.inl (by decide))]
  exact ⟨rfl, by rw [← h.sn, ← h.l]; rfl, congrArg (· + 1) h.now⟩
theorem is_spte (h : Is xs i ie l Q S sn t ws M) (hc : Q = [] ∨ ie = false) (C : CodeIn q code xs) (hi : i < code.length) {a b : Int} (hok : insB 41 a b 0 0 = true) (hx : code.getD i 0 = wrdI 41 a b 0) {xs' : List Int} {ws' : List (Int × Int)}
    (hp : ∀ X : Mc, X.xs = xs → X.ws = ws → putP (q + 16) q' X (regI l a) (regI l b) = ⟨xs', X.c, X.d, X.now, X.ov, ws'⟩) : Is xs' (i + 1) ie l Q S sn (t + 1) ws' (stepP (q + 16) q' M) := by
  rw [h.sup hc C hi hx hok (by decide) (.inl (by decide))]
  have e : privP (q + 16) q' M 41 a b 1 = advP (putP (q + 16) q' M (regI l a) (regI l b)) 1 := by rw [← h.l]; rfl
  rw [e, hp M h.xs h.ws]
  exact ⟨rfl, h.pc1 C hi, h.ie, h.l, h.tv, h.Q, h.S, h.af, h.sn, congrArg (· + 1) h.now, rfl, h.ov⟩
end
end Go.Proofs.YtkkbhifplbleiaaGreatDoor

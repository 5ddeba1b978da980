/- A bare machine as values, and its steps: plain facts. -/
import Derived.Test.YtpkgckjlhjcdmaaDoorZCGood
import Derived.Test.YtpkgckjlhjcdmaaDoorZGAluA
import Derived.Test.YtpkgckjlhjcdmaaDoorZGCpu
import Derived.Test.YtpkgckjlhjcdmaaDoorZGDev
import Derived.Test.YtpkgckjlhjcdmaaDoorZGCore
import Derived.Test.YtpkgckjlhjcdmaaDoorZGMem
import Derived.Deep.MidRow
import Derived.StillTailTactics
import Derived.Test.YtpkgckjlhjcdmaaDoorZGWalk
import Derived.BigGuardPart
import Derived.Deep.AppendLies
import Derived.LoopTactic
namespace Go.Proofs.YtpkgckjlhjcdmaaDoor
open Go.RowKit
/-- a machine: memory, a processor, devices, its time, whether it is over, the updates that wait -/
structure Mc where
  xs : List Int
  c : Cp
  d : DvS
  now : Int
  ov : Bool
  ws : List (Int × Int)
def seeD (d : DvS) (s : Sn) : DvS := ⟨d.Q, d.S, d.fr, d.af, d.sn ++ [s]⟩
def rangD (d : DvS) : DvS := ⟨d.Q, d.S, 0, 0, d.sn⟩
/-- a trap -/
def takeP (M : Mc) (ca ad : Int) : Mc := if M.c.tv = 0 then ⟨M.xs, M.c, seeD M.d (4, ca, 0), M.now, true, M.ws⟩ else ⟨M.xs, enterP M.c ca ad, M.d, M.now, M.ov, M.ws⟩
def waitM (M : Mc) : Int := waitV M.c.ie (dueB M.d.fr M.d.af M.now) M.d.Q.length false
def rangM (M : Mc) : Mc := ⟨M.xs, M.c, rangD M.d, M.now, M.ov, M.ws⟩
def intP (M : Mc) : Mc := if waitM M = 0 then M else takeP (if waitM M = 2 then rangM M else M) (waitM M) 0
/-! ### updates -/
/-- an update is done -/
def updP (n : Nat) (xs : List Int) (u : Int × Int) : List Int :=
  if liveB (wordI xs (u.1 / 16)) = true ∧ wordI xs (u.1 / 16) / 256 < (n : Int) then xs.set (wordI xs (u.1 / 16) / 256 * 16 + u.1 % 16).toNat u.2 else xs
def flushP (n : Nat) (xs : List Int) (ws : List (Int × Int)) : List Int := ws.foldl (updP n) xs
def mayW (q word : Int) : Bool := ofB word && (!liveB word || decide (17 ≤ word / 256 ∧ word / 256 < q))
def putP (n : Nat) (q : Int) (M : Mc) (page word : Int) : Mc :=
  if page < 128 ∧ mayW q word = true then
    (if M.ws.length = 16 then ⟨flushP n M.xs M.ws, M.c, M.d, M.now, M.ov, [(page, word)]⟩ else ⟨M.xs, M.c, M.d, M.now, M.ov, M.ws ++ [(page, word)]⟩)
  else M
def syncP (n : Nat) (M : Mc) : Mc := ⟨flushP n M.xs M.ws, M.c, M.d, M.now, M.ov, []⟩
/-! ### instructions of the supervisor's -/
def setR (c : Cp) (a x : Int) : Cp := ⟨c.l.set a.toNat x, c.pc, c.ie, c.eie, c.epc, c.tv, c.ca, c.ad⟩
/-- the registers and the devices behind an instruction that asks these, or tells them something -/
def devL (_now : Int) (d : DvS) (l : List Int) (op a b : Int) : List Int :=
  if op = 36 then l.set a.toNat (d.Q.headD 0) else if op = 38 then l.set a.toNat (d.S.getD (regI l b % 16).toNat 0) else l
def devD (now : Int) (d : DvS) (l : List Int) (op a b : Int) : DvS :=
  if op = 35 then seeD d (1, 0, regI l a)
  else if op = 36 then ⟨d.Q.tail, d.S, d.fr, d.af, d.sn⟩
  else if op = 37 then ⟨d.Q, d.S.set (regI l a % 16).toNat (regI l b), d.fr, d.af, d.sn ++ [(2, regI l a % 16, regI l b)]⟩
  else if op = 39 then ⟨d.Q, d.S, now, regI l a, d.sn⟩
  else d
def prcP (now : Int) (c : Cp) (op a : Int) : Cp :=
  if op = 33 then ⟨c.l, c.pc, c.ie, c.eie, c.epc, regI c.l a, c.ca, c.ad⟩
  else if op = 40 then setR c a (now % 4294967296)
  else if op = 43 then setR c a c.ca
  else if op = 44 then setR c a c.ad
  else if op = 64 then ⟨c.l, c.pc, false, c.eie, c.epc, c.tv, c.ca, c.ad⟩
  else if op = 65 then ⟨c.l, c.pc, true, c.eie, c.epc, c.tv, c.ca, c.ad⟩
  else if op = 66 then setR c a (if c.ie = true then 3 else 2)
  else if op = 67 then ⟨c.l, c.pc, decide (regI c.l a % 2 = 1), c.eie, c.epc, c.tv, c.ca, c.ad⟩
  else c
def isDev (op : Int) : Bool := decide (35 ≤ op ∧ op ≤ 39)
def midP (n : Nat) (q : Int) (M : Mc) (op a b : Int) : Mc :=
  if op = 41 then putP n q M (regI M.c.l a) (regI M.c.l b)
  else if op = 42 then syncP n M
  else if isDev op = true then ⟨M.xs, ⟨devL M.now M.d M.c.l op a b, M.c.pc, M.c.ie, M.c.eie, M.c.epc, M.c.tv, M.c.ca, M.c.ad⟩, devD M.now M.d M.c.l op a b, M.now, M.ov, M.ws⟩
  else ⟨M.xs, prcP M.now M.c op a, M.d, M.now, M.ov, M.ws⟩
def advC (c : Cp) (ln : Int) : Cp := ⟨c.l, (c.pc + ln) % 4294967296, c.ie, c.eie, c.epc, c.tv, c.ca, c.ad⟩
def advP (M : Mc) (ln : Int) : Mc := ⟨M.xs, advC M.c ln, M.d, M.now, M.ov, M.ws⟩
def privP (n : Nat) (q : Int) (M : Mc) (op a b ln : Int) : Mc :=
  if op = 32 then ⟨M.xs, M.c, seeD M.d (3, 0, regI M.c.l a), M.now, true, M.ws⟩
  else if op = 34 then ⟨M.xs, retP M.c, M.d, M.now, M.ov, M.ws⟩
  else advP (midP n q M op a b) ln
def insP (n : Nat) (q : Int) (M : Mc) : Mc :=
  if (onceP M.xs n 0 M.c false).s.ca = 0 then ⟨(onceP M.xs n 0 M.c false).m, (onceP M.xs n 0 M.c false).x, M.d, M.now, M.ov, M.ws⟩
  else if (onceP M.xs n 0 M.c false).s.ca = 6 then privP n q M (onceP M.xs n 0 M.c false).s.op (onceP M.xs n 0 M.c false).s.a (onceP M.xs n 0 M.c false).s.b (onceP M.xs n 0 M.c false).s.ln
  else if (onceP M.xs n 0 M.c false).s.ca = 7 then takeP M 4 0
  else takeP M (onceP M.xs n 0 M.c false).s.ca (onceP M.xs n 0 M.c false).s.ad
def tickP (M : Mc) : Mc := ⟨M.xs, M.c, M.d, M.now + 1, M.ov, M.ws⟩
def stepP (n : Nat) (q : Int) (M : Mc) : Mc := if M.ov = true then M else tickP (if (intP M).ov = true then intP M else insP n q (intP M))
/-! ### what one instruction keeps -/
structure Keeps (x : Cp) (xs : List Int) (o : Out) : Prop where
  ie : o.x.ie = x.ie
  eie : o.x.eie = x.eie
  epc : o.x.epc = x.epc
  tv : o.x.tv = x.tv
  ca : o.x.ca = x.ca
  ad : o.x.ad = x.ad
  len : o.m.length = xs.length
  stop : o.s.ca ≠ 0 → o.x = x ∧ o.m = xs
theorem keeps_same {x : Cp} {xs : List Int} (s : Sp) : Keeps x xs ⟨x, s, xs⟩ := ⟨rfl, rfl, rfl, rfl, rfl, rfl, rfl, fun _ => ⟨rfl, rfl⟩⟩
theorem keeps_move (xs : List Int) (n root : Int) (x : Cp) (user : Bool) (op a b c im ln : Int) : Keeps x xs (moveP xs n root x user op a b c im ln) := by
  unfold moveP
  split
  · split
    · exact ⟨rfl, rfl, rfl, rfl, rfl, rfl, by simp, fun h => absurd rfl h⟩
    · exact ⟨rfl, rfl, rfl, rfl, rfl, rfl, rfl, fun h => absurd rfl h⟩
  · exact keeps_same _
theorem keeps_inn (xs : List Int) (n root : Int) (x : Cp) (user : Bool) (op a b c im ln : Int) : Keeps x xs (innP xs n root x user op a b c im ln) := by
  unfold innP
  split
  · exact keeps_move _ _ _ _ _ _ _ _ _ _ _
  · split
    · exact ⟨rfl, rfl, rfl, rfl, rfl, rfl, rfl, fun h => absurd rfl h⟩
    · exact ⟨rfl, rfl, rfl, rfl, rfl, rfl, rfl, fun h => absurd rfl h⟩
theorem fetch_ca (xs : List Int) (n root pc : Int) (user : Bool) : (fetchP xs n root pc user).ca = 0 ∨ (fetchP xs n root pc user).ca = 1 ∨ (fetchP xs n root pc user).ca = 4 := by
  unfold fetchP
  split
  · split
    · split
      · split
        · exact .inl rfl
        · exact .inr (.inl rfl)
      · exact .inl rfl
    · exact .inr (.inr rfl)
  · exact .inr (.inl rfl)
theorem keeps_once (xs : List Int) (n root : Int) (x : Cp) (user : Bool) : Keeps x xs (onceP xs n root x user) := by
  unfold onceP doP
  split
  · rename_i h0
    split
    · exact keeps_inn _ _ _ _ _ _ _ _ _ _ _
    · split
      · split
        · exact ⟨rfl, rfl, rfl, rfl, rfl, rfl, rfl, fun h => absurd h0 h⟩
        · exact keeps_same _
      · split
        · exact keeps_same _
        · exact keeps_same _
  · exact keeps_same _
/-- why an instruction stops -/
structure Stops (o : Sp) : Prop where
  ca : o.ca = 0 ∨ o.ca = 1 ∨ o.ca = 4 ∨ o.ca = 6 ∨ o.ca = 7
  ad0 : 0 ≤ o.ad
  ad1 : o.ad < 4294967296
  priv : o.ca = 6 → insB o.op o.a o.b o.c o.im = true ∧ (clsI o.op = 2 ∨ clsI o.op = 3) ∧ (o.ln = 1 ∨ o.ln = 2)
theorem stops_move {xs : List Int} {n root : Int} {x : Cp} {user : Bool} {op a b c im ln : Int} : Stops (moveP xs n root x user op a b c im ln).s := by
  unfold moveP
  split
  · split
    · exact ⟨.inl rfl, Int.le_refl _, by show (0 : Int) < _; decide, fun h => by cases h⟩
    · exact ⟨.inl rfl, Int.le_refl _, by show (0 : Int) < _; decide, fun h => by cases h⟩
  · refine ⟨.inr (.inl rfl), ?_, ?_, fun h => by cases h⟩
    · show 0 ≤ addrI x b c
      unfold addrI; omega
    · show addrI x b c < 4294967296
      unfold addrI; omega
theorem fetch_ad (xs : List Int) (n root pc : Int) (user : Bool) (p0 : 0 ≤ pc) (p1 : pc < 4294967296) : 0 ≤ (fetchP xs n root pc user).ad ∧ (fetchP xs n root pc user).ad < 4294967296 := by
  unfold fetchP
  split
  · split
    · split
      · split
        · show (0 : Int) ≤ 0 ∧ (0 : Int) < _; decide
        · show 0 ≤ nextI pc ∧ nextI pc < _; unfold nextI; omega
      · show (0 : Int) ≤ 0 ∧ (0 : Int) < _; decide
    · show (0 : Int) ≤ 0 ∧ (0 : Int) < _; decide
  · exact ⟨p0, p1⟩
theorem stops_once {xs : List Int} (hu : U32s xs) {n root : Int} {x : Cp} {user : Bool} (p0 : 0 ≤ x.pc) (p1 : x.pc < 4294967296) : Stops (onceP xs n root x user).s := by
  have hca := fetch_ca xs n root x.pc user
  have had := fetch_ad xs n root x.pc user p0 p1
  unfold onceP doP
  obtain ⟨s, hs⟩ : ∃ s, fetchP xs n root x.pc user = s := ⟨_, rfl⟩
  rw [hs] at hca had ⊢
  obtain ⟨ca0, ad0, op0, a0, b0, c0, im0, ln0⟩ := s
  by_cases h0 : ca0 = 0
  · subst h0
    obtain ⟨hi, hl, rfl, i0, i1⟩ := fetch_ok hu hs
    simp only [if_true]
    rcases cls_four hi with hk | hk | hk | hk
    · simp only [hk, if_true]
      unfold innP
      split
      · exact stops_move
      · split
        · exact ⟨.inl rfl, Int.le_refl _, by show (0 : Int) < _; decide, fun h => by cases h⟩
        · exact ⟨.inl rfl, Int.le_refl _, by show (0 : Int) < _; decide, fun h => by cases h⟩
    · simp only [hk, Int.reduceEq, if_false]
      exact ⟨.inr (.inr (.inr (.inl rfl))), Int.le_refl _, by show (0 : Int) < _; decide, fun _ => ⟨hi, .inl hk, hl⟩⟩
    · simp only [hk, Int.reduceEq, if_false, if_true]
      split
      · exact ⟨.inl rfl, Int.le_refl _, by show (0 : Int) < _; decide, fun h => by cases h⟩
      · exact ⟨.inr (.inr (.inr (.inl rfl))), Int.le_refl _, by show (0 : Int) < _; decide, fun _ => ⟨hi, .inr hk, hl⟩⟩
    · simp only [hk, Int.reduceEq, if_false, if_true]
      exact ⟨.inr (.inr (.inr (.inr rfl))), Int.le_refl _, by show (0 : Int) < _; decide, fun h => by cases h⟩
  · simp only [h0, if_false]
    refine ⟨?_, had.1, had.2, fun h => ?_⟩
    · rcases hca with h | h | h
      · exact absurd h h0
      · exact .inr (.inl h)
      · exact .inr (.inr (.inl h))
    · have h : ca0 = 6 := h
      have hca : ca0 = 0 ∨ ca0 = 1 ∨ ca0 = 4 := hca
      omega
/-! ### what steps keep -/
structure Good (n : Nat) (M : Mc) : Prop where
  cpu : CpOk M.c
  u32 : U32s M.xs
  len : M.xs.length = n * 16
  keys : U32s M.d.Q
  q64 : M.d.Q.length ≤ 64
  secs : U32s M.d.S
  s16 : M.d.S.length = 16
  f0 : 0 ≤ M.d.fr
  f1 : M.d.fr ≤ M.now
  a0 : 0 ≤ M.d.af
  a1 : M.d.af ≤ 4294967295
  seen : (M.d.sn.length : Int) ≤ M.now
  w16 : M.ws.length ≤ 16
  wait : ∀ u ∈ M.ws, 0 ≤ u.1 ∧ u.1 < 128 ∧ 0 ≤ u.2 ∧ u.2 < 4294967296
section
variable {n : Nat} {q : Int} {M : Mc}
theorem enter_ok {x : Cp} (h : CpOk x) {ca ad : Int} (h0 : 0 ≤ ad) (h1 : ad < 4294967296) : CpOk (enterP x ca ad) := by
  unfold enterP
  split
  · exact h
  · exact ⟨h.regs, h.tv0, h.tv1, h.pc0, h.pc1, h.tv0, h.tv1, by show 0 ≤ ca % 4294967296; omega, by show ca % 4294967296 ≤ 4294967295; omega, h0, by show ad ≤ 4294967295; omega⟩
theorem retP_ok {x : Cp} (h : CpOk x) : CpOk (retP x) := ⟨h.regs, h.epc0, h.epc1, Int.le_refl _, by show (0 : Int) ≤ _; decide, h.tv0, h.tv1, h.ca0, h.ca1, h.ad0, h.ad1⟩
theorem setR_ok {x : Cp} (h : CpOk x) (a : Int) {y : Int} (h0 : 0 ≤ y) (h1 : y < 4294967296) : CpOk (setR x a y) := ⟨h.regs.set _ h0 h1, h.pc0, h.pc1, h.epc0, h.epc1, h.tv0, h.tv1, h.ca0, h.ca1, h.ad0, h.ad1⟩
theorem advC_ok {x : Cp} (h : CpOk x) (ln : Int) : CpOk (advC x ln) := ⟨h.regs, by show 0 ≤ (x.pc + ln) % 4294967296; omega, by show (x.pc + ln) % 4294967296 ≤ 4294967295; omega, h.epc0, h.epc1, h.tv0, h.tv1, h.ca0, h.ca1, h.ad0, h.ad1⟩
theorem prcP_ok {x : Cp} (h : CpOk x) (now op a : Int) : CpOk (prcP now x op a) := by
  have hr := h.regs.reg a
  have c0 := h.ca0; have c1 := h.ca1; have d0 := h.ad0; have d1 := h.ad1
  unfold prcP
  repeat' split
  · exact ⟨h.regs, h.pc0, h.pc1, h.epc0, h.epc1, hr.1, by show regI x.l a ≤ _; omega, h.ca0, h.ca1, h.ad0, h.ad1⟩
  · exact setR_ok h a (by omega) (by omega)
  · exact setR_ok h a h.ca0 (by omega)
  · exact setR_ok h a h.ad0 (by omega)
  · exact ⟨h.regs, h.pc0, h.pc1, h.epc0, h.epc1, h.tv0, h.tv1, h.ca0, h.ca1, h.ad0, h.ad1⟩
  · exact ⟨h.regs, h.pc0, h.pc1, h.epc0, h.epc1, h.tv0, h.tv1, h.ca0, h.ca1, h.ad0, h.ad1⟩
  · exact setR_ok h a (by decide) (by decide)
  · exact setR_ok h a (by decide) (by decide)
  · exact ⟨h.regs, h.pc0, h.pc1, h.epc0, h.epc1, h.tv0, h.tv1, h.ca0, h.ca1, h.ad0, h.ad1⟩
  · exact h
theorem upd_len (n : Nat) (xs : List Int) (u : Int × Int) : (updP n xs u).length = xs.length := by
  unfold updP; split <;> simp
theorem upd_u32 {xs : List Int} (h : U32s xs) {u : Int × Int} (h0 : 0 ≤ u.2) (h1 : u.2 < 4294967296) : U32s (updP n xs u) := by
  unfold updP; split
  · exact h.set _ h0 h1
  · exact h
theorem flush_len (n : Nat) : ∀ (ws : List (Int × Int)) (xs : List Int), (flushP n xs ws).length = xs.length
  | [], _ => rfl
  | u :: r, xs => by
    show (flushP n (updP n xs u) r).length = _
    rw [flush_len n r, upd_len]
theorem flush_u32 : ∀ (ws : List (Int × Int)) (xs : List Int), U32s xs → (∀ u ∈ ws, 0 ≤ u.1 ∧ u.1 < 128 ∧ 0 ≤ u.2 ∧ u.2 < 4294967296) → U32s (flushP n xs ws)
  | [], _, h, _ => h
  | u :: r, xs, h, hw => by
    show U32s (flushP n (updP n xs u) r)
    exact flush_u32 r _ (upd_u32 h (hw u (by simp)).2.2.1 (hw u (by simp)).2.2.2) (fun v hv => hw v (by simp [hv]))
/-- behind a step but for its time: what is seen is one more at most -/
structure Mid (n : Nat) (M : Mc) : Prop where
  cpu : CpOk M.c
  u32 : U32s M.xs
  len : M.xs.length = n * 16
  keys : U32s M.d.Q
  q64 : M.d.Q.length ≤ 64
  secs : U32s M.d.S
  s16 : M.d.S.length = 16
  f0 : 0 ≤ M.d.fr
  f1 : M.d.fr ≤ M.now
  a0 : 0 ≤ M.d.af
  a1 : M.d.af ≤ 4294967295
  seen : (M.d.sn.length : Int) ≤ M.now + 1
  w16 : M.ws.length ≤ 16
  wait : ∀ u ∈ M.ws, 0 ≤ u.1 ∧ u.1 < 128 ∧ 0 ≤ u.2 ∧ u.2 < 4294967296
theorem Good.mid (h : Good n M) : Mid n M := ⟨h.cpu, h.u32, h.len, h.keys, h.q64, h.secs, h.s16, h.f0, h.f1, h.a0, h.a1, by have := h.seen; omega, h.w16, h.wait⟩
theorem Mid.tick (h : Mid n M) : Good n (tickP M) := ⟨h.cpu, h.u32, h.len, h.keys, h.q64, h.secs, h.s16, h.f0, by have := h.f1; show M.d.fr ≤ M.now + 1; omega, h.a0, h.a1, h.seen, h.w16, h.wait⟩
theorem Good.now0 (h : Good n M) : 0 ≤ M.now := by have := h.f0; have := h.f1; omega
theorem see_len (d : DvS) (s : Sn) : ((seeD d s).sn.length : Int) = d.sn.length + 1 := by unfold seeD; simp
theorem take_mid (h : Good n M) {ca ad : Int} (h0 : 0 ≤ ad) (h1 : ad < 4294967296) : Mid n (takeP M ca ad) := by
  unfold takeP
  split
  · exact ⟨h.cpu, h.u32, h.len, h.keys, h.q64, h.secs, h.s16, h.f0, h.f1, h.a0, h.a1, by have := h.seen; show ((seeD M.d _).sn.length : Int) ≤ M.now + 1; rw [see_len]; omega, h.w16, h.wait⟩
  · exact ⟨enter_ok h.cpu h0 h1, h.u32, h.len, h.keys, h.q64, h.secs, h.s16, h.f0, h.f1, h.a0, h.a1, by have := h.seen; show (M.d.sn.length : Int) ≤ M.now + 1; omega, h.w16, h.wait⟩
theorem take_good (h : Good n M) {ca ad : Int} (h0 : 0 ≤ ad) (h1 : ad < 4294967296) (ho : (takeP M ca ad).ov = false) : Good n (takeP M ca ad) := by
  unfold takeP at ho ⊢
  split
  · rename_i e; rw [if_pos e] at ho; cases ho
  · exact ⟨enter_ok h.cpu h0 h1, h.u32, h.len, h.keys, h.q64, h.secs, h.s16, h.f0, h.f1, h.a0, h.a1, h.seen, h.w16, h.wait⟩
theorem rang_good (h : Good n M) : Good n (rangM M) := ⟨h.cpu, h.u32, h.len, h.keys, h.q64, h.secs, h.s16, Int.le_refl _, h.now0, Int.le_refl _, by show (0 : Int) ≤ _; decide, h.seen, h.w16, h.wait⟩
theorem int_good (h : Good n M) (ho : (intP M).ov = false) : Good n (intP M) := by
  unfold intP at ho ⊢
  split
  · exact h
  · rename_i e
    rw [if_neg e] at ho
    split
    · rename_i e2; rw [if_pos e2] at ho; exact take_good (rang_good h) (by decide) (by decide) ho
    · rename_i e2; rw [if_neg e2] at ho; exact take_good h (by decide) (by decide) ho
theorem int_mid (h : Good n M) : Mid n (intP M) := by
  unfold intP
  split
  · exact h.mid
  · split
    · exact take_mid (rang_good h) (by decide) (by decide)
    · exact take_mid h (by decide) (by decide)
theorem put_good (h : Good n M) {page word : Int} (p0 : 0 ≤ page) (w0 : 0 ≤ word) (w1 : word < 4294967296) : Good n (putP n q M page word) := by
  unfold putP
  split
  · rename_i hp
    split
    · refine ⟨h.cpu, flush_u32 _ _ h.u32 h.wait, by rw [flush_len]; exact h.len, h.keys, h.q64, h.secs, h.s16, h.f0, h.f1, h.a0, h.a1, h.seen, by show 1 ≤ 16; decide, ?_⟩
      intro u hu
      obtain rfl : u = (page, word) := by simpa using hu
      exact ⟨p0, hp.1, w0, w1⟩
    · rename_i hl
      refine ⟨h.cpu, h.u32, h.len, h.keys, h.q64, h.secs, h.s16, h.f0, h.f1, h.a0, h.a1, h.seen, by have := h.w16; show (M.ws ++ [(page, word)]).length ≤ 16; rw [List.length_append]; simp; omega, ?_⟩
      intro u hu
      rcases List.mem_append.1 hu with h2 | h2
      · exact h.wait u h2
      · obtain rfl : u = (page, word) := by simpa using h2
        exact ⟨p0, hp.1, w0, w1⟩
  · exact h
theorem sync_good (h : Good n M) : Good n (syncP n M) := ⟨h.cpu, flush_u32 _ _ h.u32 h.wait, by show (flushP n M.xs M.ws).length = _; rw [flush_len]; exact h.len, h.keys, h.q64, h.secs, h.s16, h.f0, h.f1, h.a0, h.a1, h.seen, by show 0 ≤ 16; decide, by intro u hu; cases hu⟩
theorem adv_mid (h : Mid n M) (ln : Int) : Mid n (advP M ln) := ⟨advC_ok h.cpu ln, h.u32, h.len, h.keys, h.q64, h.secs, h.s16, h.f0, h.f1, h.a0, h.a1, h.seen, h.w16, h.wait⟩
theorem getD_u32 {xs : List Int} (h : U32s xs) (k : Nat) : 0 ≤ xs.getD k 0 ∧ xs.getD k 0 < 4294967296 := by
  rw [List.getD_eq_getElem?_getD]
  cases e : xs[k]? with
  | none => simp
  | some x => exact h.get e
theorem head_u32 {xs : List Int} (h : U32s xs) : 0 ≤ xs.headD 0 ∧ xs.headD 0 < 4294967296 := by
  cases xs with
  | nil => simp
  | cons x r => exact h x (by simp)
theorem tail_u32 {xs : List Int} (h : U32s xs) : U32s xs.tail := fun x hx => h x (List.mem_of_mem_tail hx)
theorem dev_mid (h : Good n M) (op a b : Int) :
    Mid n ⟨M.xs, ⟨devL M.now M.d M.c.l op a b, M.c.pc, M.c.ie, M.c.eie, M.c.epc, M.c.tv, M.c.ca, M.c.ad⟩, devD M.now M.d M.c.l op a b, M.now, M.ov, M.ws⟩ := by
  have ra := h.cpu.regs.reg a
  have rb := h.cpu.regs.reg b
  have hs := h.seen
  have hl : Regs (devL M.now M.d M.c.l op a b) := by
    unfold devL
    split
    · exact h.cpu.regs.set _ (head_u32 h.keys).1 (head_u32 h.keys).2
    · split
      · exact h.cpu.regs.set _ (getD_u32 h.secs _).1 (getD_u32 h.secs _).2
      · exact h.cpu.regs
  have hc : CpOk ⟨devL M.now M.d M.c.l op a b, M.c.pc, M.c.ie, M.c.eie, M.c.epc, M.c.tv, M.c.ca, M.c.ad⟩ := ⟨hl, h.cpu.pc0, h.cpu.pc1, h.cpu.epc0, h.cpu.epc1, h.cpu.tv0, h.cpu.tv1, h.cpu.ca0, h.cpu.ca1, h.cpu.ad0, h.cpu.ad1⟩
  generalize devL M.now M.d M.c.l op a b = L at hc
  have hsn : (M.d.sn.length : Int) ≤ M.now + 1 := by omega
  unfold devD
  repeat' split
  · exact ⟨hc, h.u32, h.len, h.keys, h.q64, h.secs, h.s16, h.f0, h.f1, h.a0, h.a1, by show ((seeD M.d _).sn.length : Int) ≤ M.now + 1; rw [see_len]; omega, h.w16, h.wait⟩
  · exact ⟨hc, h.u32, h.len, tail_u32 h.keys, by have := h.q64; show M.d.Q.tail.length ≤ 64; rw [List.length_tail]; omega, h.secs, h.s16, h.f0, h.f1, h.a0, h.a1, hsn, h.w16, h.wait⟩
  · exact ⟨hc, h.u32, h.len, h.keys, h.q64, h.secs.set _ rb.1 rb.2, by show (List.set _ _ _).length = 16; rw [List.length_set]; exact h.s16, h.f0, h.f1, h.a0, h.a1, by show ((M.d.sn ++ _).length : Int) ≤ M.now + 1; rw [List.length_append]; simp; omega, h.w16, h.wait⟩
  · exact ⟨hc, h.u32, h.len, h.keys, h.q64, h.secs, h.s16, h.now0, Int.le_refl _, ra.1, by show regI M.c.l a ≤ _; omega, hsn, h.w16, h.wait⟩
  · exact ⟨hc, h.u32, h.len, h.keys, h.q64, h.secs, h.s16, h.f0, h.f1, h.a0, h.a1, hsn, h.w16, h.wait⟩
theorem midP_mid (h : Good n M) (op a b : Int) : Mid n (midP n q M op a b) := by
  have ra := h.cpu.regs.reg a
  have rb := h.cpu.regs.reg b
  unfold midP
  repeat' split
  · exact (put_good h ra.1 rb.1 rb.2).mid
  · exact (sync_good h).mid
  · exact dev_mid h op a b
  · exact ⟨prcP_ok h.cpu _ _ _, h.u32, h.len, h.keys, h.q64, h.secs, h.s16, h.f0, h.f1, h.a0, h.a1, by have := h.seen; show (M.d.sn.length : Int) ≤ M.now + 1; omega, h.w16, h.wait⟩
theorem priv_mid (h : Good n M) (op a b ln : Int) : Mid n (privP n q M op a b ln) := by
  have hs := h.seen
  unfold privP
  split
  · exact ⟨h.cpu, h.u32, h.len, h.keys, h.q64, h.secs, h.s16, h.f0, h.f1, h.a0, h.a1, by show ((seeD M.d _).sn.length : Int) ≤ M.now + 1; rw [see_len]; omega, h.w16, h.wait⟩
  · split
    · exact ⟨retP_ok h.cpu, h.u32, h.len, h.keys, h.q64, h.secs, h.s16, h.f0, h.f1, h.a0, h.a1, by show (M.d.sn.length : Int) ≤ M.now + 1; omega, h.w16, h.wait⟩
    · exact adv_mid (midP_mid h op a b) ln
theorem once_ok {xs : List Int} (hu : U32s xs) {x : Cp} (hx : CpOk x) {root : Int} {user : Bool} : CpOk (onceP xs n root x user).x ∧ U32s (onceP xs n root x user).m := by
  have hk := keeps_once xs n root x user
  obtain ⟨l, pc, ie, eie, epc, tv, cc, cd⟩ := x
  have p0 : 0 ≤ pc := hx.pc0
  have p1 : pc < 4294967296 := by have : pc ≤ 4294967295 := hx.pc1; omega
  obtain ⟨⟨y, s, ms⟩, ho⟩ : ∃ o, onceP xs n root ⟨l, pc, ie, eie, epc, tv, cc, cd⟩ user = o := ⟨_, rfl⟩
  rw [ho] at hk ⊢
  have h1 := once_regs hu hx.regs ho
  have h2 := once_good hu hx.regs p0 p1 ho
  refine ⟨⟨h1, h2.1.1, by have := h2.1.2; show y.pc ≤ _; omega, ?_, ?_, ?_, ?_, ?_, ?_, ?_, ?_⟩, h2.2⟩
  · rw [hk.epc]; exact hx.epc0
  · rw [hk.epc]; exact hx.epc1
  · rw [hk.tv]; exact hx.tv0
  · rw [hk.tv]; exact hx.tv1
  · rw [hk.ca]; exact hx.ca0
  · rw [hk.ca]; exact hx.ca1
  · rw [hk.ad]; exact hx.ad0
  · rw [hk.ad]; exact hx.ad1
theorem ins_mid (h : Good n M) : Mid n (insP n q M) := by
  have hs := h.seen
  have p1 : M.c.pc < 4294967296 := by have := h.cpu.pc1; omega
  have st := stops_once h.u32 (n := n) (root := 0) (x := M.c) (user := false) h.cpu.pc0 p1
  unfold insP
  repeat' split
  · obtain ⟨h1, h2⟩ := once_ok (n := n) h.u32 h.cpu (root := 0) (user := false)
    exact ⟨h1, h2, by show (onceP M.xs n 0 M.c false).m.length = _; rw [(keeps_once _ _ _ _ _).len]; exact h.len, h.keys, h.q64, h.secs, h.s16, h.f0, h.f1, h.a0, h.a1, by show (M.d.sn.length : Int) ≤ M.now + 1; omega, h.w16, h.wait⟩
  · exact priv_mid h _ _ _ _
  · exact take_mid h (by decide) (by decide)
  · exact take_mid h st.ad0 st.ad1
theorem step_good (h : Good n M) : Good n (stepP n q M) := by
  unfold stepP
  split
  · exact h
  · split
    · exact (int_mid h).tick
    · rename_i e
      exact (ins_mid (int_good h (by simpa using e))).tick
theorem step_now (n : Nat) (q : Int) (M : Mc) : (stepP n q M).now ≤ M.now + 1 ∧ M.now ≤ (stepP n q M).now := by
  have ht : ∀ (X : Mc) (c a : Int), (takeP X c a).now = X.now := by intro X c a; unfold takeP; split <;> rfl
  have hi : (intP M).now = M.now := by
    unfold intP
    repeat' split
    · rfl
    · rw [ht]; rfl
    · rw [ht]
  have hp : ∀ (X : Mc) (a b : Int), (putP n q X a b).now = X.now := by intro X a b; unfold putP; (repeat' split) <;> rfl
  have hm : ∀ (X : Mc) (o a b : Int), (midP n q X o a b).now = X.now := by
    intro X o a b; unfold midP; repeat' split
    · exact hp _ _ _
    all_goals rfl
  have hv : ∀ (X : Mc) (o a b l : Int), (privP n q X o a b l).now = X.now := by
    intro X o a b l; unfold privP; repeat' split
    · rfl
    · rfl
    · exact hm _ _ _ _
  have hn : ∀ X : Mc, (insP n q X).now = X.now := by
    intro X; unfold insP; repeat' split
    · rfl
    · exact hv _ _ _ _ _
    · exact ht _ _ _
    · exact ht _ _ _
  unfold stepP
  split
  · omega
  · split
    · show (intP M).now + 1 ≤ _ ∧ _ ≤ (intP M).now + 1
      rw [hi]; omega
    · show (insP n q (intP M)).now + 1 ≤ _ ∧ _ ≤ (insP n q (intP M)).now + 1
      rw [hn, hi]; omega
end
end Go.Proofs.YtpkgckjlhjcdmaaDoor
/- A machine in a block: a head, a processor, the rest; what belongs to a bare machine: how that is carried on. -/
namespace Go.Proofs.YtpkgckjlhjcdmaaDoor
open Go.RowKit
/-! ### cells: a head, a processor, the rest -/
def gL (h : Value) (x : Cp) (tl : List Value) : List Value := h :: (cpuL x ++ tl)
structure GAt (w : World) (p : Nat) (t : TypeId) (h : Value) (x : Cp) (tl : List Value) : Prop where
  blk : w.heap[p]? = some (.cells (gL h x tl).toArray t (0, 0))
  len : x.l.length = 16
theorem cpuL_len {x : Cp} (h : x.l.length = 16) : (cpuL x).length = 23 := by simp [cpuL, h]
theorem cpuL_info {x : Cp} (h : x.l.length = 16) : (Tryd.prog.info? 69).map (·.size) = some (cpuL x).length := by rw [cpu_info, cpuL_len h]
section
variable {h : Value} {x y : Cp} {tl : List Value}
theorem gL_len (hl : x.l.length = 16) : (gL h x tl).length = 24 + tl.length := by unfold gL; rw [List.length_cons, List.length_append, cpuL_len hl]; omega
theorem gL_cpu {k : Nat} {v : Value} (hv : (cpuL x)[k]? = some v) : (gL h x tl)[1 + k]? = some v := by
  unfold gL
  rw [Nat.add_comm, List.getElem?_cons_succ, List.getElem?_append_left (List.getElem?_eq_some_iff.1 hv).1]
  exact hv
theorem gL_tail (hl : x.l.length = 16) (k : Nat) : (gL h x tl)[24 + k]? = tl[k]? := by
  unfold gL
  rw [show 24 + k = (23 + k) + 1 by omega, List.getElem?_cons_succ, List.getElem?_append_right (by rw [cpuL_len hl]; omega), cpuL_len hl]
  congr 1
  omega
theorem gL_setTail (hl : x.l.length = 16) (k : Nat) (v : Value) : (gL h x tl).set (24 + k) v = gL h x (tl.set k v) := by
  unfold gL
  rw [show 24 + k = (23 + k) + 1 by omega, List.set_cons_succ, List.set_append_right _ _ (by rw [cpuL_len hl]; omega), cpuL_len hl]
  congr 3
  omega
theorem gL_setCpu (hl : x.l.length = 16) {k : Nat} (hk : k < 23) {v : Value} (hy : (cpuL x).set k v = cpuL y) : (gL h x tl).set (1 + k) v = gL h y tl := by
  unfold gL
  rw [Nat.add_comm, List.set_cons_succ, List.set_append_left _ _ (by rw [cpuL_len hl]; exact hk), hy]
theorem cpuL_setPc {l : List Int} {pc : Int} {ie eie : Bool} {epc tv ca ad : Int} (hl : l.length = 16) (v : Int) : (cpuL ⟨l, pc, ie, eie, epc, tv, ca, ad⟩).set 16 (.int .u32 v) = cpuL ⟨l, v, ie, eie, epc, tv, ca, ad⟩ := by
  unfold cpuL
  rw [List.set_append_right _ _ (by simp [hl])]
  simp [hl]
end
/-! ### many cells of a block known whole -/
def setsL (L : List Value) : Nat → List Value → List Value
  | _, [] => L
  | o, v :: r => setsL (L.set o v) (o + 1) r
theorem heap_setCells {t : TypeId} {b : Nat} : ∀ (vs : List Value) (o : Nat) (w : World) (L : List Value), w.heap[b]? = some (.cells L.toArray t (0, 0)) → (w.setCells b o vs).heap[b]? = some (.cells (setsL L o vs).toArray t (0, 0))
  | [], _, _, _, h => h
  | v :: r, o, w, L, h => by
    show ((w.setCell ⟨b, o, none⟩ v).setCells b (o + 1) r).heap[b]? = some (.cells (setsL (L.set o v) (o + 1) r).toArray t (0, 0))
    refine heap_setCells r (o + 1) _ _ ?_
    rw [heap_setCell_same w b o _ _ _ h, List.setIfInBounds_toArray]
theorem setsL_mid : ∀ (vs B A C : List Value), vs.length = B.length → setsL (A ++ (B ++ C)) A.length vs = A ++ (vs ++ C)
  | [], [], _, _, _ => rfl
  | v :: r, b :: B, A, C, h => by
    show setsL ((A ++ (b :: B ++ C)).set A.length v) (A.length + 1) r = A ++ (v :: r ++ C)
    have := setsL_mid r B (A ++ [v]) C (by simpa using h)
    rw [List.set_append_right _ _ (Nat.le_refl _), Nat.sub_self]
    simpa using this
section
variable {w w1 : World} {p : Nat} {t : TypeId} {h : Value} {x : Cp} {tl : List Value}
theorem GAt.lt (g : GAt w p t h x tl) : p < w.heap.size := (Array.getElem?_eq_some_iff.1 g.blk).1
theorem GAt.keptL {R : List Nat} (g : GAt w p t h x tl) (hg : Lv w w1 R) (hr : p ∉ R) : GAt w1 p t h x tl := ⟨(hg.block _ g.lt hr).trans g.blk, g.len⟩
theorem GAt.kept0 (g : GAt w p t h x tl) (hg : w.grownBy w1 none) : GAt w1 p t h x tl := ⟨(hg.block _ g.lt (by simp)).trans g.blk, g.len⟩
theorem GAt.kept {r : Option Nat} (g : GAt w p t h x tl) (hg : w.grownBy w1 r) (hr : some p ≠ r) : GAt w1 p t h x tl := ⟨(hg.block _ g.lt hr).trans g.blk, g.len⟩
theorem GAt.free (g : GAt w p t h x tl) (k : Nat) : w.frozen? ⟨p, k, none⟩ = false := frozen_of_row w p k _ _ g.blk
theorem GAt.cell (g : GAt w p t h x tl) (k : Nat) {v : Value} (hv : (gL h x tl)[k]? = some v) : w.cell? ⟨p, k, none⟩ = some v := by
  rw [cell_of_row w p k _ _ _ g.blk, List.getElem?_toArray]; exact hv
theorem GAt.head (g : GAt w p t h x tl) : w.cell? ⟨p, 0, none⟩ = some h := g.cell 0 rfl
theorem GAt.tail (g : GAt w p t h x tl) (k : Nat) {v : Value} (hv : tl[k]? = some v) : w.cell? ⟨p, 24 + k, none⟩ = some v := g.cell _ ((gL_tail g.len k).trans hv)
theorem GAt.cpu (g : GAt w p t h x tl) : w.rangeAt p 1 (cpuL x) := fun j _ hv => g.cell (1 + j) (gL_cpu hv)
theorem GAt.regs (g : GAt w p t h x tl) : w.rangeAt p 1 (x.l.map (Value.int .u32)) := fun j v hv => g.cpu j v (by
  unfold cpuL
  rw [List.getElem?_append_left (List.getElem?_eq_some_iff.1 hv).1]; exact hv)
theorem GAt.reg (g : GAt w p t h x tl) {k : Nat} {y : Int} (hy : x.l[k]? = some y) : w.cell? ⟨p, 1 + k, none⟩ = some (.int .u32 y) := g.regs k _ (by rw [List.getElem?_map, hy]; rfl)
theorem GAt.pc (g : GAt w p t h x tl) : w.cell? ⟨p, 17, none⟩ = some (.int .u32 x.pc) := g.cpu 16 _ (by
  unfold cpuL
  rw [List.getElem?_append_right (by simp [g.len])]; simp [g.len])
theorem GAt.there (g : GAt w p t h x tl) {o n : Nat} (hn : o + n ≤ 24 + tl.length) : w.there p o n := fun j hj => by
  refine ⟨?_, g.free _⟩
  rw [cell_of_row w p _ _ _ _ g.blk, List.getElem?_toArray, List.getElem?_eq_getElem (by rw [gL_len g.len]; omega)]
  rfl
theorem GAt.sTl (g : GAt w p t h x tl) (k : Nat) (v : Value) : GAt (w.setCell ⟨p, 24 + k, none⟩ v) p t h x (tl.set k v) :=
  ⟨by rw [heap_setCell_same w p _ _ _ _ g.blk, List.setIfInBounds_toArray, gL_setTail g.len], g.len⟩
theorem GAt.sPc {l : List Int} {pc : Int} {ie eie : Bool} {epc tv ca ad : Int} (g : GAt w p t h ⟨l, pc, ie, eie, epc, tv, ca, ad⟩ tl) (v : Int) : GAt (w.setCell ⟨p, 17, none⟩ (.int .u32 v)) p t h ⟨l, v, ie, eie, epc, tv, ca, ad⟩ tl :=
  ⟨by rw [heap_setCell_same w p _ _ _ _ g.blk, List.setIfInBounds_toArray]; rw [show (17 : Nat) = 1 + 16 from rfl, gL_setCpu g.len (by omega) (cpuL_setPc g.len v)], g.len⟩
theorem GAt.sCpu (g : GAt w p t h x tl) {y : Cp} (hl : y.l.length = 16) : GAt (w.setCells p 1 (cpuL y)) p t h y tl :=
  ⟨by
    rw [heap_setCells _ _ _ _ g.blk]
    congr 3
    exact setsL_mid (cpuL y) (cpuL x) [h] tl (by rw [cpuL_len hl, cpuL_len g.len]), hl⟩
theorem GAt.sRegs {l : List Int} {pc : Int} {ie eie : Bool} {epc tv ca ad : Int} (g : GAt w p t h ⟨l, pc, ie, eie, epc, tv, ca, ad⟩ tl) {L : List Int} (hl : L.length = 16) : GAt (w.setCells p 1 (L.map (Value.int .u32))) p t h ⟨L, pc, ie, eie, epc, tv, ca, ad⟩ tl :=
  ⟨by
    rw [heap_setCells _ _ _ _ g.blk]
    congr 3
    have := setsL_mid (L.map (Value.int .u32)) (l.map (Value.int .u32)) [h] ([Value.int .u32 pc, .bool ie, .bool eie, .int .u32 epc, .int .u32 tv, .int .u32 ca, .int .u32 ad] ++ tl) (by have h2 : l.length = 16 := g.len; simp [hl, h2])
    unfold gL cpuL
    simpa using this, hl⟩
theorem lv_cell (w : World) (p k : Nat) (v : Value) : Lv w (w.setCell ⟨p, k, none⟩ v) [p] := (Lv.refl w [p]).set (by simp) _ _
theorem lv_cells (w : World) (p o : Nat) (vs : List Value) : Lv w (w.setCells p o vs) [p] := Lv.of_row (grown_setCells vs o (grown_refl w (some p)))
end
/-! ### whole processors, registers out of a machine's block, and into it -/
section
variable {ops : Array Oper} {rest : List Oper} {o : Oper} {a : Act} {w : World} {Q : Exit → Act → World → Prop} {g : Nat} {t : TypeId} {hd : Value} {y : Cp} {tl : List Value}
theorem wpList_load_gcpu (hgd : o.guard = none) (p : Operand) (ho : o.op = .load 69 p) (hx : a.eval p = .pointer (some ⟨g, 1, none⟩)) (hg : GAt w g t hd y tl)
    (h : wpList Tryd.prog ops Q rest (a.put o.dst (.agg (cpuC y))) w) : wpList Tryd.prog ops Q (o :: rest) a w :=
  wpList_load_mid hgd 69 p ho g 1 hx (cpuL y) _ hg.cpu Tryd.underlying69 rfl (cpuL_info hg.len) h
theorem wpList_load_gregs (hgd : o.guard = none) (p : Operand) (ho : o.op = .load 67 p) (hx : a.eval p = .pointer (some ⟨g, 1, none⟩)) (hg : GAt w g t hd y tl)
    (h : wpList Tryd.prog ops Q rest (a.put o.dst (.agg (wA y.l))) w) : wpList Tryd.prog ops Q (o :: rest) a w :=
  wpList_load_mid hgd 67 p ho g 1 hx _ _ hg.regs Tryd.underlying67 rfl (by rw [regs_info, List.length_map, hg.len]) h
theorem wpList_store_gcpu (hgd : o.guard = none) (p q : Operand) (ho : o.op = .store 69 p q) (hx : a.eval p = .pointer (some ⟨g, 1, none⟩)) {z : Cp} (hy : a.eval q = .agg (cpuC z)) (hg : GAt w g t hd y tl) (hl : z.l.length = 16)
    (h : ∀ w1, GAt w1 g t hd z tl → Lv w w1 [g] → wpList Tryd.prog ops Q rest (a.put o.dst undef) w1) : wpList Tryd.prog ops Q (o :: rest) a w :=
  wpList_store_mid hgd 69 p q ho g 1 _ hx hy (hg.there (by rw [cpu_size hl]; omega)) (cpu_size_info hl) (cpu_one z) (h _ (hg.sCpu hl) (lv_cells w g 1 _))
theorem wpList_store_gregs (hgd : o.guard = none) (p q : Operand) (ho : o.op = .store 67 p q) (hx : a.eval p = .pointer (some ⟨g, 1, none⟩)) {L l : List Int} {pc : Int} {ie eie : Bool} {epc tv ca ad : Int} (hy : a.eval q = .agg (wA L)) (hg : GAt w g t hd ⟨l, pc, ie, eie, epc, tv, ca, ad⟩ tl) (hl : L.length = 16)
    (h : ∀ w1, GAt w1 g t hd ⟨L, pc, ie, eie, epc, tv, ca, ad⟩ tl → Lv w w1 [g] → wpList Tryd.prog ops Q rest (a.put o.dst undef) w1) : wpList Tryd.prog ops Q (o :: rest) a w :=
  wpList_store_mid hgd 67 p q ho g 1 _ hx hy (hg.there (by rw [wA_size, hl]; omega)) (regs_len_info L hl) (by
    rw [Array.all_eq_true_iff_forall_mem]
    intro v hv
    simp only [wA, List.mem_toArray, List.mem_map] at hv
    obtain ⟨x, _, rfl⟩ := hv
    rfl) (h _ (hg.sRegs hl) (lv_cells w g 1 _))
end
section
variable {ops : Array Oper} {rest : List Oper} {o : Oper} {a : Act} {w : World} {Q : Act → Prop} {g : Nat} {t : TypeId} {hd : Value} {y : Cp} {tl : List Value}
theorem wpStill_load_gcpu (hgd : o.guard = none) (p : Operand) (ho : o.op = .load 69 p) (hx : a.eval p = .pointer (some ⟨g, 1, none⟩)) (hg : GAt w g t hd y tl)
    (h : wpStill Tryd.prog ops w Q rest (a.put o.dst (.agg (cpuC y)))) : wpStill Tryd.prog ops w Q (o :: rest) a :=
  wpStill_yields hgd (by
    have := run_loadAt_mid (P := Tryd.prog) w g 1 69 (cpuL y) _ hg.cpu Tryd.underlying69 rfl (cpuL_info hg.len)
    unfold execOp
    simp only [ho, hx, this, Sem.run_bind, Sem.run_pure, Result.andThen_ok]
    rfl) h
theorem wpStill_load_gregs (hgd : o.guard = none) (p : Operand) (ho : o.op = .load 67 p) (hx : a.eval p = .pointer (some ⟨g, 1, none⟩)) (hg : GAt w g t hd y tl)
    (h : wpStill Tryd.prog ops w Q rest (a.put o.dst (.agg (wA y.l)))) : wpStill Tryd.prog ops w Q (o :: rest) a :=
  wpStill_yields hgd (by
    have := run_loadAt_mid (P := Tryd.prog) w g 1 67 (y.l.map (Value.int .u32)) _ hg.regs Tryd.underlying67 rfl (by rw [regs_info, List.length_map, hg.len])
    unfold execOp
    simp only [ho, hx, this, Sem.run_bind, Sem.run_pure, Result.andThen_ok]
    rfl) h
end
/-- a region that draws, reads first, and goes on in one order alone: behind the draw a world by a name -/
theorem region_still {P : Program} {id : Nat} {Q : Exit → Act → World → Prop} {a : Act} {w : World} {l : List Oper} (n : Nat) (hm : P.follows .mixedOrders = true) (hB : Region.lexTailB .any l.toArray n = true)
    (h : ∀ wd, w.grownBy wd none → wpStill P l.toArray wd (fun a' => wpList P l.toArray Q (l.drop n) a' wd) (l.take n) a) : (Code.region id l.toArray true).wp P Q a w :=
  wp_region_still_tail n hm hB (h w.drew (grown_drew (grown_refl _ _)))
/-! ### updates that wait -/
def wsCells : List (Int × Int) → List Value
  | [] => []
  | u :: r => .int .i64 u.1 :: .int .u32 u.2 :: wsCells r
theorem wsCells_length : ∀ l : List (Int × Int), (wsCells l).length = l.length * 2
  | [] => rfl
  | u :: r => by simp only [wsCells, List.length_cons, wsCells_length r]; omega
theorem wsCells_append : ∀ l m : List (Int × Int), wsCells (l ++ m) = wsCells l ++ wsCells m
  | [], _ => rfl
  | u :: r, m => by simp only [List.cons_append, wsCells, wsCells_append r m]
theorem wsCells_get : ∀ (l : List (Int × Int)) (k : Nat) (u : Int × Int), l[k]? = some u → (wsCells l)[k * 2]? = some (.int .i64 u.1) ∧ (wsCells l)[k * 2 + 1]? = some (.int .u32 u.2)
  | [], _, _, h => by simp at h
  | x :: r, 0, u, h => by
    obtain rfl : x = u := by simpa using h
    exact ⟨rfl, rfl⟩
  | x :: r, k + 1, u, h => by
    have := wsCells_get r k u (by simpa using h)
    rw [show (k + 1) * 2 = k * 2 + 2 by omega]
    exact this
theorem wsCells_one (l : List (Int × Int)) : ∀ v ∈ wsCells l, v.oneCell' = true := by
  induction l with
  | nil => simp [wsCells]
  | cons s r ih =>
    intro v hv
    simp only [wsCells, List.mem_cons] at hv
    rcases hv with rfl | rfl | hv
    · rfl
    · rfl
    · exact ih v hv
/-! ### a bare machine -/
def bT (d : Nat) (q now : Int) (ov : Bool) (v : Value) : List Value := [.pointer (some ⟨d, 0, none⟩), .int .i64 q, .int .i64 now, .bool ov, v]
structure MachAt (w : World) (B p m bm d n cap : Nat) (q : Int) (M : Mc) (vs vw : Value) : Prop where
  g : GAt w p 133 (.pointer (some ⟨m, 0, none⟩)) M.c (bT d q M.now M.ov vw)
  mem : MemAt w m bm n cap M.xs
  dev : DevAt w B d M.d vs
  wait : w.ownsRow B 279 2 vw M.ws.length (wsCells M.ws)
  gp : B ≤ p
  gm : B ≤ m
  gb : B ≤ bm
def mfoot (p m bm d : Nat) (vs vw : Value) : List Nat := p :: m :: bm :: d :: (vs.ownBlock.toList ++ vw.ownBlock.toList)
theorem mem_mfoot {p m bm d i : Nat} {vs vw : Value} : i ∈ mfoot p m bm d vs vw ↔ i = p ∨ i = m ∨ i = bm ∨ i = d ∨ vs.ownBlock = some i ∨ vw.ownBlock = some i := by
  unfold mfoot
  simp only [List.mem_cons, List.mem_append, Option.mem_toList]
structure MTurned (w : World) (B p m bm d n cap : Nat) (q : Int) (vs vw : Value) (M' : Mc) (w' : World) (vs' vw' : Value) : Prop where
  at_ : MachAt w' B p m bm d n cap q M' vs' vw'
  lv : Lv w w' (mfoot p m bm d vs vw)
  m1 : Mine w vs vs'
  m2 : Mine w vw vw'
theorem blk_ne {w : World} {a b : Nat} {c1 c2 : Array Value} {t1 t2 : TypeId} {f1 f2 : Nat × Nat} (h1 : w.heap[a]? = some (.cells c1 t1 f1)) (h2 : w.heap[b]? = some (.cells c2 t2 f2)) (hne : t1 ≠ t2) : a ≠ b := by
  rintro rfl
  rw [h1] at h2
  simp at h2
  exact hne h2.2.1
theorem MemAt.bblk {w : World} {m b n c : Nat} {xs : List Int} (h : MemAt w m b n c xs) : ∃ cur : Array Value, w.heap[b]? = some (.cells cur 181 (0, 0)) := ⟨_, h.hb.choose_spec.1⟩
theorem DevAt.blk {w : World} {B d : Nat} {x : DvS} {v : Value} (h : DevAt w B d x v) : ∃ cur : Array Value, w.heap[d]? = some (.cells cur 176 (0, 0)) := by
  obtain ⟨cur, f, hb, _⟩ := h.hd
  exact ⟨cur, hb⟩
theorem mem_keptL {w w1 : World} {m b n c : Nat} {xs : List Int} {R : List Nat} (h : MemAt w m b n c xs) (hg : Lv w w1 R) (h1 : m ∉ R) (h2 : b ∉ R) : MemAt w1 m b n c xs := by
  obtain ⟨cur, hb, hc⟩ := h.hb
  exact ⟨(hg.block _ h.mlt h1).trans h.hm, ⟨cur, (hg.block _ h.blt h2).trans hb, hc⟩, h.len, h.nc, h.cm, h.n1, h.n2, h.ne⟩
section
variable {w w1 w2 : World} {B p m bm d n cap : Nat} {q : Int} {M : Mc} {vs vw : Value} {R : List Nat}
theorem MachAt.p_ne (h : MachAt w B p m bm d n cap q M vs vw) : p ≠ m ∧ p ≠ bm ∧ p ≠ d ∧ vs.ownBlock ≠ some p ∧ vw.ownBlock ≠ some p := by
  obtain ⟨c1, h1⟩ := h.mem.bblk
  obtain ⟨c2, h2⟩ := h.dev.blk
  exact ⟨blk_ne h.g.blk h.mem.hm (by decide), blk_ne h.g.blk h1 (by decide), blk_ne h.g.blk h2 (by decide), own_ne_blk h.dev.own h.g.blk (by decide), own_ne_blk h.wait h.g.blk (by decide)⟩
theorem MachAt.b_ne (h : MachAt w B p m bm d n cap q M vs vw) : p ≠ bm ∧ m ≠ bm ∧ d ≠ bm ∧ vs.ownBlock ≠ some bm ∧ vw.ownBlock ≠ some bm := by
  obtain ⟨c1, h1⟩ := h.mem.bblk
  obtain ⟨c2, h2⟩ := h.dev.blk
  exact ⟨blk_ne h.g.blk h1 (by decide), h.mem.ne, blk_ne h2 h1 (by decide), own_ne_blk h.dev.own h1 (by decide), own_ne_blk h.wait h1 (by decide)⟩
/-- the blocks of devices: no other's -/
theorem MachAt.d_ne (h : MachAt w B p m bm d n cap q M vs vw) : p ∉ foot d vs ∧ m ∉ foot d vs ∧ bm ∉ foot d vs ∧ ∀ g, vw.ownBlock = some g → g ∉ foot d vs := by
  obtain ⟨c1, h1⟩ := h.mem.bblk
  obtain ⟨c2, h2⟩ := h.dev.blk
  refine ⟨?_, ?_, ?_, ?_⟩
  · intro hi
    rcases mem_foot.1 hi with e | e
    · exact h.p_ne.2.2.1 e
    · exact h.p_ne.2.2.2.1 e
  · intro hi
    rcases mem_foot.1 hi with e | e
    · exact blk_ne h.mem.hm h2 (by decide) e
    · exact own_ne_blk h.dev.own h.mem.hm (by decide) e
  · intro hi
    rcases mem_foot.1 hi with e | e
    · exact h.b_ne.2.2.1 e.symm
    · exact h.b_ne.2.2.2.1 e
  · intro g hg hi
    rcases mem_foot.1 hi with e | e
    · subst e; exact own_ne_blk h.wait h2 (by decide) hg
    · exact own_ne_own h.dev.own h.wait (by decide) g hg e
theorem MachAt.lt (h : MachAt w B p m bm d n cap q M vs vw) : ∀ i ∈ mfoot p m bm d vs vw, i < w.heap.size := by
  intro i hi
  rcases mem_mfoot.1 hi with rfl | rfl | rfl | rfl | hi | hi
  · exact h.g.lt
  · exact h.mem.mlt
  · exact h.mem.blt
  · exact h.dev.lt
  · exact (h.dev.own.lt i hi).2
  · exact (h.wait.lt i hi).2
theorem MachAt.old (h : MachAt w B p m bm d n cap q M vs vw) : ∀ i ∈ mfoot p m bm d vs vw, B ≤ i := by
  intro i hi
  rcases mem_mfoot.1 hi with rfl | rfl | rfl | rfl | hi | hi
  · exact h.gp
  · exact h.gm
  · exact h.gb
  · exact h.dev.ge
  · exact (h.dev.own.lt i hi).1
  · exact (h.wait.lt i hi).1
theorem MachAt.keptL (h : MachAt w B p m bm d n cap q M vs vw) (hg : Lv w w1 R) (hr : ∀ i ∈ mfoot p m bm d vs vw, i ∉ R) : MachAt w1 B p m bm d n cap q M vs vw :=
  ⟨h.g.keptL hg (hr _ (mem_mfoot.2 (.inl rfl))), mem_keptL h.mem hg (hr _ (mem_mfoot.2 (.inr (.inl rfl)))) (hr _ (mem_mfoot.2 (.inr (.inr (.inl rfl))))),
    h.dev.keptL hg (fun i hi => hr i (mem_mfoot.2 (by rcases mem_foot.1 hi with e | e; exact .inr (.inr (.inr (.inl e))); exact .inr (.inr (.inr (.inr (.inl e))))))),
    own_keptL h.wait hg (fun g hgv => hr g (mem_mfoot.2 (.inr (.inr (.inr (.inr (.inr hgv))))))), h.gp, h.gm, h.gb⟩
theorem MachAt.kept0 (h : MachAt w B p m bm d n cap q M vs vw) (hg : w.grownBy w1 none) : MachAt w1 B p m bm d n cap q M vs vw := h.keptL (Lv.of_none hg []) (by simp)
theorem MTurned.none (h : MachAt w B p m bm d n cap q M vs vw) (hg : w.grownBy w1 none) : MTurned w B p m bm d n cap q vs vw M w1 vs vw := ⟨h.kept0 hg, Lv.of_none hg _, .inl rfl, .inl rfl⟩
theorem MTurned.refl (h : MachAt w B p m bm d n cap q M vs vw) : MTurned w B p m bm d n cap q vs vw M w vs vw := MTurned.none h (grown_refl _ _)
theorem mine_trans {v v1 v2 : Value} {R : List Nat} (h : Mine w v v1) (hL : Lv w w1 R) (k : Mine w1 v1 v2) : Mine w v v2 := by
  rcases k with k | k
  · rcases h with h | h
    · exact .inl (k.trans h)
    · exact .inr (fun g hg => h g (k ▸ hg))
  · exact .inr (fun g hg => Nat.le_trans hL.size (k g hg))
theorem MTurned.trans {M1 M2 : Mc} {vs1 vw1 vs2 vw2 : Value} (h : MTurned w B p m bm d n cap q vs vw M1 w1 vs1 vw1) (k : MTurned w1 B p m bm d n cap q vs1 vw1 M2 w2 vs2 vw2) : MTurned w B p m bm d n cap q vs vw M2 w2 vs2 vw2 := by
  refine ⟨k.at_, ⟨k.lv.os.trans h.lv.os, k.lv.tape.trans h.lv.tape, k.lv.output.trans h.lv.output, Nat.le_trans h.lv.size k.lv.size, fun i hi hr => ?_⟩, mine_trans h.m1 h.lv k.m1, mine_trans h.m2 h.lv k.m2⟩
  refine (k.lv.block i (Nat.lt_of_lt_of_le hi h.lv.size) (fun hi2 => ?_)).trans (h.lv.block i hi hr)
  rcases mem_mfoot.1 hi2 with e | e | e | e | e | e
  · exact hr (mem_mfoot.2 (.inl e))
  · exact hr (mem_mfoot.2 (.inr (.inl e)))
  · exact hr (mem_mfoot.2 (.inr (.inr (.inl e))))
  · exact hr (mem_mfoot.2 (.inr (.inr (.inr (.inl e)))))
  · rcases h.m1 with h1 | h1
    · exact hr (mem_mfoot.2 (.inr (.inr (.inr (.inr (.inl (h1.symm.trans e)))))))
    · have := h1 i e; omega
  · rcases h.m2 with h1 | h1
    · exact hr (mem_mfoot.2 (.inr (.inr (.inr (.inr (.inr (h1.symm.trans e)))))))
    · have := h1 i e; omega
/-- memory was written -/
theorem MachAt.memT (h : MachAt w B p m bm d n cap q M vs vw) {ms : List Int} (hm : MemAt w1 m bm n cap ms) (hg : w.grownBy w1 (some bm)) : MTurned w B p m bm d n cap q vs vw ⟨ms, M.c, M.d, M.now, M.ov, M.ws⟩ w1 vs vw := by
  have hL := Lv.of_row hg
  obtain ⟨n1, n2, n3, n4, n5⟩ := h.b_ne
  refine ⟨⟨h.g.keptL hL (by simpa using n1), hm, h.dev.keptL hL (fun i hi => ?_), own_keptL h.wait hL (fun g hgv => ?_), h.gp, h.gm, h.gb⟩, hL.mono (fun i hi => mem_mfoot.2 (.inr (.inr (.inl (by simpa using hi))))), .inl rfl, .inl rfl⟩
  · intro e
    obtain rfl : i = bm := by simpa using e
    exact h.d_ne.2.2.1 hi
  · intro e
    obtain rfl : g = bm := by simpa using e
    exact n5 hgv
/-- devices were written -/
theorem MachAt.devT (h : MachAt w B p m bm d n cap q M vs vw) {x' : DvS} {vs' : Value} (ht : Turned w B d vs x' w1 vs') : MTurned w B p m bm d n cap q vs vw ⟨M.xs, M.c, x', M.now, M.ov, M.ws⟩ w1 vs' vw := by
  obtain ⟨n1, n2, n3, n4⟩ := h.d_ne
  exact ⟨⟨h.g.keptL ht.lv n1, mem_keptL h.mem ht.lv n2 n3, ht.at_, own_keptL h.wait ht.lv n4, h.gp, h.gm, h.gb⟩, ht.lv.mono (fun i hi => mem_mfoot.2 (by
    rcases mem_foot.1 hi with e | e
    · exact .inr (.inr (.inr (.inl e)))
    · exact .inr (.inr (.inr (.inr (.inl e)))))), ht.mine, .inl rfl⟩
/-- the machine's own block was written -/
theorem MachAt.ownT (h : MachAt w B p m bm d n cap q M vs vw) {c' : Cp} {now' : Int} {ov' : Bool} (hg : GAt w1 p 133 (.pointer (some ⟨m, 0, none⟩)) c' (bT d q now' ov' vw)) (hL : Lv w w1 [p]) :
    MTurned w B p m bm d n cap q vs vw ⟨M.xs, c', M.d, now', ov', M.ws⟩ w1 vs vw := by
  obtain ⟨n1, n2, n3, n4, n5⟩ := h.p_ne
  refine ⟨⟨hg, mem_keptL h.mem hL (by simpa using n1.symm) (by simpa using n2.symm), h.dev.keptL hL (fun i hi => ?_), own_keptL h.wait hL (fun g hgv => ?_), h.gp, h.gm, h.gb⟩, hL.mono (fun i hi => mem_mfoot.2 (.inl (by simpa using hi))), .inl rfl, .inl rfl⟩
  · intro e
    obtain rfl : i = p := by simpa using e
    exact h.d_ne.1 hi
  · intro e
    obtain rfl : g = p := by simpa using e
    exact n5 hgv
theorem MTurned.base {M1 : Mc} {vs1 vw1 : Value} (h : MTurned w B p m bm d n cap q vs vw M1 w1 vs1 vw1) (hB : B ≤ w.heap.size) : B ≤ w1.heap.size := Nat.le_trans hB h.lv.size
/-- behind a call that answers nothing -/
def Ran (w : World) (B p m bm d n cap : Nat) (q : Int) (vs vw : Value) (M' : Mc) (e : Ending) (w' : World) : Prop := e = .returned (.tuple #[]) ∧ ∃ vs' vw', MTurned w B p m bm d n cap q vs vw M' w' vs' vw'
end
end Go.Proofs.YtpkgckjlhjcdmaaDoor
/- Updates of tables that wait (package bare): contracts. -/
namespace Go.Proofs.YtpkgckjlhjcdmaaDoor
open Go.RowKit
section
variable {w : World} {B p m bm d n cap : Nat} {q : Int} {M : Mc} {vs vw : Value} {xs : List Int}
theorem upd_no (n : Nat) (xs : List Int) (u : Int × Int) (h : ¬ (liveB (wordI xs (u.1 / 16)) = true ∧ wordI xs (u.1 / 16) / 256 < (n : Int))) : updP n xs u = xs := by unfold updP; rw [if_neg h]
theorem upd_yes (n : Nat) (xs : List Int) (u : Int × Int) (h : liveB (wordI xs (u.1 / 16)) = true ∧ wordI xs (u.1 / 16) / 256 < (n : Int)) : updP n xs u = xs.set (wordI xs (u.1 / 16) / 256 * 16 + u.1 % 16).toNat u.2 := by unfold updP; rw [if_pos h]
/-- the list of updates was written, and laid into its field -/
theorem MachAt.waitT {w1 : World} (h : MachAt w B p m bm d n cap q M vs vw) {v' : Value} {ws' : List (Int × Int)} (hg : GAt w1 p 133 (.pointer (some ⟨m, 0, none⟩)) M.c (bT d q M.now M.ov v')) (hL : Lv w w1 (p :: vw.ownBlock.toList))
    (ho : w1.ownsRow B 279 2 v' ws'.length (wsCells ws')) (hm : Mine w vw v') : MTurned w B p m bm d n cap q vs vw ⟨M.xs, M.c, M.d, M.now, M.ov, ws'⟩ w1 vs v' := by
  obtain ⟨n1, n2, n3, n4, n5⟩ := h.p_ne
  have key : ∀ i, i ∈ p :: vw.ownBlock.toList → i = p ∨ vw.ownBlock = some i := fun i hi => by
    rcases List.mem_cons.1 hi with e | e
    · exact .inl e
    · exact .inr (Option.mem_toList.1 e)
  obtain ⟨c1, h1⟩ := h.mem.bblk
  refine ⟨⟨hg, mem_keptL h.mem hL (fun hi => ?_) (fun hi => ?_), h.dev.keptL hL (fun i hi hi2 => ?_), ho, h.gp, h.gm, h.gb⟩, hL.mono (fun i hi => ?_), .inl rfl, hm⟩
  · rcases key _ hi with e | e
    · exact n1 e.symm
    · exact own_ne_blk h.wait h.mem.hm (by decide) e
  · rcases key _ hi with e | e
    · exact n2 e.symm
    · exact own_ne_blk h.wait h1 (by decide) e
  · rcases key _ hi2 with e | e
    · subst e; exact h.d_ne.1 hi
    · exact h.d_ne.2.2.2 i e hi
  · rcases key _ hi with e | e
    · exact mem_mfoot.2 (.inl e)
    · exact mem_mfoot.2 (.inr (.inr (.inr (.inr (.inr e)))))
theorem MachAt.waited (h : MachAt w B p m bm d n cap q M vs vw) {W w' w2 : World} (hL : Lv w W []) (hg : W.grownBy w' vw.ownBlock) {g c N : Nat} {ws' : List (Int × Int)} (hN : ws'.length = N)
    (hown : w'.ownsRow B 279 2 (.slice (some ⟨g, 0, none⟩) N c) N (wsCells ws')) (hat : vw.ownBlock = some g ∨ g = W.heap.size) (h2 : w2 = w'.setCell ⟨p, 28, none⟩ (.slice (some ⟨g, 0, none⟩) N c)) :
    MTurned w B p m bm d n cap q vs vw ⟨M.xs, M.c, M.d, M.now, M.ov, ws'⟩ w2 vs (.slice (some ⟨g, 0, none⟩) N c) := by
  obtain ⟨n1, n2, n3, n4, n5⟩ := h.p_ne
  have hL2 : Lv w w' (vw.ownBlock.toList) := (hL.mono (by simp)).trans (Lv.of_row hg)
  have hgp : g ≠ p := by
    rcases hat with e | e
    · intro e2; subst e2; exact n5 e
    · have := h.g.lt; have := hL.size; omega
  have hG := h.g.keptL hL2 (fun hi => n5 (Option.mem_toList.1 hi))
  subst h2
  refine h.waitT (hG.sTl 4 _) ((hL2.mono (fun i hi => List.mem_cons.2 (.inr hi))).set (by simp) _ _) ?_ ?_
  · rw [hN]
    refine own_keptL hown (R := [p]) ((Lv.refl _ _).set (by simp) _ _) ?_
    intro k hk
    obtain rfl : g = k := by simpa [Value.ownBlock] using hk
    simpa using hgp
  · rcases hat with e | e
    · left; rw [e]; rfl
    · right
      intro k hk
      obtain rfl : g = k := by simpa [Value.ownBlock] using hk
      rw [e]; exact hL.size
end
end Go.Proofs.YtpkgckjlhjcdmaaDoor
/- Updates of tables that wait (package bare): flush, put: contracts. -/
namespace Go.Proofs.YtpkgckjlhjcdmaaDoor
open Go.RowKit
section
variable {w : World} {B p m bm d n cap : Nat} {q : Int} {M : Mc} {vs vw : Value}
theorem ws_cells {w wr : World} {B : Nat} {v : Value} {l : List (Int × Int)} {t : TypeId} (h : w.ownsRow B t 2 v l.length (wsCells l)) {R : List Nat} (hg : Lv w wr R) (hr : ∀ g, v.ownBlock = some g → g ∉ R) {k : Nat} {u : Int × Int} (hu : l[k]? = some u) :
    ∃ b c, v = .slice (some ⟨b, 0, none⟩) l.length c ∧ wr.cell? ⟨b, k * 2, none⟩ = some (.int .i64 u.1) ∧ wr.cell? ⟨b, k * 2 + 1, none⟩ = some (.int .u32 u.2) := by
  have h2 := own_keptL h hg hr
  obtain ⟨hl, h2⟩ := h2
  have hk : k < l.length := (List.getElem?_eq_some_iff.1 hu).1
  rcases h2 with ⟨_, h0⟩ | ⟨g, cp, cur, rfl, _, hb, _, _, _, ht⟩
  · omega
  · obtain ⟨h3, h4⟩ := wsCells_get l k u hu
    have key : ∀ j x, (wsCells l)[j]? = some x → wr.cell? ⟨g, j, none⟩ = some x := fun j x hx => by
      rw [cell_of_row wr g _ _ _ _ hb]
      have := congrArg (·[j]?) ht
      simp only [List.getElem?_take, hx] at this
      have hj : j < (wsCells l).length := (List.getElem?_eq_some_iff.1 hx).1
      rw [hl] at hj
      rw [if_pos hj] at this
      simpa using this
    exact ⟨g, cp, rfl, key _ _ h3, key _ _ h4⟩
theorem ne_list {o : Option Nat} {b : Nat} (h : o ≠ some b) : ∀ g, o = some g → g ∉ [b] := fun g hg e => h (by rw [hg, List.mem_singleton.1 e])
theorem flush_snoc (n : Nat) (xs : List Int) (ws : List (Int × Int)) {k : Nat} {u : Int × Int} (hu : ws[k]? = some u) : flushP n xs (ws.take (k + 1)) = updP n (flushP n xs (ws.take k)) u := by
  unfold flushP
  rw [List.take_add_one, hu, List.foldl_append]; rfl
theorem mem_take {α : Type} {l : List α} {k : Nat} {x : α} (h : x ∈ l.take k) : x ∈ l := List.mem_of_mem_take h
end
end Go.Proofs.YtpkgckjlhjcdmaaDoor
/- An update waits (package bare): put: a contract. -/
namespace Go.Proofs.YtpkgckjlhjcdmaaDoor
open Go.RowKit
section
variable {w : World} {B p m bm d n cap : Nat} {q : Int} {M : Mc} {vs vw : Value}
theorem upd_info : ∃ i, Tryd.prog.info? 279 = some i ∧ i.zero = some (.agg #[.int .i64 0, .int .u32 0]) ∧ i.size = 2 ∧ i.bytes = 16 := by
  obtain ⟨i, hi, hz0, hz1, hz2⟩ := info_parts (P := Tryd.prog) (e := 279) (z := .agg #[.int .i64 0, .int .u32 0]) (size := 2) (bytes := 16) (by kernel_rfl)
  exact ⟨i, hi, hz0, hz1, hz2⟩
theorem put_not (page word : Int) (h : ¬ (page < 128 ∧ mayW q word = true)) : putP n q M page word = M := by unfold putP; rw [if_neg h]
theorem put_full (page word : Int) (h : page < 128 ∧ mayW q word = true) (h16 : M.ws.length = 16) : putP n q M page word = ⟨flushP n M.xs M.ws, M.c, M.d, M.now, M.ov, [(page, word)]⟩ := by unfold putP; rw [if_pos h, if_pos h16]
theorem put_room (page word : Int) (h : page < 128 ∧ mayW q word = true) (h16 : M.ws.length ≠ 16) : putP n q M page word = ⟨M.xs, M.c, M.d, M.now, M.ov, M.ws ++ [(page, word)]⟩ := by unfold putP; rw [if_pos h, if_neg h16]
end
end Go.Proofs.YtpkgckjlhjcdmaaDoor

/- Plain facts on one instruction (package core): no program is named here. -/
import Derived.Test.YtpkgckjlhjcdmaaDoorZGWalk
import Derived.Test.YtpkgckjlhjcdmaaDoorZWalk4
import Derived.Test.YtpkgckjlhjcdmaaDoorZAlu5
import Derived.Test.YtpkgckjlhjcdmaaDoorZGAluA
namespace Go.Proofs.YtpkgckjlhjcdmaaDoor
/-- is there a place for an address, to be read or written, for whom; where it is -/
def atB (xs : List Int) (n root addr : Int) (write user : Bool) : Bool := wayB (pageO xs n root (addr / 16)) n write user
def atV (xs : List Int) (n root addr : Int) (write user : Bool) : Int := wayV (pageO xs n root (addr / 16)) n addr write user
/-- the word at an address, if it may be read there -/
def rdV (xs : List Int) (n root addr : Int) (user : Bool) : Int := if atB xs n root addr false user = true then wordI xs (atV xs n root addr false user) else 0
theorem at_in {xs : List Int} {n : Nat} {root addr : Int} {write user : Bool} (h : atB xs n root addr write user = true) : ∃ k : Nat, atV xs n root addr write user = (k : Int) ∧ k < n * 16 := by
  unfold atB at h
  unfold atV wayV
  rw [if_pos h]
  cases hp : pageO xs n root (addr / 16) with
  | none => rw [hp] at h; cases h
  | some v =>
    rw [hp] at h
    have hb := live_bd (pageO_live hp)
    simp only [wayB, Bool.and_eq_true, decide_eq_true_eq] at h
    have h2 : v / 256 < (n : Int) := h.2
    refine ⟨(v / 256 * 16 + addr % 16).toNat, ?_, ?_⟩
    · show v / 256 * 16 + addr % 16 = _
      omega
    · omega
theorem rdV_bd {xs : List Int} (hu : U32s xs) (n root addr : Int) (user : Bool) : 0 ≤ rdV xs n root addr user ∧ rdV xs n root addr user < 4294967296 := by
  unfold rdV
  split
  · unfold wordI
    rw [List.getD_eq_getElem?_getD]
    cases h : xs[(atV xs n root addr false user).toNat]? with
    | none => simp
    | some x => exact hu.get h
  · omega
/-- a stop -/
structure Sp where
  ca : Int
  ad : Int
  op : Int
  a : Int
  b : Int
  c : Int
  im : Int
  ln : Int
def noneS (ca ad : Int) : Sp := ⟨ca, ad, 0, 0, 0, 0, 0, 0⟩
/-- the instruction of a word x, y the one behind it -/
def insS (x im ln : Int) : Sp := ⟨0, 0, x / 16777216, x / 65536 % 256, x / 256 % 256, x % 256, im, ln⟩
def okW (x : Int) : Bool := insB (x / 16777216) (x / 65536 % 256) (x / 256 % 256) (x % 256) 0
def nextI (pc : Int) : Int := (pc + 1) % 4294967296
/-- what is fetched -/
def fetchP (xs : List Int) (n root pc : Int) (user : Bool) : Sp :=
  if atB xs n root pc false user = true then
    if okW (rdV xs n root pc user) = true then
      if twoB (rdV xs n root pc user / 16777216) = true then
        if atB xs n root (nextI pc) false user = true then insS (rdV xs n root pc user) (rdV xs n root (nextI pc) user) 2 else noneS 1 (nextI pc)
      else insS (rdV xs n root pc user) 0 1
    else noneS 4 0
  else noneS 1 pc
theorem ins_imm {op a b c : Int} (h : insB op a b c 0 = true) (ht : twoB op = true) (im : Int) : insB op a b c im = true := by
  unfold insB at h ⊢
  simp only [Bool.and_eq_true, Bool.or_eq_true] at h ⊢
  exact ⟨h.1, .inr ht⟩
theorem fetch_ok {xs : List Int} (hu : U32s xs) {n root pc : Int} {user : Bool} {op a b c im ln ad : Int} (hf : fetchP xs n root pc user = ⟨0, ad, op, a, b, c, im, ln⟩) : insB op a b c im = true ∧ (ln = 1 ∨ ln = 2) ∧ ad = 0 ∧ 0 ≤ im ∧ im < 4294967296 := by
  unfold fetchP at hf
  split at hf
  · split at hf
    · rename_i h1
      split at hf
      · rename_i h2
        split at hf
        · unfold insS at hf
          injection hf with e1 e2 e3 e4 e5 e6 e7 e8
          subst e2 e3 e4 e5 e6 e7 e8
          exact ⟨ins_imm h1 h2 _, .inr rfl, rfl, rdV_bd hu _ _ _ _⟩
        · unfold noneS at hf; injection hf with e1; omega
      · unfold insS at hf
        injection hf with e1 e2 e3 e4 e5 e6 e7 e8
        subst e2 e3 e4 e5 e6 e7 e8
        exact ⟨h1, .inl rfl, rfl, by omega, by omega⟩
    · unfold noneS at hf; injection hf with e1; omega
  · unfold noneS at hf; injection hf with e1; omega
/-! ### what an instruction does -/
def behI (x : Cp) (ln : Int) : Int := (x.pc + ln) % 4294967296
/-- where a jump goes that is taken -/
def targV (x : Cp) (op a c im : Int) : Int := if op = 16 ∨ op = 17 ∨ op = 18 then (x.pc + ((c + 128) % 256 - 128)) % 4294967296 else if op = 23 then regI x.l a else im
def jumpX (x : Cp) (op a b c im ln : Int) : Cp :=
  ⟨if op = 22 then x.l.set 15 (behI x ln) else x.l, if takenB op a b c im x.l = true then targV x op a c im else behI x ln, x.ie, x.eie, x.epc, x.tv, x.ca, x.ad⟩
def silX (x : Cp) (op a ln : Int) : Cp := ⟨if op = 66 then x.l.set a.toNat 1 else x.l, behI x ln, x.ie, x.eie, x.epc, x.tv, x.ca, x.ad⟩
def aluX (x : Cp) (op a b c im ln : Int) : Cp := ⟨aluL op a b c im x.l, behI x ln, x.ie, x.eie, x.epc, x.tv, x.ca, x.ad⟩
def addrI (x : Cp) (b c : Int) : Int := (regI x.l b + c) % 4294967296
def ldX (xs : List Int) (n root : Int) (x : Cp) (user : Bool) (a b c ln : Int) : Cp := ⟨x.l.set a.toNat (rdV xs n root (addrI x b c) user), behI x ln, x.ie, x.eie, x.epc, x.tv, x.ca, x.ad⟩
def stX (x : Cp) (ln : Int) : Cp := ⟨x.l, behI x ln, x.ie, x.eie, x.epc, x.tv, x.ca, x.ad⟩
/-- what is answered, and memory then -/
structure Out where
  x : Cp
  s : Sp
  m : List Int
def moveP (xs : List Int) (n root : Int) (x : Cp) (user : Bool) (op a b c im ln : Int) : Out :=
  if atB xs n root (addrI x b c) (op == 13) user = true then
    if op = 13 then ⟨stX x ln, ⟨0, 0, op, a, b, c, im, ln⟩, xs.set (atV xs n root (addrI x b c) true user).toNat (regI x.l a)⟩
    else ⟨ldX xs n root x user a b c ln, ⟨0, 0, op, a, b, c, im, ln⟩, xs⟩
  else ⟨x, ⟨1, addrI x b c, op, a, b, c, im, ln⟩, xs⟩
def innP (xs : List Int) (n root : Int) (x : Cp) (user : Bool) (op a b c im ln : Int) : Out :=
  if op = 12 ∨ op = 13 then moveP xs n root x user op a b c im ln
  else if jmpB op = true then ⟨jumpX x op a b c im ln, ⟨0, 0, op, a, b, c, im, ln⟩, xs⟩
  else ⟨aluX x op a b c im ln, ⟨0, 0, op, a, b, c, im, ln⟩, xs⟩
def doP (xs : List Int) (n root : Int) (x : Cp) (user : Bool) (s : Sp) : Out :=
  if s.ca = 0 then
    if clsI s.op = 1 then innP xs n root x user s.op s.a s.b s.c s.im s.ln
    else if clsI s.op = 3 then (if user = true then ⟨silX x s.op s.a s.ln, s, xs⟩ else ⟨x, ⟨6, s.ad, s.op, s.a, s.b, s.c, s.im, s.ln⟩, xs⟩)
    else if clsI s.op = 4 then ⟨x, ⟨7, s.ad, s.op, s.a, s.b, s.c, s.im, s.ln⟩, xs⟩
    else ⟨x, ⟨6, s.ad, s.op, s.a, s.b, s.c, s.im, s.ln⟩, xs⟩
  else ⟨x, s, xs⟩
def onceP (xs : List Int) (n root : Int) (x : Cp) (user : Bool) : Out := doP xs n root x user (fetchP xs n root x.pc user)
end Go.Proofs.YtpkgckjlhjcdmaaDoor

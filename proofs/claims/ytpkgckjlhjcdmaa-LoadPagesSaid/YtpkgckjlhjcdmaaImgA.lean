/- An image as an argument: opened. -/
import Derived.Test.YtpkgckjlhjcdmaaLoadP
import Derived.Test.YtpkgckjlhjcdmaaArgs
import Derived.Deep.Slices
import Derived.ChangeArms
import Derived.Lib.SmallJoins
import Derived.OpenShut
namespace Go.Proofs.Ytpkgckjlhjcdmaa
open Go.Joins Go.ChangeShapes Go.WideShapes Go.RowKit Go.Deep
/-- the slices of an image -/
structure IV where
  dp : Option Addr
  dn : Nat
  dc : Nat
  cp : Option Addr
  cn : Nat
  cc : Nat
  rp : Option Addr
  rn : Nat
  rc : Nat
  pp : Option Addr
  pn : Nat
  pc : Nat
  sp : Option Addr
  sn : Nat
  sc : Nat
abbrev imgC (V : IV) (e : Int) : Array Value := #[.int .u32 e, .slice V.dp V.dn V.dc, .slice V.cp V.cn V.cc, .slice V.rp V.rn V.rc, .slice V.pp V.pn V.pc, .slice V.sp V.sn V.sc]
structure ImAt (w : World) (V : IV) (x : Ig) : Prop where
  d : SlAt w .u32 (.slice V.dp V.dn V.dc) x.D
  c : SlAt w .u32 (.slice V.cp V.cn V.cc) x.C
  dl : x.D.length = V.dn
  cl : x.C.length = V.cn
  e0 : 0 ≤ x.e
  e1 : x.e < 4294967296
  dw : ∀ n ∈ x.D, 0 ≤ n ∧ n < 4294967296
  cw : ∀ n ∈ x.C, 0 ≤ n ∧ n < 4294967296
  lm : V.dn ≤ maxLen ∧ V.cn ≤ maxLen ∧ V.rn ≤ maxLen ∧ V.pn ≤ maxLen ∧ V.sn ≤ maxLen
  cap : V.dn ≤ V.dc ∧ V.dc ≤ maxLen ∧ V.cn ≤ V.cc ∧ V.cc ≤ maxLen
theorem ImAt.kept0 {w w1 : World} {V : IV} {x : Ig} (h : ImAt w V x) (hg : w.grownBy w1 none) : ImAt w1 V x :=
  { h with d := h.d.kept0 hg, c := h.c.kept0 hg }
section
variable {H : Type} {enc : TypeId × Value → H} {W : World}
set_option maxRecDepth 100000 in
theorem open_image {b0 : Nat} {v : Value} {d : DataW H} {p : List MemPlace}
    (hv : Value.okWide Try.prog W .any b0 26 v) (h : DataW.Trod enc Try.prog W 0 (fun _ => true) true 26 v d p) :
    ∃ (V : IV) (x : Ig), v = .agg (imgC V x.e) ∧ ImAt W V x := by
  have hs := Try.underlying26
  have hC : Try.prog.cellsOf 26 = 6 := by kernel_rfl
  have c0 : Try.prog.cellsOf 23 = 1 := by kernel_rfl
  have c1 : Try.prog.cellsOf 24 = 1 := by kernel_rfl
  have cu : Try.prog.cellsOf 22 = 1 := by kernel_rfl
  have ci : Try.prog.cellsOf 3 = 1 := by kernel_rfl
  obtain ⟨cs, rfl, hsz⟩ := okWide_struct hs hv
  obtain ⟨l⟩ := cs
  match l, hsz.trans hC with
  | [v0, v1, v2, v3, v4, v5], _ =>
    obtain ⟨fuel, hf⟩ := h
    obtain ⟨xs, n, _, hx, _, hlen, hg⟩ := DataW.trod_struct hs hf
    match xs, hlen with
    | [y0, y1, y2, y3, y4, y5], _ =>
      have g0 := hg 0 _ rfl
      have g1 := hg 1 _ rfl
      have g2 := hg 2 _ rfl
      have g3 := hg 3 _ rfl
      have g4 := hg 4 _ rfl
      have g5 := hg 5 _ rfl
      clear hg hf hx hv
      simp [Value.cells, c0, c1, cu] at g0 g1 g2 g3 g4 g5
      have ints : ∀ {t e : TypeId} {k : IntKind} {v : Value} {x : DataW H × List MemPlace}, Try.prog.underlying t = some (.slice e) → Try.prog.underlying e = some (.int k) → Try.prog.cellsOf e = 1 →
          DataW.trod enc Try.prog W 0 (fun _ => true) true n t [v] = some x → ∃ xs : List Int, ∃ p c, v = .slice p xs.length c ∧ SlAt W k v xs ∧ (∀ n ∈ xs, (Lit.int k n).wf = true) ∧ xs.length ≤ c ∧ c ≤ maxLen := by
        intro t e k v x ht he hc hh
        rcases open_ints ht he hc hh with ⟨hcs, _⟩ | ⟨a, len, cap, zs, hcs, _, hl, hm, _⟩
        · obtain rfl : v = _ := by simpa using hcs
          obtain ⟨xs, h1, h2, h3⟩ := slat_of_cells ht he hc hh
          obtain ⟨p, c, hv⟩ := h1.len
          simp only [Value.slice.injEq] at hv
          exact ⟨xs, none, 0, by rw [← hv.2.1], h1, h2, by omega, by simp⟩
        · obtain rfl : v = _ := by simpa using hcs
          obtain ⟨xs, h1, h2, h3⟩ := slat_of_cells ht he hc hh
          obtain ⟨p, c, hv⟩ := h1.len
          simp only [Value.slice.injEq] at hv
          exact ⟨xs, some a, cap, by rw [← hv.2.1], h1, h2, by omega, hm⟩
      obtain ⟨e, he, _, we⟩ := DataW.trod_int Try.underlying22 g0
      obtain ⟨D, dp, dc, rfl, hD, wD, lD, kD⟩ := ints Try.underlying23 Try.underlying22 cu g1
      obtain ⟨C, cp, cc, rfl, hC, wC, lC, kC⟩ := ints Try.underlying23 Try.underlying22 cu g2
      obtain ⟨R, rp, rc, rfl, _, _, lR, kR⟩ := ints Try.underlying24 Try.underlying3 ci g3
      obtain ⟨P, pp, pc, rfl, _, _, lP, kP⟩ := ints Try.underlying24 Try.underlying3 ci g4
      obtain ⟨S, sp, sc, rfl, _, _, lS, kS⟩ := ints Try.underlying24 Try.underlying3 ci g5
      obtain rfl : v0 = .int .u32 e := by simpa using he
      have hb := u32_bd we
      exact ⟨⟨dp, D.length, dc, cp, C.length, cc, rp, R.length, rc, pp, P.length, pc, sp, S.length, sc⟩, ⟨e, D, C⟩, rfl,
        ⟨hD, hC, rfl, rfl, hb.1, by have := hb.2; simp only; omega, fun n hn => by have := u32_bd (wD n hn); omega, fun n hn => by have := u32_bd (wC n hn); omega, ⟨Nat.le_trans lD kD, Nat.le_trans lC kC, Nat.le_trans lR kR, Nat.le_trans lP kP, Nat.le_trans lS kS⟩, ⟨lD, kD, lC, kC⟩⟩⟩
end
end Go.Proofs.Ytpkgckjlhjcdmaa

/- A processor as an argument: opened. -/
import Derived.Test.YtajminajdcpgnaaCpu0
import Derived.Lib.SmallJoins
import Derived.OpenShut
import Derived.ChangeArms
namespace Go.Proofs.Ytajminajdcpgnaa
open Go.Joins Go.ChangeShapes Go.WideShapes Go.RowKit
/-- a processor whose words are words -/
structure CpOk (x : Cp) : Prop where
  regs : Regs x.l
  pc0 : 0 ≤ x.pc
  pc1 : x.pc ≤ 4294967295
  epc0 : 0 ≤ x.epc
  epc1 : x.epc ≤ 4294967295
  tv0 : 0 ≤ x.tv
  tv1 : x.tv ≤ 4294967295
  ca0 : 0 ≤ x.ca
  ca1 : x.ca ≤ 4294967295
  ad0 : 0 ≤ x.ad
  ad1 : x.ad ≤ 4294967295
section
variable {H : Type} {enc : TypeId × Value → H} {w : World} {base : Nat} {spare : Nat → Bool} {held : Bool}
theorem regs_trod {n : Nat} {cs : List Value} {x : DataW H × List MemPlace} (hsz : cs.length = 16) (hf : DataW.trod enc Try.prog w base spare held n 24 cs = some x) :
    ∃ l : List Int, cs = l.map (Value.int .u32) ∧ Regs l := by
  have hu := Try.underlying24
  have c22 : Try.prog.cellsOf 22 = 1 := by kernel_rfl
  obtain ⟨xs, n, _, _, _, hlen, hg⟩ := DataW.trod_array hu hf
  have one : ∀ i, i < 16 → ∃ m : Int, cs[i]? = some (.int .u32 m) ∧ 0 ≤ m ∧ m < 4294967296 := by
    intro i hi
    have g := hg i hi
    simp only [c22, Nat.mul_one] at g
    have hx : xs[i]? = some (xs[i]'(by omega)) := List.getElem?_eq_getElem (by omega)
    rw [hx] at g
    obtain ⟨m, e, _, wf⟩ := DataW.trod_int Try.underlying22 g
    have hd : cs.drop i = cs[i]'(by omega) :: cs.drop (i + 1) := by
      rw [List.drop_eq_getElem_cons (by omega)]
    rw [hd] at e
    simp only [List.take_succ_cons, List.take_zero, List.cons.injEq, and_true] at e
    have hb := u32_bd wf
    exact ⟨m, by rw [List.getElem?_eq_getElem (by omega), e], hb.1, by omega⟩
  refine ⟨cs.map intOf, ?_, by simp [hsz], ?_⟩
  · apply List.ext_getElem?
    intro i
    rw [List.getElem?_map, List.getElem?_map]
    by_cases hi : i < 16
    · obtain ⟨m, hm, _⟩ := one i hi
      rw [hm]
      rfl
    · rw [List.getElem?_eq_none (by omega)]; rfl
  · intro x hx
    obtain ⟨v, hv, rfl⟩ := List.mem_map.1 hx
    obtain ⟨i, hi, rfl⟩ := List.getElem_of_mem hv
    obtain ⟨m, hm, h0, h1⟩ := one i (by omega)
    rw [List.getElem?_eq_getElem hi, Option.some.injEq] at hm
    rw [hm]
    exact ⟨h0, h1⟩
theorem open_cpu {r : Reach} {b0 : Nat} {v : Value} {d : DataW H} {p : List MemPlace}
    (hv : Value.okWide Try.prog w r b0 26 v) (h : DataW.Trod enc Try.prog w base spare held 26 v d p) :
    ∃ x : Cp, v = .agg (cpuC x) ∧ CpOk x := by
  have hs := Try.underlying26
  have hC : Try.prog.cellsOf 26 = 23 := by kernel_rfl
  have cb : Try.prog.cellsOf 4 = 1 := by kernel_rfl
  have c22 : Try.prog.cellsOf 22 = 1 := by kernel_rfl
  have cr : Try.prog.cellsOf 24 = 16 := by kernel_rfl
  obtain ⟨cs, rfl, hsz⟩ := okWide_struct hs hv
  obtain ⟨l⟩ := cs
  match l, hsz.trans hC with
  | [v0, v1, v2, v3, v4, v5, v6, v7, v8, v9, v10, v11, v12, v13, v14, v15, v16, v17, v18, v19, v20, v21, v22], _ =>
    obtain ⟨fuel, hf⟩ := h
    obtain ⟨xs, n, _, hx, _, hlen, hg⟩ := DataW.trod_struct hs hf
    match xs, hlen with
    | [y0, y1, y2, y3, y4, y5, y6, y7], _ =>
      have g0 := hg 0 _ rfl
      have g1 := hg 1 _ rfl
      have g2 := hg 2 _ rfl
      have g3 := hg 3 _ rfl
      have g4 := hg 4 _ rfl
      have g5 := hg 5 _ rfl
      have g6 := hg 6 _ rfl
      have g7 := hg 7 _ rfl
      clear hg hf hx hv
      simp [Value.cells, cb, c22, cr] at g0 g1 g2 g3 g4 g5 g6 g7
      obtain ⟨l, hl, hR⟩ := regs_trod rfl g0
      obtain ⟨pc, e1, _, w1⟩ := DataW.trod_int Try.underlying22 g1
      obtain ⟨ie, e2, _⟩ := DataW.trod_bool Try.underlying4 g2
      obtain ⟨eie, e3, _⟩ := DataW.trod_bool Try.underlying4 g3
      obtain ⟨epc, e4, _, w4⟩ := DataW.trod_int Try.underlying22 g4
      obtain ⟨tv, e5, _, w5⟩ := DataW.trod_int Try.underlying22 g5
      obtain ⟨ca, e6, _, w6⟩ := DataW.trod_int Try.underlying22 g6
      obtain ⟨ad, e7, _, w7⟩ := DataW.trod_int Try.underlying22 g7
      simp at e1 e2 e3 e4 e5 e6 e7
      subst e1; subst e2; subst e3; subst e4; subst e5; subst e6; subst e7
      refine ⟨⟨l, pc, ie, eie, epc, tv, ca, ad⟩, ?_, ⟨hR, (u32_bd w1).1, (u32_bd w1).2, (u32_bd w4).1, (u32_bd w4).2, (u32_bd w5).1, (u32_bd w5).2, (u32_bd w6).1, (u32_bd w6).2, (u32_bd w7).1, (u32_bd w7).2⟩⟩
      unfold cpuC cpuL
      simp only
      rw [← hl]
      rfl
end
end Go.Proofs.Ytajminajdcpgnaa

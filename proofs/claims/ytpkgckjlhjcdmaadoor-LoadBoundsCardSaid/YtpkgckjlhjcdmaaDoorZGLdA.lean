/- Images on plain data: pages, quota, what memory holds as it is laid; no program is named here. -/
import Derived.Test.YtpkgckjlhjcdmaaDoorZGMem
import Derived.Test.YtpkgckjlhjcdmaaDoorZGWalk
import Derived.Deep.Slices
import Derived.ChangeArms
import Derived.Lib.SmallJoins
import Derived.OpenShut
namespace Go.Proofs.YtpkgckjlhjcdmaaDoor
open Go.RowKit
structure Ig where
  e : Int
  D : List Int
  C : List Int
def pgN (l : List Int) : Nat := (l.length + 15) / 16
def quoI (x : Ig) : Nat := 17 + pgN x.D
def valI (x : Ig) : Int := if 2048 < x.D.length ∨ 2048 < x.C.length then 104 else if x.e < 2048 ∨ 2048 + (x.C.length : Int) ≤ x.e then 103 else 0
def pgL (l : List Int) (p : Nat) : List Int := (l.drop (16 * p)).take 16
def pgW (l : List Int) (p : Nat) : List Int := (List.range 16).map fun j => l.getD (16 * p + j) 0
theorem pgW_length (l : List Int) (p : Nat) : (pgW l p).length = 16 := by simp [pgW]
theorem pgW_get {l : List Int} {p j : Nat} (h : j < 16) : (pgW l p)[j]? = some (l.getD (16 * p + j) 0) := by
  unfold pgW; rw [List.getElem?_map, List.getElem?_range h]; rfl
theorem pgW_getD {l : List Int} {p j : Nat} (h : j < 16) : (pgW l p).getD j 0 = l.getD (16 * p + j) 0 := by
  rw [List.getD, pgW_get h]; rfl
theorem pgL_length (l : List Int) (p : Nat) : (pgL l p).length ≤ 16 := by unfold pgL; simp; omega
theorem padded_pg (l : List Int) (p : Nat) : padded (pgL l p) = pgW l p := by
  apply List.ext_getElem?
  intro j
  by_cases hj : j < 16
  · rw [pgW_get hj]
    unfold padded
    by_cases h : j < (pgL l p).length
    · rw [List.getElem?_append_left h]
      unfold pgL at h ⊢
      rw [List.getElem?_take, if_pos hj, List.getElem?_drop]
      simp at h
      have : 16 * p + j < l.length := by omega
      rw [List.getD, List.getElem?_eq_getElem this]; rfl
    · rw [List.getElem?_append_right (by omega), List.getElem?_replicate]
      have hl := pgL_length l p
      rw [if_pos (by omega)]
      have : l.length ≤ 16 * p + j := by unfold pgL at h; simp at h; omega
      rw [List.getD, List.getElem?_eq_none this]; rfl
  · rw [List.getElem?_eq_none (by rw [padded_length (pgL_length l p)]; omega), List.getElem?_eq_none (by rw [pgW_length]; omega)]
def pageOfI (l : List Int) (p : Int) : Option (List Int) := if 0 ≤ p ∧ p < pgN l then some (pgW l p.toNat) else none
def pageI (x : Ig) (page : Int) : Option (List Int) := if page < 128 then pageOfI x.D page else pageOfI x.C (page - 128)
/-! ### memory -/
def memF (x : Ig) (q kk de df ce cf : Nat) (j : Nat) : Int :=
  if j < 16 then (if j < kk then ((j : Int) + 1) * 256 + 7 else 0)
  else if j < 272 then (if j - 16 < de then (17 + ((j - 16 : Nat) : Int)) * 256 + 7 else if 144 ≤ j ∧ j - 144 < ce then ((q : Int) + ((j - 144 : Nat) : Int)) * 256 + 5 else 0)
  else if j < 272 + 16 * df then x.D.getD (j - 272) 0
  else if 16 * q ≤ j ∧ j < 16 * q + 16 * cf then x.C.getD (j - 16 * q) 0 else 0
def memL (x : Ig) (q kk de df ce cf : Nat) : List Int := (List.range (16 * (q + pgN x.C))).map (memF x q kk de df ce cf)
def memI (x : Ig) (q : Nat) : List Int := memL x q 16 (pgN x.D) (pgN x.D) (pgN x.C) (pgN x.C)
theorem memL_length (x : Ig) (q kk de df ce cf : Nat) : (memL x q kk de df ce cf).length = 16 * (q + pgN x.C) := by simp [memL]
theorem rng_set {N i : Nat} {f g : Nat → Int} {v : Int} (h : ∀ j, j < N → g j = if j = i then v else f j) : ((List.range N).map f).set i v = (List.range N).map g := by
  apply List.ext_getElem?
  intro j
  by_cases hj : j < N
  · rw [List.getElem?_set, List.getElem?_map, List.getElem?_map, List.getElem?_range hj]
    have := h j hj
    by_cases e : i = j
    · subst e
      rw [if_pos rfl] at this
      simp [hj, this]
    · rw [if_neg (Ne.symm e)] at this
      simp [e, this]
  · rw [List.getElem?_eq_none (by simp; omega), List.getElem?_eq_none (by simp; omega)]
theorem rng_many {N o : Nat} {f g : Nat → Int} {l : List Int} (hl : o + l.length ≤ N) (h : ∀ j, j < N → g j = if o ≤ j ∧ j < o + l.length then l.getD (j - o) 0 else f j) : setMany ((List.range N).map f) o l = (List.range N).map g := by
  apply List.ext_getElem?
  intro j
  rw [setMany_get _ _ _ _ (by simpa using hl)]
  by_cases hj : j < N
  · rw [List.getElem?_map, List.getElem?_map, List.getElem?_range hj]
    have := h j hj
    by_cases e : o ≤ j ∧ j < o + l.length
    · rw [if_pos e] at this
      rw [if_pos e, Option.map_some, this, List.getD, List.getElem?_eq_getElem (by omega : j - o < l.length)]; rfl
    · rw [if_neg e] at this
      rw [if_neg e, Option.map_some, Option.map_some, this]
  · rw [if_neg (by omega), List.getElem?_eq_none (by simp; omega), List.getElem?_eq_none (by simp; omega)]
section
variable {x : Ig} {q kk de df ce cf : Nat}
theorem memL_zero : memL x q 0 0 0 0 0 = List.replicate (16 * (q + pgN x.C)) 0 := by
  apply List.ext_getElem?
  intro j
  unfold memL
  by_cases hj : j < 16 * (q + pgN x.C)
  · rw [List.getElem?_map, List.getElem?_range hj, List.getElem?_replicate, if_pos hj]
    simp only [Option.map_some, memF, Option.some.injEq]
    repeat' split
    all_goals first | rfl | omega
  · rw [List.getElem?_eq_none (by simp; omega), List.getElem?_eq_none (by simp; omega)]
theorem memL_k (h : kk < 16) : (memL x q kk de df ce cf).set kk (((kk : Int) + 1) * 256 + 7) = memL x q (kk + 1) de df ce cf := by
  apply rng_set
  intro j _
  unfold memF
  by_cases e : j = kk
  · subst e; rw [if_pos h, if_pos (by omega), if_pos rfl]
  · rw [if_neg e]
    by_cases a : j < 16
    · rw [if_pos a, if_pos a]
      by_cases b : j < kk
      · rw [if_pos b, if_pos (by omega)]
      · rw [if_neg b, if_neg (by omega)]
    · rw [if_neg a, if_neg a]
theorem memL_de (h : de < 128) : (memL x q kk de df ce cf).set (16 + de) ((17 + (de : Int)) * 256 + 7) = memL x q kk (de + 1) df ce cf := by
  apply rng_set
  intro j _
  unfold memF
  by_cases e : j = 16 + de
  · subst e
    rw [if_neg (by omega), if_pos (by omega), if_pos (by omega), if_pos rfl]
    have : 16 + de - 16 = de := by omega
    rw [this]
  · rw [if_neg e]
    by_cases a : j < 16
    · rw [if_pos a, if_pos a]
    · rw [if_neg a, if_neg a]
      by_cases c : j < 272
      · rw [if_pos c, if_pos c]
        by_cases b : j - 16 < de
        · rw [if_pos b, if_pos (by omega)]
        · rw [if_neg b, if_neg (by omega)]
      · rw [if_neg c, if_neg c]
theorem memL_df (h : 17 + df < q + pgN x.C) : setMany (memL x q kk de df ce cf) ((17 + df) * 16) (pgW x.D df) = memL x q kk de (df + 1) ce cf := by
  apply rng_many
  · rw [pgW_length]; omega
  intro j _
  rw [pgW_length]
  unfold memF
  by_cases e : (17 + df) * 16 ≤ j ∧ j < (17 + df) * 16 + 16
  · rw [if_neg (by omega), if_neg (by omega), if_pos (by omega), if_pos e, pgW_getD (by omega), show 16 * df + (j - (17 + df) * 16) = j - 272 from by omega]
  · rw [if_neg e]
    by_cases a : j < 16
    · rw [if_pos a, if_pos a]
    · rw [if_neg a, if_neg a]
      by_cases c : j < 272
      · rw [if_pos c, if_pos c]
      · rw [if_neg c, if_neg c]
        by_cases b : j < 272 + 16 * df
        · rw [if_pos b, if_pos (by omega)]
        · rw [if_neg b, if_neg (by omega)]
theorem memL_ce (hd : de ≤ 128) (h : ce < 128) : (memL x q kk de df ce cf).set (144 + ce) (((q : Int) + (ce : Int)) * 256 + 5) = memL x q kk de df (ce + 1) cf := by
  apply rng_set
  intro j _
  unfold memF
  by_cases e : j = 144 + ce
  · subst e
    rw [if_neg (by omega), if_pos (by omega), if_neg (by omega), if_pos (by omega), if_pos rfl]
    have : 144 + ce - 144 = ce := by omega
    rw [this]
  · rw [if_neg e]
    by_cases a : j < 16
    · rw [if_pos a, if_pos a]
    · rw [if_neg a, if_neg a]
      by_cases c : j < 272
      · rw [if_pos c, if_pos c]
        by_cases b : j - 16 < de
        · rw [if_pos b, if_pos b]
        · rw [if_neg b, if_neg b]
          by_cases d : 144 ≤ j ∧ j - 144 < ce
          · rw [if_pos d, if_pos (by omega)]
          · rw [if_neg d, if_neg (by omega)]
      · rw [if_neg c, if_neg c]
theorem memL_cf (hq : 17 + df ≤ q) (h : cf < pgN x.C) : setMany (memL x q kk de df ce cf) ((q + cf) * 16) (pgW x.C cf) = memL x q kk de df ce (cf + 1) := by
  apply rng_many
  · rw [pgW_length]; omega
  intro j _
  rw [pgW_length]
  unfold memF
  by_cases e : (q + cf) * 16 ≤ j ∧ j < (q + cf) * 16 + 16
  · rw [if_neg (by omega), if_neg (by omega), if_neg (by omega), if_pos (by omega), if_pos e, pgW_getD (by omega), show 16 * cf + (j - (q + cf) * 16) = j - 16 * q from by omega]
  · rw [if_neg e]
    by_cases a : j < 16
    · rw [if_pos a, if_pos a]
    · rw [if_neg a, if_neg a]
      by_cases c : j < 272
      · rw [if_pos c, if_pos c]
      · rw [if_neg c, if_neg c]
        by_cases b : j < 272 + 16 * df
        · rw [if_pos b, if_pos b]
        · rw [if_neg b, if_neg b]
          by_cases d : 16 * q ≤ j ∧ j < 16 * q + 16 * cf
          · rw [if_pos d, if_pos (by omega)]
          · rw [if_neg d, if_neg (by omega)]
theorem bit7 {f : Int} (h0 : 0 ≤ f) (h1 : f < 1024) : bitV f true true true = f * 256 + 7 := by rw [bitV_yes h0 h1]; simp [twoV, fourV]; omega
theorem bit5 {f : Int} (h0 : 0 ≤ f) (h1 : f < 1024) : bitV f true false true = f * 256 + 5 := by rw [bitV_yes h0 h1]; simp [twoV, fourV]; omega
theorem bitB_there {f : Int} (w u : Bool) (h0 : 0 ≤ f) (h1 : f < 1024) : bitB f true w u = true := by simp [bitB, h0, h1]
theorem memF_get {j : Nat} (h : j < 16 * (q + pgN x.C)) : (memL x q kk de df ce cf)[j]? = some (memF x q kk de df ce cf j) := by
  unfold memL; rw [List.getElem?_map, List.getElem?_range h]; rfl
theorem memF_u32 (hd : ∀ v ∈ x.D, 0 ≤ v ∧ v < 4294967296) (hc : ∀ v ∈ x.C, 0 ≤ v ∧ v < 4294967296) (hq : q ≤ 512) (j : Nat) : 0 ≤ memF x q kk de df ce cf j ∧ memF x q kk de df ce cf j < 4294967296 := by
  have g : ∀ (l : List Int) (k : Nat), (∀ v ∈ l, 0 ≤ v ∧ v < 4294967296) → 0 ≤ l.getD k 0 ∧ l.getD k 0 < 4294967296 := by
    intro l k h
    by_cases e : k < l.length
    · rw [List.getD, List.getElem?_eq_getElem e]; exact h _ (List.getElem_mem e)
    · rw [List.getD, List.getElem?_eq_none (by omega)]; simp
  unfold memF
  repeat' split
  all_goals first | exact g _ _ hd | exact g _ _ hc | omega
end
/-! ### where things lie -/
section
variable {x : Ig} {q n : Nat}
theorem memI_page (hq : 17 + pgN x.D ≤ q) (hq2 : q ≤ 256) (hd : pgN x.D ≤ 128) (hc : pgN x.C ≤ 128) (hn : n = q + pgN x.C) (p : Nat) (hp : p < 256) :
    pageO (memI x q) n 0 p = if p < pgN x.D then some ((17 + (p : Int)) * 256 + 7) else if 128 ≤ p ∧ p < 128 + pgN x.C then some (((q : Int) + ((p - 128 : Nat) : Int)) * 256 + 5) else none := by
  have g1 : (memI x q)[p / 16]? = some (((p / 16 : Nat) : Int) * 256 + 263) := by
    unfold memI
    rw [memF_get (by omega)]
    unfold memF
    rw [if_pos (by omega), if_pos (by omega), show (((p / 16 : Nat) : Int) + 1) * 256 + 7 = ((p / 16 : Nat) : Int) * 256 + 263 from by omega]
  have g2 : (memI x q)[16 + p]? = some (memF x q 16 (pgN x.D) (pgN x.D) (pgN x.C) (pgN x.C) (16 + p)) := by
    unfold memI
    rw [memF_get (by omega)]
  have v2 : memF x q 16 (pgN x.D) (pgN x.D) (pgN x.C) (pgN x.C) (16 + p) = if p < pgN x.D then (17 + (p : Int)) * 256 + 7 else if 128 ≤ p ∧ p < 128 + pgN x.C then ((q : Int) + ((p - 128 : Nat) : Int)) * 256 + 5 else 0 := by
    unfold memF
    have e1 : 16 + p - 16 = p := by omega
    have e2 : 16 + p - 144 = p - 128 := by omega
    rw [if_neg (by omega), if_pos (by omega), e1, e2]
    by_cases a : p < pgN x.D
    · rw [if_pos a, if_pos a]
    · rw [if_neg a, if_neg a]
      by_cases b : 128 ≤ p ∧ p < 128 + pgN x.C
      · rw [if_pos b, if_pos (by omega)]
      · rw [if_neg b, if_neg (by omega)]
  have w1 : wordI (memI x q) (0 * 16 + (p : Int) / 16) = ((p / 16 : Nat) : Int) * 256 + 263 := wordI_get g1 (by omega)
  have w2 : wordI (memI x q) ((((p / 16 : Nat) : Int) * 256 + 263) / 256 * 16 + (p : Int) % 16) = memF x q 16 (pgN x.D) (pgN x.D) (pgN x.C) (pgN x.C) (16 + p) := wordI_get g2 (by omega)
  rw [pageO_in (by omega) (by omega) (by omega) (by omega) w1 (by unfold liveB; simp; omega) (by omega) w2, v2]
  by_cases a : p < pgN x.D
  · rw [if_pos a, if_pos a, liveO_yes (by unfold liveB; simp; omega)]
  · rw [if_neg a, if_neg a]
    by_cases b : 128 ≤ p ∧ p < 128 + pgN x.C
    · rw [if_pos b, if_pos b, liveO_yes (by unfold liveB; simp; omega)]
    · rw [if_neg b, if_neg b, liveO_no (by decide)]
theorem memI_data (hq : 17 + pgN x.D ≤ q) {a : Nat} (h : a / 16 < pgN x.D) : (memI x q)[(17 + a / 16) * 16 + a % 16]? = some (x.D.getD a 0) := by
  unfold memI
  rw [memF_get (by omega)]
  unfold memF
  rw [if_neg (by omega), if_neg (by omega), if_pos (by omega), show (17 + a / 16) * 16 + a % 16 - 272 = a from by omega]
theorem memI_code (hq : 17 + pgN x.D ≤ q) {a : Nat} (h0 : 2048 ≤ a) (h : a / 16 - 128 < pgN x.C) : (memI x q)[(q + (a / 16 - 128)) * 16 + a % 16]? = some (x.C.getD (a - 2048) 0) := by
  unfold memI
  rw [memF_get (by omega)]
  unfold memF
  rw [if_neg (by omega), if_neg (by omega), if_neg (by omega), if_pos (by omega), show (q + (a / 16 - 128)) * 16 + a % 16 - 16 * q = a - 2048 from by omega]
end
end Go.Proofs.YtpkgckjlhjcdmaaDoor
/- An image as an argument: opened. -/
namespace Go.Proofs.YtpkgckjlhjcdmaaDoor
open Go.Joins Go.ChangeShapes Go.WideShapes Go.RowKit Go.Deep
/-- the slices of an image -/
structure IV where
  dp : Option Addr
  dn : Nat
  dc : Nat
  cp : Option Addr
  cn : Nat
  cc : Nat
  rp : Option Addr
  rn : Nat
  rc : Nat
  pp : Option Addr
  pn : Nat
  pc : Nat
  sp : Option Addr
  sn : Nat
  sc : Nat
abbrev imgC (V : IV) (e : Int) : Array Value := #[.int .u32 e, .slice V.dp V.dn V.dc, .slice V.cp V.cn V.cc, .slice V.rp V.rn V.rc, .slice V.pp V.pn V.pc, .slice V.sp V.sn V.sc]
structure ImAt (w : World) (V : IV) (x : Ig) : Prop where
  d : SlAt w .u32 (.slice V.dp V.dn V.dc) x.D
  c : SlAt w .u32 (.slice V.cp V.cn V.cc) x.C
  dl : x.D.length = V.dn
  cl : x.C.length = V.cn
  e0 : 0 ≤ x.e
  e1 : x.e < 4294967296
  dw : ∀ n ∈ x.D, 0 ≤ n ∧ n < 4294967296
  cw : ∀ n ∈ x.C, 0 ≤ n ∧ n < 4294967296
  lm : V.dn ≤ maxLen ∧ V.cn ≤ maxLen ∧ V.rn ≤ maxLen ∧ V.pn ≤ maxLen ∧ V.sn ≤ maxLen
  cap : V.dn ≤ V.dc ∧ V.dc ≤ maxLen ∧ V.cn ≤ V.cc ∧ V.cc ≤ maxLen
theorem ImAt.kept0 {w w1 : World} {V : IV} {x : Ig} (h : ImAt w V x) (hg : w.grownBy w1 none) : ImAt w1 V x :=
  { h with d := h.d.kept0 hg, c := h.c.kept0 hg }
section
variable {H : Type} {enc : TypeId × Value → H} {W : World}
set_option maxRecDepth 100000 in
theorem open_image {b0 : Nat} {v : Value} {d : DataW H} {p : List MemPlace}
    (hv : Value.okWide Tryd.prog W .any b0 29 v) (h : DataW.Trod enc Tryd.prog W 0 (fun _ => true) true 29 v d p) :
    ∃ (V : IV) (x : Ig), v = .agg (imgC V x.e) ∧ ImAt W V x := by
  have hs := Tryd.underlying29
  have hC : Tryd.prog.cellsOf 29 = 6 := by kernel_rfl
  have c0 : Tryd.prog.cellsOf 26 = 1 := by kernel_rfl
  have c1 : Tryd.prog.cellsOf 27 = 1 := by kernel_rfl
  have cu : Tryd.prog.cellsOf 25 = 1 := by kernel_rfl
  have ci : Tryd.prog.cellsOf 3 = 1 := by kernel_rfl
  obtain ⟨cs, rfl, hsz⟩ := okWide_struct hs hv
  obtain ⟨l⟩ := cs
  match l, hsz.trans hC with
  | [v0, v1, v2, v3, v4, v5], _ =>
    obtain ⟨fuel, hf⟩ := h
    obtain ⟨xs, n, _, hx, _, hlen, hg⟩ := DataW.trod_struct hs hf
    match xs, hlen with
    | [y0, y1, y2, y3, y4, y5], _ =>
      have g0 := hg 0 _ rfl
      have g1 := hg 1 _ rfl
      have g2 := hg 2 _ rfl
      have g3 := hg 3 _ rfl
      have g4 := hg 4 _ rfl
      have g5 := hg 5 _ rfl
      clear hg hf hx hv
      simp [Value.cells, c0, c1, cu] at g0 g1 g2 g3 g4 g5
      have ints : ∀ {t e : TypeId} {k : IntKind} {v : Value} {x : DataW H × List MemPlace}, Tryd.prog.underlying t = some (.slice e) → Tryd.prog.underlying e = some (.int k) → Tryd.prog.cellsOf e = 1 →
          DataW.trod enc Tryd.prog W 0 (fun _ => true) true n t [v] = some x → ∃ xs : List Int, ∃ p c, v = .slice p xs.length c ∧ SlAt W k v xs ∧ (∀ n ∈ xs, (Lit.int k n).wf = true) ∧ xs.length ≤ c ∧ c ≤ maxLen := by
        intro t e k v x ht he hc hh
        rcases open_ints ht he hc hh with ⟨hcs, _⟩ | ⟨a, len, cap, zs, hcs, _, hl, hm, _⟩
        · obtain rfl : v = _ := by simpa using hcs
          obtain ⟨xs, h1, h2, h3⟩ := slat_of_cells ht he hc hh
          obtain ⟨p, c, hv⟩ := h1.len
          simp only [Value.slice.injEq] at hv
          exact ⟨xs, none, 0, by rw [← hv.2.1], h1, h2, by omega, by simp⟩
        · obtain rfl : v = _ := by simpa using hcs
          obtain ⟨xs, h1, h2, h3⟩ := slat_of_cells ht he hc hh
          obtain ⟨p, c, hv⟩ := h1.len
          simp only [Value.slice.injEq] at hv
          exact ⟨xs, some a, cap, by rw [← hv.2.1], h1, h2, by omega, hm⟩
      obtain ⟨e, he, _, we⟩ := DataW.trod_int Tryd.underlying25 g0
      obtain ⟨D, dp, dc, rfl, hD, wD, lD, kD⟩ := ints Tryd.underlying26 Tryd.underlying25 cu g1
      obtain ⟨C, cp, cc, rfl, hC, wC, lC, kC⟩ := ints Tryd.underlying26 Tryd.underlying25 cu g2
      obtain ⟨R, rp, rc, rfl, _, _, lR, kR⟩ := ints Tryd.underlying27 Tryd.underlying3 ci g3
      obtain ⟨P, pp, pc, rfl, _, _, lP, kP⟩ := ints Tryd.underlying27 Tryd.underlying3 ci g4
      obtain ⟨S, sp, sc, rfl, _, _, lS, kS⟩ := ints Tryd.underlying27 Tryd.underlying3 ci g5
      obtain rfl : v0 = .int .u32 e := by simpa using he
      have hb := u32_bd we
      exact ⟨⟨dp, D.length, dc, cp, C.length, cc, rp, R.length, rc, pp, P.length, pc, sp, S.length, sc⟩, ⟨e, D, C⟩, rfl,
        ⟨hD, hC, rfl, rfl, hb.1, by have := hb.2; simp only; omega, fun n hn => by have := u32_bd (wD n hn); omega, fun n hn => by have := u32_bd (wC n hn); omega, ⟨Nat.le_trans lD kD, Nat.le_trans lC kC, Nat.le_trans lR kR, Nat.le_trans lP kP, Nat.le_trans lS kS⟩, ⟨lD, kD, lC, kC⟩⟩⟩
end
end Go.Proofs.YtpkgckjlhjcdmaaDoor

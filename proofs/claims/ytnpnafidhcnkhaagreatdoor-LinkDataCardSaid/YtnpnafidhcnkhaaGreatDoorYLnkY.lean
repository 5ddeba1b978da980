/- The image on plain data: branches that are short are near; each branch, jump and place goes to a start. -/
import Derived.Test.YtnpnafidhcnkhaaGreatDoorYLnk13
namespace Go.Proofs.YtnpnafidhcnkhaaGreatDoor
open Go.RowKit
/-! ### branches as items -/
section
variable {J : Jn}
theorem whP_kl (h : JnOk J) : (whP J).K.length = (whP J).C.length := by rw [whP_Kl h, whP_Cl h]
/-- what is known of objects that link -/
structure PgOk (J : Jn) (K : Nat) : Prop where
  h : JnOk J
  ho : ∀ p ∈ J.ps, PtOk p
  hm : J.ps.any (missB J.M) = false
  hl : J.ps.any (leadB J.M) = false
  e : (lkD J.M nmMainL).i = 2
  r : RndR (itsP (whP J)) K
  g : lngB (whP J) K = false
variable {K : Nat}
abbrev plcP (J : Jn) (K : Nat) : Nat → Int := ldN (whP J) (itR (itsP (whP J)) K)
theorem PgOk.v (P : PgOk J K) : validR (itsP (whP J)) = true := by
  have := P.g; unfold lngB at this
  cases hv : validR (itsP (whP J)) with
  | true => rfl
  | false => rw [hv] at this; cases this
theorem PgOk.bd (P : PgOk J K) : plcP J K (whP J).C.length ≤ 2048 ∧ (whP J).D.length ≤ 2048 := by
  have := P.g; unfold lngB at this
  rw [P.v] at this
  simp at this
  constructor
  · have h1 := this.1; unfold plcP; omega
  · have := this.2; omega
theorem PgOk.inc (P : PgOk J K) : LInc (plcP J K) (whP J).C.length :=
  ⟨(ldN_bd (whP_first P.h P.ho) (whP_kl P.h) P.v (Nat.zero_le _)).1, fun _ _ hjk hk => ldN_lt' (whP_first P.h P.ho) (whP_kl P.h) P.v (whP_sec P.ho P.h) hjk hk⟩
theorem PgOk.q (P : PgOk J K) : ∀ r ∈ (whP J).Q, QOk J r := whP_QQ P.h P.ho P.hm P.hl
theorem PgOk.up (P : PgOk J K) {k : Nat} (hk : k < (whP J).C.length) : 0 ≤ plcP J K k ∧ plcP J K k < 2048 := by
  have h1 := P.inc.i k _ hk (Nat.le_refl _)
  have h2 := P.inc.nn (k := k) (by omega)
  have := P.bd.1
  omega
end
end Go.Proofs.YtnpnafidhcnkhaaGreatDoor
namespace Go.Proofs.YtnpnafidhcnkhaaGreatDoor
open Go.RowKit
section
variable {J : Jn} {K : Nat}
abbrev imgP (J : Jn) (K : Nat) : Im := imP (whP J) J.M (plcP J K)
theorem img_Cl (P : PgOk J K) : ((imgP J K).C.length : Int) = plcP J K (whP J).C.length := by
  have := P.inc.nn (Nat.le_refl _)
  unfold imgP; rw [imP_is]
  simp only [foldcfx_length, imC_length]
  omega
/-- the code at a repair's place -/
theorem code_at (P : PgOk J K) {r : Fx} (hr : r ∈ (whP J).Q) {i : Nat} (h1 : plcP J K r.a.toNat ≤ (i : Int)) (h2 : (i : Int) < plcP J K (r.a.toNat + 1)) : ∃ C' : List Int, (C'.length : Int) = plcP J K (whP J).C.length ∧ (imgP J K).C[i]? = (cfx (whP J) (plcP J K) C' r)[i]? := by
  have hQ : ∀ q ∈ (whP J).Q, q.a.toNat < (whP J).C.length := fun q hq => by obtain ⟨a, ha, hl⟩ := (P.q q hq).a; omega
  obtain ⟨C', _, hl, he⟩ := foldcfx_one (X := whP J) P.inc (C := imC (whP J) (plcP J K) (whP J).C.length) hr (whP_Qne P.h P.ho) hQ h1 h2
  refine ⟨C', by rw [hl, imC_length]; have := P.inc.nn (Nat.le_refl _); omega, ?_⟩
  unfold imgP; rw [imP_is]; exact he
end
end Go.Proofs.YtnpnafidhcnkhaaGreatDoor

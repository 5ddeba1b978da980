/- The document's own Walk: a contract. -/
import Derived.Test.YthjbbkhnfemikaaDoorRWalk3
namespace Go.Proofs.YthjbbkhnfemikaaDoor
open Go.RowKit
section
variable {m b n N : Nat} {xs : List Int} {W : World}
set_option maxRecDepth 100000 in
theorem rwalk_far (root addr : Int) (m : Nat) (W : World) (h : 4096 ≤ addr) (write user : Bool) :
    Calls Tryd.prog 18 #[.pointer (some ⟨m, 0, none⟩), .int .i64 root, .int .u32 addr, .bool write, .bool user] W fun e w' => e = .returned (.tuple #[.int .i64 0, .bool false]) ∧ W.grownBy w' none := by
  have Hr := hid (grown_refl W none)
  go_enter Tryd.func18, Tryd.ntmps18
  go_wp2
  go_ret2
  exact ⟨rfl, Hr.out⟩
theorem may_ways (X U r write user : Bool) : (write = true ∧ X = false) ∨ (write = false ∧ user = true ∧ U = false) ∨ (write = true ∧ X = true ∧ user = true ∧ U = false) ∨ (write = false ∧ user = false ∧ r = false) ∨ (write = false ∧ user = false ∧ r = true) ∨ (write = false ∧ user = true ∧ U = true ∧ r = false) ∨ (write = false ∧ user = true ∧ U = true ∧ r = true) ∨ (write = true ∧ X = true ∧ user = false ∧ r = false) ∨ (write = true ∧ X = true ∧ user = false ∧ r = true) ∨ (write = true ∧ X = true ∧ user = true ∧ U = true ∧ r = false) ∨ (write = true ∧ X = true ∧ user = true ∧ U = true ∧ r = true) := by
  cases X <;> cases U <;> cases r <;> cases write <;> cases user <;> simp
set_option maxRecDepth 100000 in
set_option maxHeartbeats 8000000 in
theorem rwalk_core (h : RefAt W m b N xs) (hN : N = n * 16) (hn2 : n ≤ 1024) (hu : U32s xs) (root addr : Int) (a0 : 0 ≤ addr) (a1 : addr < 4294967296) (write user : Bool) (F : Int) (T X U : Bool)
    (hF : oF (pageO xs n root (addr / 16)) = F) (hT : oT (pageO xs n root (addr / 16)) = T) (hX : oW (pageO xs n root (addr / 16)) = X) (hU : oU (pageO xs n root (addr / 16)) = U) (f0 : 0 ≤ F) (f1 : F < 1024) (r : Bool) (hr : decide (0 ≤ F ∧ F < (n : Int)) = r) :
    Calls Tryd.prog 18 #[.pointer (some ⟨m, 0, none⟩), .int .i64 root, .int .u32 addr, .bool write, .bool user] W fun e w' => e = .returned (.tuple #[.int .i64 (placeV (mayB T X U r write user) F addr), .bool (mayB T X U r write user)]) ∧ W.grownBy w' none := by
  by_cases hfar : 4096 ≤ addr
  · rw [pageO_out (by omega)] at hT
    subst hT
    exact rwalk_far root addr m W hfar write user
  have H := hid h
  have HN := hid hN
  have Hn2 := hid hn2
  have Hu := hid hu
  have HF := hid hF
  have HT := hid hT
  have HX := hid hX
  have HU := hid hU
  have HR : Hid (r = true → ¬ F ≥ (n : Int)) := hid (fun h => by rw [h] at hr; have := of_decide_eq_true hr; omega)
  have HR2 : Hid (r = false → F ≥ (n : Int)) := hid (fun h => by rw [h] at hr; have := of_decide_eq_false hr; omega)
  have q0 : 0 ≤ addr / 16 := by omega
  have q1 : ¬ addr ≥ 4096 := by omega
  clear h hN hn2 hu hr hF hT hX hU hfar
  go_enter Tryd.func18, Tryd.ntmps18
  go_wp2_with fail
  refine (rpage_any H.out HN.out Hn2.out Hu.out _ _ F T X U HF.out HT.out HX.out HU.out).mono ?_; rintro e W1 ⟨rfl, hg⟩
  have HG := hid hg
  have H1 := hid ((H.out.kept0 hg).kept0 (World.grownBy_alloc W1 (.cells #[.int .i64 F, .bool T, .bool X, .bool U] 32) none))
  clear hg
  cases T
  · go_wp2
    go_quiet (fail)
    go_wp2
    go_ret2
    exact ⟨rfl, grown_drewN (grown_alloc HG.out _) _⟩
  · rcases may_ways X U r write user with ⟨rfl, rfl⟩ | ⟨rfl, rfl, rfl⟩ | ⟨rfl, rfl, rfl, rfl⟩ | ⟨rfl, rfl, rfl⟩ | ⟨rfl, rfl, rfl⟩ | ⟨rfl, rfl, rfl, rfl⟩ | ⟨rfl, rfl, rfl, rfl⟩ | ⟨rfl, rfl, rfl, rfl⟩ | ⟨rfl, rfl, rfl, rfl⟩ | ⟨rfl, rfl, rfl, rfl, rfl⟩ | ⟨rfl, rfl, rfl, rfl, rfl⟩
    all_goals
      first
      | (have hge := HR.out rfl; clear HR HR2)
      | (have hge := HR2.out rfl; clear HR HR2)
      | clear HR HR2
      go_wp2
      go_quiet ((first | (go_at_call 27; with_reducible exact (rframes_quiet H1.out HN.out _))))
      go_wp2
      go_ret2
      exact ⟨by first | rfl | simp [mayB, placeV], grown_drewN (grown_alloc HG.out _) _⟩
theorem rwalk_any (h : RefAt W m b N xs) (hN : N = n * 16) (hn2 : n ≤ 1024) (hu : U32s xs) (root addr : Int) (a0 : 0 ≤ addr) (a1 : addr < 4294967296) (write user : Bool) (V : Int) (B : Bool)
    (hB : wayB (pageO xs n root (addr / 16)) n write user = B) (hV : wayV (pageO xs n root (addr / 16)) n addr write user = V) :
    Calls Tryd.prog 18 #[.pointer (some ⟨m, 0, none⟩), .int .i64 root, .int .u32 addr, .bool write, .bool user] W fun e w' => e = .returned (.tuple #[.int .i64 V, .bool B]) ∧ W.grownBy w' none := by
  have hf := oF_bd (xs := xs) (n := (n : Int)) (root := root) (p := addr / 16)
  have := rwalk_core h hN hn2 hu root addr a0 a1 write user _ _ _ _ rfl rfl rfl rfl hf.1 hf.2 _ rfl
  have e : placeV (mayB (oT (pageO xs n root (addr / 16))) (oW (pageO xs n root (addr / 16))) (oU (pageO xs n root (addr / 16))) (decide (0 ≤ oF (pageO xs n root (addr / 16)) ∧ oF (pageO xs n root (addr / 16)) < (n : Int))) write user) (oF (pageO xs n root (addr / 16))) addr = V := by
    rw [← hV, ← wayB_may]; rfl
  rw [e, ← wayB_may, hB] at this
  exact this
end
end Go.Proofs.YthjbbkhnfemikaaDoor

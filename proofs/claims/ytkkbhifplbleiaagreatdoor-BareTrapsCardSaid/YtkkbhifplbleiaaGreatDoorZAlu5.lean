/- Taken (package alu) of any instruction and registers: contracts. -/
import Derived.Test.YtkkbhifplbleiaaGreatDoorZGAluB
namespace Go.Proofs.YtkkbhifplbleiaaGreatDoor
open Go.RowKit
section
variable {op a b c imm : Int} {l : List Int}
set_option maxRecDepth 100000 in
theorem taken_no (W : World) (hi : insB op a b c imm = false) :
    Calls Tryz.prog 143 #[.agg #[.int .i64 op, .int .i64 a, .int .i64 b, .int .i64 c, .int .u32 imm], .agg (wA l)] W fun e w' => e = .returned (.tuple #[.bool false, .bool false]) ∧ W.grownBy w' none := by
  have Hi := hid hi
  clear hi
  go_enter Tryz.func143, Tryz.ntmps143
  go_wp2_with fail
  first | (go_region_with (go_at_call 145; refine (maybe_any _ _ _ _ _ _).mono ?_; rw [Hi.out]; rintro e w1 ⟨rfl, hg⟩)) | fail
  all_goals
    have HG := hid (grown_trans (grown_trans (World.grownBy_alloc W _ none) (World.grownBy_alloc _ _ _)) (grown_trans (grown_drew (grown_refl _ none)) hg))
    clear hg
    go_wp2_with fail
    go_ret2
    exact ⟨rfl, HG.out⟩
set_option maxRecDepth 100000 in
theorem taken_none (W : World) (hi : insB op a b c imm = true) (hj : jmpB op = false) :
    Calls Tryz.prog 143 #[.agg #[.int .i64 op, .int .i64 a, .int .i64 b, .int .i64 c, .int .u32 imm], .agg (wA l)] W fun e w' => e = .returned (.tuple #[.bool false, .bool false]) ∧ W.grownBy w' none := by
  have Hi := hid hi
  have Hj := hid hj
  clear hi hj
  go_enter Tryz.func143, Tryz.ntmps143
  go_wp2_with fail
  go_region_with (first
    | (go_at_call 145; refine (maybe_any _ _ _ _ _ _).mono ?_; rw [Hi.out]; rintro e w1 ⟨rfl, hg⟩; have k0 : w1.cell? ⟨W.heap.size, 0, none⟩ = some (.int .i64 op) := (grown_cell hg (by simp; omega) (by simp)).trans (by simp [go_sem]); have hz : W.heap.size < w1.heap.size := (by have := hg.size; simp at this; omega))
    | (go_at_call 104; refine (tables_any _).mono ?_; rintro e w' ⟨rfl, rfl⟩)
    | (go_at_call 125; refine (jumps_any _ _).mono ?_; rw [Hj.out]; rintro e w' ⟨rfl, rfl⟩))
  all_goals
    have HG := hid (grown_trans (grown_trans (World.grownBy_alloc W _ none) (World.grownBy_alloc _ _ _)) (grown_trans (grown_drew (grown_refl _ none)) hg))
    clear hg
    go_wp2_with fail
    go_ret2
    exact ⟨rfl, grown_alloc (grown_alloc HG.out _) _⟩
set_option maxHeartbeats 4000000 in
set_option maxRecDepth 100000 in
theorem taken_core (W : World) (hl : Regs l) (hi : insB op a b c imm = true) (hj : jmpB op = true) (F : FuncId) (V : Bool)
    (hjump : ∀ W B, StepAt W B op a b c imm l → Calls Tryz.prog 153 #[.pointer (some ⟨B, 0, none⟩)] W fun e w' => e = .returned (.func (.func F) #[.pointer (some ⟨B, 0, none⟩)] #[]) ∧ W.grownBy w' none)
    (hcall : ∀ xs w, (callFunc F xs).run Tryz.prog w = .ok (.enter F xs) w)
    (hmeth : ∀ W B, StepAt W B op a b c imm l → Calls Tryz.prog F #[.pointer (some ⟨B, 0, none⟩)] W (ReadsB W V)) :
    Calls Tryz.prog 143 #[.agg #[.int .i64 op, .int .i64 a, .int .i64 b, .int .i64 c, .int .u32 imm], .agg (wA l)] W fun e w' => e = .returned (.tuple #[.bool V, .bool true]) ∧ W.grownBy w' none := by
  have Hjump := hid hjump
  have Hcall := hid hcall
  have Hmeth := hid hmeth
  have Hi := hid hi
  have Hj := hid hj
  have HL := hid hl
  have Hs := hid hl.info
  have Hn := hid hl.len
  have Hq : Hid ((Tryz.prog.info? 112).map (·.size) = some 5) := hid (by kernel_rfl)
  clear hi hj hjump hcall hmeth hl
  go_enter Tryz.func143, Tryz.ntmps143
  go_wp2_with fail
  go_region_with (first
    | (go_at_call 145; refine (maybe_any _ _ _ _ _ _).mono ?_; rw [Hi.out]; rintro e w1 ⟨rfl, hg⟩; have k0 : w1.cell? ⟨W.heap.size, 0, none⟩ = some (.int .i64 op) := (grown_cell hg (by simp; omega) (by simp)).trans (by simp [go_sem]); have hz : W.heap.size < w1.heap.size := (by have := hg.size; simp at this; omega))
    | (go_at_call 104; refine (tables_any _).mono ?_; rintro e w' ⟨rfl, rfl⟩)
    | (go_at_call 125; refine (jumps_any _ _).mono ?_; rw [Hj.out]; rintro e w' ⟨rfl, rfl⟩))
  all_goals
    have HI : Hid (((w1.alloc (.cells #[] 171)).alloc (.cells #[] 171)).heap[W.heap.size]? = some (.cells #[.int .i64 op, .int .i64 a, .int .i64 b, .int .i64 c, .int .u32 imm] 112 (0, 0))) := hid (((grown_alloc (grown_alloc hg _) _).block _ (by simp; omega) (by simp)).trans ((heap_alloc_old _ _ (by simp)).trans (heap_alloc_last W _)))
    have HR : Hid (RegAt ((w1.alloc (.cells #[] 171)).alloc (.cells #[] 171)) (W.heap.size + 1) l) := hid (((grown_alloc (grown_alloc hg _) _).block _ (by simp) (by simp)).trans (heap_alloc2_new W _ _))
    have HG := hid (grown_alloc (grown_alloc (grown_trans (grown_trans (World.grownBy_alloc W _ none) (World.grownBy_alloc _ _ _)) (grown_trans (grown_drew (grown_refl _ none)) hg)) (.cells #[] 171)) (.cells #[] 171))
    clear hg k0 hz
    generalize (w1.alloc (.cells #[] 171)).alloc (.cells #[] 171) = w2 at HI HR HG ⊢
    go_wp2_with (first
      | (refine wpList_build_step rfl _ _ rfl Hn.out rfl rfl ?_)
      | (refine wpList_load_row rfl 112 _ rfl W.heap.size rfl _ _ _ _ HI.out Tryz.underlying112 rfl Hq.out ?_)
      | (refine wpList_load_row rfl 37 _ rfl (W.heap.size + 1) rfl _ _ _ _ HR.out Tryz.underlying37 rfl Hs.out ?_))
    have HS : Hid (StepAt (w2.alloc (.cells (#[.int .i64 op, .int .i64 a, .int .i64 b, .int .i64 c, .int .u32 imm] ++ wA l) 204)) w2.heap.size op a b c imm l) := hid (heap_alloc_last w2 _)
    refine (Hjump.out _ _ HS.out).mono ?_
    rintro e w3 ⟨rfl, hg⟩
    have HS3 := hid (HS.out.kept0 hg)
    have HG3 := hid (grown_trans HG.out (grown_trans (World.grownBy_alloc w2 _ none) hg))
    clear hg HS HG HI HR
    have hcf := Hcall.out
    clear Hcall
    go_wp2_with fail
    refine (Hmeth.out _ _ HS3.out).mono ?_
    rintro e w4 ⟨rfl, n, rfl⟩
    go_wp2_with fail
    go_ret2
    exact ⟨rfl, grown_drewN HG3.out _⟩
set_option maxRecDepth 100000 in
theorem jump_16 (W : World) (B : Nat) (h : StepAt W B 16 a b c imm l) :
    Calls Tryz.prog 153 #[.pointer (some ⟨B, 0, none⟩)] W fun e w' => e = .returned (.func (.func 175) #[.pointer (some ⟨B, 0, none⟩)] #[]) ∧ W.grownBy w' none := by
  have k0 := h.c0
  clear h
  go_enter Tryz.func153, Tryz.ntmps153
  go_wp2
  go_ret
  exact ⟨rfl, grown_refl _ _⟩
set_option maxRecDepth 100000 in
theorem jump_17 (W : World) (B : Nat) (h : StepAt W B 17 a b c imm l) :
    Calls Tryz.prog 153 #[.pointer (some ⟨B, 0, none⟩)] W fun e w' => e = .returned (.func (.func 173) #[.pointer (some ⟨B, 0, none⟩)] #[]) ∧ W.grownBy w' none := by
  have k0 := h.c0
  clear h
  go_enter Tryz.func153, Tryz.ntmps153
  go_wp2
  go_ret
  exact ⟨rfl, grown_refl _ _⟩
set_option maxRecDepth 100000 in
theorem jump_18 (W : World) (B : Nat) (h : StepAt W B 18 a b c imm l) :
    Calls Tryz.prog 153 #[.pointer (some ⟨B, 0, none⟩)] W fun e w' => e = .returned (.func (.func 174) #[.pointer (some ⟨B, 0, none⟩)] #[]) ∧ W.grownBy w' none := by
  have k0 := h.c0
  clear h
  go_enter Tryz.func153, Tryz.ntmps153
  go_wp2
  go_ret
  exact ⟨rfl, grown_refl _ _⟩
set_option maxRecDepth 100000 in
theorem jump_19 (W : World) (B : Nat) (h : StepAt W B 19 a b c imm l) :
    Calls Tryz.prog 153 #[.pointer (some ⟨B, 0, none⟩)] W fun e w' => e = .returned (.func (.func 175) #[.pointer (some ⟨B, 0, none⟩)] #[]) ∧ W.grownBy w' none := by
  have k0 := h.c0
  clear h
  go_enter Tryz.func153, Tryz.ntmps153
  go_wp2
  go_ret
  exact ⟨rfl, grown_refl _ _⟩
set_option maxRecDepth 100000 in
theorem jump_20 (W : World) (B : Nat) (h : StepAt W B 20 a b c imm l) :
    Calls Tryz.prog 153 #[.pointer (some ⟨B, 0, none⟩)] W fun e w' => e = .returned (.func (.func 173) #[.pointer (some ⟨B, 0, none⟩)] #[]) ∧ W.grownBy w' none := by
  have k0 := h.c0
  clear h
  go_enter Tryz.func153, Tryz.ntmps153
  go_wp2
  go_ret
  exact ⟨rfl, grown_refl _ _⟩
set_option maxRecDepth 100000 in
theorem jump_21 (W : World) (B : Nat) (h : StepAt W B 21 a b c imm l) :
    Calls Tryz.prog 153 #[.pointer (some ⟨B, 0, none⟩)] W fun e w' => e = .returned (.func (.func 174) #[.pointer (some ⟨B, 0, none⟩)] #[]) ∧ W.grownBy w' none := by
  have k0 := h.c0
  clear h
  go_enter Tryz.func153, Tryz.ntmps153
  go_wp2
  go_ret
  exact ⟨rfl, grown_refl _ _⟩
set_option maxRecDepth 100000 in
theorem jump_22 (W : World) (B : Nat) (h : StepAt W B 22 a b c imm l) :
    Calls Tryz.prog 153 #[.pointer (some ⟨B, 0, none⟩)] W fun e w' => e = .returned (.func (.func 175) #[.pointer (some ⟨B, 0, none⟩)] #[]) ∧ W.grownBy w' none := by
  have k0 := h.c0
  clear h
  go_enter Tryz.func153, Tryz.ntmps153
  go_wp2
  go_ret
  exact ⟨rfl, grown_refl _ _⟩
set_option maxRecDepth 100000 in
theorem jump_23 (W : World) (B : Nat) (h : StepAt W B 23 a b c imm l) :
    Calls Tryz.prog 153 #[.pointer (some ⟨B, 0, none⟩)] W fun e w' => e = .returned (.func (.func 175) #[.pointer (some ⟨B, 0, none⟩)] #[]) ∧ W.grownBy w' none := by
  have k0 := h.c0
  clear h
  go_enter Tryz.func153, Tryz.ntmps153
  go_wp2
  go_ret
  exact ⟨rfl, grown_refl _ _⟩
/-- is a jump taken? -/
def goesB (op : Int) (l : List Int) (a : Int) : Bool := if op = 17 ∨ op = 20 then regI l a == 0 else if op = 18 ∨ op = 21 then !(regI l a == 0) else true
/-- may it be asked? -/
def askB (op a b c imm : Int) : Bool := insB op a b c imm && jmpB op
def takenB (op a b c imm : Int) (l : List Int) : Bool := askB op a b c imm && goesB op l a
set_option maxRecDepth 100000 in
theorem taken_any (op a b c imm : Int) {l : List Int} (hl : Regs l) (W : World) :
    Calls Tryz.prog 143 #[.agg #[.int .i64 op, .int .i64 a, .int .i64 b, .int .i64 c, .int .u32 imm], .agg (wA l)] W fun e w' => e = .returned (.tuple #[.bool (takenB op a b c imm l), .bool (askB op a b c imm)]) ∧ W.grownBy w' none := by
  cases hi : insB op a b c imm
  · have h1 : askB op a b c imm = false := by unfold askB; rw [hi]; rfl
    have h2 : takenB op a b c imm l = false := by unfold takenB; rw [h1]; rfl
    rw [h1, h2]
    exact taken_no W hi
  · cases hj : jmpB op
    · have h1 : askB op a b c imm = false := by unfold askB; rw [hi, hj]; rfl
      have h2 : takenB op a b c imm l = false := by unfold takenB; rw [h1]; rfl
      rw [h1, h2]
      exact taken_none W hi hj
    · have h1 : askB op a b c imm = true := by unfold askB; rw [hi, hj]; rfl
      have h2 : takenB op a b c imm l = goesB op l a := by unfold takenB; rw [h1]; rfl
      rw [h1, h2]
      have hj' := hj
      unfold jmpB at hj'
      have hk := of_decide_eq_true hj'
      obtain ⟨_, ha, _, _, _⟩ := ins_parts hi
      clear h1 h2 hj'
      rcases hk with rfl | rfl | rfl | rfl | rfl | rfl | rfl | rfl
      · exact taken_core W hl hi hj 175 _ (fun W B h => jump_16 W B h) (fun xs w => by kernel_rfl) (fun W B h => always_any)
      · obtain ⟨a0, a1⟩ := alw_reg1 (by decide) ha
        exact taken_core W hl hi hj 173 _ (fun W B h => jump_17 W B h) (fun xs w => by kernel_rfl) (fun W B h => zero_any h hl a0 a1)
      · obtain ⟨a0, a1⟩ := alw_reg1 (by decide) ha
        exact taken_core W hl hi hj 174 _ (fun W B h => jump_18 W B h) (fun xs w => by kernel_rfl) (fun W B h => notZero_any h hl a0 a1)
      · exact taken_core W hl hi hj 175 _ (fun W B h => jump_19 W B h) (fun xs w => by kernel_rfl) (fun W B h => always_any)
      · obtain ⟨a0, a1⟩ := alw_reg1 (by decide) ha
        exact taken_core W hl hi hj 173 _ (fun W B h => jump_20 W B h) (fun xs w => by kernel_rfl) (fun W B h => zero_any h hl a0 a1)
      · obtain ⟨a0, a1⟩ := alw_reg1 (by decide) ha
        exact taken_core W hl hi hj 174 _ (fun W B h => jump_21 W B h) (fun xs w => by kernel_rfl) (fun W B h => notZero_any h hl a0 a1)
      · exact taken_core W hl hi hj 175 _ (fun W B h => jump_22 W B h) (fun xs w => by kernel_rfl) (fun W B h => always_any)
      · exact taken_core W hl hi hj 175 _ (fun W B h => jump_23 W B h) (fun xs w => by kernel_rfl) (fun W B h => always_any)
set_option maxRecDepth 100000 in
theorem taken_of (op a b c imm : Int) {l : List Int} (hl : Regs l) (b1 b2 : Bool) (h1 : takenB op a b c imm l = b1) (h2 : askB op a b c imm = b2) (W : World) :
    Calls Tryz.prog 143 #[.agg #[.int .i64 op, .int .i64 a, .int .i64 b, .int .i64 c, .int .u32 imm], .agg (wA l)] W fun e w' => e = .returned (.tuple #[.bool b1, .bool b2]) ∧ W.grownBy w' none := by
  subst h1; subst h2
  exact taken_any op a b c imm hl W
end
end Go.Proofs.YtkkbhifplbleiaaGreatDoor

/- An object of lines (facademake.Object), any lines, with labels and symbols: contract. (Made by gomkx.py.) -/
import Derived.Test.YtnpnafidhcnkhaaGreatDoorYLnk17
import Derived.Test.YtnpnafidhcnkhaaGreatDoorYOOwn0
import Derived.Deep.AppendLies
namespace Go.Proofs.YtnpnafidhcnkhaaGreatDoor
open Go.RowKit
theorem grown_setRx (w : World) (R : Nat) (c : Array Value) : w.grownBy (w.setRow R c) (some R) := ⟨rfl, rfl, rfl, by simp [World.setRow], fun i _ hi => setRow_other w R i c (fun e => hi (by rw [e]))⟩
theorem own_oneX {w : World} {base z n : Nat} {e : TypeId} {v : Value} {xs : List Value} (h : w.ownsRow base e z v n xs) : v.oneCell' = true := by
  obtain ⟨p, c, rfl⟩ := own_slice h
  rfl
theorem own_rwx {w : World} {base z g : Nat} {t : TypeId} {xs : List Value} (h : w.ownsRow base t z (.slice (some ⟨g, 0, none⟩) 1 1) 1 xs) : RwAt w g t xs.toArray := by
  rcases h.2 with ⟨h', _⟩ | ⟨g', cap, cur, h', _, hb, _, _, hs, ht⟩
  · simp at h'
  · simp only [Value.slice.injEq, Option.some.injEq, Addr.mk.injEq, and_true, true_and] at h'
    obtain ⟨rfl, rfl⟩ := h'
    refine ⟨?_⟩
    have e : xs.toArray = cur := by
      rw [← ht, List.take_of_length_le (by rw [Array.length_toList, hs]; exact Nat.le_refl _)]
    rw [e]; exact hb
/-- is it an append? -/
theorem is_app {ops : Array Oper} {rest : List Oper} {o : Oper} {a : Act} {w : World} {Q : Exit → Act → World → Prop} (s x : Operand) (t : TypeId) (_ : o.op = .call { callee := .builtin .append, args := #[s, x], argTypes := #[t, t] }) (h : wpList Tryz.prog ops Q (o :: rest) a w) : wpList Tryz.prog ops Q (o :: rest) a w := h
theorem zero_lnx (w : World) : (zeroValue 31).run Tryz.prog w = .ok (.agg #[.int .i64 0, .int .i64 0, .int .i64 0, .int .i64 0, .int .u32 0, .string ⟨#[]⟩, .string ⟨#[]⟩, .bool false]) w := by kernel_rfl
theorem build_relx (a k s : Int) (w : World) : (Instr.build 65 #[(0, .int .i64 a), (1, .int .i64 k), (2, .int .i64 s)]).run Tryz.prog w = .ok (.agg #[.int .i64 a, .int .i64 k, .int .i64 s, .int .i64 0]) w := by kernel_rfl
theorem build_symx (n : ByteArray) (v : Int) (w : World) : (Instr.build 63 #[(0, .string n), (1, .int .i64 2), (2, .int .i64 v), (3, .bool true)]).run Tryz.prog w = .ok (.agg #[.string n, .int .i64 2, .int .i64 v, .bool true]) w := by kernel_rfl
theorem info_u32x : ∃ i : TypeInfo, Tryz.prog.info? 27 = some i ∧ i.zero = some (.int .u32 0) ∧ i.size = 1 ∧ i.bytes = 4 := info_parts (P := Tryz.prog) (e := 27) (z := .int .u32 0) (size := 1) (bytes := 4) (by kernel_rfl)
theorem info_u8x : ∃ i : TypeInfo, Tryz.prog.info? 5 = some i ∧ i.zero = some (.int .u8 0) ∧ i.size = 1 ∧ i.bytes = 1 := info_parts (P := Tryz.prog) (e := 5) (z := .int .u8 0) (size := 1) (bytes := 1) (by kernel_rfl)
theorem info_relx : ∃ i : TypeInfo, Tryz.prog.info? 65 = some i ∧ i.zero = some (.agg #[.int .i64 0, .int .i64 0, .int .i64 0, .int .i64 0]) ∧ i.size = 4 ∧ i.bytes = 32 := info_parts (P := Tryz.prog) (e := 65) (z := .agg #[.int .i64 0, .int .i64 0, .int .i64 0, .int .i64 0]) (size := 4) (bytes := 32) (by kernel_rfl)
section
variable {w0 w w1 : World} {base H X : Nat} {R : List Ro} {V : OV} {x : PO} {l : Lx}
theorem OgB.addC (h : OgB w0 w base H R V x) {v' : Value} (y : Int) (ho : w1.ownsRow base 27 1 v' (x.C.length + 1) (x.C.map (Value.int .u32) ++ [.int .u32 y])) (hg : w.grownBy w1 V.c.ownBlock) (hat : v'.ownBlock = V.c.ownBlock ∨ v'.ownBlock = some w.heap.size) :
    OgB w0 (w1.setCell ⟨H, 1, none⟩ v') base H R ⟨V.d, v', V.m, V.r, V.q, V.s⟩ ⟨x.D, x.C ++ [y], x.M, x.R, x.Q, x.S⟩ := by
  have := RosB.step (k := 1) (n' := x.C.length + 1) h rfl ho hg hat
  have e : (obRo V x).set 1 ⟨v', 27, 1, x.C.length + 1, x.C.map (Value.int .u32) ++ [.int .u32 y]⟩ = obRo ⟨V.d, v', V.m, V.r, V.q, V.s⟩ ⟨x.D, x.C ++ [y], x.M, x.R, x.Q, x.S⟩ := by simp [obRo]
  rw [e] at this
  exact this
theorem OgB.addM (h : OgB w0 w base H R V x) {v' : Value} (y : Int) (ho : w1.ownsRow base 5 1 v' (x.M.length + 1) (x.M.map (Value.int .u8) ++ [.int .u8 y])) (hg : w.grownBy w1 V.m.ownBlock) (hat : v'.ownBlock = V.m.ownBlock ∨ v'.ownBlock = some w.heap.size) :
    OgB w0 (w1.setCell ⟨H, 2, none⟩ v') base H R ⟨V.d, V.c, v', V.r, V.q, V.s⟩ ⟨x.D, x.C, x.M ++ [y], x.R, x.Q, x.S⟩ := by
  have := RosB.step (k := 2) (n' := x.M.length + 1) h rfl ho hg hat
  have e : (obRo V x).set 2 ⟨v', 5, 1, x.M.length + 1, x.M.map (Value.int .u8) ++ [.int .u8 y]⟩ = obRo ⟨V.d, V.c, v', V.r, V.q, V.s⟩ ⟨x.D, x.C, x.M ++ [y], x.R, x.Q, x.S⟩ := by simp [obRo]
  rw [e] at this
  exact this
theorem OgB.addQ (h : OgB w0 w base H R V x) {v' : Value} (y : Rl) (ho : w1.ownsRow base 65 4 v' (x.Q.length + 1) (rlsC x.Q ++ rlC y)) (hg : w.grownBy w1 V.q.ownBlock) (hat : v'.ownBlock = V.q.ownBlock ∨ v'.ownBlock = some w.heap.size) :
    OgB w0 (w1.setCell ⟨H, 4, none⟩ v') base H R ⟨V.d, V.c, V.m, V.r, v', V.s⟩ ⟨x.D, x.C, x.M, x.R, x.Q ++ [y], x.S⟩ := by
  have := RosB.step (k := 4) (n' := x.Q.length + 1) h rfl ho hg hat
  have e : (obRo V x).set 4 ⟨v', 65, 4, x.Q.length + 1, rlsC x.Q ++ rlC y⟩ = obRo ⟨V.d, V.c, V.m, V.r, v', V.s⟩ ⟨x.D, x.C, x.M, x.R, x.Q ++ [y], x.S⟩ := by simp [obRo, rlsC_append, rlsC]
  rw [e] at this
  exact this
theorem sysC_put : ∀ (S : List Sy) (k : Nat) (s : Sy), k < S.length → ((((sysC S).set (k * 4) (.string s.n)).set (k * 4 + 1) (.int .i64 s.i)).set (k * 4 + 2) (.int .i64 s.v)).set (k * 4 + 3) (.bool s.g) = sysC (S.set k s)
  | [], _, _, h => by simp at h
  | a :: S, 0, s, _ => rfl
  | a :: S, k + 1, s, h => by
    rw [List.set_cons_succ, sysC, sysC, ← sysC_put S k s (by simpa using h), show (k + 1) * 4 = k * 4 + 1 + 1 + 1 + 1 by omega]
    rfl
theorem OgB.setSy {d c m r q : Value} {g n cs k : Nat} (h : OgB w0 w base H R ⟨d, c, m, r, q, .slice (some ⟨g, 0, none⟩) n cs⟩ x) (hn : x.S.length = n) (hk : k < n) (s : Sy) :
    OgB w0 ((((w.setCell ⟨g, k * 4, none⟩ (.string s.n)).setCell ⟨g, k * 4 + 1, none⟩ (.int .i64 s.i)).setCell ⟨g, k * 4 + 2, none⟩ (.int .i64 s.v)).setCell ⟨g, k * 4 + 3, none⟩ (.bool s.g)) base H R ⟨d, c, m, r, q, .slice (some ⟨g, 0, none⟩) n cs⟩ ⟨x.D, x.C, x.M, x.R, x.Q, x.S.set k s⟩ := by
  subst hn
  have h1 := RosB.store (k := 5) h rfl (k * 4) (.string s.n)
  have h2 := RosB.store (k := 5) h1 rfl (k * 4 + 1) (.int .i64 s.i)
  have h3 := RosB.store (k := 5) h2 rfl (k * 4 + 2) (.int .i64 s.v)
  have h4 := RosB.store (k := 5) h3 rfl (k * 4 + 3) (.bool s.g)
  have e : ((((obRo ⟨d, c, m, r, q, .slice (some ⟨g, 0, none⟩) x.S.length cs⟩ x).set 5 ⟨.slice (some ⟨g, 0, none⟩) x.S.length cs, 63, 4, x.S.length, (sysC x.S).set (k * 4) (.string s.n)⟩).set 5 ⟨.slice (some ⟨g, 0, none⟩) x.S.length cs, 63, 4, x.S.length, ((sysC x.S).set (k * 4) (.string s.n)).set (k * 4 + 1) (.int .i64 s.i)⟩).set 5 ⟨.slice (some ⟨g, 0, none⟩) x.S.length cs, 63, 4, x.S.length, (((sysC x.S).set (k * 4) (.string s.n)).set (k * 4 + 1) (.int .i64 s.i)).set (k * 4 + 2) (.int .i64 s.v)⟩).set 5 ⟨.slice (some ⟨g, 0, none⟩) x.S.length cs, 63, 4, x.S.length, ((((sysC x.S).set (k * 4) (.string s.n)).set (k * 4 + 1) (.int .i64 s.i)).set (k * 4 + 2) (.int .i64 s.v)).set (k * 4 + 3) (.bool s.g)⟩ = obRo ⟨d, c, m, r, q, .slice (some ⟨g, 0, none⟩) x.S.length cs⟩ ⟨x.D, x.C, x.M, x.R, x.Q, x.S.set k s⟩ := by
    rw [sysC_put x.S k s hk]
    simp [obRo]
  rw [e] at h4
  exact h4
theorem OgB.cell (h : OgB w0 w base H R V x) : RwAt w H 41 #[V.d, V.c, V.m, V.r, V.q, V.s] := h.row
/-- a cell of the line that is at hand -/
theorem OgB.ln (h : OgB w0 w base H (⟨.slice (some ⟨X, 0, none⟩) 1 1, 31, 8, 1, lxC l⟩ :: R) V x) (j : Nat) {v : Value} (hj : (lxC l)[j]? = some v) : w.cell? ⟨X, j, none⟩ = some v := RosB.rdc h List.mem_cons_self j hj
theorem OgB.drop (h : OgB w0 w base H (⟨.slice (some ⟨X, 0, none⟩) 1 1, 31, 8, 1, lxC l⟩ :: R) V x) : OgB w0 w base H R V x := RosB.drop h (fun _r hr => List.mem_cons_of_mem _ hr)
theorem OgB.cR (h : OgB w0 w base H R V x) : w.ownsRow base 27 1 V.c x.C.length (x.C.map (Value.int .u32)) := RosB.at_ (k := 1) h rfl
theorem OgB.mR (h : OgB w0 w base H R V x) : w.ownsRow base 5 1 V.m x.M.length (x.M.map (Value.int .u8)) := RosB.at_ (k := 2) h rfl
theorem OgB.qR (h : OgB w0 w base H R V x) : w.ownsRow base 65 4 V.q x.Q.length (rlsC x.Q) := RosB.at_ (k := 4) h rfl
/-- the object begins -/
theorem OgB.start {v : Value} {D : List Int} (h : w0.grownBy w none) (hb : base = w0.heap.size) (ho : w.ownsRow base 27 1 v D.length (D.map (Value.int .u32))) (hr : ∀ r ∈ R, w.ownsRow base r.e r.z r.v r.n r.xs) (hv : ∀ r ∈ R, ∀ g, v.ownBlock = some g → r.v.ownBlock ≠ some g) :
    OgB w0 (w.alloc (.cells #[v, .slice none 0 0, .slice none 0 0, .slice none 0 0, .slice none 0 0, .slice none 0 0] 41)) base w.heap.size R ⟨v, .slice none 0 0, .slice none 0 0, .slice none 0 0, .slice none 0 0, .slice none 0 0⟩ (poX D) := by
  subst hb
  have al := World.grownBy_alloc w (.cells #[v, .slice none 0 0, .slice none 0 0, .slice none 0 0, .slice none 0 0, .slice none 0 0] 41) none
  refine ⟨grown_trans h al, Nat.le_refl _, h.size, RwAt.new w _ _, ?_, ?_, ?_, fun r hr' => (hr r hr').kept al (by cases r.v.ownBlock <;> simp), ?_, ?_⟩
  · intro r hr
    simp only [obRo, poX, List.mem_cons, List.not_mem_nil, or_false] at hr
    rcases hr with rfl | rfl | rfl | rfl | rfl | rfl
    · exact ho.kept al (by cases v.ownBlock <;> simp)
    all_goals exact World.ownsRow_nil _ _ _ _
  · intro r hr
    simp only [obRo, poX, List.mem_cons, List.not_mem_nil, or_false] at hr
    rcases hr with rfl | rfl | rfl | rfl | rfl | rfl
    · intro e; have := (ho.lt _ e).2; omega
    all_goals (intro e; cases e)
  · intro i j a b hij ha hb g hga hgb
    have hi := (List.getElem?_eq_some_iff.1 ha).1
    have hj := (List.getElem?_eq_some_iff.1 hb).1
    simp only [obRo, List.length_cons, List.length_nil] at hi hj
    have hi5 : i = 0 ∨ i = 1 ∨ i = 2 ∨ i = 3 ∨ i = 4 ∨ i = 5 := by omega
    have hj5 : j = 0 ∨ j = 1 ∨ j = 2 ∨ j = 3 ∨ j = 4 ∨ j = 5 := by omega
    rcases hi5 with rfl | rfl | rfl | rfl | rfl | rfl <;> rcases hj5 with rfl | rfl | rfl | rfl | rfl | rfl <;> simp [obRo] at ha hb hij <;> subst ha <;> subst hb <;> simp [Value.ownBlock] at hga hgb
  · intro r hr' e; have := ((hr r hr').lt _ e).2; omega
  · intro r hr' a ha g hga
    simp only [obRo, poX, List.mem_cons, List.not_mem_nil, or_false] at ha
    rcases ha with rfl | rfl | rfl | rfl | rfl | rfl
    · exact hv r hr' g hga
    all_goals cases hga
theorem OgB.ownO (h : OgB w0 w base H R V x) : OwnO base w V x := by
  have ap : ∀ (i j : Nat) (a b : Ro), i ≠ j → (obRo V x)[i]? = some a → (obRo V x)[j]? = some b → Ap a.v b.v := by
    intro i j a b hij ha hb
    unfold Ap
    cases hg : a.v.ownBlock with
    | none => exact .inl rfl
    | some g => exact .inr (fun e => h.ap i j a b hij ha hb g hg e.symm)
  exact ⟨RosB.at_ (k := 0) h rfl, RosB.at_ (k := 1) h rfl, RosB.at_ (k := 2) h rfl, RosB.at_ (k := 3) h rfl, RosB.at_ (k := 4) h rfl, RosB.at_ (k := 5) h rfl,
    unpairs (ap 0 1 _ _ (by decide) rfl rfl) (ap 0 2 _ _ (by decide) rfl rfl) (ap 0 3 _ _ (by decide) rfl rfl) (ap 0 4 _ _ (by decide) rfl rfl) (ap 0 5 _ _ (by decide) rfl rfl) (ap 1 2 _ _ (by decide) rfl rfl) (ap 1 3 _ _ (by decide) rfl rfl) (ap 1 4 _ _ (by decide) rfl rfl) (ap 1 5 _ _ (by decide) rfl rfl) (ap 2 3 _ _ (by decide) rfl rfl) (ap 2 4 _ _ (by decide) rfl rfl) (ap 2 5 _ _ (by decide) rfl rfl) (ap 3 4 _ _ (by decide) rfl rfl) (ap 3 5 _ _ (by decide) rfl rfl) (ap 4 5 _ _ (by decide) rfl rfl)⟩
end
theorem neq_empty {n : ByteArray} (h : n ≠ ByteArray.empty) : (∀ W : World, (Op.stringOp .neq n ⟨#[]⟩).run Tryz.prog W = .ok (.bool true) W) ∧ n.toList.isEmpty = false := by
  have h1 : n.toList.isEmpty = false := by
    cases he : n.toList.isEmpty with
    | false => rfl
    | true =>
      rw [List.isEmpty_iff] at he
      exact absurd (toList_iff.1 (he.trans (show [] = ByteArray.empty.toList from (by rw [ByteArray.toList_eq]; rfl)))) h
  refine ⟨fun W => ?_, h1⟩
  have h2 : (n.toList == (⟨#[]⟩ : ByteArray).toList) = false := by
    rw [beq_eq_false_iff_ne]
    intro e
    exact h (toList_iff.1 e)
  unfold Op.stringOp
  simp only [h2]
  rfl
theorem neq_b (n : ByteArray) : ∃ b : Bool, (∀ W : World, (Op.stringOp .neq n ⟨#[]⟩).run Tryz.prog W = .ok (.bool b) W) ∧ (b = false → n = ByteArray.empty) ∧ (b = true → n ≠ ByteArray.empty) ∧ n.toList.isEmpty = !b := by
  by_cases h : n = ByteArray.empty
  · subst h
    exact ⟨false, fun W => by simp [Op.stringOp], fun _ => rfl, (fun h => by cases h), by rw [ByteArray.toList_eq]; rfl⟩
  · exact ⟨true, (neq_empty h).1, (fun h => by cases h), fun _ => h, (neq_empty h).2⟩
theorem neq_none (W : World) : (Op.stringOp .neq ByteArray.empty ⟨#[]⟩).run Tryz.prog W = .ok (.bool false) W := by simp [Op.stringOp]
set_option maxRecDepth 100000 in
set_option maxHeartbeats 64000000 in
theorem mkx_any {W : World} {dv lv : Value} {D : List Int} {ls : List Lx} (hD : D.length ≤ 1000) (hN : ls.length ≤ 2000) (hd : SlAt W .u32 dv D) (hl : CsAt W lv ls.length (csL lxC ls)) :
    Calls Tryz.prog 12 #[dv, lv] W fun e w' => ∃ V, e = .returned V.agg ∧ OwnO W.heap.size w' V (objX D ls) ∧ W.grownBy w' none := by
  obtain ⟨lp, lc, elv⟩ := hl.len
  obtain ⟨N, hNe⟩ : ∃ N, ls.length = N := ⟨_, rfl⟩
  rw [hNe] at hN elv
  subst elv
  have HNe := hid hNe
  have HN := hid hN
  have HD := hid hd
  have HDl := hid hD
  have HL := hid hl
  have n0 : (0 : Int) ≤ (N : Int) := by omega
  have n1 : (N : Int) ≤ 2000 := by omega
  clear hd hl hNe hN hD
  go_enter Tryz.func12, Tryz.ntmps12
  have Hz := zero_obj
  go_upto_region 1 with (fail)
  obtain ⟨R, hR⟩ : ∃ R, W.heap.size = R := ⟨_, rfl⟩
  have hal := World.grownBy_alloc W (.cells #[.slice none 0 0, .slice none 0 0, .slice none 0 0, .slice none 0 0, .slice none 0 0, .slice none 0 0] 41) none
  have HD1 := hid (HD.out.kept0 hal)
  have HG1 := hid hal
  have HE1 : Hid (∀ r ∈ ([⟨.slice (some ⟨R, 0, none⟩) 1 1, 41, 6, 1, (#[.slice none 0 0, .slice none 0 0, .slice none 0 0, .slice none 0 0, .slice none 0 0, .slice none 0 0]).toList⟩] : List Ro), (W.alloc (.cells #[.slice none 0 0, .slice none 0 0, .slice none 0 0, .slice none 0 0, .slice none 0 0, .slice none 0 0] 41)).ownsRow R r.e r.z r.v r.n r.xs) := hid (fun r hr => by
    obtain rfl := List.mem_singleton.1 hr
    have h := World.ownsRow_lit (base := R) (e := 41) (size := 6) W #[.slice none 0 0, .slice none 0 0, .slice none 0 0, .slice none 0 0, .slice none 0 0, .slice none 0 0] 1 (Nat.le_of_eq hR.symm) (by unfold maxLen; omega) rfl
    rw [hR] at h
    exact h)
  have HS1 : Hid ((W.alloc (.cells #[.slice none 0 0, .slice none 0 0, .slice none 0 0, .slice none 0 0, .slice none 0 0, .slice none 0 0] 41)).heap.size = R + 1) := hid (by simp; omega)
  try rw [hR]
  have HRe := hid hR
  clear hR hal
  generalize W.alloc (.cells #[.slice none 0 0, .slice none 0 0, .slice none 0 0, .slice none 0 0, .slice none 0 0, .slice none 0 0] 41) = w1 at HD1 HG1 HE1 HS1 ⊢
  obtain ⟨E, hE⟩ : ∃ E : List Ro, ([⟨.slice (some ⟨R, 0, none⟩) 1 1, 41, 6, 1, (#[.slice none 0 0, .slice none 0 0, .slice none 0 0, .slice none 0 0, .slice none 0 0, .slice none 0 0]).toList⟩] : List Ro) = E := ⟨_, rfl⟩
  have HEe := hid hE
  rw [hE] at HE1
  clear hE
  go_wp2_with fail
  refine (rwords_any HD1.out (by have := HDl.out; omega)).mono ?_
  rintro e w2 ⟨v, rfl, how, hg⟩
  obtain ⟨dp, dc, rfl⟩ := own_slice how
  obtain ⟨nD, hnD⟩ : ∃ n, D.length = n := ⟨_, rfl⟩
  have HP0 := hid (OgB.start (R := E) (D := D) (grown_trans HG1.out hg) HRe.out.symm (own_base how (by have := HS1.out; omega)) (fun r hr => (HE1.out r hr).kept hg (by cases r.v.ownBlock <;> simp)) (fun r hr g hg1 e => by
    rw [← HEe.out] at hr
    obtain rfl := List.mem_singleton.1 hr
    have h1 := (how.lt g hg1).1
    have h2 : R = g := Option.some.inj e
    have := HS1.out
    omega))
  rw [hnD] at HP0 ⊢
  clear how hg hnD HE1 HS1
  go_upto_region 2 with (fail)
  clear Hz
  obtain ⟨H, hH⟩ : ∃ G, w2.heap.size = G := ⟨_, rfl⟩
  rw [hH] at HP0 ⊢
  clear hH
  generalize w2.alloc (.cells #[.slice dp nD dc, .slice none 0 0, .slice none 0 0, .slice none 0 0, .slice none 0 0, .slice none 0 0] 41) = w3 at HP0 ⊢
  have HPs : Hid (∃ V, OgB W w3 R H E V (objX D (ls.take 0))) := hid ⟨_, HP0.out⟩
  clear HP0
  go_wp2
  go_loopw [6] (fun i wr => ∃ k : Nat, k ≤ N ∧ i = .int .i64 k ∧ Hid (∃ V, OgB W wr R H E V (objX D (ls.take k)))) (fun i _ => N - (intOf i).toNat)
  case atStart => exact ⟨0, Nat.zero_le _, rfl, HPs⟩
  case round =>
    obtain ⟨k, hk, rfl, HP⟩ := hrel
    clear HPs
    have k0 : (0 : Int) ≤ (k : Int) := by omega
    by_cases hlt : k < N
    rotate_left
    · obtain rfl : N = k := by omega
      clear hlt
      have hkn : ¬ ((N : Int) < (N : Int)) := by omega
      obtain ⟨⟨d, c, m, r, q, s⟩, hp⟩ := HP.out
      have HPo := hid hp
      rw [List.take_of_length_le (by rw [HNe.out]; exact Nat.le_refl _)] at HPo
      have HRr : Hid (RwAt wr R 41 #[.slice none 0 0, .slice none 0 0, .slice none 0 0, .slice none 0 0, .slice none 0 0, .slice none 0 0]) := hid (own_rwx (z := 6) (xs := (#[.slice none 0 0, .slice none 0 0, .slice none 0 0, .slice none 0 0, .slice none 0 0, .slice none 0 0]).toList) (hp.rd _ (by rw [← HEe.out]; exact List.mem_singleton.2 rfl)))
      have h1 := own_oneX HPo.out.ownO.d
      have h2 := own_oneX HPo.out.ownO.c
      have h3 := own_oneX HPo.out.ownO.m
      have h4 := own_oneX HPo.out.ownO.r
      have h5 := own_oneX HPo.out.ownO.q
      have h6 := own_oneX HPo.out.ownO.s
      have hall : (#[d, c, m, r, q, s] : Array Value).all (·.oneCell') = true := by simp [h1, h2, h3, h4, h5, h6]
      have HB := hid hp.cell
      have EX := hid (HRr.out.row #[d, c, m, r, q, s])
      have HG := hid (grown_setRow hp.g (Nat.le_of_eq HRe.out) #[d, c, m, r, q, s])
      have hne : ∀ a ∈ obRo ⟨d, c, m, r, q, s⟩ (objX D ls), a.v.ownBlock ≠ some R := fun a ha e => HPo.out.ra ⟨.slice (some ⟨R, 0, none⟩) 1 1, 41, 6, 1, (#[.slice none 0 0, .slice none 0 0, .slice none 0 0, .slice none 0 0, .slice none 0 0, .slice none 0 0]).toList⟩ (by rw [← HEe.out]; exact List.mem_singleton.2 rfl) a ha R e rfl
      have HK : Hid (∀ a ∈ obRo ⟨d, c, m, r, q, s⟩ (objX D ls), (wr.setRow R #[d, c, m, r, q, s]).ownsRow R a.e a.z a.v a.n a.xs) := hid (fun a ha => (HPo.out.own a ha).kept (grown_setRx wr R _) (.inr (hne a ha)))
      have HAp := hid HPo.out.ownO.ap
      clear h1 h2 h3 h4 h5 h6 hp HP hne HPo
      go_wp2_with (first
        | (refine wpList_load_rw rfl 41 _ rfl rfl HB.out rfl Tryz.underlying41 info_object ?_)
        | (refine wpList_store_rw rfl 41 _ _ rfl rfl rfl HRr.out info_object rfl hall ?_)
        | fail)
      refine bodyPost_ret (results_cell_row Tryz.results12 _ _ R _ _ _ _ rfl EX.out.blk Tryz.underlying41 rfl info_object) rfl ?_
      refine ⟨⟨d, c, m, r, q, s⟩, rfl, ?_, HG.out⟩
      rw [HRe.out]
      exact ⟨HK.out ⟨d, 27, 1, (objX D ls).D.length, (objX D ls).D.map (Value.int .u32)⟩ (by simp [obRo]), HK.out ⟨c, 27, 1, (objX D ls).C.length, (objX D ls).C.map (Value.int .u32)⟩ (by simp [obRo]), HK.out ⟨m, 5, 1, (objX D ls).M.length, (objX D ls).M.map (Value.int .u8)⟩ (by simp [obRo]), HK.out ⟨r, 65, 4, (objX D ls).R.length, rlsC (objX D ls).R⟩ (by simp [obRo]), HK.out ⟨q, 65, 4, (objX D ls).Q.length, rlsC (objX D ls).Q⟩ (by simp [obRo]), HK.out ⟨s, 63, 4, (objX D ls).S.length, sysC (objX D ls).S⟩ (by simp [obRo]), HAp.out⟩
    · obtain ⟨l, hl⟩ : ∃ l, ls[k]? = some l := ⟨_, List.getElem?_eq_getElem (by rw [HNe.out]; exact hlt)⟩
      obtain ⟨⟨d, c, m, r, q, s⟩, hp⟩ := HP.out
      have hok := objX_ok D ls k (by rw [HNe.out]; omega)
      obtain ⟨⟨XD, XC, XM, XR, XQ, XS⟩, hx⟩ : ∃ x, objX D (ls.take k) = x := ⟨_, rfl⟩
      have Hx := hid hx
      rw [hx] at hp hok
      obtain ⟨oc, om, or, oq, os⟩ := hok
      simp only at oc om or oq os
      obtain ⟨cp, cc, hcv⟩ := own_slice hp.cR
      obtain ⟨mp, mc, hmv⟩ := own_slice hp.mR
      obtain ⟨qp, qc, hqv⟩ := own_slice hp.qR
      simp only at hcv hmv hqv
      obtain ⟨nC, hnC⟩ : ∃ n, XC.length = n := ⟨_, rfl⟩
      obtain ⟨nQ, hnQ⟩ : ∃ n, XQ.length = n := ⟨_, rfl⟩
      rw [om] at hmv
      rw [hnC] at hcv hmv om oc
      rw [hnQ] at hqv oq
      subst hcv hmv hqv
      have HnC := hid hnC
      have HnM := hid om
      have HnQ := hid hnQ
      have HLn : Hid (nC ≤ 4000 ∧ nQ ≤ 2000 ∧ XS.length ≤ 2000) := hid (by have := HN.out; omega)
      obtain ⟨bl, ol, lc', hv, -, hbl, hcl⟩ := (HL.out.kept0 hp.g).at_ (by rw [HNe.out]; omega)
      rw [HNe.out] at hv
      simp only [Value.slice.injEq, true_and] at hv
      obtain ⟨rfl, rfl⟩ := hv
      obtain ⟨lo, la, lb, lcc, lm, lnm, lsy, lt⟩ := l
      have hcell : ∀ i v, i < 8 → (lxC ⟨lo, la, lb, lcc, lm, lnm, lsy, lt⟩)[i]? = some v → wr.cell? ⟨bl, ol + (k * 8 + i), none⟩ = some v := fun i v hi hv => hcl (k * 8 + i) v (by rw [csL_get lxC_length ls k i _ hl hi]; exact hv)
      have c0 : wr.cell? ⟨bl, ol + k * 8, none⟩ = some (.int .i64 lo) := hcell 0 _ (by decide) rfl
      have c1 : wr.cell? ⟨bl, ol + k * 8 + 1, none⟩ = some (.int .i64 la) := hcell 1 _ (by decide) rfl
      have c2 : wr.cell? ⟨bl, ol + k * 8 + 2, none⟩ = some (.int .i64 lb) := hcell 2 _ (by decide) rfl
      have c3 : wr.cell? ⟨bl, ol + k * 8 + 3, none⟩ = some (.int .i64 lcc) := hcell 3 _ (by decide) rfl
      have c4 : wr.cell? ⟨bl, ol + k * 8 + 4, none⟩ = some (.int .u32 lm) := hcell 4 _ (by decide) rfl
      have c5 : wr.cell? ⟨bl, ol + k * 8 + 5, none⟩ = some (.string lnm) := hcell 5 _ (by decide) rfl
      have c6 : wr.cell? ⟨bl, ol + k * 8 + 6, none⟩ = some (.string lsy) := hcell 6 _ (by decide) rfl
      have c7 : wr.cell? ⟨bl, ol + k * 8 + 7, none⟩ = some (.bool lt) := hcell 7 _ (by decide) rfl
      have HO4 : Hid (OgB W (wr.alloc (.cells #[.int .i64 lo, .int .i64 la, .int .i64 lb, .int .i64 lcc, .int .u32 lm, .string lnm, .string lsy, .bool lt] 31)) R H (⟨.slice (some ⟨wr.heap.size, 0, none⟩) 1 1, 31, 8, 1, lxC ⟨lo, la, lb, lcc, lm, lnm, lsy, lt⟩⟩ :: E) ⟨d, .slice cp nC cc, .slice mp nC mc, r, .slice qp nQ qc, s⟩ ⟨XD, XC, XM, XR, XQ, XS⟩) := hid (RosB.box hp #[.int .i64 lo, .int .i64 la, .int .i64 lb, .int .i64 lcc, .int .u32 lm, .string lnm, .string lsy, .bool lt] 31 1 8 (by unfold maxLen; omega) rfl)
      have HXl := hid (RwAt.new wr 31 #[.int .i64 lo, .int .i64 la, .int .i64 lb, .int .i64 lcc, .int .u32 lm, .string lnm, .string lsy, .bool lt])
      have Hl := hid hl
      have Hlt := hid hlt
      have kn : (k : Int) < (N : Int) := by omega
      have nc0 : (0 : Int) ≤ (nC : Int) := by omega
      have nc1 : (nC : Int) ≤ 4000 := by have := HLn.out; omega
      clear hp HP hlt hl hx oc om or oq os hnC hnQ hbl hcl hcell hk
      have Hz := zero_lnx
      go_upto_region 19 with (fail)
      clear c0 c1 c2 c3 c4 c5 c6 c7 Hz
      obtain ⟨X, hX⟩ : ∃ X, wr.heap.size = X := ⟨_, rfl⟩
      rw [hX] at HO4 HXl ⊢
      clear hX
      generalize wr.alloc (.cells #[.int .i64 lo, .int .i64 la, .int .i64 lb, .int .i64 lcc, .int .u32 lm, .string lnm, .string lsy, .bool lt] 31) = w4 at HO4 HXl ⊢
      have HXs := hid (HXl.out)
      clear HXl
      by_cases hnm : lnm = ByteArray.empty
      · subst hnm
        have hne := neq_none
        cases lt with
        | true =>
          have x5 := HO4.out.ln 5 (v := .string ByteArray.empty) rfl
          have x7 := HO4.out.ln 7 (v := .bool true) rfl
          have x6 := HO4.out.ln 6 (v := .string lsy) rfl
          obtain ⟨bs, hbs, hb0, hb1, hbe⟩ := neq_b lsy
          have Hb0 := hid hb0
          have Hb1 := hid hb1
          clear hb0 hb1
          go_upto_if 105 with (fail)
          clear x5 x6 x7 hne hbs hbe
          go_cut [] from 16 to 130 (fun wz => Hid (∃ V Q5 S5, OgB W wz R H (⟨.slice (some ⟨X, 0, none⟩) 1 1, 31, 8, 1, lxC ⟨lo, la, lb, lcc, lm, ByteArray.empty, lsy, true⟩⟩ :: E) V ⟨XD, XC, XM, XR, Q5, S5⟩ ∧ relX ⟨XD, XC, XM, XR, XQ, XS⟩ (nC) (1) lsy = ⟨XD, XC, XM, XR, Q5, S5⟩))
          case first =>
            rename_i hJ0 hJ
            cases bs with
            | false =>
              have Hlz : Hid (lsy = ByteArray.empty) := hid (Hb0.out rfl)
              clear Hb0 Hb1
              go_wp2
              go_meet
              exact hid ⟨_, _, _, HO4.out, by unfold relX; rw [if_pos Hlz.out]⟩
            | true =>
              have Hlz : Hid (lsy ≠ ByteArray.empty) := hid (Hb1.out rfl)
              clear Hb0 Hb1
              go_upto_region 24 with (fail)
              have hg0 : w4.grownBy w4.drew none := grown_drew (grown_refl _ none)
              have HD0 := hid (HO4.out.kept0 hg0)
              obtain ⟨iq, hi, hz0, hz1, hz2⟩ := info_relx
              have Hiq := hid hi
              have Hzq0 := hid hz0
              have Hzq1 := hid hz1
              have Hzq2 := hid hz2
              clear hi hz0 hz1 hz2
              refine wp_region_held_drew (S := fun W => W.cell? ⟨X, 6, none⟩ = some (.string lsy) ∧ W.cell? ⟨H, 1, none⟩ = some (.slice cp nC cc)) (by kernel_rfl) ⟨HD0.out.ln 6 rfl, HD0.out.cell.cell 1 rfl⟩ (fun hS0 => ?_)
              clear hg0 HO4
              generalize w4.drew = wd at HD0 hS0 ⊢
              refine wpAnyH_take (i := 0) (v := ?_) rfl (by kernel_rfl) (by kernel_rfl) (by kernel_rfl) (fun _ _ _ h => h) (Or.inl ⟨by kernel_rfl, ?_⟩) hS0 ?_
              rotate_left
              · (intro W hSw; clear hSw; go_simp; try with_reducible rfl)
              try simp only [Act.put, List.setIfInBounds_toArray, List.set_cons_zero, List.set_cons_succ, List.getElem_toArray, List.getElem_cons_zero]
              refine wpAnyH_take (i := 2) (v := ?_) rfl (by kernel_rfl) (by kernel_rfl) (by kernel_rfl) (fun _ _ _ h => h) (Or.inl ⟨by kernel_rfl, ?_⟩) hS0 ?_
              rotate_left
              · (intro W hSw; clear hSw; go_simp; try with_reducible rfl)
              try simp only [Act.put, List.setIfInBounds_toArray, List.set_cons_zero, List.set_cons_succ, List.getElem_toArray, List.getElem_cons_succ, List.getElem_cons_zero]
              refine wpAnyH_take (i := 3) (v := ?_) rfl (by kernel_rfl) (by kernel_rfl) (by kernel_rfl) (fun _ _ _ h => h) (Or.inl ⟨by kernel_rfl, ?_⟩) hS0 ?_
              rotate_left
              · (intro W hSw; have hc := hSw.2; clear hSw; go_simp; try with_reducible rfl)
              try simp only [Act.put, List.setIfInBounds_toArray, List.set_cons_zero, List.set_cons_succ, List.getElem_toArray, List.getElem_cons_succ, List.getElem_cons_zero]
              refine wpAnyH_take (i := 4) (v := ?_) rfl (by kernel_rfl) (by kernel_rfl) (by kernel_rfl) (fun _ _ _ h => h) (Or.inl ⟨by kernel_rfl, ?_⟩) hS0 ?_
              rotate_left
              · (intro W hSw; clear hSw; go_simp; try with_reducible rfl)
              try simp only [Act.put, List.setIfInBounds_toArray, List.set_cons_zero, List.set_cons_succ, List.getElem_toArray, List.getElem_cons_succ, List.getElem_cons_zero]
              refine wpAnyH_take (i := 5) (v := ?_) rfl (by kernel_rfl) (by kernel_rfl) (by kernel_rfl) (fun _ _ _ h => h) (Or.inl ⟨by kernel_rfl, ?_⟩) hS0 ?_
              rotate_left
              · (intro W hSw; clear hSw; go_simp; try with_reducible rfl)
              try simp only [Act.put, List.setIfInBounds_toArray, List.set_cons_zero, List.set_cons_succ, List.getElem_toArray, List.getElem_cons_succ, List.getElem_cons_zero]
              refine wpAnyH_take (i := 6) (v := ?_) rfl (by kernel_rfl) (by kernel_rfl) (by kernel_rfl) (fun _ _ _ h => h) (Or.inl ⟨by kernel_rfl, ?_⟩) hS0 ?_
              rotate_left
              · (intro W hSw; have hc := hSw.1; clear hSw; go_simp; try with_reducible rfl)
              try simp only [Act.put, List.setIfInBounds_toArray, List.set_cons_zero, List.set_cons_succ, List.getElem_toArray, List.getElem_cons_succ, List.getElem_cons_zero]
              refine wpAnyH_ready (rs := [1, 7]) (by kernel_rfl) (by simp) ?_
              refine AllReadyH.cons rfl (fun KK hKK => ?_) (AllReadyH.cons rfl (fun KK hKK => ?_) (AllReadyH.nil))
              · have hc := HD0.out.cell.cell 4 (v := .slice qp nQ qc) rfl
                go_simp
                refine hKK.out _ _ hS0 (fun _ => ?_)
                clear hKK KK hc
                try simp only [Act.put, List.setIfInBounds_toArray, List.set_cons_zero, List.set_cons_succ, List.getElem_toArray, List.getElem_cons_succ, List.getElem_cons_zero]
                refine wpAnyH_ready (rs := [7]) (by kernel_rfl) (by simp) ?_
                refine AllReadyH.cons rfl (fun KK hKK => ?_) (AllReadyH.nil)
                go_simp
                refine (sym_x HD0.out (by have := HLn.out; simp only; omega) lsy).mono ?_; rintro e' wc ⟨rfl, vs, ho⟩
                obtain ⟨psx, csx, evs⟩ := own_slice ho.sRow
                simp only at evs ho
                subst evs
                obtain ⟨i6, hi6⟩ : ∃ i, syIx XS lsy = i := ⟨_, rfl⟩
                have Hi6 := hid hi6
                rw [hi6]
                have HDc := hid ho
                have hS1 : wc.cell? ⟨X, 6, none⟩ = some (.string lsy) ∧ wc.cell? ⟨H, 1, none⟩ = some (.slice cp nC cc) := ⟨HDc.out.ln 6 rfl, HDc.out.cell.cell 1 rfl⟩
                refine hKK.out _ _ hS1 (fun _ => ?_)
                clear hKK KK hS0 ho hi6
                have hS0 := hS1
                clear hS1 HD0
                have hbr := build_relx
                try simp only [Act.put, List.setIfInBounds_toArray, List.set_cons_zero, List.set_cons_succ, List.getElem_toArray, List.getElem_cons_succ, List.getElem_cons_zero]
                refine wpAnyH_take (i := 8) (v := ?_) rfl (by kernel_rfl) (by kernel_rfl) (by kernel_rfl) (fun _ _ _ h => h) (Or.inl ⟨by kernel_rfl, ?_⟩) hS0 ?_
                rotate_left
                · (intro W hSw; clear hSw; go_simp; try with_reducible rfl)
                try simp only [Act.put, List.setIfInBounds_toArray, List.set_cons_zero, List.set_cons_succ, List.getElem_toArray, List.getElem_cons_succ, List.getElem_cons_zero]
                refine wpAnyH_ready (rs := [9]) (by kernel_rfl) (by simp) ?_
                refine AllReadyH.cons rfl (fun KK hKK => ?_) (AllReadyH.nil)
                have HDm := hid (HDc.out.kept0 (World.grownBy_alloc wc (.cells #[.int .i64 (nC : Int), .int .i64 1, .int .i64 (i6 : Int), .int .i64 0] 65) none))
                have HNq : Hid (∀ j u, (rlC ⟨(nC : Int), 1, (i6 : Int), 0⟩)[j]? = some u → (wc.alloc (.cells #[.int .i64 (nC : Int), .int .i64 1, .int .i64 (i6 : Int), .int .i64 0] 65)).cell? ((⟨wc.heap.size, 0, none⟩ : Addr).add j) = some u) := hid (World.news_of_block (heap_alloc_new wc _))
                have hS1 : (wc.alloc (.cells #[.int .i64 (nC : Int), .int .i64 1, .int .i64 (i6 : Int), .int .i64 0] 65)).cell? ⟨X, 6, none⟩ = some (.string lsy) ∧ (wc.alloc (.cells #[.int .i64 (nC : Int), .int .i64 1, .int .i64 (i6 : Int), .int .i64 0] 65)).cell? ⟨H, 1, none⟩ = some (.slice cp nC cc) := ⟨HDm.out.ln 6 rfl, HDm.out.cell.cell 1 rfl⟩
                go_simp
                refine hKK.out _ _ hS1 (fun _ => ?_)
                clear hKK KK hS0
                have hS0 := hS1
                clear hS1 HDc
                obtain ⟨bq, hbq⟩ : ∃ g, wc.heap.size = g := ⟨_, rfl⟩
                try rw [hbq]
                rw [hbq] at HNq
                clear hbq
                generalize wc.alloc (.cells #[.int .i64 (nC : Int), .int .i64 1, .int .i64 (i6 : Int), .int .i64 0] 65) = wm at HDm HNq hS0 ⊢
                try simp only [Act.put, List.setIfInBounds_toArray, List.set_cons_zero, List.set_cons_succ, List.getElem_toArray, List.getElem_cons_succ, List.getElem_cons_zero]
                refine wpAnyH_ready (rs := [10]) (by kernel_rfl) (by simp) ?_
                refine AllReadyH.cons rfl (fun KK hKK => ?_) AllReadyH.nil
                have HOw := hid HDm.out.qR
                simp only at HOw
                rw [HnQ.out] at HOw
                refine wp_append_any _ _ 38 rfl R 65 iq _ 4 32 Tryz.underlying38 Hiq.out Hzq0.out Hzq1.out Hzq2.out rfl (by decide) _ nQ _ rfl HOw.out _ 1 (rlC ⟨(nC : Int), 1, (i6 : Int), 0⟩) rfl ⟨rfl, by simp [rlC, Value.oneCell'], .inl ⟨⟨bq, 0, none⟩, 1, rfl, HNq.out⟩⟩ (by have := HLn.out; unfold maxLen; omega) (by have := HLn.out; omega) HDm.out.size ?_
                intro v9 w9 hown hg9 hat
                obtain ⟨p9, c9, rfl⟩ := own_slice hown
                obtain ⟨_, a2, _, _, _, a6, _⟩ := RosB.put (k := 4) (r := ⟨.slice qp nQ qc, 65, 4, XQ.length, rlsC XQ⟩) (v' := .slice p9 (nQ + 1) c9) (n' := nQ + 1) HDm.out rfl hown hg9 hat
                have HEq := hid (HDm.out.addQ (v' := .slice p9 (nQ + 1) c9) ⟨(nC : Int), 1, (i6 : Int), 0⟩ (by simp only; rw [HnQ.out]; exact hown) hg9 hat)
                have HC9 := hid a2
                have hl9 : w9.ownsRow R 31 8 (.slice (some ⟨X, 0, none⟩) 1 1) 1 (lxC ⟨lo, la, lb, lcc, lm, ByteArray.empty, lsy, true⟩) := a6 _ List.mem_cons_self
                have hS1 : w9.cell? ⟨X, 6, none⟩ = some (.string lsy) ∧ w9.cell? ⟨H, 1, none⟩ = some (.slice cp nC cc) := ⟨(hl9.cellAt 6 (by decide)).trans rfl, HC9.out.cell 1 rfl⟩
                refine hKK.out _ _ hS1 (fun _ => ?_)
                clear hKK KK hS0 hown hg9 hat a2 a6 hl9
                have hS0 := hS1
                clear hS1
                try simp only [Act.put, List.setIfInBounds_toArray, List.set_cons_zero, List.set_cons_succ, List.getElem_toArray, List.getElem_cons_succ, List.getElem_cons_zero]
                refine wpAnyH_take (i := 11) (v := ?_) rfl (by kernel_rfl) (by kernel_rfl) (by kernel_rfl) (fun _ _ _ h => h) (Or.inl ⟨by kernel_rfl, ?_⟩) hS0 ?_
                rotate_left
                · (intro W hSw; clear hSw; go_simp; try with_reducible rfl)
                try simp only [Act.put, List.setIfInBounds_toArray, List.set_cons_zero, List.set_cons_succ, List.getElem_toArray, List.getElem_cons_succ, List.getElem_cons_zero]
                refine wpAnyH_ready (rs := [12]) (by kernel_rfl) (by simp) ?_
                refine AllReadyH.cons rfl (fun KK hKK => ?_) AllReadyH.nil
                have hc9 := HC9.out.cell 4 (v := .slice qp nQ qc) rfl
                have hf9 := HC9.out.free 4
                go_simp
                have hS1 : (w9.setCell ⟨H, 4, none⟩ (.slice p9 (nQ + 1) c9)).cell? ⟨X, 6, none⟩ = some (.string lsy) ∧ (w9.setCell ⟨H, 4, none⟩ (.slice p9 (nQ + 1) c9)).cell? ⟨H, 1, none⟩ = some (.slice cp nC cc) := ⟨HEq.out.ln 6 rfl, HEq.out.cell.cell 1 rfl⟩
                refine hKK.out _ _ hS1 (fun _ => ?_)
                clear hKK KK hS0
                have hS0 := hS1
                clear hS1
                try simp only [Act.put, List.setIfInBounds_toArray, List.set_cons_zero, List.set_cons_succ, List.getElem_toArray, List.getElem_cons_succ, List.getElem_cons_zero]
                clear hc9 hf9 HC9 hS0 HDm
                generalize w9.setCell ⟨H, 4, none⟩ (.slice p9 (nQ + 1) c9) = w10 at HEq ⊢
                refine wpAnyH_done (by kernel_rfl) ?_ _
                refine hJ _ _ (Met.intro (hJ0 _ _ ?_))
                repeat apply Exists.intro
                refine ⟨?_, rfl⟩
                exact hid ⟨_, _, _, HEq.out, by unfold relX; rw [if_neg Hlz.out]; simp only [Hi6.out]⟩
              · go_simp
                refine (sym_x HD0.out (by have := HLn.out; simp only; omega) lsy).mono ?_; rintro e' wc ⟨rfl, vs, ho⟩
                obtain ⟨psx, csx, evs⟩ := own_slice ho.sRow
                simp only at evs ho
                subst evs
                obtain ⟨i6, hi6⟩ : ∃ i, syIx XS lsy = i := ⟨_, rfl⟩
                have Hi6 := hid hi6
                rw [hi6]
                have HDc := hid ho
                have hS1 : wc.cell? ⟨X, 6, none⟩ = some (.string lsy) ∧ wc.cell? ⟨H, 1, none⟩ = some (.slice cp nC cc) := ⟨HDc.out.ln 6 rfl, HDc.out.cell.cell 1 rfl⟩
                refine hKK.out _ _ hS1 (fun _ => ?_)
                clear hKK KK hS0 ho hi6
                have hS0 := hS1
                clear hS1 HD0
                have hbr := build_relx
                try simp only [Act.put, List.setIfInBounds_toArray, List.set_cons_zero, List.set_cons_succ, List.getElem_toArray, List.getElem_cons_succ, List.getElem_cons_zero]
                refine wpAnyH_take (i := 8) (v := ?_) rfl (by kernel_rfl) (by kernel_rfl) (by kernel_rfl) (fun _ _ _ h => h) (Or.inl ⟨by kernel_rfl, ?_⟩) hS0 ?_
                rotate_left
                · (intro W hSw; clear hSw; go_simp; try with_reducible rfl)
                try simp only [Act.put, List.setIfInBounds_toArray, List.set_cons_zero, List.set_cons_succ, List.getElem_toArray, List.getElem_cons_succ, List.getElem_cons_zero]
                refine wpAnyH_ready (rs := [1, 9]) (by kernel_rfl) (by simp) ?_
                refine AllReadyH.cons rfl (fun KK hKK => ?_) (AllReadyH.cons rfl (fun KK hKK => ?_) (AllReadyH.nil))
                · have hc := HDc.out.cell.cell 4 (v := .slice qp nQ qc) rfl
                  go_simp
                  refine hKK.out _ _ hS0 (fun _ => ?_)
                  clear hKK KK hc
                  try simp only [Act.put, List.setIfInBounds_toArray, List.set_cons_zero, List.set_cons_succ, List.getElem_toArray, List.getElem_cons_succ, List.getElem_cons_zero]
                  refine wpAnyH_ready (rs := [9]) (by kernel_rfl) (by simp) ?_
                  refine AllReadyH.cons rfl (fun KK hKK => ?_) (AllReadyH.nil)
                  have HDm := hid (HDc.out.kept0 (World.grownBy_alloc wc (.cells #[.int .i64 (nC : Int), .int .i64 1, .int .i64 (i6 : Int), .int .i64 0] 65) none))
                  have HNq : Hid (∀ j u, (rlC ⟨(nC : Int), 1, (i6 : Int), 0⟩)[j]? = some u → (wc.alloc (.cells #[.int .i64 (nC : Int), .int .i64 1, .int .i64 (i6 : Int), .int .i64 0] 65)).cell? ((⟨wc.heap.size, 0, none⟩ : Addr).add j) = some u) := hid (World.news_of_block (heap_alloc_new wc _))
                  have hS1 : (wc.alloc (.cells #[.int .i64 (nC : Int), .int .i64 1, .int .i64 (i6 : Int), .int .i64 0] 65)).cell? ⟨X, 6, none⟩ = some (.string lsy) ∧ (wc.alloc (.cells #[.int .i64 (nC : Int), .int .i64 1, .int .i64 (i6 : Int), .int .i64 0] 65)).cell? ⟨H, 1, none⟩ = some (.slice cp nC cc) := ⟨HDm.out.ln 6 rfl, HDm.out.cell.cell 1 rfl⟩
                  go_simp
                  refine hKK.out _ _ hS1 (fun _ => ?_)
                  clear hKK KK hS0
                  have hS0 := hS1
                  clear hS1 HDc
                  obtain ⟨bq, hbq⟩ : ∃ g, wc.heap.size = g := ⟨_, rfl⟩
                  try rw [hbq]
                  rw [hbq] at HNq
                  clear hbq
                  generalize wc.alloc (.cells #[.int .i64 (nC : Int), .int .i64 1, .int .i64 (i6 : Int), .int .i64 0] 65) = wm at HDm HNq hS0 ⊢
                  try simp only [Act.put, List.setIfInBounds_toArray, List.set_cons_zero, List.set_cons_succ, List.getElem_toArray, List.getElem_cons_succ, List.getElem_cons_zero]
                  refine wpAnyH_ready (rs := [10]) (by kernel_rfl) (by simp) ?_
                  refine AllReadyH.cons rfl (fun KK hKK => ?_) AllReadyH.nil
                  have HOw := hid HDm.out.qR
                  simp only at HOw
                  rw [HnQ.out] at HOw
                  refine wp_append_any _ _ 38 rfl R 65 iq _ 4 32 Tryz.underlying38 Hiq.out Hzq0.out Hzq1.out Hzq2.out rfl (by decide) _ nQ _ rfl HOw.out _ 1 (rlC ⟨(nC : Int), 1, (i6 : Int), 0⟩) rfl ⟨rfl, by simp [rlC, Value.oneCell'], .inl ⟨⟨bq, 0, none⟩, 1, rfl, HNq.out⟩⟩ (by have := HLn.out; unfold maxLen; omega) (by have := HLn.out; omega) HDm.out.size ?_
                  intro v9 w9 hown hg9 hat
                  obtain ⟨p9, c9, rfl⟩ := own_slice hown
                  obtain ⟨_, a2, _, _, _, a6, _⟩ := RosB.put (k := 4) (r := ⟨.slice qp nQ qc, 65, 4, XQ.length, rlsC XQ⟩) (v' := .slice p9 (nQ + 1) c9) (n' := nQ + 1) HDm.out rfl hown hg9 hat
                  have HEq := hid (HDm.out.addQ (v' := .slice p9 (nQ + 1) c9) ⟨(nC : Int), 1, (i6 : Int), 0⟩ (by simp only; rw [HnQ.out]; exact hown) hg9 hat)
                  have HC9 := hid a2
                  have hl9 : w9.ownsRow R 31 8 (.slice (some ⟨X, 0, none⟩) 1 1) 1 (lxC ⟨lo, la, lb, lcc, lm, ByteArray.empty, lsy, true⟩) := a6 _ List.mem_cons_self
                  have hS1 : w9.cell? ⟨X, 6, none⟩ = some (.string lsy) ∧ w9.cell? ⟨H, 1, none⟩ = some (.slice cp nC cc) := ⟨(hl9.cellAt 6 (by decide)).trans rfl, HC9.out.cell 1 rfl⟩
                  refine hKK.out _ _ hS1 (fun _ => ?_)
                  clear hKK KK hS0 hown hg9 hat a2 a6 hl9
                  have hS0 := hS1
                  clear hS1
                  try simp only [Act.put, List.setIfInBounds_toArray, List.set_cons_zero, List.set_cons_succ, List.getElem_toArray, List.getElem_cons_succ, List.getElem_cons_zero]
                  refine wpAnyH_take (i := 11) (v := ?_) rfl (by kernel_rfl) (by kernel_rfl) (by kernel_rfl) (fun _ _ _ h => h) (Or.inl ⟨by kernel_rfl, ?_⟩) hS0 ?_
                  rotate_left
                  · (intro W hSw; clear hSw; go_simp; try with_reducible rfl)
                  try simp only [Act.put, List.setIfInBounds_toArray, List.set_cons_zero, List.set_cons_succ, List.getElem_toArray, List.getElem_cons_succ, List.getElem_cons_zero]
                  refine wpAnyH_ready (rs := [12]) (by kernel_rfl) (by simp) ?_
                  refine AllReadyH.cons rfl (fun KK hKK => ?_) AllReadyH.nil
                  have hc9 := HC9.out.cell 4 (v := .slice qp nQ qc) rfl
                  have hf9 := HC9.out.free 4
                  go_simp
                  have hS1 : (w9.setCell ⟨H, 4, none⟩ (.slice p9 (nQ + 1) c9)).cell? ⟨X, 6, none⟩ = some (.string lsy) ∧ (w9.setCell ⟨H, 4, none⟩ (.slice p9 (nQ + 1) c9)).cell? ⟨H, 1, none⟩ = some (.slice cp nC cc) := ⟨HEq.out.ln 6 rfl, HEq.out.cell.cell 1 rfl⟩
                  refine hKK.out _ _ hS1 (fun _ => ?_)
                  clear hKK KK hS0
                  have hS0 := hS1
                  clear hS1
                  try simp only [Act.put, List.setIfInBounds_toArray, List.set_cons_zero, List.set_cons_succ, List.getElem_toArray, List.getElem_cons_succ, List.getElem_cons_zero]
                  clear hc9 hf9 HC9 hS0 HDm
                  generalize w9.setCell ⟨H, 4, none⟩ (.slice p9 (nQ + 1) c9) = w10 at HEq ⊢
                  refine wpAnyH_done (by kernel_rfl) ?_ _
                  refine hJ _ _ (Met.intro (hJ0 _ _ ?_))
                  repeat apply Exists.intro
                  refine ⟨?_, rfl⟩
                  exact hid ⟨_, _, _, HEq.out, by unfold relX; rw [if_neg Hlz.out]; simp only [Hi6.out]⟩
                · have HDm := hid (HDc.out.kept0 (World.grownBy_alloc wc (.cells #[.int .i64 (nC : Int), .int .i64 1, .int .i64 (i6 : Int), .int .i64 0] 65) none))
                  have HNq : Hid (∀ j u, (rlC ⟨(nC : Int), 1, (i6 : Int), 0⟩)[j]? = some u → (wc.alloc (.cells #[.int .i64 (nC : Int), .int .i64 1, .int .i64 (i6 : Int), .int .i64 0] 65)).cell? ((⟨wc.heap.size, 0, none⟩ : Addr).add j) = some u) := hid (World.news_of_block (heap_alloc_new wc _))
                  have hS1 : (wc.alloc (.cells #[.int .i64 (nC : Int), .int .i64 1, .int .i64 (i6 : Int), .int .i64 0] 65)).cell? ⟨X, 6, none⟩ = some (.string lsy) ∧ (wc.alloc (.cells #[.int .i64 (nC : Int), .int .i64 1, .int .i64 (i6 : Int), .int .i64 0] 65)).cell? ⟨H, 1, none⟩ = some (.slice cp nC cc) := ⟨HDm.out.ln 6 rfl, HDm.out.cell.cell 1 rfl⟩
                  go_simp
                  refine hKK.out _ _ hS1 (fun _ => ?_)
                  clear hKK KK hS0
                  have hS0 := hS1
                  clear hS1 HDc
                  obtain ⟨bq, hbq⟩ : ∃ g, wc.heap.size = g := ⟨_, rfl⟩
                  try rw [hbq]
                  rw [hbq] at HNq
                  clear hbq
                  generalize wc.alloc (.cells #[.int .i64 (nC : Int), .int .i64 1, .int .i64 (i6 : Int), .int .i64 0] 65) = wm at HDm HNq hS0 ⊢
                  try simp only [Act.put, List.setIfInBounds_toArray, List.set_cons_zero, List.set_cons_succ, List.getElem_toArray, List.getElem_cons_succ, List.getElem_cons_zero]
                  refine wpAnyH_ready (rs := [1]) (by kernel_rfl) (by simp) ?_
                  refine AllReadyH.cons rfl (fun KK hKK => ?_) (AllReadyH.nil)
                  have hc := HDm.out.cell.cell 4 (v := .slice qp nQ qc) rfl
                  go_simp
                  refine hKK.out _ _ hS0 (fun _ => ?_)
                  clear hKK KK hc
                  try simp only [Act.put, List.setIfInBounds_toArray, List.set_cons_zero, List.set_cons_succ, List.getElem_toArray, List.getElem_cons_succ, List.getElem_cons_zero]
                  refine wpAnyH_ready (rs := [10]) (by kernel_rfl) (by simp) ?_
                  refine AllReadyH.cons rfl (fun KK hKK => ?_) AllReadyH.nil
                  have HOw := hid HDm.out.qR
                  simp only at HOw
                  rw [HnQ.out] at HOw
                  refine wp_append_any _ _ 38 rfl R 65 iq _ 4 32 Tryz.underlying38 Hiq.out Hzq0.out Hzq1.out Hzq2.out rfl (by decide) _ nQ _ rfl HOw.out _ 1 (rlC ⟨(nC : Int), 1, (i6 : Int), 0⟩) rfl ⟨rfl, by simp [rlC, Value.oneCell'], .inl ⟨⟨bq, 0, none⟩, 1, rfl, HNq.out⟩⟩ (by have := HLn.out; unfold maxLen; omega) (by have := HLn.out; omega) HDm.out.size ?_
                  intro v9 w9 hown hg9 hat
                  obtain ⟨p9, c9, rfl⟩ := own_slice hown
                  obtain ⟨_, a2, _, _, _, a6, _⟩ := RosB.put (k := 4) (r := ⟨.slice qp nQ qc, 65, 4, XQ.length, rlsC XQ⟩) (v' := .slice p9 (nQ + 1) c9) (n' := nQ + 1) HDm.out rfl hown hg9 hat
                  have HEq := hid (HDm.out.addQ (v' := .slice p9 (nQ + 1) c9) ⟨(nC : Int), 1, (i6 : Int), 0⟩ (by simp only; rw [HnQ.out]; exact hown) hg9 hat)
                  have HC9 := hid a2
                  have hl9 : w9.ownsRow R 31 8 (.slice (some ⟨X, 0, none⟩) 1 1) 1 (lxC ⟨lo, la, lb, lcc, lm, ByteArray.empty, lsy, true⟩) := a6 _ List.mem_cons_self
                  have hS1 : w9.cell? ⟨X, 6, none⟩ = some (.string lsy) ∧ w9.cell? ⟨H, 1, none⟩ = some (.slice cp nC cc) := ⟨(hl9.cellAt 6 (by decide)).trans rfl, HC9.out.cell 1 rfl⟩
                  refine hKK.out _ _ hS1 (fun _ => ?_)
                  clear hKK KK hS0 hown hg9 hat a2 a6 hl9
                  have hS0 := hS1
                  clear hS1
                  try simp only [Act.put, List.setIfInBounds_toArray, List.set_cons_zero, List.set_cons_succ, List.getElem_toArray, List.getElem_cons_succ, List.getElem_cons_zero]
                  refine wpAnyH_take (i := 11) (v := ?_) rfl (by kernel_rfl) (by kernel_rfl) (by kernel_rfl) (fun _ _ _ h => h) (Or.inl ⟨by kernel_rfl, ?_⟩) hS0 ?_
                  rotate_left
                  · (intro W hSw; clear hSw; go_simp; try with_reducible rfl)
                  try simp only [Act.put, List.setIfInBounds_toArray, List.set_cons_zero, List.set_cons_succ, List.getElem_toArray, List.getElem_cons_succ, List.getElem_cons_zero]
                  refine wpAnyH_ready (rs := [12]) (by kernel_rfl) (by simp) ?_
                  refine AllReadyH.cons rfl (fun KK hKK => ?_) AllReadyH.nil
                  have hc9 := HC9.out.cell 4 (v := .slice qp nQ qc) rfl
                  have hf9 := HC9.out.free 4
                  go_simp
                  have hS1 : (w9.setCell ⟨H, 4, none⟩ (.slice p9 (nQ + 1) c9)).cell? ⟨X, 6, none⟩ = some (.string lsy) ∧ (w9.setCell ⟨H, 4, none⟩ (.slice p9 (nQ + 1) c9)).cell? ⟨H, 1, none⟩ = some (.slice cp nC cc) := ⟨HEq.out.ln 6 rfl, HEq.out.cell.cell 1 rfl⟩
                  refine hKK.out _ _ hS1 (fun _ => ?_)
                  clear hKK KK hS0
                  have hS0 := hS1
                  clear hS1
                  try simp only [Act.put, List.setIfInBounds_toArray, List.set_cons_zero, List.set_cons_succ, List.getElem_toArray, List.getElem_cons_succ, List.getElem_cons_zero]
                  clear hc9 hf9 HC9 hS0 HDm
                  generalize w9.setCell ⟨H, 4, none⟩ (.slice p9 (nQ + 1) c9) = w10 at HEq ⊢
                  refine wpAnyH_done (by kernel_rfl) ?_ _
                  refine hJ _ _ (Met.intro (hJ0 _ _ ?_))
                  repeat apply Exists.intro
                  refine ⟨?_, rfl⟩
                  exact hid ⟨_, _, _, HEq.out, by unfold relX; rw [if_neg Hlz.out]; simp only [Hi6.out]⟩
          case rest =>
            have HC5 := hid hcut.out
            clear hcut
            obtain ⟨⟨d5, c5, m5, r5, q5, s5⟩, Q5, S5, hp, hrl⟩ := HC5.out
            clear HC5
            obtain ⟨cp5, cc5, hcv⟩ := own_slice hp.cR
            obtain ⟨mp5, mc5, hmv⟩ := own_slice hp.mR
            simp only at hcv hmv
            rw [HnM.out] at hmv
            rw [HnC.out] at hcv
            subst hcv hmv
            have HP5 := hid hp
            have HRl := hid hrl
            clear hp hrl
            go_upto_region 25 with (fail)
            have x4 := HP5.out.ln 4 (v := .int .u32 lm) rfl
            have HXC1 := hid (HP5.out.kept0 (World.grownBy_alloc wc (.cells #[.int .u32 lm] 27) none))
            have HOwC1 : Hid ((wc.alloc (.cells #[.int .u32 lm] 27)).ownsRow R 27 1 (.slice cp5 nC cc5) (nC) ((XC).map (Value.int .u32))) := hid (by have h := HXC1.out.cR; simp only at h; rw [HnC.out] at h; exact h)
            have HNwC1 : Hid (∀ j u, [Value.int .u32 lm][j]? = some u → (wc.alloc (.cells #[.int .u32 lm] 27)).cell? ((⟨wc.heap.size, 0, none⟩ : Addr).add j) = some u) := hid (World.news_of_block (heap_alloc_new wc _))
            have dC1 := HP5.out.cell.cell 1 (v := .slice cp5 nC cc5) rfl
            obtain ⟨iC1, hi, hz0, hz1, hz2⟩ := info_u32x
            have HiC1 := hid hi
            have Hz0C1 := hid hz0
            have Hz1C1 := hid hz1
            have Hz2C1 := hid hz2
            clear hi hz0 hz1 hz2
            go_upto_region 26 with (first
              | (refine is_app _ _ _ rfl ?_
                 refine wpList_append_lies _ rfl _ _ 36 rfl R 27 iC1 _ 1 4 Tryz.underlying36 HiC1.out Hz0C1.out Hz1C1.out Hz2C1.out rfl (by decide) _ (nC) _ rfl HOwC1.out ⟨wc.heap.size, 0, none⟩ 1 1 _ rfl rfl HNwC1.out (by simp [Value.oneCell']) (by decide) (by have := HLn.out; unfold maxLen; omega) (by have := HLn.out; omega) HXC1.out.size _ rfl ?_
                 intro gC1 pC1 zC1 hown hgrow hat hlt2
                 have hg4 : (wc.alloc (.cells #[.int .u32 lm] 27)).grownBy zC1 (Value.slice cp5 nC cc5).ownBlock := hgrow
                 have hat4 : (Value.slice (some ⟨gC1, 0, none⟩) (nC + 1) pC1).ownBlock = (Value.slice cp5 nC cc5).ownBlock ∨ (Value.slice (some ⟨gC1, 0, none⟩) (nC + 1) pC1).ownBlock = some (wc.alloc (.cells #[.int .u32 lm] 27)).heap.size := by rcases hat with e | e; (exact .inl e.symm); (exact .inr (by rw [← e]; rfl))
                 have HEC1 := hid (HXC1.out.addC (v' := .slice (some ⟨gC1, 0, none⟩) (nC + 1) pC1) (lm) (by simp only; rw [HnC.out]; exact hown) hg4 hat4)
                 have hpt := (HXC1.out.row.kept hg4 (Ne.symm (HXC1.out.neH ⟨.slice cp5 nC cc5, 27, 1, (XC).length, (XC).map (Value.int .u32)⟩ (by simp [obRo]))))
                 have cC1 := hpt.cell 1 (v := .slice cp5 nC cc5) rfl
                 have yC1 := hpt.free 1
                 clear hown hgrow hat hlt2 hg4 hat4 hpt)
              | fail)
            clear HXC1 HOwC1 HNwC1 dC1 HiC1 Hz0C1 Hz1C1 Hz2C1 cC1 yC1 HP5
            generalize zC1.setCell ⟨H, 1, none⟩ (.slice (some ⟨gC1, 0, none⟩) (nC + 1) pC1) = kC1 at HEC1 ⊢
            have HlC1 : Hid ((XC ++ [lm]).length = nC + 1) := hid (by rw [List.length_append, HnC.out]; rfl)
            clear x4
            have HXM2 := hid (HEC1.out.kept0 (World.grownBy_alloc kC1 (.cells #[.int .u8 2] 5) none))
            have HOwM2 : Hid ((kC1.alloc (.cells #[.int .u8 2] 5)).ownsRow R 5 1 (.slice mp5 nC mc5) (nC) ((XM).map (Value.int .u8))) := hid (by have h := HXM2.out.mR; simp only at h; rw [HnM.out] at h; exact h)
            have HNwM2 : Hid (∀ j u, [Value.int .u8 2][j]? = some u → (kC1.alloc (.cells #[.int .u8 2] 5)).cell? ((⟨kC1.heap.size, 0, none⟩ : Addr).add j) = some u) := hid (World.news_of_block (heap_alloc_new kC1 _))
            have dM2 := HEC1.out.cell.cell 2 (v := .slice mp5 nC mc5) rfl
            obtain ⟨iM2, hi, hz0, hz1, hz2⟩ := info_u8x
            have HiM2 := hid hi
            have Hz0M2 := hid hz0
            have Hz1M2 := hid hz1
            have Hz2M2 := hid hz2
            clear hi hz0 hz1 hz2
            go_upto_region 4 with (first
              | (refine is_app _ _ _ rfl ?_
                 refine wpList_append_lies _ rfl _ _ 37 rfl R 5 iM2 _ 1 1 Tryz.underlying37 HiM2.out Hz0M2.out Hz1M2.out Hz2M2.out rfl (by decide) _ (nC) _ rfl HOwM2.out ⟨kC1.heap.size, 0, none⟩ 1 1 _ rfl rfl HNwM2.out (by simp [Value.oneCell']) (by decide) (by have := HLn.out; unfold maxLen; omega) (by have := HLn.out; omega) HXM2.out.size _ rfl ?_
                 intro gM2 pM2 zM2 hown hgrow hat hlt2
                 have hg4 : (kC1.alloc (.cells #[.int .u8 2] 5)).grownBy zM2 (Value.slice mp5 nC mc5).ownBlock := hgrow
                 have hat4 : (Value.slice (some ⟨gM2, 0, none⟩) (nC + 1) pM2).ownBlock = (Value.slice mp5 nC mc5).ownBlock ∨ (Value.slice (some ⟨gM2, 0, none⟩) (nC + 1) pM2).ownBlock = some (kC1.alloc (.cells #[.int .u8 2] 5)).heap.size := by rcases hat with e | e; (exact .inl e.symm); (exact .inr (by rw [← e]; rfl))
                 have HEM2 := hid (HXM2.out.addM (v' := .slice (some ⟨gM2, 0, none⟩) (nC + 1) pM2) (2) (by simp only; rw [HnM.out]; exact hown) hg4 hat4)
                 have hpt := (HXM2.out.row.kept hg4 (Ne.symm (HXM2.out.neH ⟨.slice mp5 nC mc5, 5, 1, (XM).length, (XM).map (Value.int .u8)⟩ (by simp [obRo]))))
                 have cM2 := hpt.cell 2 (v := .slice mp5 nC mc5) rfl
                 have yM2 := hpt.free 2
                 clear hown hgrow hat hlt2 hg4 hat4 hpt)
              | fail)
            clear HXM2 HOwM2 HNwM2 dM2 HiM2 Hz0M2 Hz1M2 Hz2M2 cM2 yM2 HEC1
            generalize zM2.setCell ⟨H, 2, none⟩ (.slice (some ⟨gM2, 0, none⟩) (nC + 1) pM2) = kM2 at HEM2 ⊢
            have HlM2 : Hid ((XM ++ [2]).length = nC + 1) := hid (by rw [List.length_append, HnM.out]; rfl)
            have HF : Hid (objX D (ls.take (k + 1)) = ⟨XD, XC ++ [lm], XM ++ [2], XR, Q5, S5⟩) := hid (by
              rw [objX_succ D Hl.out, Hx.out]
              unfold lxD
              rw [if_neg (by simp), if_pos rfl]
              simp only [HnC.out, HRl.out]
              rfl
              )
            have HEx : Hid (∃ V, OgB W kM2 R H E V (objX D (ls.take (k + 1)))) := hid (by rw [HF.out]; exact ⟨_, HEM2.out.drop⟩)
            clear HEM2 HXs
            go_wp2
            go_roundw
            case rel => exact ⟨k + 1, Hlt.out, by go_num, HEx⟩
            case measure => simp [intOf]; have := Hlt.out; omega
        | false =>
          have x0 := HO4.out.ln 0 (v := .int .i64 lo) rfl
          have x1 := HO4.out.ln 1 (v := .int .i64 la) rfl
          have x2 := HO4.out.ln 2 (v := .int .i64 lb) rfl
          have x3 := HO4.out.ln 3 (v := .int .i64 lcc) rfl
          have x4 := HO4.out.ln 4 (v := .int .u32 lm) rfl
          have x5 := HO4.out.ln 5 (v := .string ByteArray.empty) rfl
          have x7 := HO4.out.ln 7 (v := .bool false) rfl
          go_wp2_with fail
          refine (rword_any lo la lb lcc lm _).mono ?_
          rintro e w5 ⟨rfl, hbl⟩
          have HO5 := hid (HO4.out.kept0 (below_is_grown hbl))
          obtain ⟨wd0, hwd0⟩ : ∃ x, wordV lo la lb lcc lm = x := ⟨_, rfl⟩
          have Hwd := hid hwd0
          obtain ⟨ib, hib⟩ : ∃ x, insB lo la lb lcc lm = x := ⟨_, rfl⟩
          rw [hwd0, hib]
          clear hbl x0 x1 x2 x3 x4 x5 x7 HO4 hwd0 hib
          have x6 := HO5.out.ln 6 (v := .string lsy) rfl
          obtain ⟨bs, hbs, hb0, hb1, hbe⟩ := neq_b lsy
          have Hb0 := hid hb0
          have Hb1 := hid hb1
          clear hb0 hb1
          obtain ⟨tw, htw⟩ : ∃ b, twoB lo = b := ⟨_, rfl⟩
          have Htw := hid htw
          clear htw
          go_upto_if 34 with (fail)
          clear x6 hne hbs hbe
          go_cut [11, 12] from 16 to 130 (fun u11 u12 wz => Hid (∃ V Q5 S5, OgB W wz R H (⟨.slice (some ⟨X, 0, none⟩) 1 1, 31, 8, 1, lxC ⟨lo, la, lb, lcc, lm, ByteArray.empty, lsy, false⟩⟩ :: E) V ⟨XD, XC, XM, XR, Q5, S5⟩ ∧ relX ⟨XD, XC, XM, XR, XQ, XS⟩ (if tw = true then nC + 1 else nC) (if tw = true then 1 else 2) lsy = ⟨XD, XC, XM, XR, Q5, S5⟩))
          case first =>
            rename_i hJ0 hJ
            cases bs with
            | false =>
              have Hlz : Hid (lsy = ByteArray.empty) := hid (Hb0.out rfl)
              clear Hb0 Hb1
              go_wp2
              go_meet
              exact hid ⟨_, _, _, HO5.out, by unfold relX; rw [if_pos Hlz.out]⟩
            | true =>
              have Hlz : Hid (lsy ≠ ByteArray.empty) := hid (Hb1.out rfl)
              clear Hb0 Hb1
              cases tw with
              | false =>
                have e1 := HO5.out.cell.cell 1 (v := .slice cp nC cc) rfl
                go_upto_region 10 with (fail)
                clear e1
                have x0 := HO5.out.ln 0 (v := .int .i64 lo) rfl
                go_wp2_with fail
                refine (rtwo_any lo _).mono ?_
                rintro e w8 ⟨rfl, rfl⟩
                rw [Htw.out]
                clear x0
                go_upto_region 13 with (fail)
                have hg0 : w5.grownBy w5.drew none := grown_drew (grown_refl _ none)
                have HD0 := hid (HO5.out.kept0 hg0)
                obtain ⟨iq, hi, hz0, hz1, hz2⟩ := info_relx
                have Hiq := hid hi
                have Hzq0 := hid hz0
                have Hzq1 := hid hz1
                have Hzq2 := hid hz2
                clear hi hz0 hz1 hz2
                refine wp_region_held_drew (S := fun W => W.cell? ⟨X, 6, none⟩ = some (.string lsy) ∧ W.cell? ⟨H, 1, none⟩ = some (.slice cp nC cc)) (by kernel_rfl) ⟨HD0.out.ln 6 rfl, HD0.out.cell.cell 1 rfl⟩ (fun hS0 => ?_)
                clear hg0 HO5
                generalize w5.drew = wd at HD0 hS0 ⊢
                refine wpAnyH_take (i := 0) (v := ?_) rfl (by kernel_rfl) (by kernel_rfl) (by kernel_rfl) (fun _ _ _ h => h) (Or.inl ⟨by kernel_rfl, ?_⟩) hS0 ?_
                rotate_left
                · (intro W hSw; clear hSw; go_simp; try with_reducible rfl)
                try simp only [Act.put, List.setIfInBounds_toArray, List.set_cons_zero, List.set_cons_succ, List.getElem_toArray, List.getElem_cons_zero]
                refine wpAnyH_take (i := 2) (v := ?_) rfl (by kernel_rfl) (by kernel_rfl) (by kernel_rfl) (fun _ _ _ h => h) (Or.inl ⟨by kernel_rfl, ?_⟩) hS0 ?_
                rotate_left
                · (intro W hSw; clear hSw; go_simp; try with_reducible rfl)
                try simp only [Act.put, List.setIfInBounds_toArray, List.set_cons_zero, List.set_cons_succ, List.getElem_toArray, List.getElem_cons_succ, List.getElem_cons_zero]
                refine wpAnyH_take (i := 3) (v := ?_) rfl (by kernel_rfl) (by kernel_rfl) (by kernel_rfl) (fun _ _ _ h => h) (Or.inl ⟨by kernel_rfl, ?_⟩) hS0 ?_
                rotate_left
                · (intro W hSw; clear hSw; go_simp; try with_reducible rfl)
                try simp only [Act.put, List.setIfInBounds_toArray, List.set_cons_zero, List.set_cons_succ, List.getElem_toArray, List.getElem_cons_succ, List.getElem_cons_zero]
                refine wpAnyH_take (i := 4) (v := ?_) rfl (by kernel_rfl) (by kernel_rfl) (by kernel_rfl) (fun _ _ _ h => h) (Or.inl ⟨by kernel_rfl, ?_⟩) hS0 ?_
                rotate_left
                · (intro W hSw; clear hSw; go_simp; try with_reducible rfl)
                try simp only [Act.put, List.setIfInBounds_toArray, List.set_cons_zero, List.set_cons_succ, List.getElem_toArray, List.getElem_cons_succ, List.getElem_cons_zero]
                refine wpAnyH_take (i := 5) (v := ?_) rfl (by kernel_rfl) (by kernel_rfl) (by kernel_rfl) (fun _ _ _ h => h) (Or.inl ⟨by kernel_rfl, ?_⟩) hS0 ?_
                rotate_left
                · (intro W hSw; have hc := hSw.1; clear hSw; go_simp; try with_reducible rfl)
                try simp only [Act.put, List.setIfInBounds_toArray, List.set_cons_zero, List.set_cons_succ, List.getElem_toArray, List.getElem_cons_succ, List.getElem_cons_zero]
                refine wpAnyH_ready (rs := [1, 6]) (by kernel_rfl) (by simp) ?_
                refine AllReadyH.cons rfl (fun KK hKK => ?_) (AllReadyH.cons rfl (fun KK hKK => ?_) (AllReadyH.nil))
                · have hc := HD0.out.cell.cell 4 (v := .slice qp nQ qc) rfl
                  go_simp
                  refine hKK.out _ _ hS0 (fun _ => ?_)
                  clear hKK KK hc
                  try simp only [Act.put, List.setIfInBounds_toArray, List.set_cons_zero, List.set_cons_succ, List.getElem_toArray, List.getElem_cons_succ, List.getElem_cons_zero]
                  refine wpAnyH_ready (rs := [6]) (by kernel_rfl) (by simp) ?_
                  refine AllReadyH.cons rfl (fun KK hKK => ?_) (AllReadyH.nil)
                  go_simp
                  refine (sym_x HD0.out (by have := HLn.out; simp only; omega) lsy).mono ?_; rintro e' wc ⟨rfl, vs, ho⟩
                  obtain ⟨psx, csx, evs⟩ := own_slice ho.sRow
                  simp only at evs ho
                  subst evs
                  obtain ⟨i6, hi6⟩ : ∃ i, syIx XS lsy = i := ⟨_, rfl⟩
                  have Hi6 := hid hi6
                  rw [hi6]
                  have HDc := hid ho
                  have hS1 : wc.cell? ⟨X, 6, none⟩ = some (.string lsy) ∧ wc.cell? ⟨H, 1, none⟩ = some (.slice cp nC cc) := ⟨HDc.out.ln 6 rfl, HDc.out.cell.cell 1 rfl⟩
                  refine hKK.out _ _ hS1 (fun _ => ?_)
                  clear hKK KK hS0 ho hi6
                  have hS0 := hS1
                  clear hS1 HD0
                  have hbr := build_relx
                  try simp only [Act.put, List.setIfInBounds_toArray, List.set_cons_zero, List.set_cons_succ, List.getElem_toArray, List.getElem_cons_succ, List.getElem_cons_zero]
                  refine wpAnyH_take (i := 7) (v := ?_) rfl (by kernel_rfl) (by kernel_rfl) (by kernel_rfl) (fun _ _ _ h => h) (Or.inl ⟨by kernel_rfl, ?_⟩) hS0 ?_
                  rotate_left
                  · (intro W hSw; clear hSw; go_simp; try with_reducible rfl)
                  try simp only [Act.put, List.setIfInBounds_toArray, List.set_cons_zero, List.set_cons_succ, List.getElem_toArray, List.getElem_cons_succ, List.getElem_cons_zero]
                  refine wpAnyH_ready (rs := [8]) (by kernel_rfl) (by simp) ?_
                  refine AllReadyH.cons rfl (fun KK hKK => ?_) (AllReadyH.nil)
                  have HDm := hid (HDc.out.kept0 (World.grownBy_alloc wc (.cells #[.int .i64 (nC : Int), .int .i64 2, .int .i64 (i6 : Int), .int .i64 0] 65) none))
                  have HNq : Hid (∀ j u, (rlC ⟨(nC : Int), 2, (i6 : Int), 0⟩)[j]? = some u → (wc.alloc (.cells #[.int .i64 (nC : Int), .int .i64 2, .int .i64 (i6 : Int), .int .i64 0] 65)).cell? ((⟨wc.heap.size, 0, none⟩ : Addr).add j) = some u) := hid (World.news_of_block (heap_alloc_new wc _))
                  have hS1 : (wc.alloc (.cells #[.int .i64 (nC : Int), .int .i64 2, .int .i64 (i6 : Int), .int .i64 0] 65)).cell? ⟨X, 6, none⟩ = some (.string lsy) ∧ (wc.alloc (.cells #[.int .i64 (nC : Int), .int .i64 2, .int .i64 (i6 : Int), .int .i64 0] 65)).cell? ⟨H, 1, none⟩ = some (.slice cp nC cc) := ⟨HDm.out.ln 6 rfl, HDm.out.cell.cell 1 rfl⟩
                  go_simp
                  refine hKK.out _ _ hS1 (fun _ => ?_)
                  clear hKK KK hS0
                  have hS0 := hS1
                  clear hS1 HDc
                  obtain ⟨bq, hbq⟩ : ∃ g, wc.heap.size = g := ⟨_, rfl⟩
                  try rw [hbq]
                  rw [hbq] at HNq
                  clear hbq
                  generalize wc.alloc (.cells #[.int .i64 (nC : Int), .int .i64 2, .int .i64 (i6 : Int), .int .i64 0] 65) = wm at HDm HNq hS0 ⊢
                  try simp only [Act.put, List.setIfInBounds_toArray, List.set_cons_zero, List.set_cons_succ, List.getElem_toArray, List.getElem_cons_succ, List.getElem_cons_zero]
                  refine wpAnyH_ready (rs := [9]) (by kernel_rfl) (by simp) ?_
                  refine AllReadyH.cons rfl (fun KK hKK => ?_) AllReadyH.nil
                  have HOw := hid HDm.out.qR
                  simp only at HOw
                  rw [HnQ.out] at HOw
                  refine wp_append_any _ _ 38 rfl R 65 iq _ 4 32 Tryz.underlying38 Hiq.out Hzq0.out Hzq1.out Hzq2.out rfl (by decide) _ nQ _ rfl HOw.out _ 1 (rlC ⟨(nC : Int), 2, (i6 : Int), 0⟩) rfl ⟨rfl, by simp [rlC, Value.oneCell'], .inl ⟨⟨bq, 0, none⟩, 1, rfl, HNq.out⟩⟩ (by have := HLn.out; unfold maxLen; omega) (by have := HLn.out; omega) HDm.out.size ?_
                  intro v9 w9 hown hg9 hat
                  obtain ⟨p9, c9, rfl⟩ := own_slice hown
                  obtain ⟨_, a2, _, _, _, a6, _⟩ := RosB.put (k := 4) (r := ⟨.slice qp nQ qc, 65, 4, XQ.length, rlsC XQ⟩) (v' := .slice p9 (nQ + 1) c9) (n' := nQ + 1) HDm.out rfl hown hg9 hat
                  have HEq := hid (HDm.out.addQ (v' := .slice p9 (nQ + 1) c9) ⟨(nC : Int), 2, (i6 : Int), 0⟩ (by simp only; rw [HnQ.out]; exact hown) hg9 hat)
                  have HC9 := hid a2
                  have hl9 : w9.ownsRow R 31 8 (.slice (some ⟨X, 0, none⟩) 1 1) 1 (lxC ⟨lo, la, lb, lcc, lm, ByteArray.empty, lsy, false⟩) := a6 _ List.mem_cons_self
                  have hS1 : w9.cell? ⟨X, 6, none⟩ = some (.string lsy) ∧ w9.cell? ⟨H, 1, none⟩ = some (.slice cp nC cc) := ⟨(hl9.cellAt 6 (by decide)).trans rfl, HC9.out.cell 1 rfl⟩
                  refine hKK.out _ _ hS1 (fun _ => ?_)
                  clear hKK KK hS0 hown hg9 hat a2 a6 hl9
                  have hS0 := hS1
                  clear hS1
                  try simp only [Act.put, List.setIfInBounds_toArray, List.set_cons_zero, List.set_cons_succ, List.getElem_toArray, List.getElem_cons_succ, List.getElem_cons_zero]
                  refine wpAnyH_take (i := 10) (v := ?_) rfl (by kernel_rfl) (by kernel_rfl) (by kernel_rfl) (fun _ _ _ h => h) (Or.inl ⟨by kernel_rfl, ?_⟩) hS0 ?_
                  rotate_left
                  · (intro W hSw; clear hSw; go_simp; try with_reducible rfl)
                  try simp only [Act.put, List.setIfInBounds_toArray, List.set_cons_zero, List.set_cons_succ, List.getElem_toArray, List.getElem_cons_succ, List.getElem_cons_zero]
                  refine wpAnyH_ready (rs := [11]) (by kernel_rfl) (by simp) ?_
                  refine AllReadyH.cons rfl (fun KK hKK => ?_) AllReadyH.nil
                  have hc9 := HC9.out.cell 4 (v := .slice qp nQ qc) rfl
                  have hf9 := HC9.out.free 4
                  go_simp
                  have hS1 : (w9.setCell ⟨H, 4, none⟩ (.slice p9 (nQ + 1) c9)).cell? ⟨X, 6, none⟩ = some (.string lsy) ∧ (w9.setCell ⟨H, 4, none⟩ (.slice p9 (nQ + 1) c9)).cell? ⟨H, 1, none⟩ = some (.slice cp nC cc) := ⟨HEq.out.ln 6 rfl, HEq.out.cell.cell 1 rfl⟩
                  refine hKK.out _ _ hS1 (fun _ => ?_)
                  clear hKK KK hS0
                  have hS0 := hS1
                  clear hS1
                  try simp only [Act.put, List.setIfInBounds_toArray, List.set_cons_zero, List.set_cons_succ, List.getElem_toArray, List.getElem_cons_succ, List.getElem_cons_zero]
                  clear hc9 hf9 HC9 hS0 HDm
                  generalize w9.setCell ⟨H, 4, none⟩ (.slice p9 (nQ + 1) c9) = w10 at HEq ⊢
                  refine wpAnyH_done (by kernel_rfl) ?_ _
                  refine hJ _ _ (Met.intro (hJ0 _ _ ?_))
                  repeat apply Exists.intro
                  refine ⟨?_, rfl⟩
                  exact hid ⟨_, _, _, HEq.out, by unfold relX; rw [if_neg Hlz.out]; simp [Hi6.out]⟩
                · go_simp
                  refine (sym_x HD0.out (by have := HLn.out; simp only; omega) lsy).mono ?_; rintro e' wc ⟨rfl, vs, ho⟩
                  obtain ⟨psx, csx, evs⟩ := own_slice ho.sRow
                  simp only at evs ho
                  subst evs
                  obtain ⟨i6, hi6⟩ : ∃ i, syIx XS lsy = i := ⟨_, rfl⟩
                  have Hi6 := hid hi6
                  rw [hi6]
                  have HDc := hid ho
                  have hS1 : wc.cell? ⟨X, 6, none⟩ = some (.string lsy) ∧ wc.cell? ⟨H, 1, none⟩ = some (.slice cp nC cc) := ⟨HDc.out.ln 6 rfl, HDc.out.cell.cell 1 rfl⟩
                  refine hKK.out _ _ hS1 (fun _ => ?_)
                  clear hKK KK hS0 ho hi6
                  have hS0 := hS1
                  clear hS1 HD0
                  have hbr := build_relx
                  try simp only [Act.put, List.setIfInBounds_toArray, List.set_cons_zero, List.set_cons_succ, List.getElem_toArray, List.getElem_cons_succ, List.getElem_cons_zero]
                  refine wpAnyH_take (i := 7) (v := ?_) rfl (by kernel_rfl) (by kernel_rfl) (by kernel_rfl) (fun _ _ _ h => h) (Or.inl ⟨by kernel_rfl, ?_⟩) hS0 ?_
                  rotate_left
                  · (intro W hSw; clear hSw; go_simp; try with_reducible rfl)
                  try simp only [Act.put, List.setIfInBounds_toArray, List.set_cons_zero, List.set_cons_succ, List.getElem_toArray, List.getElem_cons_succ, List.getElem_cons_zero]
                  refine wpAnyH_ready (rs := [1, 8]) (by kernel_rfl) (by simp) ?_
                  refine AllReadyH.cons rfl (fun KK hKK => ?_) (AllReadyH.cons rfl (fun KK hKK => ?_) (AllReadyH.nil))
                  · have hc := HDc.out.cell.cell 4 (v := .slice qp nQ qc) rfl
                    go_simp
                    refine hKK.out _ _ hS0 (fun _ => ?_)
                    clear hKK KK hc
                    try simp only [Act.put, List.setIfInBounds_toArray, List.set_cons_zero, List.set_cons_succ, List.getElem_toArray, List.getElem_cons_succ, List.getElem_cons_zero]
                    refine wpAnyH_ready (rs := [8]) (by kernel_rfl) (by simp) ?_
                    refine AllReadyH.cons rfl (fun KK hKK => ?_) (AllReadyH.nil)
                    have HDm := hid (HDc.out.kept0 (World.grownBy_alloc wc (.cells #[.int .i64 (nC : Int), .int .i64 2, .int .i64 (i6 : Int), .int .i64 0] 65) none))
                    have HNq : Hid (∀ j u, (rlC ⟨(nC : Int), 2, (i6 : Int), 0⟩)[j]? = some u → (wc.alloc (.cells #[.int .i64 (nC : Int), .int .i64 2, .int .i64 (i6 : Int), .int .i64 0] 65)).cell? ((⟨wc.heap.size, 0, none⟩ : Addr).add j) = some u) := hid (World.news_of_block (heap_alloc_new wc _))
                    have hS1 : (wc.alloc (.cells #[.int .i64 (nC : Int), .int .i64 2, .int .i64 (i6 : Int), .int .i64 0] 65)).cell? ⟨X, 6, none⟩ = some (.string lsy) ∧ (wc.alloc (.cells #[.int .i64 (nC : Int), .int .i64 2, .int .i64 (i6 : Int), .int .i64 0] 65)).cell? ⟨H, 1, none⟩ = some (.slice cp nC cc) := ⟨HDm.out.ln 6 rfl, HDm.out.cell.cell 1 rfl⟩
                    go_simp
                    refine hKK.out _ _ hS1 (fun _ => ?_)
                    clear hKK KK hS0
                    have hS0 := hS1
                    clear hS1 HDc
                    obtain ⟨bq, hbq⟩ : ∃ g, wc.heap.size = g := ⟨_, rfl⟩
                    try rw [hbq]
                    rw [hbq] at HNq
                    clear hbq
                    generalize wc.alloc (.cells #[.int .i64 (nC : Int), .int .i64 2, .int .i64 (i6 : Int), .int .i64 0] 65) = wm at HDm HNq hS0 ⊢
                    try simp only [Act.put, List.setIfInBounds_toArray, List.set_cons_zero, List.set_cons_succ, List.getElem_toArray, List.getElem_cons_succ, List.getElem_cons_zero]
                    refine wpAnyH_ready (rs := [9]) (by kernel_rfl) (by simp) ?_
                    refine AllReadyH.cons rfl (fun KK hKK => ?_) AllReadyH.nil
                    have HOw := hid HDm.out.qR
                    simp only at HOw
                    rw [HnQ.out] at HOw
                    refine wp_append_any _ _ 38 rfl R 65 iq _ 4 32 Tryz.underlying38 Hiq.out Hzq0.out Hzq1.out Hzq2.out rfl (by decide) _ nQ _ rfl HOw.out _ 1 (rlC ⟨(nC : Int), 2, (i6 : Int), 0⟩) rfl ⟨rfl, by simp [rlC, Value.oneCell'], .inl ⟨⟨bq, 0, none⟩, 1, rfl, HNq.out⟩⟩ (by have := HLn.out; unfold maxLen; omega) (by have := HLn.out; omega) HDm.out.size ?_
                    intro v9 w9 hown hg9 hat
                    obtain ⟨p9, c9, rfl⟩ := own_slice hown
                    obtain ⟨_, a2, _, _, _, a6, _⟩ := RosB.put (k := 4) (r := ⟨.slice qp nQ qc, 65, 4, XQ.length, rlsC XQ⟩) (v' := .slice p9 (nQ + 1) c9) (n' := nQ + 1) HDm.out rfl hown hg9 hat
                    have HEq := hid (HDm.out.addQ (v' := .slice p9 (nQ + 1) c9) ⟨(nC : Int), 2, (i6 : Int), 0⟩ (by simp only; rw [HnQ.out]; exact hown) hg9 hat)
                    have HC9 := hid a2
                    have hl9 : w9.ownsRow R 31 8 (.slice (some ⟨X, 0, none⟩) 1 1) 1 (lxC ⟨lo, la, lb, lcc, lm, ByteArray.empty, lsy, false⟩) := a6 _ List.mem_cons_self
                    have hS1 : w9.cell? ⟨X, 6, none⟩ = some (.string lsy) ∧ w9.cell? ⟨H, 1, none⟩ = some (.slice cp nC cc) := ⟨(hl9.cellAt 6 (by decide)).trans rfl, HC9.out.cell 1 rfl⟩
                    refine hKK.out _ _ hS1 (fun _ => ?_)
                    clear hKK KK hS0 hown hg9 hat a2 a6 hl9
                    have hS0 := hS1
                    clear hS1
                    try simp only [Act.put, List.setIfInBounds_toArray, List.set_cons_zero, List.set_cons_succ, List.getElem_toArray, List.getElem_cons_succ, List.getElem_cons_zero]
                    refine wpAnyH_take (i := 10) (v := ?_) rfl (by kernel_rfl) (by kernel_rfl) (by kernel_rfl) (fun _ _ _ h => h) (Or.inl ⟨by kernel_rfl, ?_⟩) hS0 ?_
                    rotate_left
                    · (intro W hSw; clear hSw; go_simp; try with_reducible rfl)
                    try simp only [Act.put, List.setIfInBounds_toArray, List.set_cons_zero, List.set_cons_succ, List.getElem_toArray, List.getElem_cons_succ, List.getElem_cons_zero]
                    refine wpAnyH_ready (rs := [11]) (by kernel_rfl) (by simp) ?_
                    refine AllReadyH.cons rfl (fun KK hKK => ?_) AllReadyH.nil
                    have hc9 := HC9.out.cell 4 (v := .slice qp nQ qc) rfl
                    have hf9 := HC9.out.free 4
                    go_simp
                    have hS1 : (w9.setCell ⟨H, 4, none⟩ (.slice p9 (nQ + 1) c9)).cell? ⟨X, 6, none⟩ = some (.string lsy) ∧ (w9.setCell ⟨H, 4, none⟩ (.slice p9 (nQ + 1) c9)).cell? ⟨H, 1, none⟩ = some (.slice cp nC cc) := ⟨HEq.out.ln 6 rfl, HEq.out.cell.cell 1 rfl⟩
                    refine hKK.out _ _ hS1 (fun _ => ?_)
                    clear hKK KK hS0
                    have hS0 := hS1
                    clear hS1
                    try simp only [Act.put, List.setIfInBounds_toArray, List.set_cons_zero, List.set_cons_succ, List.getElem_toArray, List.getElem_cons_succ, List.getElem_cons_zero]
                    clear hc9 hf9 HC9 hS0 HDm
                    generalize w9.setCell ⟨H, 4, none⟩ (.slice p9 (nQ + 1) c9) = w10 at HEq ⊢
                    refine wpAnyH_done (by kernel_rfl) ?_ _
                    refine hJ _ _ (Met.intro (hJ0 _ _ ?_))
                    repeat apply Exists.intro
                    refine ⟨?_, rfl⟩
                    exact hid ⟨_, _, _, HEq.out, by unfold relX; rw [if_neg Hlz.out]; simp [Hi6.out]⟩
                  · have HDm := hid (HDc.out.kept0 (World.grownBy_alloc wc (.cells #[.int .i64 (nC : Int), .int .i64 2, .int .i64 (i6 : Int), .int .i64 0] 65) none))
                    have HNq : Hid (∀ j u, (rlC ⟨(nC : Int), 2, (i6 : Int), 0⟩)[j]? = some u → (wc.alloc (.cells #[.int .i64 (nC : Int), .int .i64 2, .int .i64 (i6 : Int), .int .i64 0] 65)).cell? ((⟨wc.heap.size, 0, none⟩ : Addr).add j) = some u) := hid (World.news_of_block (heap_alloc_new wc _))
                    have hS1 : (wc.alloc (.cells #[.int .i64 (nC : Int), .int .i64 2, .int .i64 (i6 : Int), .int .i64 0] 65)).cell? ⟨X, 6, none⟩ = some (.string lsy) ∧ (wc.alloc (.cells #[.int .i64 (nC : Int), .int .i64 2, .int .i64 (i6 : Int), .int .i64 0] 65)).cell? ⟨H, 1, none⟩ = some (.slice cp nC cc) := ⟨HDm.out.ln 6 rfl, HDm.out.cell.cell 1 rfl⟩
                    go_simp
                    refine hKK.out _ _ hS1 (fun _ => ?_)
                    clear hKK KK hS0
                    have hS0 := hS1
                    clear hS1 HDc
                    obtain ⟨bq, hbq⟩ : ∃ g, wc.heap.size = g := ⟨_, rfl⟩
                    try rw [hbq]
                    rw [hbq] at HNq
                    clear hbq
                    generalize wc.alloc (.cells #[.int .i64 (nC : Int), .int .i64 2, .int .i64 (i6 : Int), .int .i64 0] 65) = wm at HDm HNq hS0 ⊢
                    try simp only [Act.put, List.setIfInBounds_toArray, List.set_cons_zero, List.set_cons_succ, List.getElem_toArray, List.getElem_cons_succ, List.getElem_cons_zero]
                    refine wpAnyH_ready (rs := [1]) (by kernel_rfl) (by simp) ?_
                    refine AllReadyH.cons rfl (fun KK hKK => ?_) (AllReadyH.nil)
                    have hc := HDm.out.cell.cell 4 (v := .slice qp nQ qc) rfl
                    go_simp
                    refine hKK.out _ _ hS0 (fun _ => ?_)
                    clear hKK KK hc
                    try simp only [Act.put, List.setIfInBounds_toArray, List.set_cons_zero, List.set_cons_succ, List.getElem_toArray, List.getElem_cons_succ, List.getElem_cons_zero]
                    refine wpAnyH_ready (rs := [9]) (by kernel_rfl) (by simp) ?_
                    refine AllReadyH.cons rfl (fun KK hKK => ?_) AllReadyH.nil
                    have HOw := hid HDm.out.qR
                    simp only at HOw
                    rw [HnQ.out] at HOw
                    refine wp_append_any _ _ 38 rfl R 65 iq _ 4 32 Tryz.underlying38 Hiq.out Hzq0.out Hzq1.out Hzq2.out rfl (by decide) _ nQ _ rfl HOw.out _ 1 (rlC ⟨(nC : Int), 2, (i6 : Int), 0⟩) rfl ⟨rfl, by simp [rlC, Value.oneCell'], .inl ⟨⟨bq, 0, none⟩, 1, rfl, HNq.out⟩⟩ (by have := HLn.out; unfold maxLen; omega) (by have := HLn.out; omega) HDm.out.size ?_
                    intro v9 w9 hown hg9 hat
                    obtain ⟨p9, c9, rfl⟩ := own_slice hown
                    obtain ⟨_, a2, _, _, _, a6, _⟩ := RosB.put (k := 4) (r := ⟨.slice qp nQ qc, 65, 4, XQ.length, rlsC XQ⟩) (v' := .slice p9 (nQ + 1) c9) (n' := nQ + 1) HDm.out rfl hown hg9 hat
                    have HEq := hid (HDm.out.addQ (v' := .slice p9 (nQ + 1) c9) ⟨(nC : Int), 2, (i6 : Int), 0⟩ (by simp only; rw [HnQ.out]; exact hown) hg9 hat)
                    have HC9 := hid a2
                    have hl9 : w9.ownsRow R 31 8 (.slice (some ⟨X, 0, none⟩) 1 1) 1 (lxC ⟨lo, la, lb, lcc, lm, ByteArray.empty, lsy, false⟩) := a6 _ List.mem_cons_self
                    have hS1 : w9.cell? ⟨X, 6, none⟩ = some (.string lsy) ∧ w9.cell? ⟨H, 1, none⟩ = some (.slice cp nC cc) := ⟨(hl9.cellAt 6 (by decide)).trans rfl, HC9.out.cell 1 rfl⟩
                    refine hKK.out _ _ hS1 (fun _ => ?_)
                    clear hKK KK hS0 hown hg9 hat a2 a6 hl9
                    have hS0 := hS1
                    clear hS1
                    try simp only [Act.put, List.setIfInBounds_toArray, List.set_cons_zero, List.set_cons_succ, List.getElem_toArray, List.getElem_cons_succ, List.getElem_cons_zero]
                    refine wpAnyH_take (i := 10) (v := ?_) rfl (by kernel_rfl) (by kernel_rfl) (by kernel_rfl) (fun _ _ _ h => h) (Or.inl ⟨by kernel_rfl, ?_⟩) hS0 ?_
                    rotate_left
                    · (intro W hSw; clear hSw; go_simp; try with_reducible rfl)
                    try simp only [Act.put, List.setIfInBounds_toArray, List.set_cons_zero, List.set_cons_succ, List.getElem_toArray, List.getElem_cons_succ, List.getElem_cons_zero]
                    refine wpAnyH_ready (rs := [11]) (by kernel_rfl) (by simp) ?_
                    refine AllReadyH.cons rfl (fun KK hKK => ?_) AllReadyH.nil
                    have hc9 := HC9.out.cell 4 (v := .slice qp nQ qc) rfl
                    have hf9 := HC9.out.free 4
                    go_simp
                    have hS1 : (w9.setCell ⟨H, 4, none⟩ (.slice p9 (nQ + 1) c9)).cell? ⟨X, 6, none⟩ = some (.string lsy) ∧ (w9.setCell ⟨H, 4, none⟩ (.slice p9 (nQ + 1) c9)).cell? ⟨H, 1, none⟩ = some (.slice cp nC cc) := ⟨HEq.out.ln 6 rfl, HEq.out.cell.cell 1 rfl⟩
                    refine hKK.out _ _ hS1 (fun _ => ?_)
                    clear hKK KK hS0
                    have hS0 := hS1
                    clear hS1
                    try simp only [Act.put, List.setIfInBounds_toArray, List.set_cons_zero, List.set_cons_succ, List.getElem_toArray, List.getElem_cons_succ, List.getElem_cons_zero]
                    clear hc9 hf9 HC9 hS0 HDm
                    generalize w9.setCell ⟨H, 4, none⟩ (.slice p9 (nQ + 1) c9) = w10 at HEq ⊢
                    refine wpAnyH_done (by kernel_rfl) ?_ _
                    refine hJ _ _ (Met.intro (hJ0 _ _ ?_))
                    repeat apply Exists.intro
                    refine ⟨?_, rfl⟩
                    exact hid ⟨_, _, _, HEq.out, by unfold relX; rw [if_neg Hlz.out]; simp [Hi6.out]⟩
              | true =>
                have e1 := HO5.out.cell.cell 1 (v := .slice cp nC cc) rfl
                go_upto_region 10 with (fail)
                clear e1
                have x0 := HO5.out.ln 0 (v := .int .i64 lo) rfl
                go_wp2_with fail
                refine (rtwo_any lo _).mono ?_
                rintro e w8 ⟨rfl, rfl⟩
                rw [Htw.out]
                clear x0
                obtain ⟨n1C, hn1C⟩ : ∃ n, nC + 1 = n := ⟨_, rfl⟩
                have Hn1C := hid hn1C
                have hn1i : (nC : Int) + 1 = (n1C : Int) := by omega
                clear hn1C
                go_upto_region 13 with (fail)
                clear hn1i
                have hg0 : w5.grownBy w5.drew none := grown_drew (grown_refl _ none)
                have HD0 := hid (HO5.out.kept0 hg0)
                obtain ⟨iq, hi, hz0, hz1, hz2⟩ := info_relx
                have Hiq := hid hi
                have Hzq0 := hid hz0
                have Hzq1 := hid hz1
                have Hzq2 := hid hz2
                clear hi hz0 hz1 hz2
                refine wp_region_held_drew (S := fun W => W.cell? ⟨X, 6, none⟩ = some (.string lsy) ∧ W.cell? ⟨H, 1, none⟩ = some (.slice cp nC cc)) (by kernel_rfl) ⟨HD0.out.ln 6 rfl, HD0.out.cell.cell 1 rfl⟩ (fun hS0 => ?_)
                clear hg0 HO5
                generalize w5.drew = wd at HD0 hS0 ⊢
                refine wpAnyH_take (i := 0) (v := ?_) rfl (by kernel_rfl) (by kernel_rfl) (by kernel_rfl) (fun _ _ _ h => h) (Or.inl ⟨by kernel_rfl, ?_⟩) hS0 ?_
                rotate_left
                · (intro W hSw; clear hSw; go_simp; try with_reducible rfl)
                try simp only [Act.put, List.setIfInBounds_toArray, List.set_cons_zero, List.set_cons_succ, List.getElem_toArray, List.getElem_cons_zero]
                refine wpAnyH_take (i := 2) (v := ?_) rfl (by kernel_rfl) (by kernel_rfl) (by kernel_rfl) (fun _ _ _ h => h) (Or.inl ⟨by kernel_rfl, ?_⟩) hS0 ?_
                rotate_left
                · (intro W hSw; clear hSw; go_simp; try with_reducible rfl)
                try simp only [Act.put, List.setIfInBounds_toArray, List.set_cons_zero, List.set_cons_succ, List.getElem_toArray, List.getElem_cons_succ, List.getElem_cons_zero]
                refine wpAnyH_take (i := 3) (v := ?_) rfl (by kernel_rfl) (by kernel_rfl) (by kernel_rfl) (fun _ _ _ h => h) (Or.inl ⟨by kernel_rfl, ?_⟩) hS0 ?_
                rotate_left
                · (intro W hSw; clear hSw; go_simp; try with_reducible rfl)
                try simp only [Act.put, List.setIfInBounds_toArray, List.set_cons_zero, List.set_cons_succ, List.getElem_toArray, List.getElem_cons_succ, List.getElem_cons_zero]
                refine wpAnyH_take (i := 4) (v := ?_) rfl (by kernel_rfl) (by kernel_rfl) (by kernel_rfl) (fun _ _ _ h => h) (Or.inl ⟨by kernel_rfl, ?_⟩) hS0 ?_
                rotate_left
                · (intro W hSw; clear hSw; go_simp; try with_reducible rfl)
                try simp only [Act.put, List.setIfInBounds_toArray, List.set_cons_zero, List.set_cons_succ, List.getElem_toArray, List.getElem_cons_succ, List.getElem_cons_zero]
                refine wpAnyH_take (i := 5) (v := ?_) rfl (by kernel_rfl) (by kernel_rfl) (by kernel_rfl) (fun _ _ _ h => h) (Or.inl ⟨by kernel_rfl, ?_⟩) hS0 ?_
                rotate_left
                · (intro W hSw; have hc := hSw.1; clear hSw; go_simp; try with_reducible rfl)
                try simp only [Act.put, List.setIfInBounds_toArray, List.set_cons_zero, List.set_cons_succ, List.getElem_toArray, List.getElem_cons_succ, List.getElem_cons_zero]
                refine wpAnyH_ready (rs := [1, 6]) (by kernel_rfl) (by simp) ?_
                refine AllReadyH.cons rfl (fun KK hKK => ?_) (AllReadyH.cons rfl (fun KK hKK => ?_) (AllReadyH.nil))
                · have hc := HD0.out.cell.cell 4 (v := .slice qp nQ qc) rfl
                  go_simp
                  refine hKK.out _ _ hS0 (fun _ => ?_)
                  clear hKK KK hc
                  try simp only [Act.put, List.setIfInBounds_toArray, List.set_cons_zero, List.set_cons_succ, List.getElem_toArray, List.getElem_cons_succ, List.getElem_cons_zero]
                  refine wpAnyH_ready (rs := [6]) (by kernel_rfl) (by simp) ?_
                  refine AllReadyH.cons rfl (fun KK hKK => ?_) (AllReadyH.nil)
                  go_simp
                  refine (sym_x HD0.out (by have := HLn.out; simp only; omega) lsy).mono ?_; rintro e' wc ⟨rfl, vs, ho⟩
                  obtain ⟨psx, csx, evs⟩ := own_slice ho.sRow
                  simp only at evs ho
                  subst evs
                  obtain ⟨i6, hi6⟩ : ∃ i, syIx XS lsy = i := ⟨_, rfl⟩
                  have Hi6 := hid hi6
                  rw [hi6]
                  have HDc := hid ho
                  have hS1 : wc.cell? ⟨X, 6, none⟩ = some (.string lsy) ∧ wc.cell? ⟨H, 1, none⟩ = some (.slice cp nC cc) := ⟨HDc.out.ln 6 rfl, HDc.out.cell.cell 1 rfl⟩
                  refine hKK.out _ _ hS1 (fun _ => ?_)
                  clear hKK KK hS0 ho hi6
                  have hS0 := hS1
                  clear hS1 HD0
                  have hbr := build_relx
                  try simp only [Act.put, List.setIfInBounds_toArray, List.set_cons_zero, List.set_cons_succ, List.getElem_toArray, List.getElem_cons_succ, List.getElem_cons_zero]
                  refine wpAnyH_take (i := 7) (v := ?_) rfl (by kernel_rfl) (by kernel_rfl) (by kernel_rfl) (fun _ _ _ h => h) (Or.inl ⟨by kernel_rfl, ?_⟩) hS0 ?_
                  rotate_left
                  · (intro W hSw; clear hSw; go_simp; try with_reducible rfl)
                  try simp only [Act.put, List.setIfInBounds_toArray, List.set_cons_zero, List.set_cons_succ, List.getElem_toArray, List.getElem_cons_succ, List.getElem_cons_zero]
                  refine wpAnyH_ready (rs := [8]) (by kernel_rfl) (by simp) ?_
                  refine AllReadyH.cons rfl (fun KK hKK => ?_) (AllReadyH.nil)
                  have HDm := hid (HDc.out.kept0 (World.grownBy_alloc wc (.cells #[.int .i64 (n1C : Int), .int .i64 1, .int .i64 (i6 : Int), .int .i64 0] 65) none))
                  have HNq : Hid (∀ j u, (rlC ⟨(n1C : Int), 1, (i6 : Int), 0⟩)[j]? = some u → (wc.alloc (.cells #[.int .i64 (n1C : Int), .int .i64 1, .int .i64 (i6 : Int), .int .i64 0] 65)).cell? ((⟨wc.heap.size, 0, none⟩ : Addr).add j) = some u) := hid (World.news_of_block (heap_alloc_new wc _))
                  have hS1 : (wc.alloc (.cells #[.int .i64 (n1C : Int), .int .i64 1, .int .i64 (i6 : Int), .int .i64 0] 65)).cell? ⟨X, 6, none⟩ = some (.string lsy) ∧ (wc.alloc (.cells #[.int .i64 (n1C : Int), .int .i64 1, .int .i64 (i6 : Int), .int .i64 0] 65)).cell? ⟨H, 1, none⟩ = some (.slice cp nC cc) := ⟨HDm.out.ln 6 rfl, HDm.out.cell.cell 1 rfl⟩
                  go_simp
                  refine hKK.out _ _ hS1 (fun _ => ?_)
                  clear hKK KK hS0
                  have hS0 := hS1
                  clear hS1 HDc
                  obtain ⟨bq, hbq⟩ : ∃ g, wc.heap.size = g := ⟨_, rfl⟩
                  try rw [hbq]
                  rw [hbq] at HNq
                  clear hbq
                  generalize wc.alloc (.cells #[.int .i64 (n1C : Int), .int .i64 1, .int .i64 (i6 : Int), .int .i64 0] 65) = wm at HDm HNq hS0 ⊢
                  try simp only [Act.put, List.setIfInBounds_toArray, List.set_cons_zero, List.set_cons_succ, List.getElem_toArray, List.getElem_cons_succ, List.getElem_cons_zero]
                  refine wpAnyH_ready (rs := [9]) (by kernel_rfl) (by simp) ?_
                  refine AllReadyH.cons rfl (fun KK hKK => ?_) AllReadyH.nil
                  have HOw := hid HDm.out.qR
                  simp only at HOw
                  rw [HnQ.out] at HOw
                  refine wp_append_any _ _ 38 rfl R 65 iq _ 4 32 Tryz.underlying38 Hiq.out Hzq0.out Hzq1.out Hzq2.out rfl (by decide) _ nQ _ rfl HOw.out _ 1 (rlC ⟨(n1C : Int), 1, (i6 : Int), 0⟩) rfl ⟨rfl, by simp [rlC, Value.oneCell'], .inl ⟨⟨bq, 0, none⟩, 1, rfl, HNq.out⟩⟩ (by have := HLn.out; unfold maxLen; omega) (by have := HLn.out; omega) HDm.out.size ?_
                  intro v9 w9 hown hg9 hat
                  obtain ⟨p9, c9, rfl⟩ := own_slice hown
                  obtain ⟨_, a2, _, _, _, a6, _⟩ := RosB.put (k := 4) (r := ⟨.slice qp nQ qc, 65, 4, XQ.length, rlsC XQ⟩) (v' := .slice p9 (nQ + 1) c9) (n' := nQ + 1) HDm.out rfl hown hg9 hat
                  have HEq := hid (HDm.out.addQ (v' := .slice p9 (nQ + 1) c9) ⟨(n1C : Int), 1, (i6 : Int), 0⟩ (by simp only; rw [HnQ.out]; exact hown) hg9 hat)
                  have HC9 := hid a2
                  have hl9 : w9.ownsRow R 31 8 (.slice (some ⟨X, 0, none⟩) 1 1) 1 (lxC ⟨lo, la, lb, lcc, lm, ByteArray.empty, lsy, false⟩) := a6 _ List.mem_cons_self
                  have hS1 : w9.cell? ⟨X, 6, none⟩ = some (.string lsy) ∧ w9.cell? ⟨H, 1, none⟩ = some (.slice cp nC cc) := ⟨(hl9.cellAt 6 (by decide)).trans rfl, HC9.out.cell 1 rfl⟩
                  refine hKK.out _ _ hS1 (fun _ => ?_)
                  clear hKK KK hS0 hown hg9 hat a2 a6 hl9
                  have hS0 := hS1
                  clear hS1
                  try simp only [Act.put, List.setIfInBounds_toArray, List.set_cons_zero, List.set_cons_succ, List.getElem_toArray, List.getElem_cons_succ, List.getElem_cons_zero]
                  refine wpAnyH_take (i := 10) (v := ?_) rfl (by kernel_rfl) (by kernel_rfl) (by kernel_rfl) (fun _ _ _ h => h) (Or.inl ⟨by kernel_rfl, ?_⟩) hS0 ?_
                  rotate_left
                  · (intro W hSw; clear hSw; go_simp; try with_reducible rfl)
                  try simp only [Act.put, List.setIfInBounds_toArray, List.set_cons_zero, List.set_cons_succ, List.getElem_toArray, List.getElem_cons_succ, List.getElem_cons_zero]
                  refine wpAnyH_ready (rs := [11]) (by kernel_rfl) (by simp) ?_
                  refine AllReadyH.cons rfl (fun KK hKK => ?_) AllReadyH.nil
                  have hc9 := HC9.out.cell 4 (v := .slice qp nQ qc) rfl
                  have hf9 := HC9.out.free 4
                  go_simp
                  have hS1 : (w9.setCell ⟨H, 4, none⟩ (.slice p9 (nQ + 1) c9)).cell? ⟨X, 6, none⟩ = some (.string lsy) ∧ (w9.setCell ⟨H, 4, none⟩ (.slice p9 (nQ + 1) c9)).cell? ⟨H, 1, none⟩ = some (.slice cp nC cc) := ⟨HEq.out.ln 6 rfl, HEq.out.cell.cell 1 rfl⟩
                  refine hKK.out _ _ hS1 (fun _ => ?_)
                  clear hKK KK hS0
                  have hS0 := hS1
                  clear hS1
                  try simp only [Act.put, List.setIfInBounds_toArray, List.set_cons_zero, List.set_cons_succ, List.getElem_toArray, List.getElem_cons_succ, List.getElem_cons_zero]
                  clear hc9 hf9 HC9 hS0 HDm
                  generalize w9.setCell ⟨H, 4, none⟩ (.slice p9 (nQ + 1) c9) = w10 at HEq ⊢
                  refine wpAnyH_done (by kernel_rfl) ?_ _
                  refine hJ _ _ (Met.intro (hJ0 _ _ ?_))
                  repeat apply Exists.intro
                  refine ⟨?_, rfl⟩
                  exact hid ⟨_, _, _, HEq.out, by unfold relX; rw [if_neg Hlz.out]; simp [Hi6.out, Hn1C.out]⟩
                · go_simp
                  refine (sym_x HD0.out (by have := HLn.out; simp only; omega) lsy).mono ?_; rintro e' wc ⟨rfl, vs, ho⟩
                  obtain ⟨psx, csx, evs⟩ := own_slice ho.sRow
                  simp only at evs ho
                  subst evs
                  obtain ⟨i6, hi6⟩ : ∃ i, syIx XS lsy = i := ⟨_, rfl⟩
                  have Hi6 := hid hi6
                  rw [hi6]
                  have HDc := hid ho
                  have hS1 : wc.cell? ⟨X, 6, none⟩ = some (.string lsy) ∧ wc.cell? ⟨H, 1, none⟩ = some (.slice cp nC cc) := ⟨HDc.out.ln 6 rfl, HDc.out.cell.cell 1 rfl⟩
                  refine hKK.out _ _ hS1 (fun _ => ?_)
                  clear hKK KK hS0 ho hi6
                  have hS0 := hS1
                  clear hS1 HD0
                  have hbr := build_relx
                  try simp only [Act.put, List.setIfInBounds_toArray, List.set_cons_zero, List.set_cons_succ, List.getElem_toArray, List.getElem_cons_succ, List.getElem_cons_zero]
                  refine wpAnyH_take (i := 7) (v := ?_) rfl (by kernel_rfl) (by kernel_rfl) (by kernel_rfl) (fun _ _ _ h => h) (Or.inl ⟨by kernel_rfl, ?_⟩) hS0 ?_
                  rotate_left
                  · (intro W hSw; clear hSw; go_simp; try with_reducible rfl)
                  try simp only [Act.put, List.setIfInBounds_toArray, List.set_cons_zero, List.set_cons_succ, List.getElem_toArray, List.getElem_cons_succ, List.getElem_cons_zero]
                  refine wpAnyH_ready (rs := [1, 8]) (by kernel_rfl) (by simp) ?_
                  refine AllReadyH.cons rfl (fun KK hKK => ?_) (AllReadyH.cons rfl (fun KK hKK => ?_) (AllReadyH.nil))
                  · have hc := HDc.out.cell.cell 4 (v := .slice qp nQ qc) rfl
                    go_simp
                    refine hKK.out _ _ hS0 (fun _ => ?_)
                    clear hKK KK hc
                    try simp only [Act.put, List.setIfInBounds_toArray, List.set_cons_zero, List.set_cons_succ, List.getElem_toArray, List.getElem_cons_succ, List.getElem_cons_zero]
                    refine wpAnyH_ready (rs := [8]) (by kernel_rfl) (by simp) ?_
                    refine AllReadyH.cons rfl (fun KK hKK => ?_) (AllReadyH.nil)
                    have HDm := hid (HDc.out.kept0 (World.grownBy_alloc wc (.cells #[.int .i64 (n1C : Int), .int .i64 1, .int .i64 (i6 : Int), .int .i64 0] 65) none))
                    have HNq : Hid (∀ j u, (rlC ⟨(n1C : Int), 1, (i6 : Int), 0⟩)[j]? = some u → (wc.alloc (.cells #[.int .i64 (n1C : Int), .int .i64 1, .int .i64 (i6 : Int), .int .i64 0] 65)).cell? ((⟨wc.heap.size, 0, none⟩ : Addr).add j) = some u) := hid (World.news_of_block (heap_alloc_new wc _))
                    have hS1 : (wc.alloc (.cells #[.int .i64 (n1C : Int), .int .i64 1, .int .i64 (i6 : Int), .int .i64 0] 65)).cell? ⟨X, 6, none⟩ = some (.string lsy) ∧ (wc.alloc (.cells #[.int .i64 (n1C : Int), .int .i64 1, .int .i64 (i6 : Int), .int .i64 0] 65)).cell? ⟨H, 1, none⟩ = some (.slice cp nC cc) := ⟨HDm.out.ln 6 rfl, HDm.out.cell.cell 1 rfl⟩
                    go_simp
                    refine hKK.out _ _ hS1 (fun _ => ?_)
                    clear hKK KK hS0
                    have hS0 := hS1
                    clear hS1 HDc
                    obtain ⟨bq, hbq⟩ : ∃ g, wc.heap.size = g := ⟨_, rfl⟩
                    try rw [hbq]
                    rw [hbq] at HNq
                    clear hbq
                    generalize wc.alloc (.cells #[.int .i64 (n1C : Int), .int .i64 1, .int .i64 (i6 : Int), .int .i64 0] 65) = wm at HDm HNq hS0 ⊢
                    try simp only [Act.put, List.setIfInBounds_toArray, List.set_cons_zero, List.set_cons_succ, List.getElem_toArray, List.getElem_cons_succ, List.getElem_cons_zero]
                    refine wpAnyH_ready (rs := [9]) (by kernel_rfl) (by simp) ?_
                    refine AllReadyH.cons rfl (fun KK hKK => ?_) AllReadyH.nil
                    have HOw := hid HDm.out.qR
                    simp only at HOw
                    rw [HnQ.out] at HOw
                    refine wp_append_any _ _ 38 rfl R 65 iq _ 4 32 Tryz.underlying38 Hiq.out Hzq0.out Hzq1.out Hzq2.out rfl (by decide) _ nQ _ rfl HOw.out _ 1 (rlC ⟨(n1C : Int), 1, (i6 : Int), 0⟩) rfl ⟨rfl, by simp [rlC, Value.oneCell'], .inl ⟨⟨bq, 0, none⟩, 1, rfl, HNq.out⟩⟩ (by have := HLn.out; unfold maxLen; omega) (by have := HLn.out; omega) HDm.out.size ?_
                    intro v9 w9 hown hg9 hat
                    obtain ⟨p9, c9, rfl⟩ := own_slice hown
                    obtain ⟨_, a2, _, _, _, a6, _⟩ := RosB.put (k := 4) (r := ⟨.slice qp nQ qc, 65, 4, XQ.length, rlsC XQ⟩) (v' := .slice p9 (nQ + 1) c9) (n' := nQ + 1) HDm.out rfl hown hg9 hat
                    have HEq := hid (HDm.out.addQ (v' := .slice p9 (nQ + 1) c9) ⟨(n1C : Int), 1, (i6 : Int), 0⟩ (by simp only; rw [HnQ.out]; exact hown) hg9 hat)
                    have HC9 := hid a2
                    have hl9 : w9.ownsRow R 31 8 (.slice (some ⟨X, 0, none⟩) 1 1) 1 (lxC ⟨lo, la, lb, lcc, lm, ByteArray.empty, lsy, false⟩) := a6 _ List.mem_cons_self
                    have hS1 : w9.cell? ⟨X, 6, none⟩ = some (.string lsy) ∧ w9.cell? ⟨H, 1, none⟩ = some (.slice cp nC cc) := ⟨(hl9.cellAt 6 (by decide)).trans rfl, HC9.out.cell 1 rfl⟩
                    refine hKK.out _ _ hS1 (fun _ => ?_)
                    clear hKK KK hS0 hown hg9 hat a2 a6 hl9
                    have hS0 := hS1
                    clear hS1
                    try simp only [Act.put, List.setIfInBounds_toArray, List.set_cons_zero, List.set_cons_succ, List.getElem_toArray, List.getElem_cons_succ, List.getElem_cons_zero]
                    refine wpAnyH_take (i := 10) (v := ?_) rfl (by kernel_rfl) (by kernel_rfl) (by kernel_rfl) (fun _ _ _ h => h) (Or.inl ⟨by kernel_rfl, ?_⟩) hS0 ?_
                    rotate_left
                    · (intro W hSw; clear hSw; go_simp; try with_reducible rfl)
                    try simp only [Act.put, List.setIfInBounds_toArray, List.set_cons_zero, List.set_cons_succ, List.getElem_toArray, List.getElem_cons_succ, List.getElem_cons_zero]
                    refine wpAnyH_ready (rs := [11]) (by kernel_rfl) (by simp) ?_
                    refine AllReadyH.cons rfl (fun KK hKK => ?_) AllReadyH.nil
                    have hc9 := HC9.out.cell 4 (v := .slice qp nQ qc) rfl
                    have hf9 := HC9.out.free 4
                    go_simp
                    have hS1 : (w9.setCell ⟨H, 4, none⟩ (.slice p9 (nQ + 1) c9)).cell? ⟨X, 6, none⟩ = some (.string lsy) ∧ (w9.setCell ⟨H, 4, none⟩ (.slice p9 (nQ + 1) c9)).cell? ⟨H, 1, none⟩ = some (.slice cp nC cc) := ⟨HEq.out.ln 6 rfl, HEq.out.cell.cell 1 rfl⟩
                    refine hKK.out _ _ hS1 (fun _ => ?_)
                    clear hKK KK hS0
                    have hS0 := hS1
                    clear hS1
                    try simp only [Act.put, List.setIfInBounds_toArray, List.set_cons_zero, List.set_cons_succ, List.getElem_toArray, List.getElem_cons_succ, List.getElem_cons_zero]
                    clear hc9 hf9 HC9 hS0 HDm
                    generalize w9.setCell ⟨H, 4, none⟩ (.slice p9 (nQ + 1) c9) = w10 at HEq ⊢
                    refine wpAnyH_done (by kernel_rfl) ?_ _
                    refine hJ _ _ (Met.intro (hJ0 _ _ ?_))
                    repeat apply Exists.intro
                    refine ⟨?_, rfl⟩
                    exact hid ⟨_, _, _, HEq.out, by unfold relX; rw [if_neg Hlz.out]; simp [Hi6.out, Hn1C.out]⟩
                  · have HDm := hid (HDc.out.kept0 (World.grownBy_alloc wc (.cells #[.int .i64 (n1C : Int), .int .i64 1, .int .i64 (i6 : Int), .int .i64 0] 65) none))
                    have HNq : Hid (∀ j u, (rlC ⟨(n1C : Int), 1, (i6 : Int), 0⟩)[j]? = some u → (wc.alloc (.cells #[.int .i64 (n1C : Int), .int .i64 1, .int .i64 (i6 : Int), .int .i64 0] 65)).cell? ((⟨wc.heap.size, 0, none⟩ : Addr).add j) = some u) := hid (World.news_of_block (heap_alloc_new wc _))
                    have hS1 : (wc.alloc (.cells #[.int .i64 (n1C : Int), .int .i64 1, .int .i64 (i6 : Int), .int .i64 0] 65)).cell? ⟨X, 6, none⟩ = some (.string lsy) ∧ (wc.alloc (.cells #[.int .i64 (n1C : Int), .int .i64 1, .int .i64 (i6 : Int), .int .i64 0] 65)).cell? ⟨H, 1, none⟩ = some (.slice cp nC cc) := ⟨HDm.out.ln 6 rfl, HDm.out.cell.cell 1 rfl⟩
                    go_simp
                    refine hKK.out _ _ hS1 (fun _ => ?_)
                    clear hKK KK hS0
                    have hS0 := hS1
                    clear hS1 HDc
                    obtain ⟨bq, hbq⟩ : ∃ g, wc.heap.size = g := ⟨_, rfl⟩
                    try rw [hbq]
                    rw [hbq] at HNq
                    clear hbq
                    generalize wc.alloc (.cells #[.int .i64 (n1C : Int), .int .i64 1, .int .i64 (i6 : Int), .int .i64 0] 65) = wm at HDm HNq hS0 ⊢
                    try simp only [Act.put, List.setIfInBounds_toArray, List.set_cons_zero, List.set_cons_succ, List.getElem_toArray, List.getElem_cons_succ, List.getElem_cons_zero]
                    refine wpAnyH_ready (rs := [1]) (by kernel_rfl) (by simp) ?_
                    refine AllReadyH.cons rfl (fun KK hKK => ?_) (AllReadyH.nil)
                    have hc := HDm.out.cell.cell 4 (v := .slice qp nQ qc) rfl
                    go_simp
                    refine hKK.out _ _ hS0 (fun _ => ?_)
                    clear hKK KK hc
                    try simp only [Act.put, List.setIfInBounds_toArray, List.set_cons_zero, List.set_cons_succ, List.getElem_toArray, List.getElem_cons_succ, List.getElem_cons_zero]
                    refine wpAnyH_ready (rs := [9]) (by kernel_rfl) (by simp) ?_
                    refine AllReadyH.cons rfl (fun KK hKK => ?_) AllReadyH.nil
                    have HOw := hid HDm.out.qR
                    simp only at HOw
                    rw [HnQ.out] at HOw
                    refine wp_append_any _ _ 38 rfl R 65 iq _ 4 32 Tryz.underlying38 Hiq.out Hzq0.out Hzq1.out Hzq2.out rfl (by decide) _ nQ _ rfl HOw.out _ 1 (rlC ⟨(n1C : Int), 1, (i6 : Int), 0⟩) rfl ⟨rfl, by simp [rlC, Value.oneCell'], .inl ⟨⟨bq, 0, none⟩, 1, rfl, HNq.out⟩⟩ (by have := HLn.out; unfold maxLen; omega) (by have := HLn.out; omega) HDm.out.size ?_
                    intro v9 w9 hown hg9 hat
                    obtain ⟨p9, c9, rfl⟩ := own_slice hown
                    obtain ⟨_, a2, _, _, _, a6, _⟩ := RosB.put (k := 4) (r := ⟨.slice qp nQ qc, 65, 4, XQ.length, rlsC XQ⟩) (v' := .slice p9 (nQ + 1) c9) (n' := nQ + 1) HDm.out rfl hown hg9 hat
                    have HEq := hid (HDm.out.addQ (v' := .slice p9 (nQ + 1) c9) ⟨(n1C : Int), 1, (i6 : Int), 0⟩ (by simp only; rw [HnQ.out]; exact hown) hg9 hat)
                    have HC9 := hid a2
                    have hl9 : w9.ownsRow R 31 8 (.slice (some ⟨X, 0, none⟩) 1 1) 1 (lxC ⟨lo, la, lb, lcc, lm, ByteArray.empty, lsy, false⟩) := a6 _ List.mem_cons_self
                    have hS1 : w9.cell? ⟨X, 6, none⟩ = some (.string lsy) ∧ w9.cell? ⟨H, 1, none⟩ = some (.slice cp nC cc) := ⟨(hl9.cellAt 6 (by decide)).trans rfl, HC9.out.cell 1 rfl⟩
                    refine hKK.out _ _ hS1 (fun _ => ?_)
                    clear hKK KK hS0 hown hg9 hat a2 a6 hl9
                    have hS0 := hS1
                    clear hS1
                    try simp only [Act.put, List.setIfInBounds_toArray, List.set_cons_zero, List.set_cons_succ, List.getElem_toArray, List.getElem_cons_succ, List.getElem_cons_zero]
                    refine wpAnyH_take (i := 10) (v := ?_) rfl (by kernel_rfl) (by kernel_rfl) (by kernel_rfl) (fun _ _ _ h => h) (Or.inl ⟨by kernel_rfl, ?_⟩) hS0 ?_
                    rotate_left
                    · (intro W hSw; clear hSw; go_simp; try with_reducible rfl)
                    try simp only [Act.put, List.setIfInBounds_toArray, List.set_cons_zero, List.set_cons_succ, List.getElem_toArray, List.getElem_cons_succ, List.getElem_cons_zero]
                    refine wpAnyH_ready (rs := [11]) (by kernel_rfl) (by simp) ?_
                    refine AllReadyH.cons rfl (fun KK hKK => ?_) AllReadyH.nil
                    have hc9 := HC9.out.cell 4 (v := .slice qp nQ qc) rfl
                    have hf9 := HC9.out.free 4
                    go_simp
                    have hS1 : (w9.setCell ⟨H, 4, none⟩ (.slice p9 (nQ + 1) c9)).cell? ⟨X, 6, none⟩ = some (.string lsy) ∧ (w9.setCell ⟨H, 4, none⟩ (.slice p9 (nQ + 1) c9)).cell? ⟨H, 1, none⟩ = some (.slice cp nC cc) := ⟨HEq.out.ln 6 rfl, HEq.out.cell.cell 1 rfl⟩
                    refine hKK.out _ _ hS1 (fun _ => ?_)
                    clear hKK KK hS0
                    have hS0 := hS1
                    clear hS1
                    try simp only [Act.put, List.setIfInBounds_toArray, List.set_cons_zero, List.set_cons_succ, List.getElem_toArray, List.getElem_cons_succ, List.getElem_cons_zero]
                    clear hc9 hf9 HC9 hS0 HDm
                    generalize w9.setCell ⟨H, 4, none⟩ (.slice p9 (nQ + 1) c9) = w10 at HEq ⊢
                    refine wpAnyH_done (by kernel_rfl) ?_ _
                    refine hJ _ _ (Met.intro (hJ0 _ _ ?_))
                    repeat apply Exists.intro
                    refine ⟨?_, rfl⟩
                    exact hid ⟨_, _, _, HEq.out, by unfold relX; rw [if_neg Hlz.out]; simp [Hi6.out, Hn1C.out]⟩
          case rest =>
            have HC5 := hid hcut.out
            clear hcut
            obtain ⟨⟨d5, c5, m5, r5, q5, s5⟩, Q5, S5, hp, hrl⟩ := HC5.out
            clear HC5
            obtain ⟨cp5, cc5, hcv⟩ := own_slice hp.cR
            obtain ⟨mp5, mc5, hmv⟩ := own_slice hp.mR
            simp only at hcv hmv
            rw [HnM.out] at hmv
            rw [HnC.out] at hcv
            subst hcv hmv
            have HP5 := hid hp
            have HRl := hid hrl
            clear hp hrl
            go_upto_region 14 with (fail)
            have HXC1 := hid (HP5.out.kept0 (World.grownBy_alloc wc (.cells #[.int .u32 wd0] 27) none))
            have HOwC1 : Hid ((wc.alloc (.cells #[.int .u32 wd0] 27)).ownsRow R 27 1 (.slice cp5 nC cc5) (nC) ((XC).map (Value.int .u32))) := hid (by have h := HXC1.out.cR; simp only at h; rw [HnC.out] at h; exact h)
            have HNwC1 : Hid (∀ j u, [Value.int .u32 wd0][j]? = some u → (wc.alloc (.cells #[.int .u32 wd0] 27)).cell? ((⟨wc.heap.size, 0, none⟩ : Addr).add j) = some u) := hid (World.news_of_block (heap_alloc_new wc _))
            have dC1 := HP5.out.cell.cell 1 (v := .slice cp5 nC cc5) rfl
            obtain ⟨iC1, hi, hz0, hz1, hz2⟩ := info_u32x
            have HiC1 := hid hi
            have Hz0C1 := hid hz0
            have Hz1C1 := hid hz1
            have Hz2C1 := hid hz2
            clear hi hz0 hz1 hz2
            go_upto_region 15 with (first
              | (refine is_app _ _ _ rfl ?_
                 refine wpList_append_lies _ rfl _ _ 36 rfl R 27 iC1 _ 1 4 Tryz.underlying36 HiC1.out Hz0C1.out Hz1C1.out Hz2C1.out rfl (by decide) _ (nC) _ rfl HOwC1.out ⟨wc.heap.size, 0, none⟩ 1 1 _ rfl rfl HNwC1.out (by simp [Value.oneCell']) (by decide) (by have := HLn.out; unfold maxLen; omega) (by have := HLn.out; omega) HXC1.out.size _ rfl ?_
                 intro gC1 pC1 zC1 hown hgrow hat hlt2
                 have hg4 : (wc.alloc (.cells #[.int .u32 wd0] 27)).grownBy zC1 (Value.slice cp5 nC cc5).ownBlock := hgrow
                 have hat4 : (Value.slice (some ⟨gC1, 0, none⟩) (nC + 1) pC1).ownBlock = (Value.slice cp5 nC cc5).ownBlock ∨ (Value.slice (some ⟨gC1, 0, none⟩) (nC + 1) pC1).ownBlock = some (wc.alloc (.cells #[.int .u32 wd0] 27)).heap.size := by rcases hat with e | e; (exact .inl e.symm); (exact .inr (by rw [← e]; rfl))
                 have HEC1 := hid (HXC1.out.addC (v' := .slice (some ⟨gC1, 0, none⟩) (nC + 1) pC1) (wd0) (by simp only; rw [HnC.out]; exact hown) hg4 hat4)
                 have hpt := (HXC1.out.row.kept hg4 (Ne.symm (HXC1.out.neH ⟨.slice cp5 nC cc5, 27, 1, (XC).length, (XC).map (Value.int .u32)⟩ (by simp [obRo]))))
                 have cC1 := hpt.cell 1 (v := .slice cp5 nC cc5) rfl
                 have yC1 := hpt.free 1
                 clear hown hgrow hat hlt2 hg4 hat4 hpt)
              | fail)
            clear HXC1 HOwC1 HNwC1 dC1 HiC1 Hz0C1 Hz1C1 Hz2C1 cC1 yC1 HP5
            generalize zC1.setCell ⟨H, 1, none⟩ (.slice (some ⟨gC1, 0, none⟩) (nC + 1) pC1) = kC1 at HEC1 ⊢
            have HlC1 : Hid ((XC ++ [wd0]).length = nC + 1) := hid (by rw [List.length_append, HnC.out]; rfl)
            have HXM2 := hid (HEC1.out.kept0 (World.grownBy_alloc kC1 (.cells #[.int .u8 1] 5) none))
            have HOwM2 : Hid ((kC1.alloc (.cells #[.int .u8 1] 5)).ownsRow R 5 1 (.slice mp5 nC mc5) (nC) ((XM).map (Value.int .u8))) := hid (by have h := HXM2.out.mR; simp only at h; rw [HnM.out] at h; exact h)
            have HNwM2 : Hid (∀ j u, [Value.int .u8 1][j]? = some u → (kC1.alloc (.cells #[.int .u8 1] 5)).cell? ((⟨kC1.heap.size, 0, none⟩ : Addr).add j) = some u) := hid (World.news_of_block (heap_alloc_new kC1 _))
            have dM2 := HEC1.out.cell.cell 2 (v := .slice mp5 nC mc5) rfl
            obtain ⟨iM2, hi, hz0, hz1, hz2⟩ := info_u8x
            have HiM2 := hid hi
            have Hz0M2 := hid hz0
            have Hz1M2 := hid hz1
            have Hz2M2 := hid hz2
            clear hi hz0 hz1 hz2
            go_upto_region 16 with (first
              | (refine is_app _ _ _ rfl ?_
                 refine wpList_append_lies _ rfl _ _ 37 rfl R 5 iM2 _ 1 1 Tryz.underlying37 HiM2.out Hz0M2.out Hz1M2.out Hz2M2.out rfl (by decide) _ (nC) _ rfl HOwM2.out ⟨kC1.heap.size, 0, none⟩ 1 1 _ rfl rfl HNwM2.out (by simp [Value.oneCell']) (by decide) (by have := HLn.out; unfold maxLen; omega) (by have := HLn.out; omega) HXM2.out.size _ rfl ?_
                 intro gM2 pM2 zM2 hown hgrow hat hlt2
                 have hg4 : (kC1.alloc (.cells #[.int .u8 1] 5)).grownBy zM2 (Value.slice mp5 nC mc5).ownBlock := hgrow
                 have hat4 : (Value.slice (some ⟨gM2, 0, none⟩) (nC + 1) pM2).ownBlock = (Value.slice mp5 nC mc5).ownBlock ∨ (Value.slice (some ⟨gM2, 0, none⟩) (nC + 1) pM2).ownBlock = some (kC1.alloc (.cells #[.int .u8 1] 5)).heap.size := by rcases hat with e | e; (exact .inl e.symm); (exact .inr (by rw [← e]; rfl))
                 have HEM2 := hid (HXM2.out.addM (v' := .slice (some ⟨gM2, 0, none⟩) (nC + 1) pM2) (1) (by simp only; rw [HnM.out]; exact hown) hg4 hat4)
                 have hpt := (HXM2.out.row.kept hg4 (Ne.symm (HXM2.out.neH ⟨.slice mp5 nC mc5, 5, 1, (XM).length, (XM).map (Value.int .u8)⟩ (by simp [obRo]))))
                 have cM2 := hpt.cell 2 (v := .slice mp5 nC mc5) rfl
                 have yM2 := hpt.free 2
                 clear hown hgrow hat hlt2 hg4 hat4 hpt)
              | fail)
            clear HXM2 HOwM2 HNwM2 dM2 HiM2 Hz0M2 Hz1M2 Hz2M2 cM2 yM2 HEC1
            generalize zM2.setCell ⟨H, 2, none⟩ (.slice (some ⟨gM2, 0, none⟩) (nC + 1) pM2) = kM2 at HEM2 ⊢
            have HlM2 : Hid ((XM ++ [1]).length = nC + 1) := hid (by rw [List.length_append, HnM.out]; rfl)
            have x0 := HEM2.out.ln 0 (v := .int .i64 lo) rfl
            go_wp2_with fail
            refine (rtwo_any lo _).mono ?_
            rintro e w8 ⟨rfl, rfl⟩
            rw [Htw.out]
            clear x0
            cases tw with
            | false =>
              have HF : Hid (objX D (ls.take (k + 1)) = ⟨XD, XC ++ [wd0], XM ++ [1], XR, Q5, S5⟩) := hid (by
                rw [objX_succ D Hl.out, Hx.out]
                unfold lxD
                have hrl := HRl.out
                simp only [Bool.false_eq_true, if_false] at hrl
                rw [if_neg (by simp), if_neg (by simp), if_neg (by rw [Htw.out]; simp)]
                simp only [HnC.out, hrl]
                unfold wrdX
                simp only [Hwd.out]
                )
              have HEx : Hid (∃ V, OgB W kM2 R H E V (objX D (ls.take (k + 1)))) := hid (by rw [HF.out]; exact ⟨_, HEM2.out.drop⟩)
              clear HEM2 HXs
              go_wp2
              go_roundw
              case rel => exact ⟨k + 1, Hlt.out, by go_num, HEx⟩
              case measure => simp [intOf]; have := Hlt.out; omega
            | true =>
              have x4 := HEM2.out.ln 4 (v := .int .u32 lm) rfl
              have HXC3 := hid (HEM2.out.kept0 (World.grownBy_alloc kM2 (.cells #[.int .u32 lm] 27) none))
              have HOwC3 : Hid ((kM2.alloc (.cells #[.int .u32 lm] 27)).ownsRow R 27 1 (.slice (some ⟨gC1, 0, none⟩) (nC + 1) pC1) (nC + 1) ((XC ++ [wd0]).map (Value.int .u32))) := hid (by have h := HXC3.out.cR; simp only at h; rw [HlC1.out] at h; exact h)
              have HNwC3 : Hid (∀ j u, [Value.int .u32 lm][j]? = some u → (kM2.alloc (.cells #[.int .u32 lm] 27)).cell? ((⟨kM2.heap.size, 0, none⟩ : Addr).add j) = some u) := hid (World.news_of_block (heap_alloc_new kM2 _))
              have dC3 := HEM2.out.cell.cell 1 (v := .slice (some ⟨gC1, 0, none⟩) (nC + 1) pC1) rfl
              obtain ⟨iC3, hi, hz0, hz1, hz2⟩ := info_u32x
              have HiC3 := hid hi
              have Hz0C3 := hid hz0
              have Hz1C3 := hid hz1
              have Hz2C3 := hid hz2
              clear hi hz0 hz1 hz2
              go_upto_region 18 with (first
                | (refine is_app _ _ _ rfl ?_
                   refine wpList_append_lies _ rfl _ _ 36 rfl R 27 iC3 _ 1 4 Tryz.underlying36 HiC3.out Hz0C3.out Hz1C3.out Hz2C3.out rfl (by decide) _ (nC + 1) _ rfl HOwC3.out ⟨kM2.heap.size, 0, none⟩ 1 1 _ rfl rfl HNwC3.out (by simp [Value.oneCell']) (by decide) (by have := HLn.out; unfold maxLen; omega) (by have := HLn.out; omega) HXC3.out.size _ rfl ?_
                   intro gC3 pC3 zC3 hown hgrow hat hlt2
                   have hg4 : (kM2.alloc (.cells #[.int .u32 lm] 27)).grownBy zC3 (Value.slice (some ⟨gC1, 0, none⟩) (nC + 1) pC1).ownBlock := hgrow
                   have hat4 : (Value.slice (some ⟨gC3, 0, none⟩) (nC + 1 + 1) pC3).ownBlock = (Value.slice (some ⟨gC1, 0, none⟩) (nC + 1) pC1).ownBlock ∨ (Value.slice (some ⟨gC3, 0, none⟩) (nC + 1 + 1) pC3).ownBlock = some (kM2.alloc (.cells #[.int .u32 lm] 27)).heap.size := by rcases hat with e | e; (exact .inl e.symm); (exact .inr (by rw [← e]; rfl))
                   have HEC3 := hid (HXC3.out.addC (v' := .slice (some ⟨gC3, 0, none⟩) (nC + 1 + 1) pC3) (lm) (by simp only; rw [HlC1.out]; exact hown) hg4 hat4)
                   have hpt := (HXC3.out.row.kept hg4 (Ne.symm (HXC3.out.neH ⟨.slice (some ⟨gC1, 0, none⟩) (nC + 1) pC1, 27, 1, (XC ++ [wd0]).length, (XC ++ [wd0]).map (Value.int .u32)⟩ (by simp [obRo]))))
                   have cC3 := hpt.cell 1 (v := .slice (some ⟨gC1, 0, none⟩) (nC + 1) pC1) rfl
                   have yC3 := hpt.free 1
                   clear hown hgrow hat hlt2 hg4 hat4 hpt)
                | fail)
              clear HXC3 HOwC3 HNwC3 dC3 HiC3 Hz0C3 Hz1C3 Hz2C3 cC3 yC3 HEM2
              generalize zC3.setCell ⟨H, 1, none⟩ (.slice (some ⟨gC3, 0, none⟩) (nC + 1 + 1) pC3) = kC3 at HEC3 ⊢
              have HlC3 : Hid ((XC ++ [wd0] ++ [lm]).length = nC + 1 + 1) := hid (by rw [List.length_append, HlC1.out]; rfl)
              clear x4
              have HXM4 := hid (HEC3.out.kept0 (World.grownBy_alloc kC3 (.cells #[.int .u8 0] 5) none))
              have HOwM4 : Hid ((kC3.alloc (.cells #[.int .u8 0] 5)).ownsRow R 5 1 (.slice (some ⟨gM2, 0, none⟩) (nC + 1) pM2) (nC + 1) ((XM ++ [1]).map (Value.int .u8))) := hid (by have h := HXM4.out.mR; simp only at h; rw [HlM2.out] at h; exact h)
              have HNwM4 : Hid (∀ j u, [Value.int .u8 0][j]? = some u → (kC3.alloc (.cells #[.int .u8 0] 5)).cell? ((⟨kC3.heap.size, 0, none⟩ : Addr).add j) = some u) := hid (World.news_of_block (heap_alloc_new kC3 _))
              have dM4 := HEC3.out.cell.cell 2 (v := .slice (some ⟨gM2, 0, none⟩) (nC + 1) pM2) rfl
              obtain ⟨iM4, hi, hz0, hz1, hz2⟩ := info_u8x
              have HiM4 := hid hi
              have Hz0M4 := hid hz0
              have Hz1M4 := hid hz1
              have Hz2M4 := hid hz2
              clear hi hz0 hz1 hz2
              go_upto_region 4 with (first
                | (refine is_app _ _ _ rfl ?_
                   refine wpList_append_lies _ rfl _ _ 37 rfl R 5 iM4 _ 1 1 Tryz.underlying37 HiM4.out Hz0M4.out Hz1M4.out Hz2M4.out rfl (by decide) _ (nC + 1) _ rfl HOwM4.out ⟨kC3.heap.size, 0, none⟩ 1 1 _ rfl rfl HNwM4.out (by simp [Value.oneCell']) (by decide) (by have := HLn.out; unfold maxLen; omega) (by have := HLn.out; omega) HXM4.out.size _ rfl ?_
                   intro gM4 pM4 zM4 hown hgrow hat hlt2
                   have hg4 : (kC3.alloc (.cells #[.int .u8 0] 5)).grownBy zM4 (Value.slice (some ⟨gM2, 0, none⟩) (nC + 1) pM2).ownBlock := hgrow
                   have hat4 : (Value.slice (some ⟨gM4, 0, none⟩) (nC + 1 + 1) pM4).ownBlock = (Value.slice (some ⟨gM2, 0, none⟩) (nC + 1) pM2).ownBlock ∨ (Value.slice (some ⟨gM4, 0, none⟩) (nC + 1 + 1) pM4).ownBlock = some (kC3.alloc (.cells #[.int .u8 0] 5)).heap.size := by rcases hat with e | e; (exact .inl e.symm); (exact .inr (by rw [← e]; rfl))
                   have HEM4 := hid (HXM4.out.addM (v' := .slice (some ⟨gM4, 0, none⟩) (nC + 1 + 1) pM4) (0) (by simp only; rw [HlM2.out]; exact hown) hg4 hat4)
                   have hpt := (HXM4.out.row.kept hg4 (Ne.symm (HXM4.out.neH ⟨.slice (some ⟨gM2, 0, none⟩) (nC + 1) pM2, 5, 1, (XM ++ [1]).length, (XM ++ [1]).map (Value.int .u8)⟩ (by simp [obRo]))))
                   have cM4 := hpt.cell 2 (v := .slice (some ⟨gM2, 0, none⟩) (nC + 1) pM2) rfl
                   have yM4 := hpt.free 2
                   clear hown hgrow hat hlt2 hg4 hat4 hpt)
                | fail)
              clear HXM4 HOwM4 HNwM4 dM4 HiM4 Hz0M4 Hz1M4 Hz2M4 cM4 yM4 HEC3
              generalize zM4.setCell ⟨H, 2, none⟩ (.slice (some ⟨gM4, 0, none⟩) (nC + 1 + 1) pM4) = kM4 at HEM4 ⊢
              have HlM4 : Hid ((XM ++ [1] ++ [0]).length = nC + 1 + 1) := hid (by rw [List.length_append, HlM2.out]; rfl)
              have HF : Hid (objX D (ls.take (k + 1)) = ⟨XD, XC ++ [wd0] ++ [lm], XM ++ [1] ++ [0], XR, Q5, S5⟩) := hid (by
                rw [objX_succ D Hl.out, Hx.out]
                unfold lxD
                have hrl := HRl.out
                simp only [if_true] at hrl
                rw [if_neg (by simp), if_neg (by simp), if_pos Htw.out]
                simp only [HnC.out, hrl]
                unfold wrdX
                simp only [Hwd.out, List.append_assoc, List.cons_append, List.nil_append]
                )
              have HEx : Hid (∃ V, OgB W kM4 R H E V (objX D (ls.take (k + 1)))) := hid (by rw [HF.out]; exact ⟨_, HEM4.out.drop⟩)
              clear HEM4 HXs
              go_wp2
              go_roundw
              case rel => exact ⟨k + 1, Hlt.out, by go_num, HEx⟩
              case measure => simp [intOf]; have := Hlt.out; omega
      · obtain ⟨hn1, hn2⟩ := neq_empty hnm
        have x5 := HO4.out.ln 5 (v := .string lnm) rfl
        go_wp2_with fail
        refine (sym_x HO4.out (by have := HLn.out; simp only; omega) lnm).mono ?_
        rintro e w5 ⟨rfl, vs, ho⟩
        simp only at ho
        have hsl := syS_length XS lnm
        obtain ⟨i5, hi5⟩ : ∃ i, syIx XS lnm = i := ⟨_, rfl⟩
        obtain ⟨n5, hn5⟩ : ∃ i, (syS XS lnm).length = i := ⟨_, rfl⟩
        have Hi5 := hid hi5
        have Hn5 := hid hn5
        rw [hi5, hn5] at hsl
        rw [hi5]
        obtain ⟨g, cs, hvs⟩ := own_some ho.sRow (by simp only; omega)
        simp only [hn5] at hvs
        subst hvs
        have hsr : w5.ownsRow R 63 4 (.slice (some ⟨g, 0, none⟩) n5 cs) n5 (sysC (syS XS lnm)) := by have h := ho.sRow; simp only [hn5] at h; exact h
        have hcs : ∀ j, j < n5 * 4 → ∃ u, w5.cell? ⟨g, j, none⟩ = some u := fun j hj => by
          obtain ⟨u, hu⟩ : ∃ u, (sysC (syS XS lnm))[j]? = some u := ⟨_, List.getElem?_eq_getElem (by have := hsr.1; omega)⟩
          exact ⟨u, (hsr.cellAt j hj).trans hu⟩
        obtain ⟨u0, s0⟩ := hcs (i5 * 4) (by omega)
        obtain ⟨u1, s1⟩ := hcs (i5 * 4 + 1) (by omega)
        obtain ⟨u2, s2⟩ := hcs (i5 * 4 + 2) (by omega)
        obtain ⟨u3, s3⟩ := hcs (i5 * 4 + 3) (by omega)
        have f0 := hsr.frozenAt (i5 * 4)
        have f1 := hsr.frozenAt (i5 * 4 + 1)
        have f2 := hsr.frozenAt (i5 * 4 + 2)
        have f3 := hsr.frozenAt (i5 * 4 + 3)
        have e5 := ho.cell.cell 5 (v := .slice (some ⟨g, 0, none⟩) n5 cs) rfl
        have e1 := ho.cell.cell 1 (v := .slice cp nC cc) rfl
        have x5 := ho.ln 5 (v := .string lnm) rfl
        have j0 : (0 : Int) ≤ (i5 : Int) := by omega
        have j1 : (i5 : Int) < (n5 : Int) := by omega
        have HE := hid (ho.setSy hn5 (k := i5) (by omega) ⟨lnm, 2, nC, true⟩).drop
        have HF : Hid (objX D (ls.take (k + 1)) = ⟨XD, XC, XM, XR, XQ, (syS XS lnm).set i5 ⟨lnm, 2, nC, true⟩⟩) := hid (by
          rw [objX_succ D Hl.out, Hx.out]
          unfold lxD
          rw [if_pos hnm]
          simp only [Hi5.out, HnC.out])
        have HEx : Hid (∃ V, OgB W ((((w5.setCell ⟨g, i5 * 4, none⟩ (.string lnm)).setCell ⟨g, i5 * 4 + 1, none⟩ (.int .i64 2)).setCell ⟨g, i5 * 4 + 2, none⟩ (.int .i64 (nC : Int))).setCell ⟨g, i5 * 4 + 3, none⟩ (.bool true)) R H E V (objX D (ls.take (k + 1)))) := hid (by rw [HF.out]; exact ⟨_, HE.out⟩)
        have hbs := build_symx
        clear HE hcs hsr ho hsl hi5 hn5 HO4 HXs hn1 hn2 hnm
        go_wp2
        go_roundw
        case rel => exact ⟨k + 1, Hlt.out, by go_num, HEx⟩
        case measure => simp [intOf]; have := Hlt.out; omega
end Go.Proofs.YtnpnafidhcnkhaaGreatDoor

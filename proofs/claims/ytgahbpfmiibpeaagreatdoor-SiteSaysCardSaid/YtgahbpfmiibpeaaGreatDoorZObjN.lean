/- Objects of lines (facademake): contracts of its helpers. -/
import Derived.Test.YtgahbpfmiibpeaaGreatDoorZMkOp
import Derived.Test.YtgahbpfmiibpeaaGreatDoorZOWr0
import Derived.Test.YtgahbpfmiibpeaaGreatDoorZGRead
namespace Go.Proofs.YtgahbpfmiibpeaaGreatDoor
open Go.RowKit
/-- a label's line -/
def lbC (nm : ByteArray) : Array Value := #[.int .i64 0, .int .i64 0, .int .i64 0, .int .i64 0, .int .u32 0, .string nm, .string ByteArray.empty, .bool false]
theorem build_lab (nm : ByteArray) (w : World) : (Instr.build 60 #[(1, .string nm)]).run Tryz.prog w = .ok (.agg (lbC nm)) w := by kernel_rfl
theorem lab_one (nm : ByteArray) : (lbC nm).all (·.oneCell') = true := by simp [lbC, Value.oneCell']
section
variable {ops : Array Oper} {rest : List Oper} {o : Oper} {A : Act} {w : World} {Q : Exit → Act → World → Prop}
theorem wpList_build_lab (hgd : o.guard = none) (x : Operand) (ho : o.op = .build 60 #[(1, x)]) {nm : ByteArray} (hx : A.eval x = .string nm) (h : wpList Tryz.prog ops Q rest (A.put o.dst (.agg (lbC nm))) w) : wpList Tryz.prog ops Q (o :: rest) A w := by
  refine wpList_plain hgd fun K hK => ?_
  unfold Oper.wp
  simp [execOp, ho, hx, build_lab nm w, Result.andThen]
  exact hK _ _ h
end
set_option maxRecDepth 100000 in
set_option maxHeartbeats 1000000 in
theorem at_any (nm : ByteArray) (W : World) : Calls Tryz.prog 23 #[.string nm] W fun e w' => e = .returned (.agg (lbC nm)) ∧ W.grownBy w' none := by
  have Hz := zero_line
  have H1 := hid ((RwAt.new W 60 (lnC 0 0)).row (lbC nm))
  have HG := hid (grown_setRow (grown_alloc (grown_refl W none) (.cells (lnC 0 0) 60)) (Nat.le_refl W.heap.size) (lbC nm))
  go_enter Tryz.func23, Tryz.ntmps23
  go_wp2_with (first
    | (refine wpList_build_lab rfl _ rfl rfl ?_)
    | (refine wpList_store_rw rfl 60 _ _ rfl rfl rfl (RwAt.new _ _ _) (by kernel_rfl) rfl (lab_one _) ?_)
    | fail)
  refine bodyPost_ret (results_cell_row Tryz.results23 _ _ W.heap.size _ _ _ _ rfl H1.out.blk Tryz.underlying60 rfl (by kernel_rfl)) rfl ?_
  exact ⟨rfl, HG.out⟩
theorem own_keep0 {w w1 : World} {B size n : Nat} {t : TypeId} {v : Value} {cs : List Value} (h : w.ownsRow B t size v n cs) (hg : w.grownBy w1 none) : w1.ownsRow B t size v n cs := h.kept hg (by cases v.ownBlock <;> simp)
structure RWo (w0 : World) (lv : Value) (xs : List Int) (v : Value) (k : Nat) (w : World) : Prop where
  by_ : w.ownsRow w0.heap.size 46 1 v (xs.take k).length ((xs.take k).map (Value.int .u32))
  g : w0.grownBy w none
  sl : SlAt w .u32 lv xs
set_option maxRecDepth 100000 in
set_option maxHeartbeats 2000000 in
theorem rwords_any {w : World} {lv : Value} {xs : List Int} (hl : SlAt w .u32 lv xs) (hn : xs.length ≤ 1000000) :
    Calls Tryz.prog 54 #[lv] w fun e w' => ∃ v, e = .returned v ∧ w'.ownsRow w.heap.size 46 1 v xs.length (xs.map (Value.int .u32)) ∧ w.grownBy w' none := by
  obtain ⟨p, c, rfl⟩ := hl.len'
  obtain ⟨i, hi, hz0, hz1, hz2⟩ := info_u32
  obtain ⟨w1, hmk, how, hgr⟩ := run_make_own (P := Tryz.prog) w w.heap.size 22 46 i _ 1 Tryz.underlying22 hi hz0 hz1 .i64 .i64 xs.length (by rw [hz2]; omega) (by unfold maxLen; omega) (Nat.le_refl _)
  have Hi := hid hi
  have Hz0 := hid hz0
  have Hz1 := hid hz1
  have Hz2 := hid hz2
  have HSl := hid hl
  have HA : Hid (RWo w (.slice p xs.length c) xs (.slice (some ⟨w.heap.size, 0, none⟩) 0 xs.length) 0 w1) := hid ⟨by simpa using how, hgr, hl.kept0 hgr⟩
  have Hn := hid hn
  have nl : (xs.length : Int) ≤ 9223372036854775807 := by omega
  clear hl hn hi hz0 hz1 hz2 how hgr
  go_enter Tryz.func54, Tryz.ntmps54
  go_wp2
  clear hmk
  go_loopw [3, 4] (fun b i wr => ∃ k : Nat, k ≤ xs.length ∧ i = .int .i64 k ∧ Hid (RWo w (.slice p xs.length c) xs b k wr)) (fun _ i _ => xs.length - (intOf i).toNat)
  case atStart => exact ⟨0, Nat.zero_le _, rfl, HA⟩
  case round =>
    obtain ⟨k, hk, rfl, HR⟩ := hrel
    have k0 : (0 : Int) ≤ (k : Int) := by omega
    by_cases hlt : k < xs.length
    · have kn : (k : Int) < (xs.length : Int) := by omega
      obtain ⟨x, hx⟩ : ∃ x, xs[k]? = some x := ⟨_, List.getElem?_eq_getElem hlt⟩
      obtain ⟨b, o, c', hv, hb, hc⟩ := HR.out.sl.at_ (by omega)
      obtain ⟨rfl, rfl⟩ : p = some ⟨b, o, none⟩ ∧ c = c' := by simpa using hv
      have ex := hc k x hx
      have Hx := hid hx
      have Hlt := hid hlt
      clear hc hv hx hlt
      have HB := hid (own_keep0 HR.out.by_ (World.grownBy_alloc wr (.cells #[.int .u32 x] 46) none))
      obtain ⟨L, HL⟩ : ∃ L, Hid ((xs.take k).length = L) := ⟨_, hid rfl⟩
      have HLn : Hid (L + 1 ≤ 1000000) := hid (by
        have h1 := HL.out
        have h2 := Hn.out
        have h3 := Hlt.out
        rw [List.length_take] at h1
        omega)
      have HBo := hid HB.out
      rw [HL.out] at HBo
      have Hnews : Hid (∀ j u, [Value.int .u32 x][j]? = some u → (wr.alloc (.cells #[.int .u32 x] 46)).cell? ((⟨wr.heap.size, 0, none⟩ : Addr).add j) = some u) := hid (World.news_of_block (heap_alloc_new wr _))
      go_wp2_with (first
        | (refine wpList_append_lies _ rfl _ _ 22 rfl w.heap.size 46 i _ 1 4 Tryz.underlying22 Hi.out Hz0.out Hz1.out Hz2.out rfl (by decide) _ L _ rfl HBo.out ⟨wr.heap.size, 0, none⟩ 1 1 _ rfl rfl Hnews.out (by simp [Value.oneCell']) (by decide) (by have := HLn.out; unfold maxLen; omega) (by have := HLn.out; omega) (Nat.le_trans HR.out.g.size (by simp)) _ rfl ?_; intro g cap w2 hown hgrow hat hlt2; have HO := hid hown; have HG := hid hgrow; have HT := hid hat; clear hown hgrow hat)
        | fail)
      go_roundw
      case rel =>
        refine ⟨k + 1, by omega, by go_num, hid ?_⟩
        have hww : xs.take (k + 1) = xs.take k ++ [x] := by rw [List.take_add_one, Hx.out]; rfl
        have hL := HL.out
        have hgw : w.grownBy w2 none := grown_new' (grown_trans (grown_none HR.out.g) (grown_trans (World.grownBy_alloc wr _ _) HG.out)) (fun j hj => (HR.out.by_.lt j hj).1)
        refine ⟨?_, hgw, ?_⟩
        · rw [hww, List.length_append, hL, List.map_append]
          exact HO.out
        · exact HSl.out.kept0 hgw
      case measure => simp [intOf]; have := Hlt.out; omega
    · obtain rfl : k = xs.length := by omega
      clear hlt
      go_wp2
      go_ret
      have h1 := HR.out.by_
      rw [List.take_length] at h1
      exact ⟨_, rfl, h1, HR.out.g⟩
theorem lzero_sym (w : World) : (zeroValue 88).run Tryz.prog w = .ok (.agg #[.string ⟨#[]⟩, .int .i64 0, .int .i64 0, .bool false]) w := by kernel_rfl
set_option maxRecDepth 100000 in
set_option maxHeartbeats 2000000 in
/-- the first symbol of an object that has none -/
theorem sym_first {W w : World} {G : Nat} {Ts : List Nat} {V : OV} {x : PO} (h : OBx W w G Ts V x) (hs : V.s = .slice none 0 0) (hS : x.S = []) (nm : ByteArray) :
    Calls Tryz.prog 55 #[.pointer (some ⟨G, 0, none⟩), .string nm] w fun e w' => e = .returned (.int .i64 0) ∧ ∃ g cap, OBx W w' G Ts { V with s := .slice (some ⟨g, 0, none⟩) 1 cap } { x with S := [⟨nm, 3, 0, true⟩] } ∧ w.grownBy w' (some G) := by
  obtain ⟨d, c, m, r, q, s⟩ := V
  obtain ⟨D, C, M, R, Q, S⟩ := x
  simp only at hs hS
  subst hs; subst hS
  have HO := hid h
  have Hzs := lzero_sym
  have e5 := h.g1.cell 5 (v := .slice none 0 0) rfl
  obtain ⟨i, hi, hz0, hz1, hz2⟩ := info_symb
  have Hi := hid hi
  have Hz0 := hid hz0
  have Hz1 := hid hz1
  have Hz2 := hid hz2
  have H1 := hid (h.kept0 (World.grownBy_alloc w (.cells #[.string nm, .int .i64 3, .int .i64 0, .bool true] 88) none))
  have HOw := hid H1.out.own.s
  have Hnews : Hid (∀ j u, [Value.string nm, .int .i64 3, .int .i64 0, .bool true][j]? = some u → (w.alloc (.cells #[.string nm, .int .i64 3, .int .i64 0, .bool true] 88)).cell? ((⟨w.heap.size, 0, none⟩ : Addr).add j) = some u) := hid (World.news_of_block (heap_alloc_new w _))
  clear h hi hz0 hz1 hz2
  go_enter Tryz.func55, Tryz.ntmps55
  go_wp2
  go_loop [5] (fun i => i = .int .i64 0) (fun _ => 0)
  case atStart => rfl
  case round =>
    obtain rfl := hrel
    go_wp2_with (first
      | (refine wpList_append_lies _ rfl _ _ 25 rfl W.heap.size 88 i _ 4 40 Tryz.underlying25 Hi.out Hz0.out Hz1.out Hz2.out rfl (by decide) _ 0 _ rfl HOw.out ⟨w.heap.size, 0, none⟩ 1 1 _ rfl rfl Hnews.out (by simp [Value.oneCell']) (by decide) (by unfold maxLen; omega) (by omega) H1.out.le _ rfl ?_; intro g cap w6 hown hgrow hat hlt2; have hgrow0 : (w.alloc (.cells #[.string nm, .int .i64 3, .int .i64 0, .bool true] 88)).grownBy w6 none := hgrow; have hat0 : (Value.slice none 0 0).ownBlock = some g ∨ g = (w.alloc (.cells #[.string nm, .int .i64 3, .int .i64 0, .bool true] 88)).heap.size := hat; have HOn := hid hown; have HG := hid hgrow0; have HT := hid hat0; have e6 := (H1.out.g1.kept0 hgrow0).cell 5 (v := .slice none 0 0) rfl; have z6 := (H1.out.g1.kept0 hgrow0).free 5; have HB6 := hid (H1.out.g1.kept0 hgrow0); clear hown hgrow hat hlt2 hgrow0 hat0)
      | fail)
    have hx := OBx.tS (V1 := ⟨d, c, m, r, q, .slice none 0 0⟩) (x1 := ⟨D, C, M, R, Q, []⟩) (N := 0) (M := 1) H1.out [⟨nm, 3, 0, true⟩] rfl rfl HG.out HT.out (by simpa [sysC, syC] using HOn.out)
    have hgg : w.grownBy (w6.setCell ⟨G, 5, none⟩ (.slice (some ⟨g, 0, none⟩) (0 + 1) cap)) (some G) := grown_trans (grown_none (grown_trans (World.grownBy_alloc w _ none) HG.out)) (grown_setCell (grown_refl _ _) _ _)
    have Hx := hid hx
    have Hgg := hid hgg
    clear hx hgg
    go_ret
    exact ⟨rfl, ⟨g, cap, by simpa using Hx.out⟩, by simpa using Hgg.out⟩
end Go.Proofs.YtgahbpfmiibpeaaGreatDoor

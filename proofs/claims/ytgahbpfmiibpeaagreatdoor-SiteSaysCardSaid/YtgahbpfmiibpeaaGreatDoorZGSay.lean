/- facademake's Li and Says: contracts. -/
import Derived.Test.YtgahbpfmiibpeaaGreatDoorZMake
import Derived.Test.YtgahbpfmiibpeaaGreatDoorZGOWr
import Derived.Test.YtgahbpfmiibpeaaGreatDoorZGSite
import Derived.Test.YtgahbpfmiibpeaaGreatDoorZSite4
namespace Go.Proofs.YtgahbpfmiibpeaaGreatDoor
open Go.RowKit
theorem build_li (a n : Int) (w : World) : (Instr.build 48 #[(0, .int .i64 14), (1, .int .i64 a), (4, .int .u32 n)]).run Tryz.prog w = .ok (.agg #[.int .i64 14, .int .i64 a, .int .i64 0, .int .i64 0, .int .u32 n]) w := by kernel_rfl
theorem build_ln (o a b c m : Int) (w : World) : (Instr.build 60 #[(0, .agg #[.int .i64 o, .int .i64 a, .int .i64 b, .int .i64 c, .int .u32 m])]).run Tryz.prog w = .ok (.agg (lneC (.op o a b c m))) w := by kernel_rfl
theorem lne_one (l : Lne) : (lneC l).all (·.oneCell') = true := by cases l <;> simp [lneC, Value.oneCell']
section
variable {ops : Array Oper} {rest : List Oper} {o : Oper} {A : Act} {w : World} {Q : Exit → Act → World → Prop}
set_option maxRecDepth 100000 in
theorem wpList_build_li (hgd : o.guard = none) (z x y : Operand) (ho : o.op = .build 48 #[(0, z), (1, x), (4, y)]) {a n : Int} (hz : A.eval z = .int .i64 14) (hx : A.eval x = .int .i64 a) (hy : A.eval y = .int .u32 n) (h : wpList Tryz.prog ops Q rest (A.put o.dst (.agg #[.int .i64 14, .int .i64 a, .int .i64 0, .int .i64 0, .int .u32 n])) w) : wpList Tryz.prog ops Q (o :: rest) A w := by
  refine wpList_plain hgd fun K hK => ?_
  unfold Oper.wp
  simp [execOp, ho, hx, hy, hz, build_li a n w, Result.andThen]
  exact hK _ _ h
theorem wpList_build_ln (hgd : o.guard = none) (x : Operand) (ho : o.op = .build 60 #[(0, x)]) {p a b c m : Int} (hx : A.eval x = .agg #[.int .i64 p, .int .i64 a, .int .i64 b, .int .i64 c, .int .u32 m]) (h : wpList Tryz.prog ops Q rest (A.put o.dst (.agg (lneC (.op p a b c m)))) w) : wpList Tryz.prog ops Q (o :: rest) A w := by
  refine wpList_plain hgd fun K hK => ?_
  unfold Oper.wp
  simp [execOp, ho, hx, build_ln p a b c m w, Result.andThen]
  exact hK _ _ h
end
set_option maxRecDepth 100000 in
set_option maxHeartbeats 1000000 in
theorem li_any (a n : Int) (W : World) : Calls Tryz.prog 64 #[.int .i64 a, .int .u32 n] W fun e w' => e = .returned (.agg (lneC (.op 14 a 0 0 n))) ∧ W.grownBy w' none := by
  have Hz := zero_line
  have H1 := hid ((RwAt.new W 60 (lnC 0 0)).row (lneC (.op 14 a 0 0 n)))
  have HG := hid (grown_setRow (grown_alloc (grown_refl W none) (.cells (lnC 0 0) 60)) (Nat.le_refl W.heap.size) (lneC (.op 14 a 0 0 n)))
  go_enter Tryz.func64, Tryz.ntmps64
  go_wp2_with (first
    | (refine wpList_build_li rfl _ _ _ rfl rfl rfl rfl ?_)
    | (refine wpList_build_ln rfl _ rfl rfl ?_)
    | (refine wpList_store_rw rfl 60 _ _ rfl rfl rfl (RwAt.new _ _ _) (by kernel_rfl) rfl (lne_one _) ?_)
    | fail)
  refine bodyPost_ret (results_cell_row Tryz.results64 _ _ W.heap.size _ _ _ _ rfl H1.out.blk Tryz.underlying60 rfl (by kernel_rfl)) rfl ?_
  exact ⟨rfl, HG.out⟩
theorem OwnO.keptR {B R : Nat} {w w1 : World} {V : OV} {x : PO} (h : OwnO B w V x) (hg : w.grownBy w1 (some R)) (hR : R < B) : OwnO B w1 V x := by
  have k : ∀ {t : TypeId} {size n : Nat} {v : Value} {cs : List Value}, w.ownsRow B t size v n cs → v.ownBlock = none ∨ v.ownBlock ≠ some R := fun h => .inr (fun e => by have := (h.lt R e).1; omega)
  exact ⟨h.d.kept hg (k h.d), h.c.kept hg (k h.c), h.m.kept hg (k h.m), h.r.kept hg (k h.r), h.q.kept hg (k h.q), h.s.kept hg (k h.s), h.ap⟩
theorem OwnO.base {B B' : Nat} {w : World} {V : OV} {x : PO} (h : OwnO B w V x) (hB : B' ≤ B) : OwnO B' w V x := ⟨own_base h.d hB, own_base h.c hB, own_base h.m hB, own_base h.r hB, own_base h.q hB, own_base h.s hB, h.ap⟩
/-- rows of lines of the law's own -/
structure LnW (W w : World) (v : Value) (ls : List Lne) : Prop where
  own : w.ownsRow W.heap.size 60 8 v ls.length (lnesC ls)
  g : W.grownBy w none
theorem LnW.kept0 {W w w1 : World} {v : Value} {ls : List Lne} (h : LnW W w v ls) (hg : w.grownBy w1 none) : LnW W w1 v ls := ⟨own_keep0 h.own hg, grown_trans h.g hg⟩
/-! ### Says -/
def sayL : List Int → List Lne
  | [] => []
  | v :: r => .op 14 3 0 0 v :: .op 35 3 0 0 0 :: sayL r
theorem sayL_append : ∀ l m : List Int, sayL (l ++ m) = sayL l ++ sayL m
  | [], _ => rfl
  | v :: r, m => by rw [List.cons_append, sayL, sayL, sayL_append r m]; rfl
theorem sayL_length : ∀ l, (sayL l).length = 2 * l.length
  | [] => rfl
  | v :: r => by rw [sayL, List.length_cons, List.length_cons, sayL_length r, List.length_cons]; omega
def saysL (vs : List Int) : List Lne := .lab :: sayL vs ++ [.op 32 3 0 0 0]
theorem ins_li (v : Int) : insB 14 3 0 0 v = true := by unfold insB; rw [show twoB 14 = true by decide]; simp; decide
theorem sayL_ins : ∀ (l : List Int) (x : Lne), x ∈ sayL l → ∃ o a b c m, x = .op o a b c m ∧ insB o a b c m = true
  | [], x, h => by simp [sayL] at h
  | v :: r, x, h => by
    rw [sayL, List.mem_cons, List.mem_cons] at h
    rcases h with rfl | rfl | h
    · exact ⟨_, _, _, _, _, rfl, ins_li v⟩
    · exact ⟨_, _, _, _, _, rfl, by decide +kernel⟩
    · exact sayL_ins r x h
theorem saysL_good (vs : List Int) : GoodL (saysL vs) := by
  have hm : ∀ x ∈ saysL vs, x = .lab ∨ ∃ o a b c m, x = .op o a b c m ∧ insB o a b c m = true := by
    intro x hx
    rw [saysL, List.cons_append, List.mem_cons, List.mem_append, List.mem_singleton] at hx
    rcases hx with h | h | h
    · exact .inl h
    · exact .inr (sayL_ins vs x h)
    · exact .inr ⟨_, _, _, _, _, h, by decide +kernel⟩
  refine ⟨fun k o a b c m h => ?_, fun k h => ?_⟩
  · rcases hm _ (List.mem_of_getElem? h) with e | ⟨_, _, _, _, _, e, hi⟩
    · cases e
    · cases e; exact hi
  · cases k with
    | zero => rfl
    | succ k =>
      rw [saysL, List.cons_append, List.getElem?_cons_succ] at h
      have := List.mem_of_getElem? h
      rw [List.mem_append, List.mem_singleton] at this
      rcases this with h | h
      · obtain ⟨_, _, _, _, _, e, _⟩ := sayL_ins vs _ h; cases e
      · cases h
set_option maxRecDepth 100000 in
set_option maxHeartbeats 8000000 in
theorem says_any {W : World} {lv : Value} {vs : List Int} (hl : SlAt W .u32 lv vs) (hn : vs.length ≤ 300) :
    Calls Tryz.prog 40 #[lv] W fun e w' => ∃ V, e = .returned V.agg ∧ OwnO W.heap.size w' V (objL [] (saysL vs)) ∧ W.grownBy w' none := by
  obtain ⟨vp, vc, rfl⟩ := hl.len'
  obtain ⟨N, hN⟩ : ∃ N, vs.length = N := ⟨_, rfl⟩
  have HS := hid hl
  rw [hN] at hn ⊢
  have Hn := hid hn
  have HN := hid hN
  have n0 : (0 : Int) ≤ (N : Int) := by omega
  have n1 : (N : Int) ≤ 300 := by omega
  rw [hN] at HS
  clear hl hn hN
  go_enter Tryz.func40, Tryz.ntmps40
  have Hz := zero_obj
  go_upto_region 1 with (fail)
  have HR0 := hid (RwAt.new W 27 #[.slice none 0 0, .slice none 0 0, .slice none 0 0, .slice none 0 0, .slice none 0 0, .slice none 0 0])
  have HG0 := hid (World.grownBy_alloc W (.cells #[.slice none 0 0, .slice none 0 0, .slice none 0 0, .slice none 0 0, .slice none 0 0, .slice none 0 0] 27) none)
  obtain ⟨R, hR⟩ : ∃ R, W.heap.size = R := ⟨_, rfl⟩
  rw [hR] at HR0 ⊢
  have HRe := hid hR
  clear hR Hz
  generalize W.alloc (.cells #[.slice none 0 0, .slice none 0 0, .slice none 0 0, .slice none 0 0, .slice none 0 0, .slice none 0 0] 27) = w1 at HR0 HG0 ⊢
  have Hat : Hid (∀ w : World, Calls Tryz.prog 23 #[.string ⟨#[109, 97, 105, 110]⟩] w fun e w' => e = .returned (.agg #[.int .i64 0, .int .i64 0, .int .i64 0, .int .i64 0, .int .u32 0, .string nmMain, .string ByteArray.empty, .bool false]) ∧ w.grownBy w' none) := hid (fun w => at_any nmMain w)
  go_wp2_with fail
  refine (Hat.out _).mono ?_
  rintro e w2 ⟨rfl, hg⟩
  have HR2 := hid (HR0.out.kept0 hg)
  have HG2 := hid (grown_trans HG0.out hg)
  have al := World.grownBy_alloc w2 (.cells #[.int .i64 0, .int .i64 0, .int .i64 0, .int .i64 0, .int .u32 0, .string nmMain, .string ByteArray.empty, .bool false] 60) none
  have HR3 := hid (HR2.out.kept0 al)
  have HLn : Hid (LnW w1 (w2.alloc (.cells #[.int .i64 0, .int .i64 0, .int .i64 0, .int .i64 0, .int .u32 0, .string nmMain, .string ByteArray.empty, .bool false] 60)) (.slice (some ⟨w2.heap.size, 0, none⟩) 1 1) (.lab :: sayL (vs.take 0))) := hid ⟨World.ownsRow_lit w2 (lneC .lab) 1 hg.size (by decide) rfl, grown_trans hg al⟩
  have HRl := hid HR0.out.lt
  clear hg al Hat HR0 HR2
  go_upto_region 2 with (fail)
  obtain ⟨B, hB⟩ : ∃ B, w2.heap.size = B := ⟨_, rfl⟩
  rw [hB] at HLn ⊢
  clear hB
  generalize w2.alloc (.cells #[.int .i64 0, .int .i64 0, .int .i64 0, .int .i64 0, .int .u32 0, .string nmMain, .string ByteArray.empty, .bool false] 60) = w3 at HR3 HLn ⊢
  clear HG2
  go_wp2
  go_loopw [3, 4] (fun v i wr => ∃ k : Nat, k ≤ N ∧ i = .int .i64 k ∧ Hid (LnW w1 wr v (.lab :: sayL (vs.take k)) ∧ RwAt wr R 27 #[.slice none 0 0, .slice none 0 0, .slice none 0 0, .slice none 0 0, .slice none 0 0, .slice none 0 0])) (fun _ i _ => N - (intOf i).toNat)
  case atStart => exact ⟨0, Nat.zero_le _, rfl, hid ⟨HLn.out, HR3.out⟩⟩
  case round =>
    obtain ⟨k, hk, rfl, HP⟩ := hrel
    have k0 : (0 : Int) ≤ (k : Int) := by omega
    obtain ⟨⟨qp, qc, hqv⟩⟩ : Nonempty (∃ p c, _ = Value.slice p (Lne.lab :: sayL (vs.take k)).length c) := ⟨own_slice HP.out.1.own⟩
    obtain ⟨L, hL⟩ : ∃ L, (Lne.lab :: sayL (vs.take k)).length = L := ⟨_, rfl⟩
    have HL := hid hL
    have HLb : Hid (L ≤ 700) := hid (by rw [← hL, List.length_cons, sayL_length, List.length_take]; have := Hn.out; omega)
    rw [hL] at hqv
    subst hqv
    have HQ := hid HP.out
    clear hL HP
    by_cases hlt : k < N
    · have kn : (k : Int) < (N : Int) := by omega
      have Hlt := hid hlt
      obtain ⟨v, hv⟩ : ∃ v, vs[k]? = some v := ⟨_, List.getElem?_eq_getElem (by rw [HN.out]; exact hlt)⟩
      obtain ⟨b, o, c', he, hb, hc⟩ := (HS.out.kept0 (grown_trans HG0.out HQ.out.1.g)).at_ (by rw [HN.out]; omega)
      simp only [Value.slice.injEq] at he
      obtain ⟨rfl, -, -⟩ := he
      have ev := hc k v hv
      have Hv := hid hv
      clear hc hb hv hlt
      have Hli : Hid (∀ w : World, Calls Tryz.prog 64 #[.int .i64 3, .int .u32 v] w fun e w' => e = .returned (.agg #[.int .i64 14, .int .i64 3, .int .i64 0, .int .i64 0, .int .u32 v, .string ByteArray.empty, .string ByteArray.empty, .bool false]) ∧ w.grownBy w' none) := hid (fun w => li_any 3 v w)
      go_wp2_with fail
      refine (Hli.out _).mono ?_
      rintro e w5 ⟨rfl, hg⟩
      have HQ5 : Hid (LnW w1 w5 _ _ ∧ RwAt w5 R _ _) := hid ⟨HQ.out.1.kept0 hg, HQ.out.2.kept0 hg⟩
      have al := World.grownBy_alloc w5 (.cells #[.int .i64 3] 3) none
      have Hop : Hid (Calls Tryz.prog 25 #[.int .i64 35, .slice (some ⟨w5.heap.size, 0, none⟩) 1 1] (w5.alloc (.cells #[.int .i64 3] 3)) fun e w' => e = .returned (.agg #[.int .i64 35, .int .i64 3, .int .i64 0, .int .i64 0, .int .u32 0, .string ByteArray.empty, .string ByteArray.empty, .bool false]) ∧ (w5.alloc (.cells #[.int .i64 3] 3)).grownBy w' none) := hid (op_one 35 3 w5.heap.size _ ((RwAt.new w5 3 #[.int .i64 3]).cell 0 rfl) (by simp))
      have HQ6 : Hid (LnW w1 (w5.alloc (.cells #[.int .i64 3] 3)) _ _ ∧ RwAt (w5.alloc (.cells #[.int .i64 3] 3)) R _ _) := hid ⟨HQ5.out.1.kept0 al, HQ5.out.2.kept0 al⟩
      clear hg al HQ5 HQ ev Hli
      go_wp2_with fail
      refine Hop.out.mono ?_
      rintro e w7 ⟨rfl, hg⟩
      have HQ7 : Hid (LnW w1 w7 _ _ ∧ RwAt w7 R _ _) := hid ⟨HQ6.out.1.kept0 hg, HQ6.out.2.kept0 hg⟩
      clear hg HQ6 Hop
      obtain ⟨i, hi, hz0, hz1, hz2⟩ := info_line
      have Hi := hid hi
      have Hz0 := hid hz0
      have Hz1 := hid hz1
      have Hz2 := hid hz2
      clear hi hz0 hz1 hz2
      have al := World.grownBy_alloc w7 (.cells #[.int .i64 14, .int .i64 3, .int .i64 0, .int .i64 0, .int .u32 v, .string ByteArray.empty, .string ByteArray.empty, .bool false, .int .i64 35, .int .i64 3, .int .i64 0, .int .i64 0, .int .u32 0, .string ByteArray.empty, .string ByteArray.empty, .bool false] 60) none
      have HQ8 : Hid (LnW w1 (w7.alloc (.cells #[.int .i64 14, .int .i64 3, .int .i64 0, .int .i64 0, .int .u32 v, .string ByteArray.empty, .string ByteArray.empty, .bool false, .int .i64 35, .int .i64 3, .int .i64 0, .int .i64 0, .int .u32 0, .string ByteArray.empty, .string ByteArray.empty, .bool false] 60)) _ _ ∧ RwAt (w7.alloc (.cells #[.int .i64 14, .int .i64 3, .int .i64 0, .int .i64 0, .int .u32 v, .string ByteArray.empty, .string ByteArray.empty, .bool false, .int .i64 35, .int .i64 3, .int .i64 0, .int .i64 0, .int .u32 0, .string ByteArray.empty, .string ByteArray.empty, .bool false] 60)) R _ _) := hid ⟨HQ7.out.1.kept0 al, HQ7.out.2.kept0 al⟩
      have HOw := HQ8.out.1.own
      rw [HL.out] at HOw
      have HOw := hid HOw
      have Hnews : Hid (∀ j u, [.int .i64 14, .int .i64 3, .int .i64 0, .int .i64 0, .int .u32 v, .string ByteArray.empty, .string ByteArray.empty, .bool false, .int .i64 35, .int .i64 3, .int .i64 0, .int .i64 0, .int .u32 0, .string ByteArray.empty, .string ByteArray.empty, .bool false][j]? = some u → (w7.alloc (.cells #[.int .i64 14, .int .i64 3, .int .i64 0, .int .i64 0, .int .u32 v, .string ByteArray.empty, .string ByteArray.empty, .bool false, .int .i64 35, .int .i64 3, .int .i64 0, .int .i64 0, .int .u32 0, .string ByteArray.empty, .string ByteArray.empty, .bool false] 60)).cell? ((⟨w7.heap.size, 0, none⟩ : Addr).add j) = some u) := hid (World.news_of_block (heap_alloc_new w7 _))
      clear al
      go_wp2_with (first
        | (refine wpList_append_lies _ rfl _ _ 63 rfl w1.heap.size 60 i _ 8 80 Tryz.underlying63 Hi.out Hz0.out Hz1.out Hz2.out rfl (by decide) _ L _ rfl HOw.out ⟨w7.heap.size, 0, none⟩ 2 2 _ rfl rfl Hnews.out (by simp [Value.oneCell']) (by decide) (by have := HLb.out; unfold maxLen; omega) (by have := HLb.out; omega) HQ8.out.1.g.size _ rfl ?_
           intro g cap w9 hown hgrow hat hlt2
           have HOn := hid hown
           have hgrow0 : (w7.alloc (.cells #[.int .i64 14, .int .i64 3, .int .i64 0, .int .i64 0, .int .u32 v, .string ByteArray.empty, .string ByteArray.empty, .bool false, .int .i64 35, .int .i64 3, .int .i64 0, .int .i64 0, .int .u32 0, .string ByteArray.empty, .string ByteArray.empty, .bool false] 60)).grownBy w9 (Value.slice qp L qc).ownBlock := hgrow
           have HGn := hid hgrow0
           clear hown hgrow hat hlt2 hgrow0)
        | fail)
      go_roundw
      case rel =>
        have ht : Lne.lab :: sayL (vs.take (k + 1)) = (Lne.lab :: sayL (vs.take k)) ++ [.op 14 3 0 0 v, .op 35 3 0 0 0] := by
          rw [List.take_add_one, Hv.out, sayL_append]; rfl
        refine ⟨k + 1, Hlt.out, by go_num, hid ⟨⟨?_, grown_new' (grown_trans (grown_none HQ8.out.1.g) HGn.out) (fun j hj => (HOw.out.lt j hj).1)⟩, ?_⟩⟩
        · rw [ht, List.length_append, HL.out, lnesC_append]
          exact HOn.out
        · exact HQ8.out.2.kept HGn.out (fun e => by have := (HOw.out.lt R e.symm).1; have := HRl.out; omega)
      case measure => simp [intOf]; have := Hlt.out; omega
    · obtain rfl : k = N := by omega
      have kn : ¬ ((k : Int) < (k : Int)) := by omega
      clear hlt
      rw [List.take_of_length_le (by rw [HN.out]; exact Nat.le_refl _)] at HQ HL
      have al := World.grownBy_alloc wr (.cells #[.int .i64 3] 3) none
      have Hop : Hid (Calls Tryz.prog 25 #[.int .i64 32, .slice (some ⟨wr.heap.size, 0, none⟩) 1 1] (wr.alloc (.cells #[.int .i64 3] 3)) fun e w' => e = .returned (.agg #[.int .i64 32, .int .i64 3, .int .i64 0, .int .i64 0, .int .u32 0, .string ByteArray.empty, .string ByteArray.empty, .bool false]) ∧ (wr.alloc (.cells #[.int .i64 3] 3)).grownBy w' none) := hid (op_one 32 3 wr.heap.size _ ((RwAt.new wr 3 #[.int .i64 3]).cell 0 rfl) (by simp))
      have HQ6 : Hid (LnW w1 (wr.alloc (.cells #[.int .i64 3] 3)) _ _ ∧ RwAt (wr.alloc (.cells #[.int .i64 3] 3)) R _ _) := hid ⟨HQ.out.1.kept0 al, HQ.out.2.kept0 al⟩
      clear al HQ
      go_wp2_with fail
      refine Hop.out.mono ?_
      rintro e w7 ⟨rfl, hg⟩
      have HQ7 : Hid (LnW w1 w7 _ _ ∧ RwAt w7 R _ _) := hid ⟨HQ6.out.1.kept0 hg, HQ6.out.2.kept0 hg⟩
      clear hg HQ6 Hop
      obtain ⟨i, hi, hz0, hz1, hz2⟩ := info_line
      have Hi := hid hi
      have Hz0 := hid hz0
      have Hz1 := hid hz1
      have Hz2 := hid hz2
      clear hi hz0 hz1 hz2
      have al := World.grownBy_alloc w7 (.cells #[.int .i64 32, .int .i64 3, .int .i64 0, .int .i64 0, .int .u32 0, .string ByteArray.empty, .string ByteArray.empty, .bool false] 60) none
      have HQ8 : Hid (LnW w1 (w7.alloc (.cells #[.int .i64 32, .int .i64 3, .int .i64 0, .int .i64 0, .int .u32 0, .string ByteArray.empty, .string ByteArray.empty, .bool false] 60)) _ _ ∧ RwAt (w7.alloc (.cells #[.int .i64 32, .int .i64 3, .int .i64 0, .int .i64 0, .int .u32 0, .string ByteArray.empty, .string ByteArray.empty, .bool false] 60)) R _ _) := hid ⟨HQ7.out.1.kept0 al, HQ7.out.2.kept0 al⟩
      have HOw := HQ8.out.1.own
      rw [HL.out] at HOw
      have HOw := hid HOw
      have Hnews : Hid (∀ j u, [.int .i64 32, .int .i64 3, .int .i64 0, .int .i64 0, .int .u32 0, .string ByteArray.empty, .string ByteArray.empty, .bool false][j]? = some u → (w7.alloc (.cells #[.int .i64 32, .int .i64 3, .int .i64 0, .int .i64 0, .int .u32 0, .string ByteArray.empty, .string ByteArray.empty, .bool false] 60)).cell? ((⟨w7.heap.size, 0, none⟩ : Addr).add j) = some u) := hid (World.news_of_block (heap_alloc_new w7 _))
      clear al HQ7
      go_wp2_with (first
        | (refine wpList_append_lies _ rfl _ _ 63 rfl w1.heap.size 60 i _ 8 80 Tryz.underlying63 Hi.out Hz0.out Hz1.out Hz2.out rfl (by decide) _ L _ rfl HOw.out ⟨w7.heap.size, 0, none⟩ 1 1 _ rfl rfl Hnews.out (by simp [Value.oneCell']) (by decide) (by have := HLb.out; unfold maxLen; omega) (by have := HLb.out; omega) HQ8.out.1.g.size _ rfl ?_
           intro g cap w9 hown hgrow hat hlt2
           have hgrow0 : (w7.alloc (.cells #[.int .i64 32, .int .i64 3, .int .i64 0, .int .i64 0, .int .u32 0, .string ByteArray.empty, .string ByteArray.empty, .bool false] 60)).grownBy w9 (Value.slice qp L qc).ownBlock := hgrow
           have HCs : Hid (CsAt w9 (.slice (some ⟨g, 0, none⟩) (L + 1) cap) (saysL vs).length (lnesC (saysL vs))) := hid (by
             have e1 : (saysL vs).length = L + 1 := by rw [saysL, List.length_append, HL.out]; rfl
             have e2 : lnesC (saysL vs) = lnesC (.lab :: sayL vs) ++ [.int .i64 32, .int .i64 3, .int .i64 0, .int .i64 0, .int .u32 0, .string ByteArray.empty, .string ByteArray.empty, .bool false] := by rw [saysL, lnesC_append]; rfl
             rw [e1, e2]
             exact CsAt.own hown)
           have HGw : Hid (w1.grownBy w9 none) := hid (grown_new' (grown_trans (grown_none HQ8.out.1.g) hgrow0) (fun j hj => (HOw.out.lt j hj).1))
           have HRw := hid (HQ8.out.2.kept hgrow0 (fun e => by have := (HOw.out.lt R e.symm).1; have := HRl.out; omega))
           clear hown hgrow hat hlt2 hgrow0)
        | fail)
      have HLe : Hid ((saysL vs).length ≤ 2000 ∧ 0 < (saysL vs).length) := hid (by
        rw [saysL, List.length_append, HL.out]
        have := HLb.out
        simp only [List.length_singleton]
        omega)
      refine (mkl_any (D := []) (ls := saysL vs) (by simp) HLe.out.1 HLe.out.2 (saysL_good vs) (.inl ⟨⟨_, _, rfl⟩, rfl⟩) HCs.out).mono ?_
      rintro e wb ⟨⟨d, c, m, r, q, s⟩, rfl, ho, hg⟩
      have h1 := own_one ho.d
      have h2 := own_one ho.c
      have h3 := own_one ho.m
      have h4 := own_one ho.r
      have h5 := own_one ho.q
      have h6 := own_one ho.s
      have hall : (#[d, c, m, r, q, s] : Array Value).all (·.oneCell') = true := by simp_all
      have HRb := hid (HRw.out.kept0 hg)
      have HGb := hid (grown_trans HGw.out hg)
      have Ho := hid ho
      have E := hid (HRb.out.row #[d, c, m, r, q, s])
      have hgs : wb.grownBy (wb.setRow R #[d, c, m, r, q, s]) (some R) := ⟨rfl, rfl, rfl, by simp [World.setRow], fun i _ hi => setRow_other wb R i _ (fun e => hi (by rw [e]))⟩
      have ED := hid ((OwnO.keptR ho hgs (Nat.lt_of_lt_of_le HRl.out HGw.out.size)).base (B' := W.heap.size) (Nat.le_trans HG0.out.size HGw.out.size))
      have EG := hid (grown_setRow (grown_trans HG0.out HGb.out) (Nat.le_of_eq HRe.out) #[d, c, m, r, q, s])
      clear h1 h2 h3 h4 h5 h6 ho hg hgs
      go_wp2_with (first
        | (refine wpList_store_rw rfl 27 _ _ rfl rfl rfl HRb.out info_object rfl hall ?_)
        | fail)
      refine bodyPost_ret (results_cell_row Tryz.results40 _ _ R _ _ _ _ rfl E.out.blk Tryz.underlying27 rfl info_object) rfl ?_
      exact ⟨⟨d, c, m, r, q, s⟩, rfl, ED.out, EG.out⟩
end Go.Proofs.YtgahbpfmiibpeaaGreatDoor
/- The chapter's examples (facadelaw10.first): contract. -/
namespace Go.Proofs.YtgahbpfmiibpeaaGreatDoor
open Go.RowKit
def sayO : PO := objL [] (saysL [1])
theorem sayO_valid : validP sayO = none := by decide +kernel
theorem sayO_fit : OFit sayO := fitB_fit (by decide +kernel)
theorem sayO_two : (siL sayO (stL sayO sayO.C.length)).length = 2 := by decide +kernel
set_option maxRecDepth 100000 in
set_option maxHeartbeats 4000000 in
theorem first10_any {w : World} {A : Nat → Addr} (he : ErrC w A) : Calls Tryz.prog 9 #[] w fun e w' => e = .returned (.bool true) ∧ w.grownBy w' none := by
  have HE := hid he
  have al := World.grownBy_alloc w (.cells #[.int .u32 1] 46) none
  have HG1 := hid al
  have HD : Hid (SlAt (w.alloc (.cells #[.int .u32 1] 46)) .u32 (.slice (some ⟨w.heap.size, 0, none⟩) 1 1) [1]) := hid (.inr ⟨w.heap.size, 0, 1, rfl, by simp, fun j x hx => by
    have := World.news_of_block (heap_alloc_new w (.cells #[.int .u32 1] 46)) j (.int .u32 x) (by
      have : ([Value.int .u32 1] : List Value) = [1].map (Value.int .u32) := rfl
      show ([Value.int .u32 1] : List Value)[j]? = _
      rw [this, List.getElem?_map, hx]; rfl)
    rw [Addr.add_mid] at this
    exact this⟩)
  clear he al
  go_enter Tryz.func9, Tryz.ntmps9
  go_wp2_with fail
  refine (says_any HD.out (by simp)).mono ?_
  rintro e w2 ⟨V, rfl, ho, hg⟩
  have HO : Hid (OAt w2 V sayO) := hid ho.at_
  have HG2 := hid (grown_trans HG1.out hg)
  have HE2 := hid (HE.out.kept0 HG2.out)
  clear ho hg HD HG1
  go_wp2_with fail
  refine (sites_yes HO.out HE2.out sayO_fit sayO_valid).mono ?_
  rintro e w3 ⟨v, rfl, hv, hg⟩
  rw [sayO_two] at hv
  obtain ⟨vp, vc, rfl⟩ := own_slice hv
  have HG3 := hid (grown_trans HG2.out hg)
  clear hv hg
  go_wp2
  go_ret
  exact ⟨rfl, HG3.out⟩
end Go.Proofs.YtgahbpfmiibpeaaGreatDoor

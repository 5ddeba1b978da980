/- Package api's errors: what the listed variables hold; facadesee's questions about an error: contracts. -/
import Derived.Test.YtmhkghkfpkekbaaMemF
import Derived.LaidEql
import Derived.Stop.LaidErr
import Derived.Laws.ResultCell
namespace Go.Proofs.Ytmhkghkfpkekbaa
open Go.RowKit Go.ChangeShapes

/-! ### out of what the row lists -/
section
variable {P : Program} {W : World}
theorem laid_sents {nm : String} {ti tp te ts : TypeId} {ms : Array (String × TypeId)} {f : Field}
    (hi : P.underlying ti = some (.interface ms)) (hrow : ∀ u, P.typeName? 3 u = some nm → u = tp)
    (hp : P.underlying tp = some (.pointer te)) (he : P.underlying te = some (.struct #[f])) (hft : f.type = ts) (hfo : f.offset = 0) (hs : P.underlying ts = some .string) (hc : P.cellsOf te = 1) (hcs : P.cellsOf ts = 1) :
    ∀ (l : List (String × List UInt8)) (ps : List MemPlace), DataW.LaidVars P W (l.map fun x => (x.1, .iface nm (.ptr (.agg [.lit (.string x.2)])))) ps →
      (∀ b off, MemPlace.cell b off ∈ ps → (∃ c t, W.heap[b]? = some (.cells c t (0, 0))) ∧ ∀ u v, W.cell? ⟨b, off, none⟩ = some (.iface u v) → Value.okWide P W .any 0 u v) → ps.Nodup →
      (∀ x ∈ l, (P.globalNamed x.1).bind (fun g => (P.globals[g]?).map (·.type)) = some ti) →
      ∃ al : List Addr, al.length = l.length ∧ al.Nodup ∧ (∀ a ∈ al, MemPlace.cell a.block a.off ∈ ps) ∧ ∀ (i : Nat) (x : String × List UInt8), l[i]? = some x → ∃ a, al[i]? = some a ∧ ∃ g, P.globalNamed x.1 = some g ∧ W.cell? ⟨g, 0, none⟩ = some (.iface tp (.pointer (some a)))
  | [], _, _, _, _, _ => ⟨[], rfl, List.nodup_nil, by simp, by simp⟩
  | (n, text) :: l, ps, h, hrows, hnd, hty => by
    obtain ⟨g, t, cs, fuel, p, q, hg, ht, hv, hd, hq, rfl⟩ := h
    have htt : t = ti := by
      have := hty (n, text) (by simp)
      simp only [hg, Option.bind_some, ht, Option.some.injEq] at this
      exact this
    subst htt
    rw [List.nodup_append] at hnd
    obtain ⟨_, hq2, hdis⟩ := hnd
    obtain ⟨al, hl, hn, hin, hall⟩ := laid_sents hi hrow hp he hft hfo hs hc hcs l q hq (fun b off hm => hrows b off (List.mem_append_right _ hm)) hq2 (fun x hx => hty x (by simp [hx]))
    obtain ⟨cl⟩ := cs
    have ok0 : ∀ u v, cl = [.iface u v] → Value.okWide P W .any 0 u v := fun u v e => by
      subst e
      exact (hrows g 0 (by simp [MemPlace.row])).2 u v (by simpa using World.var?_cell hg hv 0)
    obtain ⟨a, s, rfl, _, _, _, rfl⟩ := errorString_of_trod hi hrow hp he hft hfo hs hc hcs hd ok0
    have ha : MemPlace.cell a.block a.off ∈ MemPlace.row (⟨g, 0, none⟩ : Addr) 1 ++ MemPlace.row a 1 := by simp [MemPlace.row]
    refine ⟨a :: al, by simp [hl], List.nodup_cons.2 ⟨fun hm => ?_, hn⟩, fun b hb => ?_, fun i x hx => ?_⟩
    · exact hdis _ (by simpa using ha) _ (hin a hm) rfl
    · rcases List.mem_cons.1 hb with rfl | hb
      · exact List.mem_append_left _ (by simpa using ha)
      · exact List.mem_append_right _ (hin b hb)
    · cases i with
      | zero =>
        simp only [List.getElem?_cons_zero, Option.some.injEq] at hx
        subst hx
        exact ⟨a, rfl, g, hg, by simpa using World.var?_cell hg hv 0⟩
      | succ i =>
        simp only [List.getElem?_cons_succ] at hx ⊢
        exact hall i x hx
end
end Go.Proofs.Ytmhkghkfpkekbaa

/- The chapter's examples (facadelaw5.first): a contract. -/
import Derived.Test.YtiglmdilooaeeaaDev6
namespace Go.Proofs.Ytiglmdilooaeeaa
open Go.RowKit
/-- a new list of what is seen shares nothing with what was there -/
theorem new_apart {w w1 : World} {B n : Nat} {e : TypeId} {size : Nat} {u : Value} {l : List Value} {R : List Nat} (h : w1.ownsRow B e size u n l) (hB : w.heap.size ≤ B) (hR : ∀ i ∈ R, i < w.heap.size) : ∀ g, u.ownBlock = some g → g ∉ R := by
  intro g hg hi
  have := (h.lt g hg).1
  have := hR g hi
  omega
theorem turned_old {w0 w w' : World} {d : Nat} {v v' : Value} {x x' : DvS} (h0 : w0.grownBy w none) (h : DevAt w w0.heap.size d x v) (ht : Turned w w0.heap.size d v x' w' v') : w0.grownBy w' none :=
  Lv.after h0 ht.lv h.foot_ge
/-- a list of what is seen, apart from devices -/
structure SnOf (w : World) (u : Value) (l : List Sn) (d : Nat) (v : Value) : Prop where
  at_ : SnAt w u l
  apart : l ≠ [] → ∀ g, u.ownBlock = some g → g ∉ foot d v
theorem SnOf.new {w w1 : World} {B d : Nat} {e : TypeId} {u v : Value} {x : DvS} {l : List Sn} (hD : DevAt w B d x v) (h : w1.ownsRow w.heap.size e 3 u l.length (snCells l)) : SnOf w1 u l d v :=
  ⟨SnAt.own h, fun _ => new_apart h (Nat.le_refl _) hD.foot_lt⟩
theorem SnOf.kept0 {w w1 : World} {d : Nat} {u v : Value} {l : List Sn} (h : SnOf w u l d v) (hg : w.grownBy w1 none) : SnOf w1 u l d v := ⟨h.at_.kept0 hg, h.apart⟩
theorem SnOf.turned {w w1 : World} {B d : Nat} {u v v1 : Value} {x1 : DvS} {l : List Sn} (h : SnOf w u l d v) (ht : Turned w B d v x1 w1 v1) : SnOf w1 u l d v1 := by
  rcases h.at_ with h1 | ⟨b, c, rfl, hb, hc⟩
  · refine ⟨.inl h1, fun hn => absurd h1.2 hn⟩
  · by_cases hl : l = []
    · subst hl
      exact ⟨.inl ⟨⟨_, _, rfl⟩, rfl⟩, fun hn => absurd rfl hn⟩
    · have ha := h.apart hl
      refine ⟨h.at_.keptL ht.lv ha, fun _ g hg hi => ?_⟩
      have hgb : g = b := by simp [Value.ownBlock] at hg; exact hg.symm
      subst hgb
      rcases mem_foot.1 hi with rfl | hi
      · exact ha _ rfl (mem_foot.2 (.inl rfl))
      · rcases ht.mine with m | m
        · exact ha _ rfl (mem_foot.2 (.inr (m.symm.trans hi)))
        · have := m g hi; omega
set_option maxRecDepth 100000 in
set_option maxHeartbeats 1000000 in
theorem first5_any (w : World) : Calls Try.prog 8 #[] w fun e w' => e = .returned (.bool true) ∧ w.grownBy w' none := by
  have Hz33 := zero_dev
  have HD0 := hid (dev_zero w (Nat.le_refl w.heap.size))
  have HG0 := hid (World.grownBy_alloc w (.cells zeroD 33) none)
  go_enter Try.func8, Try.ntmps8
  go_wp2_with fail
  refine (out_any HD0.out 7 (by decide) HG0.out.size).mono ?_; rintro e w1 ⟨rfl, v1, ht⟩
  have HG1 := hid (turned_old HG0.out HD0.out ht)
  have HD1 := hid ht.at_
  clear ht HD0 HG0
  go_wp2_with fail
  refine (seen_any HD1.out (by decide)).mono ?_; rintro e w2 ⟨u, rfl, hown, hg⟩
  have HD2 := hid (HD1.out.kept0 hg)
  have HG2 := hid (grown_trans HG1.out hg)
  have HU := hid hown
  have HA := hid (new_apart hown (Nat.le_refl _) HD1.out.foot_lt)
  clear hown hg HD1 HG1
  obtain ⟨b, c, rfl⟩ : ∃ b c, u = .slice (some ⟨b, 0, none⟩) 1 c := by
    rcases SnAt.own HU.out with ⟨_, h⟩ | ⟨b, c, hu, _⟩
    · simp [zeroS] at h
    · exact ⟨b, c, hu⟩
  go_wp2_with fail
  refine (in_no HD2.out rfl).mono ?_; rintro e w' ⟨rfl, rfl⟩
  go_wp2_with fail
  refine (press_yes HD2.out (by decide) 3).mono ?_; rintro e w3 ⟨rfl, ht⟩
  have HG3 := hid (turned_old HG2.out HD2.out ht)
  have HD3 := hid ht.at_
  have HU3 := hid (own_keptL HU.out ht.lv HA.out)
  clear ht HG2 HD2 HU
  go_wp2_with fail
  refine (in_yes (r := []) (key := 3) HD3.out (by rfl)).mono ?_; rintro e w4 ⟨rfl, ht⟩
  have HG4 := hid (turned_old HG3.out HD3.out ht)
  have HU4 := hid (own_keptL HU3.out ht.lv HA.out)
  clear ht HG3 HD3 HU3
  have hc : w4.cell? ⟨b, 2, none⟩ = some (.int .u32 7) := by
    have := HU4.out.cells (g := b) rfl 2 (.int .u32 7) rfl
    rwa [Addr.add_mid] at this
  go_wp2
  go_ret
  exact ⟨rfl, HG4.out⟩
end Go.Proofs.Ytiglmdilooaeeaa

/- What is fetched from mapped words: plain facts. -/
import Derived.Test.YtkkbhifplbleiaaDoorZGFirst
import Derived.Test.YtkkbhifplbleiaaDoorZGIsa
namespace Go.Proofs.YtkkbhifplbleiaaDoor
open Go.RowKit
section
variable {l : List Int} {w u user : Bool} {pc x : Int}
theorem map_there (h0 : 0 ≤ pc) (h1 : pc < 192) (hu : (!user || u) = true) : atB (mapW l w u) 24 0 pc false user = true := by
  rw [(map_at l w u h0 h1 false user).1, hu]; rfl
theorem fetch_at (h0 : 0 ≤ pc) (h1 : pc < 192) (hx : l.getD pc.toNat 0 = x) (hu : (!user || u) = true) (ho : okW x = true) (ht : twoB (x / 16777216) = false) : fetchP (mapW l w u) 24 0 pc user = insS x 0 1 := by
  unfold fetchP
  rw [if_pos (map_there h0 h1 hu), map_rd l w u h0 h1 user hu, hx, if_pos ho, if_neg (by simp [ht])]
theorem next_id (h0 : 0 ≤ pc) (h1 : pc < 4294967295) : nextI pc = pc + 1 := by unfold nextI; omega
theorem fetch_at2 (h0 : 0 ≤ pc) (h1 : pc < 191) (hx : l.getD pc.toNat 0 = x) (hu : (!user || u) = true) (ho : okW x = true) (ht : twoB (x / 16777216) = true) : fetchP (mapW l w u) 24 0 pc user = insS x (l.getD (pc + 1).toNat 0) 2 := by
  unfold fetchP
  rw [if_pos (map_there h0 (by omega) hu), map_rd l w u h0 (by omega) user hu, hx, if_pos ho, if_pos ht, next_id h0 (by omega), if_pos (map_there (by omega) (by omega) hu), map_rd l w u (by omega) (by omega) user hu]
theorem fetch_last (hx : l.getD 191 0 = x) (hu : (!user || u) = true) (ho : okW x = true) (ht : twoB (x / 16777216) = true) : fetchP (mapW l w u) 24 0 191 user = noneS 1 192 := by
  unfold fetchP
  rw [if_pos (map_there (by decide) (by decide) hu), map_rd l w u (by decide) (by decide) user hu, show (191 : Int).toNat = 191 from rfl, hx, if_pos ho, if_pos ht, next_id (by decide) (by decide), if_neg (by rw [show (191 : Int) + 1 = 192 from rfl, map_far l w u (by decide) (by decide)]; decide)]
  rfl
theorem fetch_far (h0 : 192 ≤ pc) (h1 : pc < 2048) : fetchP (mapW l w u) 24 0 pc user = noneS 1 pc := by
  unfold fetchP
  rw [if_neg (by rw [map_far l w u h0 h1]; decide)]
theorem fetch_none (h0 : 0 ≤ pc) (h1 : pc < 192) (hx : l.getD pc.toNat 0 = x) (hu : (!user || u) = true) (ho : okW x = false) : fetchP (mapW l w u) 24 0 pc user = noneS 4 0 := by
  unfold fetchP
  rw [if_pos (map_there h0 h1 hu), map_rd l w u h0 h1 user hu, hx, if_neg (by simp [ho])]
/-- without the right of a user nothing is there for one -/
theorem fetch_user (h0 : 0 ≤ pc) (h1 : pc < 192) (hu : (!user || u) = false) : fetchP (mapW l w u) 24 0 pc user = noneS 1 pc := by
  unfold fetchP
  rw [if_neg (by rw [(map_at l w u h0 h1 false user).1, hu, Bool.and_false]; decide)]
end
theorem okW_wrd {op a b c : Int} (h : insB op a b c 0 = true) : okW (wrdI op a b c) = true ∧ wrdI op a b c / 16777216 = op ∧ wrdI op a b c / 65536 % 256 = a ∧ wrdI op a b c / 256 % 256 = b ∧ wrdI op a b c % 256 = c := by
  obtain ⟨_, h1, h2, h3⟩ := ins_bd h
  obtain ⟨p0, p1, p2, p3⟩ := wrd_parts op a b c h1 h2 h3
  unfold okW
  rw [p0, p1, p2, p3]
  exact ⟨h, rfl, rfl, rfl, rfl⟩
theorem insS_wrd {op a b c : Int} (h : insB op a b c 0 = true) (im ln : Int) : insS (wrdI op a b c) im ln = ⟨0, 0, op, a, b, c, im, ln⟩ := by
  obtain ⟨_, p0, p1, p2, p3⟩ := okW_wrd h
  unfold insS
  rw [p0, p1, p2, p3]
theorem fetch_zero {l : List Int} {w : Bool} {x : Int} (hx : l.getD 0 0 = x) (ho : okW x = true) : ∃ im ln, fetchP (mapW l w true) 24 0 0 true = insS x im ln := by
  cases ht : twoB (x / 16777216)
  · exact ⟨_, _, fetch_at (by decide) (by decide) hx (by rfl) ho ht⟩
  · exact ⟨_, _, fetch_at2 (by decide) (by decide) hx (by rfl) ho ht⟩
end Go.Proofs.YtkkbhifplbleiaaDoor

/- Disk: an own row cut shorter in place is own; it keeps its capacity. -/
import Derived.Test.YtahichieakdbnaaAz
namespace Go.Proofs.Ytahichieakdbnaa
open Go.RowKit
set_option linter.unusedVariables false

theorem own_cut {w : World} {base sz n c k : Nat} {e : TypeId} {A : Option Addr} {xs : List Value} (h : w.ownsRow base e sz (.slice A n c) n xs) (hk : k ≤ n) : w.ownsRow base e sz (.slice A k c) k (xs.take (k * sz)) := by
  have hl := h.1
  refine ⟨by rw [List.length_take, hl]; exact Nat.min_eq_left (Nat.mul_le_mul_right sz hk), ?_⟩
  rcases h.2 with ⟨hv, h0⟩ | ⟨g, cap, cur, hv, hb, hh, hnc, hm, hs, ht⟩
  · injection hv with e1 e2 e3
    obtain rfl : k = 0 := by omega
    exact .inl ⟨by rw [e1, e3], rfl⟩
  · injection hv with e1 e2 e3
    subst e1 e3
    refine .inr ⟨g, _, cur, rfl, hb, hh, Nat.le_trans hk hnc, hm, hs, ?_⟩
    rw [← ht, List.take_take, Nat.min_eq_left (Nat.mul_le_mul_right sz hk)]
end Go.Proofs.Ytahichieakdbnaa

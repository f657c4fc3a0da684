/- What a tick and an ack do, in facts. -/
import Derived.Test.YtignfhdblakcfabSnd
namespace Go.Proofs.Ytignfhdblakcfab
theorem tick_facts {a s q n : Int} (h : SI a s q) : ∃ f m s' q', tickL a s q n = ((f, m), (a, s', q')) ∧ SI a s' q' ∧ ((m = 0 ∧ f = 0) ∨ (1 ≤ m ∧ m ≤ 4 ∧ a < f ∧ 1 ≤ f ∧ f + m - 1 ≤ n ∧ f ≤ n)) := by
  have hs := h.tick (n := n)
  obtain ⟨h1, h2, h3, h4, h5, h6⟩ := h
  unfold tickL at *
  split
  · exact ⟨0, 0, s, 0, rfl, ⟨h1, h2, h3, h4, by simp, by simp⟩, .inl ⟨rfl, rfl⟩⟩
  · next hn =>
    rw [if_neg hn] at hs
    split
    · next hse =>
      rw [if_pos hse] at hs
      exact ⟨_, _, _, _, rfl, hs, .inr ⟨by unfold sbat; omega, by unfold sbat; omega, by omega, by omega, by unfold sbat; unfold send at hse ⊢; omega, by unfold send at hse; omega⟩⟩
    · next hse =>
      rw [if_neg hse] at hs
      split
      · next hq => exact ⟨_, _, _, _, rfl, ⟨h1, h2, h3, h4, by omega, by omega⟩, .inl ⟨rfl, rfl⟩⟩
      · next hq => exact ⟨_, _, _, _, rfl, ⟨h1, h2, h3, h4, by simp, by simp⟩, .inr ⟨by unfold sbat send; omega, by unfold sbat; omega, by omega, by omega, by unfold sbat send; omega, by omega⟩⟩
theorem ack_facts {a s q to n : Int} (h : SI a s q) (hn : n ≤ 4611686018427387903) : ∃ b a' s' q', ackL a s q to n = (b, (a', s', q')) ∧ SI a' s' q' ∧ a ≤ a' := by
  have hs := h.ack (to := to) hn
  unfold ackL at *
  split
  · next hh => exact ⟨_, _, _, _, rfl, h, by omega⟩
  · next hh => rw [if_neg hh] at hs; exact ⟨_, _, _, _, rfl, hs, by omega⟩
end Go.Proofs.Ytignfhdblakcfab

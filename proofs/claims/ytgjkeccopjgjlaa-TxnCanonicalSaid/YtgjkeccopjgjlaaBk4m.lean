/- Clocks come back from their bytes, and bytes from clocks: plain. -/
import Derived.Test.YtgjkeccopjgjlaaCtake
namespace Go.Proofs.Ytgjkeccopjgjlaa
open Go.ChangeShapes Go.WideShapes Go.ChangeAt Go.RowKit
set_option linter.unusedVariables false

theorem take1_back {p : Int} {bs : List Nat} {x : Int} {s : Nat} (h : take1 p bs = (x, s, 0)) (h256 : ∀ b ∈ bs, b < 256) (hp0 : 0 ≤ p) (hp1 : p ≤ 4611686018427387903) :
    1 ≤ s ∧ s ≤ bs.length ∧ 0 ≤ x ∧ x ≤ 4611686018427387903 ∧ put1 p x = bs.take s := by
  obtain ⟨u, k, d, ht⟩ : ∃ u k d, Vm.take bs = (u, k, d) := ⟨_, _, _, rfl⟩
  simp only [take1, ht] at h
  split at h
  · next hd => simp at h; exact absurd h.2.2 hd
  · next hd =>
    simp at hd
    subst hd
    split at h
    · simp at h
    · next ho =>
      simp at h
      obtain ⟨rfl, rfl⟩ := h
      obtain ⟨h1, h2, _, h4⟩ := Vm.take_ok ht h256
      refine ⟨h1, h2, by omega, by omega, ?_⟩
      unfold put1
      rw [show p + Vm.zag u - p = Vm.zag u by omega, Vm.zig_zag, h4]
theorem take1_put {p c : Int} (r : List Nat) (h0 : 0 ≤ p) (h1 : p ≤ 4611686018427387903) (h2 : 0 ≤ c) (h3 : c ≤ 4611686018427387903) : take1 p (put1 p c ++ r) = (c, (put1 p c).length, 0) := by
  have hz := Vm.zig_lt (n := c - p) (by omega) (by omega)
  have ht := Vm.take_enc (n := Vm.zig (c - p)) (by omega) r
  have := take1_ok (p := p) (bs := put1 p c ++ r) ht (by rw [Vm.zag_zig]; omega)
  rw [this, Vm.zag_zig]
  congr 1
  omega
theorem takeC_back {p0 p1 p2 x y z : Int} {bs : List Nat} {n : Nat} (h : takeC (p0, p1, p2) bs = ((x, y, z), n, 0)) (h256 : ∀ b ∈ bs, b < 256) :
    rightB p0 p1 p2 = true ∧ rightB x y z = true ∧ 3 ≤ n ∧ n ≤ bs.length ∧ putC (p0, p1, p2) (x, y, z) = bs.take n := by
  cases hp : rightB p0 p1 p2
  · rw [takeC, if_pos hp] at h; simp at h
  · obtain ⟨⟨a0, a1⟩, ⟨b0, b1⟩, ⟨c0, c1⟩⟩ := right_le hp
    obtain ⟨n0, s0, d0, h0⟩ : ∃ n s d, take1 p0 bs = (n, s, d) := ⟨_, _, _, rfl⟩
    obtain ⟨n1, s1, d1, h1⟩ : ∃ n s d, take1 p1 (bs.drop s0) = (n, s, d) := ⟨_, _, _, rfl⟩
    obtain ⟨n2, s2, d2, h2⟩ : ∃ n s d, take1 p2 (bs.drop (s0 + s1)) = (n, s, d) := ⟨_, _, _, rfl⟩
    simp only [takeC, h0, h1, h2, hp] at h
    rw [if_neg (by simp)] at h
    by_cases e0 : d0 = 0
    · subst e0
      rw [if_neg (by simp)] at h
      by_cases e1 : d1 = 0
      · subst e1
        rw [if_neg (by simp)] at h
        by_cases e2 : d2 = 0
        · subst e2
          rw [if_neg (by simp)] at h
          simp at h
          obtain ⟨⟨rfl, rfl, rfl⟩, rfl⟩ := h
          obtain ⟨i1, i2, i3, i4, i5⟩ := take1_back h0 h256 a0 a1
          obtain ⟨j1, j2, j3, j4, j5⟩ := take1_back h1 (drop_byte h256 _) b0 b1
          obtain ⟨k1, k2, k3, k4, k5⟩ := take1_back h2 (drop_byte h256 _) c0 c1
          simp only [List.length_drop] at j2 k2
          refine ⟨rfl, by simp [rightB, okB, *], by omega, by omega, ?_⟩
          simp only [putC, i5, j5, k5]
          rw [List.append_assoc, show bs.drop (s0 + s1) = (bs.drop s0).drop s1 by simp, ← List.take_add, ← List.take_add]
          congr 1; omega
        · rw [if_pos e2] at h; simp at h; exact absurd h.2.2 e2
      · rw [if_pos e1] at h; simp at h; exact absurd h.2.2 e1
    · rw [if_pos e0] at h; simp at h; exact absurd h.2.2 e0
theorem takeC_put {p0 p1 p2 c0 c1 c2 : Int} (r : List Nat) (hp : rightB p0 p1 p2 = true) (hc : rightB c0 c1 c2 = true) : takeC (p0, p1, p2) (putC (p0, p1, p2) (c0, c1, c2) ++ r) = ((c0, c1, c2), (putC (p0, p1, p2) (c0, c1, c2)).length, 0) := by
  obtain ⟨⟨a0, a1⟩, ⟨b0, b1⟩, ⟨d0, d1⟩⟩ := right_le hp
  obtain ⟨⟨e0, e1⟩, ⟨f0, f1⟩, ⟨g0, g1⟩⟩ := right_le hc
  have h0 := take1_put (put1 p1 c1 ++ (put1 p2 c2 ++ r)) a0 a1 e0 e1
  have h1 := take1_put (put1 p2 c2 ++ r) b0 b1 f0 f1
  have h2 := take1_put r d0 d1 g0 g1
  have e : putC (p0, p1, p2) (c0, c1, c2) ++ r = put1 p0 c0 ++ (put1 p1 c1 ++ (put1 p2 c2 ++ r)) := by simp [putC]
  rw [e]
  have q1 : (put1 p0 c0 ++ (put1 p1 c1 ++ (put1 p2 c2 ++ r))).drop (put1 p0 c0).length = put1 p1 c1 ++ (put1 p2 c2 ++ r) := by simp
  have q2 : (put1 p0 c0 ++ (put1 p1 c1 ++ (put1 p2 c2 ++ r))).drop ((put1 p0 c0).length + (put1 p1 c1).length) = put1 p2 c2 ++ r := by
    rw [← List.drop_drop, q1]; simp
  rw [takeC_ok hp h0 (by rw [q1]; exact h1) (by rw [q2]; exact h2)]
  simp [putC, Nat.add_assoc]
end Go.Proofs.Ytgjkeccopjgjlaa

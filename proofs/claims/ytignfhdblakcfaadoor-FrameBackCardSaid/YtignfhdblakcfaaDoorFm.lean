/- Frames in plain words. -/
import Derived.Test.YtignfhdblakcfaaDoorCm
import Derived.Test.YtignfhdblakcfaaDoorVm2
namespace Go.Proofs.YtignfhdblakcfaaDoor.Fm
set_option linter.unusedVariables false

def fr (p : List Nat) : List Nat := Cm.sealed (Vm.enc p.length ++ p)
theorem fr_length (p : List Nat) : (fr p).length = (Vm.enc p.length).length + p.length + 4 := by simp [fr, Cm.sealed, Cm.le4]; omega
theorem fr_byte {p : List Nat} (h : ∀ b ∈ p, b < 256) (hl : p.length ≤ 18446744073709551615) : ∀ b ∈ fr p, b < 256 := by
  intro b hb
  rcases List.mem_append.1 hb with hb | hb
  · rcases List.mem_append.1 hb with hb | hb
    · exact Vm.enc_byte (by omega) b hb
    · exact h b hb
  · exact Cm.le4_byte _ b hb
/-- what Next tells: the record, how many bytes, the error's number -/
def next (b : List Nat) : List Nat × Nat × Nat :=
  if (Vm.take b).2.2 ≠ 0 then ([], 0, (Vm.take b).2.2)
  else if 8192 < (Vm.take b).1 then ([], 0, 4)
  else if b.length < (Vm.take b).2.1 + (Vm.take b).1 + 4 then ([], 0, 2)
  else if Cm.openE (b.take ((Vm.take b).2.1 + (Vm.take b).1 + 4)) ≠ 0 then ([], 0, 5)
  else ((b.drop (Vm.take b).2.1).take (Vm.take b).1, (Vm.take b).2.1 + (Vm.take b).1 + 4, 0)
variable {b : List Nat} {n k e : Nat}
theorem next_e (h : Vm.take b = (n, k, e)) (he : e ≠ 0) : next b = ([], 0, e) := by unfold next; rw [h]; simp [he]
theorem next_long (h : Vm.take b = (n, k, 0)) (hn : 8192 < n) : next b = ([], 0, 4) := by unfold next; rw [h]; simp [hn]
theorem next_short (h : Vm.take b = (n, k, 0)) (hn : n ≤ 8192) (hl : b.length < k + n + 4) : next b = ([], 0, 2) := by
  unfold next; rw [h]; simp only [ne_eq, not_true_eq_false, if_false]
  rw [if_neg (by omega), if_pos hl]
theorem next_sum (h : Vm.take b = (n, k, 0)) (hn : n ≤ 8192) (hl : ¬ b.length < k + n + 4) (ho : Cm.openE (b.take (k + n + 4)) ≠ 0) : next b = ([], 0, 5) := by
  unfold next; rw [h]; simp only [ne_eq, not_true_eq_false, if_false]
  rw [if_neg (by omega), if_neg hl, if_pos ho]
theorem next_ok (h : Vm.take b = (n, k, 0)) (hn : n ≤ 8192) (hl : ¬ b.length < k + n + 4) (ho : Cm.openE (b.take (k + n + 4)) = 0) : next b = ((b.drop k).take n, k + n + 4, 0) := by
  unfold next; rw [h]; simp only [ne_eq, not_true_eq_false, if_false]
  rw [if_neg (by omega), if_neg hl, if_neg (by simp [ho])]
theorem next_le (b : List Nat) : (next b).2.1 ≤ b.length ∧ (next b).1.length ≤ b.length := by
  unfold next
  split
  · simp
  · split
    · simp
    · split
      · simp
      · split
        · simp
        · simp only [List.length_take, List.length_drop]
          omega
theorem next_nil (b : List Nat) (h : (next b).2.2 ≠ 0) : (next b).1 = [] := by
  revert h
  unfold next
  split
  · intro _; rfl
  · split
    · intro _; rfl
    · split
      · intro _; rfl
      · split
        · intro _; rfl
        · intro h; exact absurd rfl h
theorem next_byte (b : List Nat) (h256 : ∀ x ∈ b, x < 256) : ∀ x ∈ (next b).1, x < 256 := by
  unfold next
  split
  · simp
  · split
    · simp
    · split
      · simp
      · split
        · simp
        · intro x hx; exact h256 x (List.mem_of_mem_drop (List.mem_of_mem_take hx))
theorem open_05 (bs : List Nat) (h : 4 ≤ bs.length) : Cm.openE bs = 0 ∨ Cm.openE bs = 5 := by
  unfold Cm.openE
  rw [if_neg (by omega)]
  split <;> simp
/-- framed again -/
theorem again (h : Vm.take b = (n, k, 0)) (h256 : ∀ x ∈ b, x < 256) (hl : ¬ b.length < k + n + 4) : fr ((b.drop k).take n) = Cm.sealed ((b.take (k + n + 4)).take (k + n)) := by
  obtain ⟨h1, h2, h3, h4⟩ := Vm.take_ok h h256
  have e1 : ((b.drop k).take n).length = n := by simp; omega
  unfold fr
  rw [e1, h4, List.take_take, show min (k + n) (k + n + 4) = k + n by omega, List.take_add]
theorem burst {p : List Nat} (h : ∀ b ∈ p, b < 256) (hl : p.length ≤ 8192) (at_ : Int) (mask : Nat) (hne : Cm.turn (fr p) at_ mask ≠ fr p) :
    ((next (Cm.turn (fr p) at_ mask)).2.2 ≠ 0 ∧ (next (Cm.turn (fr p) at_ mask)).2.1 = 0 ∧ (next (Cm.turn (fr p) at_ mask)).1 = []) ∨ ((next (Cm.turn (fr p) at_ mask)).2.2 = 0 ∧ (next (Cm.turn (fr p) at_ mask)).2.1 < (fr p).length) := by
  have h256 : ∀ b ∈ Vm.enc p.length ++ p, b < 256 := by
    intro b hb
    rcases List.mem_append.1 hb with hb | hb
    · exact Vm.enc_byte (by omega) b hb
    · exact h b hb
  have hb := Cm.burst h256 at_ mask hne
  have htl : (Cm.turn (fr p) at_ mask).length = (fr p).length := Cm.turn_length _ _ _
  have hbu : Cm.openE (Cm.turn (fr p) at_ mask) = 5 := hb
  obtain ⟨t, ht⟩ : ∃ t, Cm.turn (fr p) at_ mask = t := ⟨_, rfl⟩
  rw [ht] at htl hbu ⊢
  obtain ⟨⟨n, k, e⟩, hte⟩ : ∃ x, Vm.take t = x := ⟨_, rfl⟩
  by_cases he : e = 0
  · subst he
    by_cases hn : 8192 < n
    · rw [next_long hte hn]; simp
    · by_cases hs : t.length < k + n + 4
      · rw [next_short hte (by omega) hs]; simp
      · by_cases ho : Cm.openE (t.take (k + n + 4)) = 0
        · rw [next_ok hte (by omega) hs ho]
          refine .inr ⟨rfl, ?_⟩
          show k + n + 4 < (fr p).length
          rcases Nat.lt_or_ge (k + n + 4) (fr p).length with hlt | hge
          · exact hlt
          · rw [List.take_of_length_le (by omega), hbu] at ho
            cases ho
        · rw [next_sum hte (by omega) hs ho]; simp
  · rw [next_e hte he]; simp [he]
/-- a frame, whatever stands behind, tells its record -/
theorem next_fr {p : List Nat} (h : ∀ b ∈ p, b < 256) (hl : p.length ≤ 8192) (r : List Nat) : next (fr p ++ r) = (p, (fr p).length, 0) := by
  have ht : Vm.take (fr p ++ r) = (p.length, (Vm.enc p.length).length, 0) := by
    unfold fr Cm.sealed
    rw [List.append_assoc, List.append_assoc]
    exact Vm.take_enc (by omega) _
  have hlen := fr_length p
  have e1 : (fr p ++ r).take ((Vm.enc p.length).length + p.length + 4) = fr p := by
    rw [← hlen, List.take_left]
  rw [next_ok ht hl (by rw [List.length_append, hlen]; omega) (by rw [e1]; exact (Cm.sealed_open _).1)]
  rw [hlen]
  refine Prod.ext ?_ rfl
  show ((fr p ++ r).drop (Vm.enc p.length).length).take p.length = p
  unfold fr Cm.sealed
  rw [List.append_assoc, List.append_assoc, List.drop_left, List.take_left]
end Go.Proofs.YtignfhdblakcfaaDoor.Fm

/- Dictionaries, put and taken back, in plain words. -/
import Derived.Test.YtgjkeccopjgjlaaDm
import Derived.Test.YtgjkeccopjgjlaaVm2
namespace Go.Proofs.Ytgjkeccopjgjlaa
set_option linter.unusedVariables false

namespace Dm
theorem back_put {ks : List ByteArray} {e : Nat} {k : ByteArray} (h : Ok ks e) (hd : (putD ks e k).2.1 = 0) (r : List Nat) : takeD ks e ((putD ks e k).1 ++ r) = (k, (putD ks e k).1.length, 0, (putD ks e k).2.2.1, (putD ks e k).2.2.2) := by
  unfold putD at hd ⊢
  by_cases h64 : 64 < k.size
  · rw [if_pos h64] at hd; cases hd
  · rw [if_neg h64]
    cases hp : plc ks k with
    | some i =>
      have hil := plc_lt hp
      simp only
      unfold takeD
      rw [Vm.take_enc (by have := h.2.1; omega)]
      simp only
      rw [if_neg (by simp), if_neg (by omega), if_pos (by omega), show i + 1 - 1 = i by omega, plc_some hp]
      rfl
    | none =>
      have e0 : Vm.enc 0 = [0] := rfl
      have hs := sb_length k
      have e1 : Vm.take (Vm.enc 0 ++ (Vm.enc k.size ++ sb k) ++ r) = (0, 1, 0) := by
        rw [List.append_assoc, Vm.take_enc (by omega)]; rfl
      have e2 : (Vm.enc 0 ++ (Vm.enc k.size ++ sb k) ++ r).drop 1 = Vm.enc k.size ++ (sb k ++ r) := by
        rw [e0]; simp
      have e3 : newD ks (Vm.enc k.size ++ (sb k ++ r)) = (k, (Vm.enc k.size).length + k.size, 0) := by
        unfold newD
        rw [Vm.take_enc (by omega)]
        simp only
        rw [if_neg (by simp), if_neg h64, if_neg (by rw [List.length_append, List.length_append, hs]; omega), List.drop_left, ← hs, List.take_left, str_sb, hp]
      simp only
      unfold takeD
      rw [e1]
      simp only
      rw [if_neg (by simp), if_neg (by omega), if_neg (by omega), e2, e3]
      simp only
      rw [if_neg (by simp)]
      refine Prod.ext rfl (Prod.ext ?_ rfl)
      simp only [List.length_append, e0, List.length_cons, List.length_nil, hs]
      try omega
theorem put_err {ks : List ByteArray} {e : Nat} {k : ByteArray} (hd : (putD ks e k).2.1 ≠ 0) : 64 < k.size ∧ putD ks e k = ([], 4, ks, e) := by
  unfold putD at hd ⊢
  by_cases h64 : 64 < k.size
  · exact ⟨h64, if_pos h64⟩
  · rw [if_neg h64] at hd
    cases hp : plc ks k with
    | some i => rw [hp] at hd; exact absurd rfl hd
    | none => rw [hp] at hd; exact absurd rfl hd
theorem put_len {ks : List ByteArray} {e : Nat} {k : ByteArray} (h : Ok ks e) : (putD ks e k).1.length ≤ 84 ∧ ∀ b ∈ (putD ks e k).1, b < 256 := by
  unfold putD
  by_cases h64 : 64 < k.size
  · rw [if_pos h64]; simp
  · rw [if_neg h64]
    cases hp : plc ks k with
    | some i =>
      have := plc_lt hp
      have := h.2.1
      exact ⟨by have := Vm.enc_le (i + 1); simp only; omega, Vm.enc_byte (by omega)⟩
    | none =>
      refine ⟨?_, ?_⟩
      · have h1 := Vm.enc_le 0
        have h2 := Vm.enc_le k.size
        have h3 := sb_length k
        simp only [List.length_append]
        omega
      · intro b hb
        rcases List.mem_append.1 hb with hb | hb
        · exact Vm.enc_byte (by omega) b hb
        · rcases List.mem_append.1 hb with hb | hb
          · exact Vm.enc_byte (by omega) b hb
          · exact sb_byte k b hb
/-- keys that were told one by one -/
def puts (l : List ByteArray) : List ByteArray × Nat := l.foldl (fun st k => ((putD st.1 st.2 k).2.2.1, (putD st.1 st.2 k).2.2.2)) ([], 0)
theorem puts_step {l : List ByteArray} {j : Nat} {k : ByteArray} (h : l[j]? = some k) : puts (l.take (j + 1)) = ((putD (puts (l.take j)).1 (puts (l.take j)).2 k).2.2.1, (putD (puts (l.take j)).1 (puts (l.take j)).2 k).2.2.2) := by
  unfold puts
  rw [List.take_add_one, h]
  simp
end Dm
end Go.Proofs.Ytgjkeccopjgjlaa

/- Numbers and their bytes: there and back. -/
import Derived.Test.YtahichieakdbnaaVm
namespace Go.Proofs.Ytahichieakdbnaa
namespace Vm

theorem fin_inv : ∀ (n : Nat) (bs : List Nat) (k : Nat), fin n bs = some k → k < n ∧ k < bs.length ∧ (∀ j, j < k → 128 ≤ bs[j]?.getD 0) ∧ bs[k]?.getD 0 < 128
  | 0, _, _, h => by simp [fin] at h
  | _ + 1, [], _, h => by simp [fin] at h
  | n + 1, b :: r, k, h => by
    unfold fin at h
    split at h
    · simp at h; subst h; simp; omega
    · simp only [Option.map_eq_some_iff] at h
      obtain ⟨a, ha, rfl⟩ := h
      obtain ⟨h1, h2, h3, h4⟩ := fin_inv n r a ha
      refine ⟨by omega, by simp; omega, fun j hj => ?_, by simpa using h4⟩
      cases j with
      | zero => simp; omega
      | succ j => simpa using h3 j (by omega)
/-- how a number's bytes look -/
theorem encF_shape : ∀ (k n : Nat), n < 128 ^ (k + 1) → ∃ init last, encF k n = init ++ [last] ∧ init.length ≤ k ∧ (∀ b ∈ init, 128 ≤ b) ∧ last < 128 ∧ (init ≠ [] → last ≠ 0) ∧ (init.length = k → last = n / 128 ^ k)
  | 0, n, h => ⟨[], n, by simp [encF], by simp, by simp, by simpa using h, by simp, by simp⟩
  | k + 1, n, h => by
    by_cases hn : n < 128
    · exact ⟨[], n, by simp [encF, hn], by simp, by simp, hn, by simp, by simp⟩
    · obtain ⟨init, last, h1, h2, h3, h4, h5, h6⟩ := encF_shape k (n / 128) (by rw [Nat.pow_succ] at h; omega)
      refine ⟨(n % 128 + 128) :: init, last, by rw [encF, if_neg hn, h1]; rfl, by simpa using h2, ?_, h4, fun _ => ?_, fun hl => ?_⟩
      · intro b hb
        simp only [List.mem_cons] at hb
        rcases hb with rfl | hb
        · omega
        · exact h3 b hb
      · by_cases hi : init = []
        · subst hi
          intro h0
          have hk : encF k (n / 128) = [0] := by rw [h1, h0]; rfl
          cases k with
          | zero => simp [encF] at hk; omega
          | succ k =>
            unfold encF at hk
            split at hk
            · simp at hk; omega
            · simp at hk
        · exact h5 hi
      · have := h6 (by simpa using hl)
        rw [this, Nat.pow_succ, Nat.mul_comm, Nat.div_div_eq_div_mul]
theorem enc_shape {n : Nat} (h : n ≤ 18446744073709551615) : ∃ init last, enc n = init ++ [last] ∧ init.length ≤ 9 ∧ (∀ b ∈ init, 128 ≤ b) ∧ last < 128 ∧ (init ≠ [] → last ≠ 0) ∧ (init.length = 9 → last ≤ 1) := by
  have h9 : (128 : Nat) ^ 9 = 9223372036854775808 := by decide
  have h10 : (128 : Nat) ^ 10 = 1180591620717411303424 := by decide
  obtain ⟨init, last, h1, h2, h3, h4, h5, h6⟩ := encF_shape 9 n (by show n < 128 ^ 10; omega)
  exact ⟨init, last, h1, h2, h3, h4, h5, fun hl => by rw [h6 hl, h9]; omega⟩
theorem fin_shape {init : List Nat} {last : Nat} (r : List Nat) (h2 : init.length ≤ 9) (h3 : ∀ b ∈ init, 128 ≤ b) (h4 : last < 128) : fin 10 (init ++ [last] ++ r) = some init.length := by
  refine fin_some 10 init.length _ (by omega) (by simp) (fun j hj => ?_) ?_
  · rw [List.append_assoc, List.getElem?_append_left hj, List.getElem?_eq_getElem hj]
    exact h3 _ (List.getElem_mem hj)
  · rw [List.append_assoc, List.getElem?_append_right (by omega)]
    simpa using h4
theorem take_enc {n : Nat} (h : n ≤ 18446744073709551615) (r : List Nat) : take (enc n ++ r) = (n, (enc n).length, 0) := by
  have hd := dec_enc (n := n) (by omega)
  obtain ⟨init, last, h1, h2, h3, h4, h5, h6⟩ := enc_shape h
  rw [h1] at hd ⊢
  have hf := fin_shape r h2 h3 h4
  unfold take
  rw [hf]
  have hg : (init ++ [last] ++ r).getD init.length 0 = last := by simp
  have ht : (init ++ [last] ++ r).take (init.length + 1) = init ++ [last] := by
    rw [List.take_append_of_le_length (by simp)]
    exact List.take_of_length_le (by simp)
  simp only [hg, ht, hd]
  rw [if_neg (by
    rintro (⟨a, b⟩ | ⟨a, b⟩)
    · exact h5 (by intro e; simp [e] at a) b
    · have := h6 a; omega)]
  simp
theorem take_cut {n : Nat} (h : n ≤ 18446744073709551615) : take ((enc n).take ((enc n).length - 1)) = (0, 0, 2) := by
  obtain ⟨init, last, h1, h2, h3, h4, h5, h6⟩ := enc_shape h
  rw [h1]
  have e : (init ++ [last]).take ((init ++ [last]).length - 1) = init := by simp
  rw [e]
  have hf : fin 10 init = none := fin_none 10 init (fun j _ hj => by rw [List.getElem?_eq_getElem hj]; exact h3 _ (List.getElem_mem hj))
  unfold take
  rw [hf]
  simp only
  rw [if_pos (by omega)]
theorem encF_dec : ∀ (init : List Nat) (k last : Nat), init.length ≤ k → (∀ b ∈ init, 128 ≤ b ∧ b < 256) → last < 128 → (init ≠ [] → last ≠ 0) → 0 < dec (init ++ [last]) + (if init = [] then 1 else 0) ∧ encF k (dec (init ++ [last])) = init ++ [last]
  | [], k, last, _, _, h, _ => by
    refine ⟨by simp, ?_⟩
    have e : dec [last] = last := by simp [dec]; omega
    show encF k (dec [last]) = [last]
    rw [e]
    cases k with
    | zero => rfl
    | succ k => simp [encF, h]
  | b :: r, 0, last, h, _, _, _ => absurd h (by simp)
  | b :: r, k + 1, last, h, hb, hl, hne => by
    have hl0 := hne (by simp)
    obtain ⟨h1, h2⟩ := encF_dec r k last (by simpa using h) (fun x hx => hb x (by simp [hx])) hl (fun _ => hl0)
    have hb0 := hb b (by simp)
    have hpos : 0 < dec (r ++ [last]) := by
      by_cases hr : r = []
      · subst hr; simp [dec]; omega
      · rw [if_neg hr] at h1; omega
    have e : dec (b :: r ++ [last]) = b % 128 + 128 * dec (r ++ [last]) := rfl
    refine ⟨by rw [e]; omega, ?_⟩
    rw [e]
    unfold encF
    rw [if_neg (by omega)]
    have e1 : (b % 128 + 128 * dec (r ++ [last])) % 128 + 128 = b := by omega
    have e2 : (b % 128 + 128 * dec (r ++ [last])) / 128 = dec (r ++ [last]) := by omega
    rw [e1, e2, h2]
    rfl
theorem take_ok {bs : List Nat} {z k : Nat} (h : take bs = (z, k, 0)) (h256 : ∀ b ∈ bs, b < 256) : 1 ≤ k ∧ k ≤ bs.length ∧ k ≤ 10 ∧ enc z = bs.take k := by
  unfold take at h
  split at h
  · split at h <;> simp at h
  · next i hi =>
    obtain ⟨h1, h2, h3, h4⟩ := fin_inv 10 bs i hi
    split at h
    · simp at h
    · next hb =>
      simp only [Prod.mk.injEq] at h
      obtain ⟨rfl, rfl, _⟩ := h
      refine ⟨by omega, by omega, by omega, ?_⟩
      have e : bs.take (i + 1) = bs.take i ++ [bs[i]?.getD 0] := by rw [List.take_succ_eq_append_getElem h2, List.getElem?_eq_getElem h2]; rfl
      rw [e]
      refine (encF_dec (bs.take i) 9 _ (by simp; omega) ?_ h4 ?_).2
      · intro b hb
        obtain ⟨j, hj, rfl⟩ := List.mem_iff_getElem.1 hb
        simp only [List.length_take] at hj
        have := h3 j (by omega)
        rw [List.getElem?_eq_getElem (by omega)] at this
        simp only [Option.getD_some] at this
        rw [List.getElem_take]
        exact ⟨this, h256 _ (List.getElem_mem (by omega))⟩
      · intro hne h0
        apply hb
        left
        refine ⟨?_, by simpa using h0⟩
        rcases Nat.eq_zero_or_pos i with hz | hz
        · subst hz; simp at hne
        · exact hz
theorem take_good_enc {bs : List Nat} {k : Nat} (h : fin 10 bs = some k) (h2 : ¬ ((0 < k ∧ bs[k]?.getD 0 = 0) ∨ (k = 9 ∧ 1 < bs[k]?.getD 0))) (h256 : ∀ b ∈ bs, b < 256) :
    part bs k 0 ≤ 18446744073709551615 ∧ enc (part bs k 0) = bs.take (k + 1) ∧ take bs = (part bs k 0, k + 1, 0) := by
  have ht : take bs = (part bs k 0, k + 1, 0) := by
    simp only [take, h]
    rw [if_neg (by simpa using h2)]
    rfl
  obtain ⟨h1, h3, _, _⟩ := fin_inv 10 bs k h
  exact ⟨part_64 h3 (by omega) (fun h9 => by omega), (take_ok ht h256).2.2.2, ht⟩
theorem take_bad_enc {bs : List Nat} {k : Nat} (h : fin 10 bs = some k) (h2 : (0 < k ∧ bs[k]?.getD 0 = 0) ∨ (k = 9 ∧ 1 < bs[k]?.getD 0)) {n : Nat} (hn : n ≤ 18446744073709551615) :
    enc n ≠ bs.take (k + 1) ∧ take bs = (0, 0, 3) := by
  refine ⟨fun he => ?_, by simp only [take, h]; rw [if_pos (by simpa using h2)]⟩
  obtain ⟨h1, h3, _, _⟩ := fin_inv 10 bs k h
  obtain ⟨init, last, e1, e2, e3, e4, e5, e6⟩ := enc_shape hn
  have e : bs.take (k + 1) = bs.take k ++ [bs[k]?.getD 0] := by rw [List.take_succ_eq_append_getElem h3, List.getElem?_eq_getElem h3]; rfl
  rw [e1, e] at he
  have hl := congrArg List.length he
  simp at hl
  obtain ⟨r1, r2⟩ := List.append_inj' he rfl
  simp only [List.cons.injEq, and_true] at r2
  rcases h2 with ⟨a, b⟩ | ⟨a, b⟩
  · exact e5 (by intro h0; simp [h0] at hl; omega) (by rw [r2]; exact b)
  · have := e6 (by omega); omega
end Vm
end Go.Proofs.Ytahichieakdbnaa

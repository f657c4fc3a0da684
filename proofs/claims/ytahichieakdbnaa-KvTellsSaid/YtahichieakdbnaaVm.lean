/- Numbers and their bytes, as plain functions of lists: what the walks over vint are held against. -/
import Derived.Laws.BitsAllLaws
namespace Go.Proofs.Ytahichieakdbnaa
namespace Vm

def encF : Nat → Nat → List Nat
  | 0, n => [n]
  | k + 1, n => if n < 128 then [n] else (n % 128 + 128) :: encF k (n / 128)
/-- the bytes of a number of 64 bits -/
def enc (n : Nat) : List Nat := encF 9 n

theorem encF_less : ∀ (k n : Nat), n < 128 ^ (k + 1) → encF (k + 1) n = encF k n
  | 0, n, h => by simp [encF]; omega
  | k + 1, n, h => by
    unfold encF
    by_cases h1 : n < 128
    · simp [h1]
    · simp only [h1, if_false]
      rw [encF_less k (n / 128) (by rw [Nat.pow_succ] at h; omega)]
theorem enc_small {n : Nat} (h : n < 128) : enc n = [n] := by simp [enc, encF, h]
theorem enc_big {n : Nat} (h : 128 ≤ n) (h2 : n < 18446744073709551616) : enc n = (n % 128 + 128) :: enc (n / 128) := by
  have e : encF 9 (n / 128) = encF 8 (n / 128) := encF_less 8 _ (by
    have : (128 : Nat) ^ 9 = 9223372036854775808 := by decide
    rw [this]; omega)
  show encF 9 n = _
  rw [enc, e]
  rw [encF, if_neg (by omega)]
theorem encF_pos : ∀ (k n : Nat), 0 < (encF k n).length
  | 0, n => by simp [encF]
  | k + 1, n => by unfold encF; split <;> simp
theorem encF_le : ∀ (k n : Nat), (encF k n).length ≤ k + 1
  | 0, n => by simp [encF]
  | k + 1, n => by
    unfold encF
    split
    · simp
    · simpa using encF_le k (n / 128)
theorem enc_pos (n : Nat) : 0 < (enc n).length := encF_pos 9 n
theorem enc_le (n : Nat) : (enc n).length ≤ 10 := encF_le 9 n
theorem encF_byte : ∀ (k n : Nat), n < 256 * 128 ^ k → ∀ b ∈ encF k n, b < 256
  | 0, n, h, b, hb => by simp [encF] at hb; omega
  | k + 1, n, h, b, hb => by
    unfold encF at hb
    split at hb
    · simp at hb; omega
    · simp only [List.mem_cons] at hb
      rcases hb with rfl | hb
      · omega
      · exact encF_byte k (n / 128) (by rw [Nat.pow_succ] at h; omega) b hb
theorem enc_byte {n : Nat} (h : n < 18446744073709551616) : ∀ b ∈ enc n, b < 256 :=
  encF_byte 9 n (by
    have : (128 : Nat) ^ 9 = 9223372036854775808 := by decide
    rw [this]; omega)

/-- no number's bytes begin those of another one -/
theorem encF_free : ∀ (k a b : Nat), encF k a = (encF k b).take (encF k a).length → a = b
  | 0, a, b, h => by simpa [encF] using h
  | k + 1, a, b, h => by
    by_cases ha : a < 128
    · rw [show encF (k + 1) a = [a] by simp [encF, ha]] at h
      by_cases hb : b < 128
      · rw [show encF (k + 1) b = [b] by simp [encF, hb]] at h
        simpa using h
      · rw [show encF (k + 1) b = (b % 128 + 128) :: encF k (b / 128) by simp [encF, hb]] at h
        simp at h
        omega
    · rw [show encF (k + 1) a = (a % 128 + 128) :: encF k (a / 128) by simp [encF, ha]] at h
      by_cases hb : b < 128
      · rw [show encF (k + 1) b = [b] by simp [encF, hb]] at h
        simp at h
        omega
      · rw [show encF (k + 1) b = (b % 128 + 128) :: encF k (b / 128) by simp [encF, hb]] at h
        simp only [List.length_cons, List.take_succ_cons, List.cons.injEq] at h
        have := encF_free k _ _ h.2
        omega
theorem enc_free {a b : Nat} (h : enc a = (enc b).take (enc a).length) : a = b := encF_free 9 a b h
theorem encF_mono : ∀ (k a b : Nat), a ≤ b → (encF k a).length ≤ (encF k b).length
  | 0, _, _, _ => by simp [encF]
  | k + 1, a, b, h => by
    unfold encF
    by_cases ha : a < 128
    · simp only [ha, if_true]
      split <;> simp
    · rw [if_neg ha, if_neg (by omega)]
      simpa using encF_mono k (a / 128) (b / 128) (Nat.div_le_div_right h)
theorem enc_mono {a b : Nat} (h : a ≤ b) : (enc a).length ≤ (enc b).length := encF_mono 9 a b h

/-- The number that is told by seven bits of each byte. -/
def dec : List Nat → Nat
  | [] => 0
  | b :: r => b % 128 + 128 * dec r
theorem dec_enc : ∀ {n : Nat}, n < 18446744073709551616 → dec (enc n) = n := by
  have h : ∀ k n, n < 128 * 128 ^ k → dec (encF k n) = n := by
    intro k
    induction k with
    | zero => intro n h; simp [encF, dec]; omega
    | succ k ih =>
      intro n h
      unfold encF
      split
      · simp [dec]; omega
      · simp only [dec]
        rw [ih (n / 128) (by rw [Nat.pow_succ] at h; omega)]
        omega
  intro n hn
  exact h 9 n (by
    have : (128 : Nat) ^ 9 = 9223372036854775808 := by decide
    rw [this]; omega)

/-- how far the first byte below 128 is, of the first k -/
def fin : Nat → List Nat → Option Nat
  | 0, _ => none
  | _ + 1, [] => none
  | k + 1, b :: r => if b < 128 then some 0 else (fin k r).map (· + 1)

theorem fin_none : ∀ (n : Nat) (bs : List Nat), (∀ j, j < n → j < bs.length → 128 ≤ bs[j]?.getD 0) → fin n bs = none
  | 0, _, _ => rfl
  | _ + 1, [], _ => rfl
  | n + 1, b :: r, h => by
    have h0 := h 0 (by omega) (by simp)
    simp at h0
    rw [fin, if_neg (by omega), fin_none n r (fun j hj hl => by have := h (j + 1) (by omega) (by simp; omega); simpa using this)]
    rfl
theorem fin_some : ∀ (n k : Nat) (bs : List Nat), k < n → k < bs.length → (∀ j, j < k → 128 ≤ bs[j]?.getD 0) → bs[k]?.getD 0 < 128 → fin n bs = some k
  | 0, _, _, h, _, _, _ => absurd h (by omega)
  | _ + 1, _, [], _, h, _, _ => absurd h (by simp)
  | n + 1, 0, b :: r, _, _, _, h => by simp at h; simp [fin, h]
  | n + 1, k + 1, b :: r, h1, h2, h3, h4 => by
    have h0 := h3 0 (by omega)
    simp at h0
    rw [fin, if_neg (by omega), fin_some n k r (by omega) (by simpa using h2) (fun j hj => by have := h3 (j + 1) (by omega); simpa using this) (by simpa using h4)]
    rfl

/-- what vint.Take tells: the number, how many bytes, the error -/
def take (bs : List Nat) : Nat × Nat × Nat :=
  match fin 10 bs with
  | none => if bs.length < 10 then (0, 0, 2) else (0, 0, 3)
  | some i => if (0 < i ∧ bs.getD i 0 = 0) ∨ (i = 9 ∧ 1 < bs.getD i 0) then (0, 0, 3) else (dec (bs.take (i + 1)), i + 1, 0)

theorem dec_lt : ∀ (l : List Nat), dec l < 128 ^ l.length
  | [] => by simp [dec]
  | b :: r => by
    have h := dec_lt r
    simp only [dec, List.length_cons, Nat.pow_succ]
    omega
theorem dec_snoc (x : Nat) : ∀ (l : List Nat), dec (l ++ [x]) = dec l + 128 ^ l.length * (x % 128)
  | [] => by simp [dec]
  | b :: r => by
    have h := dec_snoc x r
    simp only [dec, List.cons_append, h, List.length_cons, Nat.pow_succ, Nat.mul_add]
    rw [Nat.mul_comm (128 ^ r.length) 128, Nat.mul_assoc]
    omega
/-- what is told by the bytes of places j to k -/
def part (bs : List Nat) (k j : Nat) : Nat := dec ((bs.take (k + 1)).drop j)
theorem part_end (bs : List Nat) (k : Nat) : part bs k (k + 1) = 0 := by
  have : (bs.take (k + 1)).drop (k + 1) = [] := by apply List.drop_eq_nil_of_le; simp; omega
  simp [part, this, dec]
theorem part_step {bs : List Nat} {k j : Nat} (hj : j ≤ k) (hk : k < bs.length) : part bs k j = part bs k (j + 1) * 128 + bs[j]?.getD 0 % 128 := by
  unfold part
  rw [List.drop_eq_getElem_cons (by simp; omega)]
  simp only [dec, List.getElem_take]
  rw [List.getElem?_eq_getElem (by omega)]
  simp only [Option.getD_some]
  omega
theorem pow_le9 {a b : Nat} (h : a ≤ b) : (128 : Nat) ^ a ≤ 128 ^ b := Nat.pow_le_pow_right (by omega) h
theorem part_lt {bs : List Nat} {k : Nat} (hk : k < bs.length) (h9 : k ≤ 9) (hx : k = 9 → bs[k]?.getD 0 ≤ 1) (j : Nat) : part bs k j < 2 * 128 ^ (9 - j) := by
  have hp : 0 < (128 : Nat) ^ (9 - j) := Nat.pow_pos (by omega)
  by_cases hj : j ≤ k
  · by_cases hk9 : k = 9
    · have e : (bs.take (k + 1)).drop j = (bs.take k).drop j ++ [bs[k]'hk] := by
        rw [List.take_succ_eq_append_getElem hk, List.drop_append_of_le_length (by simp; omega)]
      unfold part
      rw [e, dec_snoc]
      have h1 := dec_lt ((bs.take k).drop j)
      have hl : ((bs.take k).drop j).length = 9 - j := by simp; omega
      rw [hl] at h1 ⊢
      have h2 := hx hk9
      rw [List.getElem?_eq_getElem hk] at h2
      simp only [Option.getD_some] at h2
      have h3 : 128 ^ (9 - j) * (bs[k]'hk % 128) ≤ 128 ^ (9 - j) * 1 := Nat.mul_le_mul_left _ (by omega)
      omega
    · have h1 := dec_lt ((bs.take (k + 1)).drop j)
      have hl : ((bs.take (k + 1)).drop j).length ≤ 9 - j := by simp; omega
      have h2 := pow_le9 hl
      unfold part
      omega
  · have : (bs.take (k + 1)).drop j = [] := by apply List.drop_eq_nil_of_le; simp; omega
    simp only [part, this, dec]; omega
theorem part_57 {bs : List Nat} {k j : Nat} (hk : k < bs.length) (h9 : k ≤ 9) (hx : k = 9 → bs[k]?.getD 0 ≤ 1) : part bs k (j + 1) ≤ 144115188075855871 := by
  have h1 := part_lt hk h9 hx (j + 1)
  have h2 := pow_le9 (a := 9 - (j + 1)) (b := 8) (by omega)
  have h3 : (128 : Nat) ^ 8 = 72057594037927936 := by decide
  omega
theorem part_64 {bs : List Nat} {k j : Nat} (hk : k < bs.length) (h9 : k ≤ 9) (hx : k = 9 → bs[k]?.getD 0 ≤ 1) : part bs k j ≤ 18446744073709551615 := by
  have h1 := part_lt hk h9 hx j
  have h2 := pow_le9 (a := 9 - j) (b := 9) (by omega)
  have h3 : (128 : Nat) ^ 9 = 9223372036854775808 := by decide
  omega

def zig (n : Int) : Nat := if n < 0 then (-2 * n - 1).toNat else (2 * n).toNat
def zag (n : Nat) : Int := if n % 2 = 1 then -((n / 2 : Nat) : Int) - 1 else ((n / 2 : Nat) : Int)
theorem zag_zig (n : Int) : zag (zig n) = n := by unfold zag zig; split <;> split <;> omega
theorem zig_zag (n : Nat) : zig (zag n) = n := by unfold zag zig; split <;> split <;> omega
theorem zig_lt {n : Int} (h0 : -9223372036854775808 ≤ n) (h1 : n ≤ 9223372036854775807) : zig n < 18446744073709551616 := by unfold zig; split <;> omega
theorem zag_lo {n : Nat} (h : n < 18446744073709551616) : -9223372036854775808 ≤ zag n := by unfold zag; split <;> omega
theorem zag_hi {n : Nat} (h : n < 18446744073709551616) : zag n ≤ 9223372036854775807 := by unfold zag; split <;> omega
end Vm
end Go.Proofs.Ytahichieakdbnaa

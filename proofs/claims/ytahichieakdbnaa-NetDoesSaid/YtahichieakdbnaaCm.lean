/- Sums of bytes, as plain functions of numbers and lists. -/
import Derived.Laws.BitsAllLaws
namespace Go.Proofs.Ytahichieakdbnaa
namespace Cm

def P : Nat := 2197175160
def F : Nat := 4294967295
/-- one bit goes out -/
def half (c : Nat) : Nat := if c % 2 = 1 then c / 2 ^^^ P else c / 2
def H : Nat → Nat → Nat
  | 0, c => c
  | k + 1, c => H k (half c)
def upd (c x : Nat) : Nat := H 8 (c ^^^ x)
def run (c : Nat) (bs : List Nat) : Nat := bs.foldl upd c
def more (s : Nat) (bs : List Nat) : Nat := run (s ^^^ F) bs ^^^ F
def sum (bs : List Nat) : Nat := more 0 bs
def le4 (x : Nat) : List Nat := [x % 256, x / 256 % 256, x / 65536 % 256, x / 16777216 % 256]
def sealed (bs : List Nat) : List Nat := bs ++ le4 (sum bs)
/-- bytes as one number, the first the lowest -/
def M : List Nat → Nat
  | [] => 0
  | b :: r => b + 256 * M r

theorem half_xor (a b : Nat) : half (a ^^^ b) = half a ^^^ half b := by
  unfold half
  rw [Nat.xor_div_two]
  have h := @Nat.xor_mod_two_eq_one a b
  by_cases ha : a % 2 = 1 <;> by_cases hb : b % 2 = 1
  · rw [if_pos ha, if_pos hb, if_neg (by rw [h]; simp [ha, hb])]
    apply Nat.eq_of_testBit_eq
    intro i
    simp only [Nat.testBit_xor]
    cases (a / 2).testBit i <;> cases (b / 2).testBit i <;> cases P.testBit i <;> rfl
  · rw [if_pos ha, if_neg hb, if_pos (by rw [h]; simp [ha, hb])]
    apply Nat.eq_of_testBit_eq
    intro i
    simp only [Nat.testBit_xor]
    cases (a / 2).testBit i <;> cases (b / 2).testBit i <;> cases P.testBit i <;> rfl
  · rw [if_neg ha, if_pos hb, if_pos (by rw [h]; simp [ha, hb])]
    apply Nat.eq_of_testBit_eq
    intro i
    simp only [Nat.testBit_xor]
    cases (a / 2).testBit i <;> cases (b / 2).testBit i <;> cases P.testBit i <;> rfl
  · rw [if_neg ha, if_neg hb, if_neg (by rw [h]; simp [ha, hb])]
theorem H_xor : ∀ (k a b : Nat), H k (a ^^^ b) = H k a ^^^ H k b
  | 0, _, _ => rfl
  | k + 1, a, b => by simp only [H]; rw [half_xor, H_xor k]
theorem H_add : ∀ (k j c : Nat), H (k + j) c = H j (H k c)
  | 0, j, c => by simp [H]
  | k + 1, j, c => by rw [show k + 1 + j = (k + j) + 1 by omega]; simp only [H]; exact H_add k j _
theorem half_zero : half 0 = 0 := rfl
theorem H_zero : ∀ k, H k 0 = 0
  | 0 => rfl
  | k + 1 => by simp only [H, half_zero]; exact H_zero k
theorem H_shift : ∀ (k x : Nat), H k (x * 2 ^ k) = x
  | 0, x => by simp [H]
  | k + 1, x => by
    have e : x * 2 ^ (k + 1) = 2 * (x * 2 ^ k) := by rw [Nat.pow_succ, Nat.mul_comm (2 ^ k) 2, ← Nat.mul_assoc, Nat.mul_comm x 2, Nat.mul_assoc]
    have e2 : half (x * 2 ^ (k + 1)) = x * 2 ^ k := by
      rw [e]; unfold half
      rw [if_neg (by omega)]
      omega
    show H k (half (x * 2 ^ (k + 1))) = x
    rw [e2]
    exact H_shift k x
theorem half_lt {c : Nat} (h : c < 4294967296) : half c < 4294967296 := by
  unfold half
  split
  · exact Nat.xor_lt_two_pow (n := 32) (show c / 2 < 2 ^ 32 by omega) (by decide)
  · omega
theorem H_lt : ∀ (k : Nat) {c : Nat}, c < 4294967296 → H k c < 4294967296
  | 0, _, h => h
  | k + 1, _, h => H_lt k (half_lt h)
theorem half_ne {c : Nat} (h : c < 4294967296) (h0 : c ≠ 0) : half c ≠ 0 := by
  unfold half
  split
  · intro he
    have e : c / 2 = P := by
      have := congrArg (fun y => y ^^^ P) he
      simpa [Nat.xor_assoc] using this
    unfold P at e
    omega
  · omega
theorem H_ne : ∀ (k : Nat) {c : Nat}, c < 4294967296 → c ≠ 0 → H k c ≠ 0
  | 0, _, _, h0 => h0
  | k + 1, _, h, h0 => H_ne k (half_lt h) (half_ne h h0)
theorem xor_eq_zero {a b : Nat} (h : a ^^^ b = 0) : a = b := by
  have := congrArg (fun y => y ^^^ b) h
  simpa [Nat.xor_assoc] using this
theorem xor_lt {a b : Nat} (h1 : a < 4294967296) (h2 : b < 4294967296) : a ^^^ b < 4294967296 := Nat.xor_lt_two_pow (n := 32) h1 h2
theorem H_inj {k a b : Nat} (h1 : a < 4294967296) (h2 : b < 4294967296) (h : H k a = H k b) : a = b := by
  by_cases hab : a ^^^ b = 0
  · exact xor_eq_zero hab
  · exfalso
    apply H_ne k (xor_lt h1 h2) hab
    rw [H_xor, h, Nat.xor_self]

/-- four bits at once, by the table -/
def tab (k : Nat) : Nat := H 4 k
theorem H4 (c : Nat) : H 4 c = c / 16 ^^^ tab (c % 16) := by
  have e : c = c / 16 * 2 ^ 4 ^^^ c % 16 := by
    have h := nat_join 4 (c / 16 * 16) (c % 16) (by omega) (by omega)
    have h2 : c / 16 * 2 ^ 4 ^^^ c % 16 = c / 16 * 16 ||| c % 16 := by
      apply Nat.eq_of_testBit_eq
      intro i
      rw [Nat.testBit_xor, Nat.testBit_or]
      have h3 : (c / 16 * 2 ^ 4).testBit i = (decide (4 ≤ i) && (c / 16).testBit (i - 4)) := by
        rw [← Nat.shiftLeft_eq, Nat.testBit_shiftLeft]
      have h4 : (c % 16).testBit i = (decide (i < 4) && c.testBit i) := Nat.testBit_mod_two_pow c 4 i
      rw [show c / 16 * 16 = c / 16 * 2 ^ 4 from rfl, h3, h4]
      by_cases hi : i < 4
      · simp [hi, show ¬ 4 ≤ i by omega]
      · simp [hi]
    rw [h2, h]; omega
  conv => lhs; rw [e]
  rw [H_xor, H_shift]
  rfl
theorem tab_lt {k : Nat} (h : k < 16) : tab k < 4294967296 := H_lt 4 (by omega)

/-- bytes come bit by bit -/
theorem M_lt : ∀ (bs : List Nat), (∀ b ∈ bs, b < 256) → M bs < 2 ^ (8 * bs.length)
  | [], _ => by simp [M]
  | b :: r, h => by
    have h1 := M_lt r (fun x hx => h x (by simp [hx]))
    have h2 := h b (by simp)
    simp only [M, List.length_cons]
    rw [show 8 * (r.length + 1) = 8 * r.length + 8 by omega, Nat.pow_add]
    omega
theorem join8 (b m : Nat) (h : b < 256) : b + 256 * m = b ^^^ m * 2 ^ 8 := by
  have h1 := nat_join 8 (m * 256) b (by omega) (by omega)
  have h2 : b ^^^ m * 2 ^ 8 = m * 256 ||| b := by
    apply Nat.eq_of_testBit_eq
    intro i
    rw [Nat.testBit_xor, Nat.testBit_or]
    have h3 : (m * 2 ^ 8).testBit i = (decide (8 ≤ i) && m.testBit (i - 8)) := by rw [← Nat.shiftLeft_eq, Nat.testBit_shiftLeft]
    rw [show m * 256 = m * 2 ^ 8 from rfl, h3]
    by_cases hi : i < 8
    · simp [show ¬ 8 ≤ i by omega]
    · have h4 : b.testBit i = false := Nat.testBit_lt_two_pow (Nat.lt_of_lt_of_le (show b < 2 ^ 8 by omega) (Nat.pow_le_pow_right (by omega) (by omega)))
      simp [h4]
  rw [h2, h1]; omega
theorem run_H : ∀ (bs : List Nat) (c : Nat), (∀ b ∈ bs, b < 256) → run c bs = H (8 * bs.length) (c ^^^ M bs)
  | [], c, _ => by simp [run, H, M]
  | b :: r, c, h => by
    have hb := h b (by simp)
    have ih := run_H r (upd c b) (fun x hx => h x (by simp [hx]))
    show run (upd c b) r = _
    rw [ih]
    simp only [M, List.length_cons]
    rw [show 8 * (r.length + 1) = 8 + 8 * r.length by omega, H_add, join8 b (M r) hb, ← Nat.xor_assoc, H_xor 8 (c ^^^ b) (M r * 2 ^ 8), H_shift]
    rfl
theorem run_lt {c : Nat} (h : c < 4294967296) : ∀ {bs : List Nat}, (∀ b ∈ bs, b < 256) → run c bs < 4294967296 := by
  intro bs
  induction bs generalizing c with
  | nil => intro _; exact h
  | cons b r ih =>
    intro hb
    exact ih (H_lt 8 (xor_lt h (by have := hb b (by simp); omega))) (fun x hx => hb x (by simp [hx]))
theorem run_append (c : Nat) (a b : List Nat) : run c (a ++ b) = run (run c a) b := by simp [run]
theorem more_append (s : Nat) (a b : List Nat) : more (more s a) b = more s (a ++ b) := by
  unfold more
  rw [Nat.xor_assoc, Nat.xor_self, Nat.xor_zero, run_append]
theorem more_lt {s : Nat} (h : s < 4294967296) {bs : List Nat} (hb : ∀ b ∈ bs, b < 256) : more s bs < 4294967296 := xor_lt (run_lt (xor_lt h (by decide)) hb) (by decide)
theorem sum_lt {bs : List Nat} (hb : ∀ b ∈ bs, b < 256) : sum bs < 4294967296 := more_lt (by decide) hb
theorem le4_byte (x : Nat) : ∀ b ∈ le4 x, b < 256 := by intro b hb; simp [le4] at hb; omega
theorem M_le4 {x : Nat} (h : x < 4294967296) : M (le4 x) = x := by simp [le4, M]; omega
theorem le4_M : ∀ {l : List Nat}, l.length = 4 → (∀ b ∈ l, b < 256) → le4 (M l) = l
  | [a, b, c, d], _, h => by
    have h1 := h a (by simp)
    have h2 := h b (by simp)
    have h3 := h c (by simp)
    have h4 := h d (by simp)
    simp only [M, le4, List.cons.injEq, and_true]
    omega
theorem M_append : ∀ (a b : List Nat), M (a ++ b) = M a + 2 ^ (8 * a.length) * M b
  | [], b => by simp [M]
  | x :: r, b => by
    simp only [List.cons_append, M, M_append r b, List.length_cons]
    rw [show 8 * (r.length + 1) = 8 * r.length + 8 by omega, Nat.pow_add, Nat.mul_add, Nat.mul_comm (2 ^ (8 * r.length)) (2 ^ 8), Nat.mul_assoc]
    omega
theorem M_inj : ∀ {a b : List Nat}, a.length = b.length → (∀ x ∈ a, x < 256) → (∀ x ∈ b, x < 256) → M a = M b → a = b
  | [], [], _, _, _, _ => rfl
  | [], _ :: _, h, _, _, _ => by simp at h
  | _ :: _, [], h, _, _, _ => by simp at h
  | x :: r, y :: t, h, ha, hb, hm => by
    have h1 := ha x (by simp)
    have h2 := hb y (by simp)
    simp only [M] at hm
    have h3 : x = y := by omega
    have h4 : M r = M t := by omega
    rw [h3, M_inj (by simpa using h) (fun z hz => ha z (by simp [hz])) (fun z hz => hb z (by simp [hz])) h4]
/-- what is right behind the bytes leaves one and the same number -/
theorem right_iff {bs : List Nat} {l : List Nat} (hl : l.length = 4) (hb : ∀ b ∈ bs, b < 256) (hl2 : ∀ b ∈ l, b < 256) : l = le4 (sum bs) ↔ run F (bs ++ l) = H 32 F := by
  have hs := sum_lt hb
  have hML : M l < 4294967296 := by have := M_lt l hl2; rw [hl] at this; exact this
  have hrun : run F (bs ++ l) = H 32 (run F bs ^^^ M l) := by
    rw [run_append, run_H l _ hl2, hl]
  have hr := run_lt (c := F) (by decide) hb
  have e0 : sum bs = run F bs ^^^ F := by simp [sum, more]
  constructor
  · rintro rfl
    rw [hrun, M_le4 hs, e0, ← Nat.xor_assoc, Nat.xor_self, Nat.zero_xor]
  · intro h
    rw [hrun] at h
    have h1 := H_inj (xor_lt hr hML) (by decide) h
    have h2 : M l = sum bs := by
      have h3 : run F bs ^^^ (run F bs ^^^ M l) = M l := by rw [← Nat.xor_assoc, Nat.xor_self, Nat.zero_xor]
      exact h3.symm.trans (by rw [h1, e0])
    rw [← h2, le4_M hl hl2]
/-- why nothing is opened: 0 if something is -/
def openE (bs : List Nat) : Nat := if bs.length < 4 then 2 else if bs.drop (bs.length - 4) = le4 (sum (bs.take (bs.length - 4))) then 0 else 5
def openB (bs : List Nat) : List Nat := if openE bs = 0 then bs.take (bs.length - 4) else []
theorem openE_le (bs : List Nat) : openE bs ≤ 5 := by unfold openE; split <;> (try split) <;> omega
/-- the number that the last k bytes are -/
def tail (bs : List Nat) (k : Nat) : Nat := M (bs.drop (bs.length - k))
theorem tail_step {bs : List Nat} {k : Nat} (h : k < bs.length) : tail bs (k + 1) = tail bs k * 256 + bs[bs.length - 1 - k]?.getD 0 := by
  unfold tail
  have e : bs.length - (k + 1) = bs.length - 1 - k := by omega
  rw [e, List.drop_eq_getElem_cons (by omega), List.getElem?_eq_getElem (by omega)]
  simp only [M, Option.getD_some]
  rw [show bs.length - 1 - k + 1 = bs.length - k by omega]
  omega
theorem tail_lt {bs : List Nat} (h256 : ∀ b ∈ bs, b < 256) {k : Nat} (h : k ≤ bs.length) : tail bs k < 2 ^ (8 * k) := by
  have h1 := M_lt (bs.drop (bs.length - k)) (fun b hb => h256 b (List.mem_of_mem_drop hb))
  rw [List.length_drop, show bs.length - (bs.length - k) = k by omega] at h1
  exact h1
theorem open_iff {bs : List Nat} (h256 : ∀ b ∈ bs, b < 256) (h4 : 4 ≤ bs.length) : bs.drop (bs.length - 4) = le4 (sum (bs.take (bs.length - 4))) ↔ tail bs 4 = sum (bs.take (bs.length - 4)) := by
  have hs := sum_lt (bs := bs.take (bs.length - 4)) (fun b hb => h256 b (List.mem_of_mem_take hb))
  unfold tail
  constructor
  · intro h; rw [h, M_le4 hs]
  · intro h
    rw [← h, le4_M (by simp; omega) (fun b hb => h256 b (List.mem_of_mem_drop hb))]
theorem open_short {bs : List Nat} (h : bs.length < 4) : openE bs = 2 := by simp [openE, h]
theorem open_ok {bs : List Nat} (h256 : ∀ b ∈ bs, b < 256) (h4 : 4 ≤ bs.length) (h : tail bs 4 = sum (bs.take (bs.length - 4))) : openE bs = 0 := by
  unfold openE
  rw [if_neg (by omega), if_pos ((open_iff h256 h4).2 h)]
theorem open_no {bs : List Nat} (h256 : ∀ b ∈ bs, b < 256) (h4 : 4 ≤ bs.length) (h : tail bs 4 ≠ sum (bs.take (bs.length - 4))) : openE bs = 5 := by
  unfold openE
  rw [if_neg (by omega), if_neg (fun e => h ((open_iff h256 h4).1 e))]
theorem sealed_open (bs : List Nat) : openE (sealed bs) = 0 ∧ openB (sealed bs) = bs := by
  have e : (sealed bs).length = bs.length + 4 := by simp [sealed, le4]
  have e1 : (sealed bs).take (bs.length + 4 - 4) = bs := by simp [sealed]
  have e2 : (sealed bs).drop (bs.length + 4 - 4) = le4 (sum bs) := by simp [sealed]
  have h : openE (sealed bs) = 0 := by
    unfold openE
    rw [e, if_neg (by omega), e1, e2, if_pos rfl]
  exact ⟨h, by unfold openB; rw [if_pos h, e, e1]⟩
theorem open_sealed {bs : List Nat} (h : openE bs = 0) : sealed (openB bs) = bs := by
  have h2 := h
  unfold openE at h2
  split at h2
  · cases h2
  · split at h2
    · next hlen he =>
      unfold openB sealed
      rw [if_pos h, ← he, List.take_append_drop]
    · cases h2

/-! turned bits -/
def stepT (l : List Nat) (p : Int) (mask k : Nat) : List Nat :=
  if mask / 2 ^ k % 2 = 1 ∧ 0 ≤ p + k ∧ (p + k) / 8 < l.length then l.set ((p + k) / 8).toNat (l[((p + k) / 8).toNat]?.getD 0 ^^^ 2 ^ ((p + k) % 8).toNat) else l
def turnK (l : List Nat) (p : Int) (mask : Nat) : Nat → List Nat
  | 0 => l
  | k + 1 => stepT (turnK l p mask k) p mask k
def turn (l : List Nat) (p : Int) (mask : Nat) : List Nat := turnK l p mask 32
/-- what is turned, as one number -/
def bitsT (n : Nat) (p : Int) (mask : Nat) : Nat → Nat
  | 0 => 0
  | k + 1 => if mask / 2 ^ k % 2 = 1 ∧ 0 ≤ p + k ∧ (p + k) / 8 < n then bitsT n p mask k ^^^ 2 ^ (p + k).toNat else bitsT n p mask k
theorem stepT_length (l : List Nat) (p : Int) (mask k : Nat) : (stepT l p mask k).length = l.length := by unfold stepT; split <;> simp
theorem turnK_length (l : List Nat) (p : Int) (mask : Nat) : ∀ k, (turnK l p mask k).length = l.length
  | 0 => rfl
  | k + 1 => by rw [turnK, stepT_length, turnK_length l p mask k]
theorem pow_small {r : Nat} (h : r < 8) : 2 ^ r < 256 := Nat.pow_lt_pow_right (a := 2) (m := r) (n := 8) (by omega) h
theorem xor_256 {a b : Nat} (h1 : a < 256) (h2 : b < 256) : a ^^^ b < 256 := Nat.xor_lt_two_pow (n := 8) h1 h2
theorem set_byte {l : List Nat} (h : ∀ b ∈ l, b < 256) (j r : Nat) (hr : r < 8) : ∀ b ∈ l.set j (l[j]?.getD 0 ^^^ 2 ^ r), b < 256 := by
  intro b hb
  rcases List.mem_or_eq_of_mem_set hb with hb | rfl
  · exact h b hb
  · refine xor_256 ?_ (pow_small hr)
    by_cases hj : j < l.length
    · rw [List.getElem?_eq_getElem hj]; exact h _ (List.getElem_mem hj)
    · rw [List.getElem?_eq_none (by omega)]; simp
theorem stepT_byte {l : List Nat} (h : ∀ b ∈ l, b < 256) (p : Int) (mask k : Nat) : ∀ b ∈ stepT l p mask k, b < 256 := by
  unfold stepT
  split
  · exact set_byte h _ _ (by omega)
  · exact h
theorem turnK_byte {l : List Nat} (h : ∀ b ∈ l, b < 256) (p : Int) (mask : Nat) : ∀ k, ∀ b ∈ turnK l p mask k, b < 256
  | 0 => h
  | k + 1 => stepT_byte (turnK_byte h p mask k) p mask k
theorem shl_xor (a b k : Nat) : (a ^^^ b) * 2 ^ k = a * 2 ^ k ^^^ b * 2 ^ k := by
  rw [← Nat.shiftLeft_eq, ← Nat.shiftLeft_eq, ← Nat.shiftLeft_eq, Nat.shiftLeft_xor_distrib]
theorem M_set : ∀ (l : List Nat) (j r : Nat), j < l.length → r < 8 → (∀ b ∈ l, b < 256) → M (l.set j (l[j]?.getD 0 ^^^ 2 ^ r)) = M l ^^^ 2 ^ (8 * j + r)
  | [], _, _, h, _, _ => by simp at h
  | b :: t, 0, r, _, hr, hb => by
    have h1 := hb b (by simp)
    simp only [List.set_cons_zero, List.getElem?_cons_zero, Option.getD_some, M]
    rw [join8 _ _ (xor_256 h1 (pow_small hr)), join8 _ _ h1, Nat.mul_zero, Nat.zero_add, Nat.xor_assoc, Nat.xor_assoc, Nat.xor_comm (2 ^ r)]
  | b :: t, j + 1, r, hj, hr, hb => by
    have h1 := hb b (by simp)
    have ih := M_set t j r (by simpa using hj) hr (fun x hx => hb x (by simp [hx]))
    simp only [List.set_cons_succ, List.getElem?_cons_succ, M]
    rw [ih, join8 _ _ h1, join8 _ _ h1, shl_xor, Nat.xor_assoc]
    congr 2
    rw [show 8 * (j + 1) + r = (8 * j + r) + 8 by omega, Nat.pow_add 2 (8 * j + r) 8]
theorem M_turnK {l : List Nat} (h : ∀ b ∈ l, b < 256) (p : Int) (mask : Nat) : ∀ k, M (turnK l p mask k) = M l ^^^ bitsT l.length p mask k
  | 0 => by simp [turnK, bitsT]
  | k + 1 => by
    have ih := M_turnK h p mask k
    unfold turnK stepT bitsT
    rw [turnK_length]
    by_cases hc : mask / 2 ^ k % 2 = 1 ∧ 0 ≤ p + k ∧ (p + k) / 8 < l.length
    · rw [if_pos hc, if_pos hc, M_set _ _ _ (by rw [turnK_length]; omega) (by omega) (turnK_byte h p mask k), ih, Nat.xor_assoc]
      congr 3
      omega
    · rw [if_neg hc, if_neg hc, ih]
theorem pow_lt32 {i k : Nat} (h : i < k) : 2 ^ i < 2 ^ k := Nat.pow_lt_pow_right (by omega) h
theorem bits_form (n : Nat) (p : Int) (mask : Nat) : ∀ k, ∃ m, m < 2 ^ k ∧ bitsT n p mask k = m * 2 ^ p.toNat
  | 0 => ⟨0, by simp, by simp [bitsT]⟩
  | k + 1 => by
    obtain ⟨m, h1, h2⟩ := bits_form n p mask k
    have h3 : 2 ^ k < 2 ^ (k + 1) := pow_lt32 (by omega)
    unfold bitsT
    split
    · next hc =>
      by_cases hp : 0 ≤ p
      · refine ⟨m ^^^ 2 ^ k, Nat.xor_lt_two_pow (by omega) h3, ?_⟩
        rw [h2, shl_xor, ← Nat.pow_add]
        congr 3
        omega
      · refine ⟨m ^^^ 2 ^ (p + k).toNat, Nat.xor_lt_two_pow (by omega) (pow_lt32 (by omega)), ?_⟩
        rw [h2, shl_xor]
        have e : p.toNat = 0 := by omega
        rw [e]
        simp
    · exact ⟨m, by omega, h2⟩
theorem turn_length (l : List Nat) (p : Int) (mask : Nat) : (turn l p mask).length = l.length := turnK_length l p mask 32
theorem turn_byte {l : List Nat} (h : ∀ b ∈ l, b < 256) (p : Int) (mask : Nat) : ∀ b ∈ turn l p mask, b < 256 := turnK_byte h p mask 32
theorem turn_turn {l : List Nat} (h : ∀ b ∈ l, b < 256) (p : Int) (mask : Nat) : turn (turn l p mask) p mask = l := by
  have h1 := turn_byte h p mask
  refine M_inj (by rw [turn_length, turn_length]) (turn_byte h1 p mask) h ?_
  show M (turnK (turn l p mask) p mask 32) = M l
  have e : M (turn l p mask) = M l ^^^ bitsT l.length p mask 32 := M_turnK h p mask 32
  rw [M_turnK h1, turn_length, e, Nat.xor_assoc, Nat.xor_self, Nat.xor_zero]
/-- a burst is found -/
theorem burst {bs : List Nat} (h : ∀ b ∈ bs, b < 256) (p : Int) (mask : Nat) (hne : turn (sealed bs) p mask ≠ sealed bs) : openE (turn (sealed bs) p mask) = 5 := by
  have hs := sum_lt h
  have hsb : ∀ b ∈ sealed bs, b < 256 := by
    intro b hb
    rcases List.mem_append.1 hb with hb | hb
    · exact h b hb
    · exact le4_byte _ b hb
  have hlen : (sealed bs).length = bs.length + 4 := by simp [sealed, le4]
  have htb := turn_byte hsb p mask
  have htl : (turn (sealed bs) p mask).length = bs.length + 4 := by rw [turn_length, hlen]
  obtain ⟨m, hm, hD⟩ := bits_form (sealed bs).length p mask 32
  have hM : M (turn (sealed bs) p mask) = M (sealed bs) ^^^ m * 2 ^ p.toNat := by rw [← hD]; exact M_turnK hsb p mask 32
  have hm0 : m ≠ 0 := by
    rintro rfl
    apply hne
    exact M_inj (by rw [turn_length]) htb hsb (by rw [hM]; simp)
  have hlt : m * 2 ^ p.toNat < 2 ^ (8 * (bs.length + 4)) := by
    have h1 := M_lt _ htb
    have h2 := M_lt _ hsb
    rw [htl] at h1
    rw [hlen] at h2
    have e : m * 2 ^ p.toNat = M (turn (sealed bs) p mask) ^^^ M (sealed bs) := by rw [hM, Nat.xor_comm (M (sealed bs)), Nat.xor_assoc, Nat.xor_self, Nat.xor_zero]
    rw [e]
    exact Nat.xor_lt_two_pow h1 h2
  have hp : p.toNat ≤ 8 * (bs.length + 4) := by
    have h1 : 1 * 2 ^ p.toNat ≤ m * 2 ^ p.toNat := Nat.mul_le_mul_right _ (by omega)
    rcases Nat.lt_or_ge (8 * (bs.length + 4)) p.toNat with hgt | hle
    · have := pow_lt32 hgt; omega
    · exact hle
  refine open_no htb (by omega) (fun heq => ?_)
  have hcut := (open_iff htb (by omega)).2 heq
  have e1 : turn (sealed bs) p mask = (turn (sealed bs) p mask).take ((turn (sealed bs) p mask).length - 4) ++ (turn (sealed bs) p mask).drop ((turn (sealed bs) p mask).length - 4) := (List.take_append_drop _ _).symm
  have r1 := (right_iff (by simp; omega) (fun b hb => htb b (List.mem_of_mem_take hb)) (fun b hb => htb b (List.mem_of_mem_drop hb))).1 hcut
  rw [← e1] at r1
  have r2 := (right_iff (bs := bs) (l := le4 (sum bs)) rfl h (le4_byte _)).1 rfl
  have r3 : run F (sealed bs) = H 32 F := r2
  rw [run_H _ _ htb, htl, hM, ← Nat.xor_assoc, H_xor] at r1
  rw [run_H _ _ hsb, hlen] at r3
  rw [r3] at r1
  have r4 : H (8 * (bs.length + 4)) (m * 2 ^ p.toNat) = 0 := by
    have := congrArg (fun y => H 32 F ^^^ y) r1
    simp only [Nat.xor_self] at this
    rw [← Nat.xor_assoc, Nat.xor_self, Nat.zero_xor] at this
    exact this
  rw [show 8 * (bs.length + 4) = p.toNat + (8 * (bs.length + 4) - p.toNat) by omega, H_add, H_shift] at r4
  exact H_ne _ (by simpa using hm) hm0 r4
end Cm
end Go.Proofs.Ytahichieakdbnaa

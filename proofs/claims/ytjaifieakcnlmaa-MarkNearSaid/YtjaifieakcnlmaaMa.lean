/- mark in plain words, and in memory. -/
import Derived.Test.YtjaifieakcnlmaaAz
import Derived.Test.YtjaifieakcnlmaaMo
namespace Go.Proofs.Ytjaifieakcnlmaa
open Go.ChangeShapes Go.WideShapes Go.ChangeAt Go.RowKit Go.Maps
set_option linter.unusedVariables false
set_option linter.unusedSimpArgs false

/-- a mark: number, file, place -/
abbrev Mk := Int × Int × Int
def mkv (m : Mk) : List Value := [.int .i64 m.1, .int .i64 m.2.1, .int .i64 m.2.2]
def flm (ms : List Mk) : List Value := ms.flatMap mkv
theorem flm_nil : flm [] = [] := rfl
theorem flm_cons (m : Mk) (ms : List Mk) : flm (m :: ms) = mkv m ++ flm ms := by simp [flm]
theorem flm_append (a b : List Mk) : flm (a ++ b) = flm a ++ flm b := by simp [flm]
theorem flm_length : ∀ ms : List Mk, (flm ms).length = ms.length * 3
  | [] => rfl
  | m :: ms => by rw [flm_cons, List.length_append, flm_length ms]; simp [mkv]; omega
theorem flm_at : ∀ {ms : List Mk} {i : Nat} {m : Mk}, ms[i]? = some m → (flm ms)[i * 3]? = some (.int .i64 m.1) ∧ (flm ms)[i * 3 + 1]? = some (.int .i64 m.2.1) ∧ (flm ms)[i * 3 + 2]? = some (.int .i64 m.2.2)
  | [], i, m, h => by simp at h
  | a :: ms, 0, m, h => by
    obtain rfl : a = m := by simpa using h
    rw [flm_cons]
    exact ⟨rfl, rfl, rfl⟩
  | a :: ms, i + 1, m, h => by
    have ih := flm_at (ms := ms) (i := i) (m := m) (by simpa using h)
    rw [flm_cons]
    have e : ∀ k, (mkv a ++ flm ms)[(i + 1) * 3 + k]? = (flm ms)[i * 3 + k]? := fun k => by
      rw [List.getElem?_append_right (by simp [mkv]; omega)]
      congr 1
      simp [mkv]; omega
    exact ⟨(e 0).trans ih.1, (e 1).trans ih.2.1, (e 2).trans ih.2.2⟩
theorem flm_one (ms : List Mk) : ∀ u ∈ flm ms, u.oneCell' = true := by
  intro u hu
  simp only [flm, List.mem_flatMap, mkv] at hu
  obtain ⟨m, _, hm⟩ := hu
  simp at hm
  rcases hm with rfl | rfl | rfl <;> rfl
/-- numbers rise, and may be -/
def Ris (ms : List Mk) : Prop := (∀ m ∈ ms, 1 ≤ m.1 ∧ m.1 ≤ 4611686018427387903) ∧ ∀ (i j : Nat) (a b : Mk), i < j → ms[i]? = some a → ms[j]? = some b → a.1 < b.1
/-- how many are less, and no more -/
def ltc (ms : List Mk) (s : Int) : Nat := ms.countP fun m => decide (m.1 < s)
def lec (ms : List Mk) (s : Int) : Nat := ms.countP fun m => decide (m.1 ≤ s)
theorem countP_split {α : Type} (p : α → Bool) : ∀ {l : List α} {k : Nat}, k ≤ l.length → (∀ i a, i < k → l[i]? = some a → p a = true) → (∀ i a, k ≤ i → l[i]? = some a → p a = false) → l.countP p = k
  | [], k, hk, _, _ => by simp at hk; subst hk; rfl
  | a :: l, 0, _, _, h2 => by
    rw [List.countP_eq_zero]
    intro x hx
    obtain ⟨i, hi⟩ := List.getElem?_of_mem hx
    simp [h2 i x (Nat.zero_le _) hi]
  | a :: l, k + 1, hk, h1, h2 => by
    rw [List.countP_cons, h1 0 a (by omega) rfl, countP_split p (l := l) (k := k) (by simpa using hk) (fun i x hi hx => h1 (i + 1) x (by omega) (by simpa using hx)) (fun i x hi hx => h2 (i + 1) x (by omega) (by simpa using hx))]
    simp
/-- block g is an index, S its blocks -/
def IM (w : World) (S : Nat → Prop) (g : Nat) (ms : List Mk) (most : Int) : Prop :=
  ∃ A c, Blk w g 44 #[.slice A ms.length c, .int .i64 most] ∧ w.ownsRow 0 29 3 (.slice A ms.length c) ms.length (flm ms) ∧ ∀ j, S j ↔ (j = g ∨ (Value.slice A ms.length c).ownBlock = some j)
namespace IM
variable {w w' : World} {S : Nat → Prop} {g : Nat} {ms : List Mk} {most : Int}
theorem gS (h : IM w S g ms most) : S g := by obtain ⟨A, c, h1, h2, h3⟩ := h; exact (h3 g).2 (.inl rfl)
theorem lt (h : IM w S g ms most) : ∀ j, S j → j < w.heap.size := by
  obtain ⟨A, c, h1, h2, h3⟩ := h
  intro j hj
  rcases (h3 j).1 hj with rfl | hj
  · exact h1.lt
  · exact own_lt h2 j hj
theorem below (h : IM w S g ms most) (hb : Below w.heap.size w w') : IM w' S g ms most := by
  obtain ⟨A, c, h1, h2, h3⟩ := h
  exact ⟨A, c, h1.below hb h1.lt, own_below h2 hb, h3⟩
end IM
end Go.Proofs.Ytjaifieakcnlmaa

/- packetboatref05.Dict in plain words: which key is the eldest one. -/
import Derived.Test.YtignfhdblakcfaaDm
namespace Go.Proofs.Ytignfhdblakcfaa.Dm
set_option linter.unusedVariables false
def RI (ks : List ByteArray) (e : Nat) (ws : List Nat) (now : Nat) : Prop :=
  ws.length = ks.length ∧ ks.length ≤ 8 ∧ (ks.length < 8 → e = 0 ∧ now = ks.length ∧ ∀ i, i < ks.length → ws[i]? = some (i + 1)) ∧ (ks.length = 8 → e < 8 ∧ 8 ≤ now ∧ ∀ i, i < 8 → ws[i]? = some (now - 7 + (i + 8 - e) % 8))
theorem RI.nil : RI [] 0 [] 0 := ⟨rfl, by simp, fun _ => ⟨rfl, rfl, fun i hi => by simp at hi⟩, fun h => by simp at h⟩
theorem RI.push {ks : List ByteArray} {e : Nat} {ws : List Nat} {now : Nat} (h : RI ks e ws now) (hl : ks.length < 8) (k : ByteArray) : RI (ks ++ [k]) e (ws ++ [now + 1]) (now + 1) := by
  obtain ⟨h1, h2, h3, h4⟩ := h
  obtain ⟨he, hnow, hw⟩ := h3 hl
  have key : ∀ i, i < ks.length + 1 → (ws ++ [now + 1])[i]? = some (i + 1) := by
    intro i hi
    by_cases hlt : i < ws.length
    · rw [List.getElem?_append_left hlt]; exact hw i (by omega)
    · rw [List.getElem?_append_right (by omega), show i - ws.length = 0 by omega]
      simp; omega
  refine ⟨by simp [h1], by simp; omega, fun hl2 => ⟨he, by simp; omega, fun i hi => key i (by simpa using hi)⟩, fun hl2 => ?_⟩
  simp at hl2
  refine ⟨by omega, by omega, fun i hi => ?_⟩
  rw [key i (by omega), he]
  congr 1
  omega
theorem RI.turn {ks : List ByteArray} {e : Nat} {ws : List Nat} {now : Nat} (h : RI ks e ws now) (hl : ks.length = 8) (k : ByteArray) : RI (ks.set e k) ((e + 1) % 8) (ws.set e (now + 1)) (now + 1) := by
  obtain ⟨h1, h2, h3, h4⟩ := h
  obtain ⟨he, hnow, hw⟩ := h4 hl
  refine ⟨by simp [h1], by simp; omega, fun hl2 => by simp at hl2; omega, fun _ => ⟨by omega, by omega, fun i hi => ?_⟩⟩
  by_cases e1 : e = i
  · subst e1
    rw [List.getElem?_set_self (by omega)]
    congr 1
    omega
  · rw [List.getElem?_set_ne e1, hw i hi]
    congr 1
    omega
theorem RI.min {ks : List ByteArray} {e : Nat} {ws : List Nat} {now : Nat} (h : RI ks e ws now) (hl : ks.length = 8) {f : Nat} (hf : f < 8) (hm : ∀ a, a < 8 → ws[f]?.getD 0 ≤ ws[a]?.getD 0) : f = e := by
  obtain ⟨h1, h2, h3, h4⟩ := h
  obtain ⟨he, hnow, hw⟩ := h4 hl
  have := hm e he
  rw [hw f hf, hw e he] at this
  simp only [Option.getD_some] at this
  omega
theorem RI.come {ks : List ByteArray} {e : Nat} {ws : List Nat} {now : Nat} (h : RI ks e ws now) (k : ByteArray) : RI (comeD ks e k).1 (comeD ks e k).2 (if ks.length < 8 then ws ++ [now + 1] else ws.set e (now + 1)) (now + 1) := by
  unfold comeD
  have h2 := h.2.1
  by_cases hl : ks.length < 8
  · rw [if_pos hl, if_pos hl]; exact h.push hl k
  · rw [if_neg hl, if_neg hl]; exact h.turn (by omega) k
theorem RI.bound {ks : List ByteArray} {e : Nat} {ws : List Nat} {now : Nat} (h : RI ks e ws now) : ∀ x ∈ ws, x ≤ now + 8 := by
  intro x hx
  obtain ⟨i, hi⟩ := List.getElem?_of_mem hx
  have hlt := (List.getElem?_eq_some_iff.1 hi).1
  obtain ⟨h1, h2, h3, h4⟩ := h
  by_cases hl : ks.length < 8
  · obtain ⟨_, hn, hw⟩ := h3 hl
    rw [hw i (by omega)] at hi
    injection hi with hi
    omega
  · obtain ⟨_, hn, hw⟩ := h4 (by omega)
    rw [hw i (by omega)] at hi
    injection hi with hi
    omega
end Go.Proofs.Ytignfhdblakcfaa.Dm

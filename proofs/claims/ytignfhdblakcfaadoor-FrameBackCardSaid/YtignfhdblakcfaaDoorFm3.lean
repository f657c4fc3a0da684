/- Frames that are cut off: what a loop over them finds. -/
import Derived.Test.YtignfhdblakcfaaDoorFm2
namespace Go.Proofs.YtignfhdblakcfaaDoor
set_option linter.unusedVariables false
def Fm.CutI (ps : List (List Nat)) (part k e : Nat) : Prop :=
  k ≤ ps.length ∧ e ≤ part ∧ e = (frs (ps.take k)).length ∧ Fm.cutW ps part = (k + (Fm.cutW (ps.drop k) (part - e)).1, e + (Fm.cutW (ps.drop k) (part - e)).2)
theorem Fm.CutI.start (ps : List (List Nat)) (part : Nat) : Fm.CutI ps part 0 0 := ⟨by omega, by omega, by simp [frs], by simp⟩
theorem Fm.drop_at {ps : List (List Nat)} {k : Nat} {p : List Nat} (hp : ps[k]? = some p) : ps.drop k = p :: ps.drop (k + 1) := by
  obtain ⟨hk, he⟩ := List.getElem?_eq_some_iff.1 hp
  rw [List.drop_eq_getElem_cons hk, he]
theorem Fm.CutI.step {ps : List (List Nat)} {part k e : Nat} {p : List Nat} (h : Fm.CutI ps part k e) (hp : ps[k]? = some p) (hle : e + (Fm.fr p).length ≤ part) : Fm.CutI ps part (k + 1) (e + (Fm.fr p).length) := by
  obtain ⟨h1, h2, h3, h4⟩ := h
  have hk : k < ps.length := (List.getElem?_eq_some_iff.1 hp).1
  refine ⟨hk, hle, by rw [frs_snoc hp, List.length_append, ← h3], ?_⟩
  have e1 : Fm.cutW (p :: ps.drop (k + 1)) (part - e) = ((Fm.cutW (ps.drop (k + 1)) (part - e - (Fm.fr p).length)).1 + 1, (Fm.fr p).length + (Fm.cutW (ps.drop (k + 1)) (part - e - (Fm.fr p).length)).2) := by
    rw [Fm.cutW, if_pos (by omega)]
  rw [h4, Fm.drop_at hp, e1, show part - (e + (Fm.fr p).length) = part - e - (Fm.fr p).length by omega]
  refine Prod.ext ?_ ?_ <;> simp only <;> omega
theorem Fm.CutI.fin {ps : List (List Nat)} {part k e : Nat} (h : Fm.CutI ps part k e) (hk : ps.length ≤ k) : Fm.cutW ps part = (k, e) := by
  obtain ⟨h1, h2, h3, h4⟩ := h
  rw [h4, List.drop_eq_nil_of_le hk]
  rfl
theorem Fm.CutI.stop {ps : List (List Nat)} {part k e : Nat} {p : List Nat} (h : Fm.CutI ps part k e) (hp : ps[k]? = some p) (hle : part < e + (Fm.fr p).length) : Fm.cutW ps part = (k, e) := by
  obtain ⟨h1, h2, h3, h4⟩ := h
  have e1 : Fm.cutW (p :: ps.drop (k + 1)) (part - e) = (0, 0) := by rw [Fm.cutW, if_neg (by omega)]
  rw [h4, Fm.drop_at hp, e1]
  rfl
theorem Fm.CutI.len {ps : List (List Nat)} {part k e : Nat} (h : Fm.CutI ps part k e) : e ≤ (frs ps).length := by
  have e1 : frs ps = frs (ps.take k) ++ frs (ps.drop k) := by
    unfold frs
    rw [← List.flatMap_append, List.take_append_drop]
  rw [e1, List.length_append, ← h.2.2.1]
  omega
theorem rows_take {w : World} {B : Nat} {A A' : Option Addr} {ps : List (List Nat)} (h : RowsB w B A ps) (k : Nat) (ha : ∀ xs : List Value, k ≤ xs.length → Rd w B A xs → Rd w B A' (xs.take k)) (hk : k ≤ ps.length) : RowsB w B A' (ps.take k) := by
  obtain ⟨vs, h1, h2, h3⟩ := h
  refine ⟨vs.take k, by simp [h1], ha vs (by omega) h2, fun j v p hv hp => ?_⟩
  rw [List.getElem?_take] at hv hp
  split at hv
  · next hj => rw [if_pos hj] at hp; exact h3 j v p hv hp
  · cases hv
theorem back_ok {ps : List (List Nat)} (h : allE ps = 0) (h2 : ∀ p ∈ ps, ∀ b ∈ p, b < 256) : (∀ p ∈ ps, p.length ≤ 8192 ∧ ∀ b ∈ p, b < 256) ∧ allB ps = frs ps := by
  unfold allE at h
  split at h
  · next h3 => exact ⟨fun p hp => ⟨h3 p hp, h2 p hp⟩, if_pos h3⟩
  · cases h
theorem back_no {ps : List (List Nat)} (h : allE ps ≠ 0) : allE ps = 4 ∧ allB ps = [] := by
  unfold allE at h ⊢
  split at h
  · exact absurd rfl h
  · next h3 => exact ⟨if_neg h3, if_neg h3⟩
theorem scan_all {cs : List Nat} (h : ∀ x ∈ cs, x < 256) : allE (Fm.scan cs).1 = 0 ∧ allB (Fm.scan cs).1 = cs.take (Fm.scan cs).2.1 ∧ (Fm.scan cs).2.1 ≤ cs.length ∧ ∀ p ∈ (Fm.scan cs).1, p.length ≤ 8192 := by
  obtain ⟨h1, h2, h3⟩ := Fm.scanF_back cs.length cs h
  exact ⟨if_pos h3, (if_pos h3).trans h1, h2, h3⟩
theorem rows_byte {w : World} {B : Nat} {A : Option Addr} {ps : List (List Nat)} (h : RowsB w B A ps) : ∀ p ∈ ps, ∀ b ∈ p, b < 256 := by
  obtain ⟨vs, h1, h2, h3⟩ := h
  intro p hp
  obtain ⟨j, hj⟩ := List.getElem?_of_mem hp
  have hlt := (List.getElem?_eq_some_iff.1 hj).1
  obtain ⟨A', c', e, r1, r2, r3, r4, r5⟩ := h3 j (vs[j]'(by omega)) p (List.getElem?_eq_getElem _) hj
  exact r5
end Go.Proofs.YtignfhdblakcfaaDoor

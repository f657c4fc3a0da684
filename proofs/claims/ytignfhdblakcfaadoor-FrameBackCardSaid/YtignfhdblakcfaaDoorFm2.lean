/- Frames in plain words: scanned and framed again; framed and scanned. -/
import Derived.Test.YtignfhdblakcfaaDoorSc
namespace Go.Proofs.YtignfhdblakcfaaDoor
set_option linter.unusedVariables false
theorem Fm.next_back {b q : List Nat} {s : Nat} (h256 : ∀ x ∈ b, x < 256) (h : Fm.next b = (q, s, 0)) : Fm.fr q = b.take s ∧ s ≤ b.length ∧ q.length ≤ 8192 := by
  obtain ⟨⟨n, k, e⟩, hte⟩ : ∃ x, Vm.take b = x := ⟨_, rfl⟩
  by_cases he : e = 0
  · subst he
    by_cases hn : 8192 < n
    · rw [Fm.next_long hte hn] at h; cases h
    · by_cases hs : b.length < k + n + 4
      · rw [Fm.next_short hte (by omega) hs] at h; cases h
      · by_cases ho : Cm.openE (b.take (k + n + 4)) = 0
        · rw [Fm.next_ok hte (by omega) hs ho] at h
          injection h with h1 h2
          injection h2 with h2 _
          subst h1 h2
          refine ⟨?_, by omega, by simp; omega⟩
          rw [Fm.again hte h256 hs]
          have h3 := Cm.open_sealed ho
          have h4 : Cm.openB (b.take (k + n + 4)) = (b.take (k + n + 4)).take (k + n) := by
            unfold Cm.openB
            rw [if_pos ho]
            congr 1
            simp
            omega
          rw [h4] at h3
          exact h3
        · rw [Fm.next_sum hte (by omega) hs ho] at h; cases h
  · rw [Fm.next_e hte he] at h
    injection h with _ h2
    injection h2 with _ h3
    exact absurd h3 he
theorem Fm.scanF_back : ∀ (f : Nat) (b : List Nat), (∀ x ∈ b, x < 256) → frs (Fm.scanF f b).1 = b.take (Fm.scanF f b).2.1 ∧ (Fm.scanF f b).2.1 ≤ b.length ∧ ∀ p ∈ (Fm.scanF f b).1, p.length ≤ 8192
  | 0, b, _ => by simp [Fm.scanF, frs]
  | f + 1, b, h256 => by
    unfold Fm.scanF
    split
    · next hb => subst hb; simp [frs]
    · split
      · simp [frs]
      · next he =>
        obtain ⟨⟨q, s, d⟩, hq⟩ : ∃ r, Fm.next b = r := ⟨_, rfl⟩
        rw [hq] at he ⊢
        obtain rfl : d = 0 := by simpa using he
        obtain ⟨h1, h2, h3⟩ := Fm.next_back h256 hq
        obtain ⟨i1, i2, i3⟩ := Fm.scanF_back f (b.drop s) (fun x hx => h256 x (List.mem_of_mem_drop hx))
        simp only at i1 i2 i3 ⊢
        refine ⟨?_, by simp at i2; omega, ?_⟩
        · have e : frs (q :: (Fm.scanF f (b.drop s)).1) = Fm.fr q ++ frs (Fm.scanF f (b.drop s)).1 := rfl
          rw [e, h1, i1, ← List.take_add]
        · intro p hp
          rcases List.mem_cons.1 hp with rfl | hp
          · exact h3
          · exact i3 p hp
theorem Fm.scan_frs : ∀ (ps : List (List Nat)), (∀ p ∈ ps, p.length ≤ 8192 ∧ ∀ b ∈ p, b < 256) → Fm.scan (frs ps) = (ps, (frs ps).length, 0)
  | [], _ => rfl
  | p :: r, h => by
    obtain ⟨h1, h2⟩ := h p (by simp)
    have ih := Fm.scan_frs r (fun q hq => h q (List.mem_cons_of_mem _ hq))
    have e : frs (p :: r) = Fm.fr p ++ frs r := rfl
    have hl := Fm.fr_length p
    have hne : Fm.fr p ++ frs r ≠ [] := by
      intro h0
      have h5 : Fm.fr p = [] := (List.append_eq_nil_iff.1 h0).1
      rw [h5] at hl
      simp at hl
    rw [e, Fm.scan_ok hne (Fm.next_fr h2 h1 (frs r)), List.drop_left, ih]
    simp
/-- a frame that is cut off tells nothing -/
theorem Fm.next_cut {p : List Nat} (h : ∀ b ∈ p, b < 256) (hl : p.length ≤ 8192) (k : Nat) (hk : k < (Fm.fr p).length) : (Fm.next ((Fm.fr p).take k)).2.2 ≠ 0 := by
  intro h0
  have hf := Fm.fr_byte h (by omega)
  obtain ⟨⟨q, s, d⟩, hq⟩ : ∃ r, Fm.next ((Fm.fr p).take k) = r := ⟨_, rfl⟩
  rw [hq] at h0
  obtain rfl : d = 0 := h0
  have hq256 := Fm.next_byte ((Fm.fr p).take k) (fun x hx => hf x (List.mem_of_mem_take hx))
  rw [hq] at hq256
  obtain ⟨h1, h2, h3⟩ := Fm.next_back (fun x hx => hf x (List.mem_of_mem_take hx)) hq
  rw [List.length_take] at h2
  rw [List.take_take, show min s k = s by omega] at h1
  have h4 := Fm.next_fr hq256 h3 ((Fm.fr p).drop s)
  rw [h1, List.take_append_drop] at h4
  have h5 := Fm.next_fr h hl []
  rw [List.append_nil, h4] at h5
  have h6 := congrArg (fun x : List Nat × Nat × Nat => x.2.1) h5
  simp only [List.length_take] at h6
  omega
/-- of the frames' first k bytes: how many are whole, and where they end -/
def Fm.cutW : List (List Nat) → Nat → Nat × Nat
  | [], _ => (0, 0)
  | p :: r, k => if (Fm.fr p).length ≤ k then ((Fm.cutW r (k - (Fm.fr p).length)).1 + 1, (Fm.fr p).length + (Fm.cutW r (k - (Fm.fr p).length)).2) else (0, 0)
theorem Fm.scan_cut : ∀ (ps : List (List Nat)) (k : Nat), (∀ p ∈ ps, p.length ≤ 8192 ∧ ∀ b ∈ p, b < 256) → k ≤ (frs ps).length →
    (Fm.scan ((frs ps).take k)).1 = ps.take (Fm.cutW ps k).1 ∧ (Fm.scan ((frs ps).take k)).2.1 = (Fm.cutW ps k).2 ∧ ((Fm.scan ((frs ps).take k)).2.2 = 0 ↔ (Fm.cutW ps k).2 = k)
  | [], k, _, hk => by
    obtain rfl : k = 0 := by simpa [frs] using hk
    simp [frs, Fm.scan_nil, Fm.cutW]
  | p :: r, k, h, hk => by
    obtain ⟨h1, h2⟩ := h p (by simp)
    have e : frs (p :: r) = Fm.fr p ++ frs r := rfl
    rw [e, List.length_append] at hk
    rw [e]
    unfold Fm.cutW
    by_cases hc : (Fm.fr p).length ≤ k
    · rw [if_pos hc]
      obtain ⟨i1, i2, i3⟩ := Fm.scan_cut r (k - (Fm.fr p).length) (fun q hq => h q (List.mem_cons_of_mem _ hq)) (by omega)
      have e2 : (Fm.fr p ++ frs r).take k = Fm.fr p ++ (frs r).take (k - (Fm.fr p).length) := by
        rw [List.take_append, List.take_of_length_le hc]
      have hl := Fm.fr_length p
      have hne : Fm.fr p ++ (frs r).take (k - (Fm.fr p).length) ≠ [] := by
        intro h0
        have h5 : Fm.fr p = [] := (List.append_eq_nil_iff.1 h0).1
        rw [h5] at hl
        simp at hl
      rw [e2, Fm.scan_ok hne (Fm.next_fr h2 h1 _), List.drop_left]
      refine ⟨by simp only; rw [i1, List.take_succ_cons], by simp only; rw [i2], ?_⟩
      simp only
      rw [i3]
      omega
    · rw [if_neg hc]
      have e2 : (Fm.fr p ++ frs r).take k = (Fm.fr p).take k := by
        rw [List.take_append_of_le_length (by omega)]
      rw [e2]
      by_cases h0 : k = 0
      · subst h0
        simp [Fm.scan_nil]
      · have hcut := Fm.next_cut h2 h1 k (by omega)
        obtain ⟨⟨q, s, d⟩, hq⟩ : ∃ x, Fm.next ((Fm.fr p).take k) = x := ⟨_, rfl⟩
        rw [hq] at hcut
        have hne : (Fm.fr p).take k ≠ [] := by
          intro h5
          have := congrArg List.length h5
          simp only [List.length_take, List.length_nil] at this
          omega
        rw [Fm.scan_err hne hq hcut]
        refine ⟨by simp, rfl, ?_⟩
        simp only
        constructor
        · intro h6; exact absurd h6 hcut
        · intro h6; omega
end Go.Proofs.YtignfhdblakcfaaDoor

/- What Load takes is the text of what it gives. -/
import Derived.Test.YtahichieakdbnaaQi
namespace Go.Proofs.Ytahichieakdbnaa
set_option linter.unusedVariables false
set_option linter.unusedSimpArgs false
namespace Km
theorem bl_of {l : List Nat} (h : ∀ b ∈ l, b < 256) : bl (l.map UInt8.ofNat) = l := by
  unfold bl
  rw [List.map_map]
  conv => rhs; rw [← List.map_id l]
  refine List.map_congr_left fun b hb => ?_
  have := h b hb
  simp [UInt8.toNat_ofNat']
  omega
theorem tk_canon {b : List Nat} {x : L8} {z : Nat} (h : tk b = (x, z, 0)) (h256 : ∀ y ∈ b, y < 256) : txt1 x = b.take z := by
  obtain ⟨⟨a, k, d⟩, ht⟩ : ∃ r, Vm.take b = r := ⟨_, rfl⟩
  unfold tk at h
  rw [ht] at h
  simp only at h
  by_cases hd : d = 0
  · subst hd
    obtain ⟨h1, h2, -, h4⟩ := Vm.take_ok ht h256
    rw [if_neg (by simp)] at h
    by_cases hs : b.length - k < a
    · rw [if_pos hs] at h
      simp at h
    · rw [if_neg hs] at h
      injection h with e1 e2
      injection e2 with e2 _
      have hl : ((b.drop k).take a).length = a := by rw [List.length_take, List.length_drop]; omega
      have hx : x.length = a := by rw [← e1, List.length_map, hl]
      have hb : bl x = (b.drop k).take a := by rw [← e1]; exact bl_of (fun y hy => h256 y (List.mem_of_mem_drop (List.mem_of_mem_take hy)))
      unfold txt1
      rw [hx, h4, hb, ← e2, List.take_add]
  · rw [if_pos hd] at h
    injection h with _ e2
    injection e2 with _ e3
    exact absurd e3 hd
theorem ld_back : ∀ (f : Nat) (st : St) (last : L8) (b : List Nat) (tt : St), ld f st last b = (some tt, 0) → b.length ≤ f → (∀ y ∈ b, y < 256) → (∀ p ∈ st, p.1 ≤ last) → txt tt = txt st ++ b
  | 0, st, last, b, tt, h, hl, _, _ => by
    have hb : b = [] := List.eq_nil_of_length_eq_zero (by omega)
    unfold ld at h
    injection h with h _
    injection h with h
    rw [← h, hb, List.append_nil]
  | f + 1, st, last, b, tt, h, hl, h256, hst => by
    by_cases hne : b = []
    · rw [hne, ld_end] at h
      injection h with h _
      injection h with h
      rw [← h, hne, List.append_nil]
    · obtain ⟨⟨k, z, e⟩, ht⟩ : ∃ r, tk b = r := ⟨_, rfl⟩
      by_cases he : e = 0
      · subst he
        by_cases hc : st ≠ [] ∧ k ≤ last
        · rw [ld_ord hne ht hc.1 hc.2] at h
          simp at h
        · obtain ⟨⟨v, y, e2⟩, ht2⟩ : ∃ r, tk (b.drop z) = r := ⟨_, rfl⟩
          by_cases he2 : e2 = 0
          · subst he2
            have h256' : ∀ q ∈ b.drop z, q < 256 := fun q hq => h256 q (List.mem_of_mem_drop hq)
            have hz := tk_ok (b := b) (by rw [ht]) h256
            rw [ht] at hz
            simp only at hz
            have hlt : ∀ p ∈ st, p.1 < k := fun p hp => by
              have hne2 : st ≠ [] := fun e => by rw [e] at hp; simp at hp
              exact Decidable.byContradiction fun h3 => hc ⟨hne2, List.le_trans (List.not_lt.1 h3) (hst p hp)⟩
            rw [ld_step hne ht hc ht2, put_end hlt] at h
            have ih := ld_back f (st ++ [(k, v)]) k _ tt h (by rw [List.length_drop, List.length_drop]; omega) (fun q hq => h256' q (List.mem_of_mem_drop hq)) (fun p hp => by
              rcases List.mem_append.1 hp with hp | hp
              · exact List.le_of_lt (hlt p hp)
              · rw [List.mem_singleton] at hp; rw [hp]; exact List.le_refl _)
            rw [ih, txt_snoc, tk_canon ht h256, tk_canon ht2 h256', List.append_assoc, List.append_assoc, List.take_append_drop, List.take_append_drop]
          · rw [ld_t2 hne ht hc ht2 he2] at h
            simp at h
      · rw [ld_t1 hne ht he] at h
        simp at h
theorem load_back {b : List Nat} {tt : St} (h : load b = (some tt, 0)) (h256 : ∀ y ∈ b, y < 256) : txt tt = b := by
  have := ld_back b.length [] [] b tt h (Nat.le_refl _) h256 (fun p hp => by simp at hp)
  simpa [txt] using this
end Km
end Go.Proofs.Ytahichieakdbnaa

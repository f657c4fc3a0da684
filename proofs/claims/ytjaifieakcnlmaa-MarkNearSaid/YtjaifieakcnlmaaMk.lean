/- law 10: the marks of MarkNear. -/
import Derived.Test.YtjaifieakcnlmaaMj
namespace Go.Proofs.Ytjaifieakcnlmaa
open Go.ChangeShapes Go.WideShapes Go.ChangeAt Go.RowKit Go.Maps
set_option linter.unusedVariables false
set_option linter.unusedSimpArgs false

/-- n marks, two frames apart -/
def mmk (f : Int) (n : Nat) : List Mk := (List.range n).map fun (j : Nat) => (f + 2 * (j : Int), (3 : Int), 14 * (j : Int))
theorem mmk_len (f : Int) (n : Nat) : (mmk f n).length = n := by simp [mmk]
theorem mmk_get (f : Int) (n j : Nat) (a : Mk) (h : (mmk f n)[j]? = some a) : j < n ∧ a = (f + 2 * (j : Int), 3, 14 * (j : Int)) := by
  obtain ⟨hj, e⟩ := List.getElem?_eq_some_iff.1 h
  simp [mmk] at hj e
  exact ⟨hj, e.symm⟩
theorem mmk_at (f : Int) (n j : Nat) (h : j < n) : (mmk f n)[j]? = some (f + 2 * (j : Int), 3, 14 * (j : Int)) := by
  simp [mmk, h]
theorem mmk_succ (f : Int) (n : Nat) : mmk f (n + 1) = mmk f n ++ [(f + 2 * (n : Int), 3, 14 * (n : Int))] := by
  simp [mmk, List.range_succ]
theorem mmk_ris (f : Int) (n : Nat) (h1 : 1 ≤ f) (h2 : f ≤ 1099511627776) (hn : n ≤ 1000) : Ris (mmk f n) := by
  refine ⟨fun m hm => ?_, fun i j a b hij ha hb => ?_⟩
  · obtain ⟨j, hj⟩ := List.mem_iff_getElem?.1 hm
    obtain ⟨h3, rfl⟩ := mmk_get f n j m hj
    constructor <;> simp <;> omega
  · obtain ⟨_, rfl⟩ := mmk_get f n i a ha
    obtain ⟨_, rfl⟩ := mmk_get f n j b hb
    simp
    omega
def moP (f : Int) (k : Nat) : Int := if k = 0 then 0 else f + (k : Int) - 1
theorem add_step (f : Int) (k : Nat) (h1 : 1 ≤ f) (h2 : f ≤ 1099511627776) (hk : k < 100) : ∃ b, addP (mmk f ((k + 1) / 2)) (moP f k) (f + (k : Int), 3, (k : Int) * 7) = ((b, 0), mmk f ((k + 1 + 1) / 2), moP f (k + 1)) := by
  unfold addP
  have hm : moP f (k + 1) = f + (k : Int) := by unfold moP; rw [if_neg (by omega)]; omega
  rw [if_neg (by simp; omega), if_neg (by unfold moP; simp; split <;> omega), hm]
  rcases Nat.mod_two_eq_zero_or_one k with h | h
  · obtain ⟨c, rfl⟩ : ∃ c, k = 2 * c := ⟨k / 2, by omega⟩
    have e1 : (2 * c + 1) / 2 = c := by omega
    have e2 : (2 * c + 1 + 1) / 2 = c + 1 := by omega
    rw [e1, e2, mmk_succ]
    have hw : wantsP (mmk f c) (f + ((2 * c : Nat) : Int), 3, ((2 * c : Nat) : Int) * 7) = true := by
      cases c with
      | zero => simp [wantsP, mmk]
      | succ c => rw [mmk_succ]; simp [wantsP]; omega
    rw [if_pos hw]
    refine ⟨true, ?_⟩
    have e3 : ((2 * c : Nat) : Int) = 2 * (c : Int) := by omega
    have e4 : 2 * (c : Int) * 7 = 14 * (c : Int) := by omega
    rw [e3, e4]
  · obtain ⟨c, rfl⟩ : ∃ c, k = 2 * c + 1 := ⟨k / 2, by omega⟩
    have e1 : (2 * c + 1 + 1) / 2 = c + 1 := by omega
    have e2 : (2 * c + 1 + 1 + 1) / 2 = c + 1 := by omega
    rw [e1, e2]
    have hw : ¬ wantsP (mmk f (c + 1)) (f + ((2 * c + 1 : Nat) : Int), 3, ((2 * c + 1 : Nat) : Int) * 7) = true := by
      rw [mmk_succ]; simp [wantsP]; omega
    rw [if_neg hw]
    exact ⟨false, rfl⟩
theorem find_in (f : Int) (n o : Nat) (h : o / 2 < n) : findP (mmk f n) (f + (o : Int)) = ((f + 2 * ((o / 2 : Nat) : Int), 3, 14 * ((o / 2 : Nat) : Int)), true) := by
  have hc : lec (mmk f n) (f + (o : Int)) = o / 2 + 1 := by
    unfold lec
    refine countP_split _ (by rw [mmk_len]; omega) (fun i a hi ha => ?_) (fun i a hi ha => ?_)
    · obtain ⟨_, rfl⟩ := mmk_get f n i a ha
      simp; omega
    · obtain ⟨_, rfl⟩ := mmk_get f n i a ha
      simp; omega
  unfold findP
  rw [hc, if_neg (by omega), show o / 2 + 1 - 1 = o / 2 from by omega, mmk_at f n _ h]
  rfl
theorem find_before (f : Int) (n : Nat) : findP (mmk f n) (f - 1) = ((0, 0, 0), false) := by
  have hc : lec (mmk f n) (f - 1) = 0 := by
    unfold lec
    refine countP_split _ (Nat.zero_le _) (fun i a hi ha => by omega) (fun i a hi ha => ?_)
    obtain ⟨_, rfl⟩ := mmk_get f n i a ha
    simp; omega
  unfold findP
  rw [if_pos hc]
end Go.Proofs.Ytjaifieakcnlmaa

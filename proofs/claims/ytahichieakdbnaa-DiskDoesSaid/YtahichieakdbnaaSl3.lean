/- Slices b[:h], b[l:h], b[l:h:h]: one value each, whatever the capacity is. -/
import Derived.Test.YtahichieakdbnaaSl
namespace Go.Proofs.Ytahichieakdbnaa
open Go.ChangeShapes Go.WideShapes Go.ChangeAt Go.RowKit
set_option linter.unusedVariables false

theorem rd_part {w : World} {B : Nat} {A : Option Addr} {xs : List Value} (hr : Rd w B A xs) (l h m : Nat) (hl : l ≤ h) (hh : h ≤ xs.length) (hm : h ≤ m) : Rd w B (if m = l then A else A.map (·.add (l * 1))) ((xs.drop l).take (h - l)) := by
  by_cases hml : m = l
  · rw [if_pos hml, show h - l = 0 by omega, List.take_zero]
    exact Rd.nil _ _ _
  · rw [if_neg hml]
    rcases Classical.em (xs = []) with h0 | h0
    · subst h0; simpa using Rd.nil w B _
    · obtain ⟨g, o, rfl⟩ := hr.at_ h0
      have e1 : Option.map (fun (x : Addr) => x.add (l * 1)) (some ⟨g, o, none⟩) = some ⟨g, o + l, none⟩ := by
        rcases Nat.eq_zero_or_pos l with h2 | h2
        · subst h2; simp [Addr.add]
        · simp [Addr.add, Nat.ne_of_gt h2]
      rw [e1]
      exact (hr.drop l).take _
theorem some_part {A : Option Addr} {l m : Nat} (h : A ≠ none) : (if m = l then A else A.map (·.add (l * 1))) ≠ none := by
  split
  · exact h
  · cases A with
    | none => exact absurd rfl h
    | some a => simp
theorem slice_h {P : Program} (t e : TypeId) (ht : P.underlying t = some (.slice e)) (hs : ∀ w, (sizeOf e).run P w = .ok 1 w) (A : Option Addr) (n c h : Nat) (y : Int) (hy : (h : Int) = y) (hh : h ≤ c) :
    ∃ A', (∀ w, (Instr.sliceAt t (.slice A n c) none (some (.int .i64 y)) none).run P w = .ok (.slice A' h c) w) ∧
      (∀ (w : World) (B : Nat) (xs : List Value), h ≤ xs.length → Rd w B A xs → Rd w B A' (xs.take h)) ∧ (A ≠ none → A' ≠ none) := by
  subst hy
  have he : P.elem t = e := by simp [Program.elem, ht]
  refine ⟨if c = 0 then A else A.map (·.add (0 * 1)), fun w => ?_, fun w B xs hl hr => ?_, some_part⟩
  · rw [run_sliceAt_slice w t _ _ _ _ (by rw [he]; exact ht), run_slice_h w t A n c (by rw [he]; exact ht) .i64 (h : Int) (by omega) (by omega), he, hs]
    simp [sliced]
  · simpa using rd_part hr 0 h c (by omega) hl hh
theorem slice_lh {P : Program} (t e : TypeId) (ht : P.underlying t = some (.slice e)) (hs : ∀ w, (sizeOf e).run P w = .ok 1 w) (A : Option Addr) (n c l h : Nat) (x y : Int) (hx : (l : Int) = x) (hy : (h : Int) = y) (hl : l ≤ h) (hh : h ≤ c) :
    ∃ A', (∀ w, (Instr.sliceAt t (.slice A n c) (some (.int .i64 x)) (some (.int .i64 y)) none).run P w = .ok (.slice A' (h - l) (c - l)) w) ∧
      (∀ (w : World) (B : Nat) (xs : List Value), h ≤ xs.length → Rd w B A xs → Rd w B A' ((xs.drop l).take (h - l))) ∧ (A ≠ none → A' ≠ none) := by
  subst hx hy
  have he : P.elem t = e := by simp [Program.elem, ht]
  refine ⟨if c = l then A else A.map (·.add (l * 1)), fun w => ?_, fun w B xs hlx hr => rd_part hr l h c hl hlx hh, some_part⟩
  rw [run_sliceAt_slice w t _ _ _ _ (by rw [he]; exact ht), run_slice_lh w t A n c (by rw [he]; exact ht) .i64 .i64 (l : Int) (h : Int) (by omega) (by omega) (by omega), he, hs]
  simp [sliced]
theorem slice_lhm {P : Program} (t e : TypeId) (ht : P.underlying t = some (.slice e)) (hs : ∀ w, (sizeOf e).run P w = .ok 1 w) (A : Option Addr) (n c l h : Nat) (x y : Int) (hx : (l : Int) = x) (hy : (h : Int) = y) (hl : l ≤ h) (hh : h ≤ c) :
    ∃ A', (∀ w, (Instr.sliceAt t (.slice A n c) (some (.int .i64 x)) (some (.int .i64 y)) (some (.int .i64 y))).run P w = .ok (.slice A' (h - l) (h - l)) w) ∧
      (∀ (w : World) (B : Nat) (xs : List Value), h ≤ xs.length → Rd w B A xs → Rd w B A' ((xs.drop l).take (h - l))) ∧ (A ≠ none → A' ≠ none) := by
  subst hx hy
  have he : P.elem t = e := by simp [Program.elem, ht]
  refine ⟨if h = l then A else A.map (·.add (l * 1)), fun w => ?_, fun w B xs hlx hr => rd_part hr l h h hl hlx (Nat.le_refl _), some_part⟩
  rw [run_sliceAt_slice w t _ _ _ _ (by rw [he]; exact ht), run_slice_any w t A n c (by rw [he]; exact ht), he]
  have hb : (Instr.sliceBounds true n c (some (.int .i64 (l : Int))) (some (.int .i64 (h : Int))) (some (.int .i64 (h : Int)))).run P w = .ok (l, h, h) w := by
    simp [Instr.sliceBounds, run_sliceBound, *, (by omega : (0 : Int) ≤ (l : Int)), (by omega : (0 : Int) ≤ (h : Int))]
  rw [hb]
  simp only [Result.andThen]
  rw [hs]
  simp [sliced]
end Go.Proofs.Ytahichieakdbnaa

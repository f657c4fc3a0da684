/- disk in plain words: what may be stays so. -/
import Derived.Test.YtahichieakdbnaaEb
namespace Go.Proofs.Ytahichieakdbnaa
open Go.ChangeShapes Go.WideShapes Go.ChangeAt Go.RowKit Go.Maps
set_option linter.unusedVariables false
set_option linter.unusedSimpArgs false

def OkF (room : Nat) (fs : List Fl) : Prop := totF fs ≤ room ∧ fs.length = 64 ∧ ∀ f ∈ fs, f.2 ≤ f.1.length ∧ ∀ b ∈ f.1, b < 256
theorem OkP.f {room : Nat} {d : Pd} (h : OkP room d) : OkF room d.1 := ⟨h.2.1, h.2.2.1, h.2.2.2.1⟩
theorem OkF.set {room : Nat} {fs : List Fl} (h : OkF room fs) {i : Nat} {f f' : Fl} (hf : fs[i]? = some f) (ht : totF fs + f'.1.length ≤ room + f.1.length) (h2 : f'.2 ≤ f'.1.length ∧ ∀ b ∈ f'.1, b < 256) : OkF room (fs.set i f') := by
  refine ⟨?_, by simpa using h.2.1, fun x hx => ?_⟩
  · have := totF_set (f' := f') hf
    omega
  · rcases List.mem_or_eq_of_mem_set hx with h1 | h1
    · exact h.2.2 x h1
    · subst h1; exact h2
theorem OkF.get {room : Nat} {fs : List Fl} (h : OkF room fs) {x : Int} (hx : inF x) : ∃ f, fs[x.toNat]? = some f ∧ f ∈ fs ∧ fs[x.toNat]?.getD ([], 0) = f := by
  obtain ⟨f, hf⟩ : ∃ f, fs[x.toNat]? = some f := ⟨_, List.getElem?_eq_getElem (by rw [h.2.1]; unfold inF at hx; omega)⟩
  exact ⟨f, hf, List.mem_of_getElem? hf, by rw [hf]; rfl⟩
theorem OkF.sync {room : Nat} {fs : List Fl} (h : OkF room fs) {x : Int} (hx : inF x) : OkF room (syncF fs x.toNat) := by
  obtain ⟨f, hf, hm, e⟩ := h.get hx
  unfold syncF
  rw [e]
  exact h.set hf (by have := h.1; simp only; omega) ⟨Nat.le_refl _, (h.2.2 f hm).2⟩
theorem OkF.cut {room : Nat} {fs : List Fl} (h : OkF room fs) {x : Int} (hx : inF x) (n : Nat) : OkF room (cutF fs x.toNat n) := by
  obtain ⟨f, hf, hm, e⟩ := h.get hx
  unfold cutF
  rw [e]
  refine h.set hf (by have := h.1; simp only [List.length_take]; omega) ⟨?_, fun b hb => (h.2.2 f hm).2 b (List.mem_of_mem_take hb)⟩
  have := (h.2.2 f hm).1
  simp only [List.length_take]
  omega
theorem OkF.put {room : Nat} {fs : List Fl} (h : OkF room fs) {x : Int} (hx : inF x) {bs : List Nat} (hfit : ¬ room - totF fs < bs.length) (h256 : ∀ b ∈ bs, b < 256) : OkF room (putF fs x.toNat bs) := by
  obtain ⟨f, hf, hm, e⟩ := h.get hx
  unfold putF
  rw [e]
  refine h.set hf (by have := h.1; simp only [List.length_append]; omega) ⟨?_, fun b hb => ?_⟩
  · have := (h.2.2 f hm).1
    simp only [List.length_append]; omega
  · rcases List.mem_append.1 hb with h1 | h1
    · exact (h.2.2 f hm).2 b h1
    · exact h256 b h1
theorem OkP.step {room : Nat} {d : Pd} (h : OkP room d) (x : Int) (r : List Fl × Nat) (hr : inF x → OkF room r.1) : OkP room (stepP d x r).1 := by
  unfold stepP
  by_cases hx : inF x
  · rw [if_pos hx]
    by_cases ho : offD d.2.1 d.2.2.1 d.2.2.2 = true
    · rw [if_pos ho]
      exact ⟨h.1, h.2.1, h.2.2.1, h.2.2.2.1, h.2.2.2.2⟩
    · rw [if_neg ho]
      refine ⟨h.1, (hr hx).1, (hr hx).2.1, (hr hx).2.2, ?_⟩
      have := h.2.2.2.2
      simp only [burn]
      split <;> omega
  · rw [if_neg hx]
    exact h
theorem OkP.append {room : Nat} {d : Pd} (h : OkP room d) (x : Int) {bs : List Nat} (h256 : ∀ b ∈ bs, b < 256) : OkP room (appendP room d x bs).1 := by
  refine h.step x _ (fun hx => ?_)
  by_cases hfit : room - totF d.1 < bs.length
  · rw [if_pos hfit]; exact h.f
  · rw [if_neg hfit]; exact h.f.put hx hfit h256
theorem OkP.sync {room : Nat} {d : Pd} (h : OkP room d) (x : Int) : OkP room (syncP d x).1 := h.step x _ (fun hx => h.f.sync hx)
theorem OkP.cut {room : Nat} {d : Pd} (h : OkP room d) (x n : Int) : OkP room (cutP d x n).1 := by
  unfold cutP
  split
  · exact h
  · exact h.step x _ (fun hx => h.f.cut hx _)
theorem OkP.fuse {room : Nat} {d : Pd} (h : OkP room d) {n : Int} (hn : n ≤ 9223372036854775807) : OkP room (fuseP d n) := by
  refine ⟨h.1, h.2.1, h.2.2.1, h.2.2.2.1, ?_⟩
  simp only [fuseP]
  omega
theorem crashU_ok {room : Nat} {fs : List Fl} (ks : List Int) (h : OkF room fs) : ∀ k, k ≤ 64 → OkF room (crashU ks fs k)
  | 0, _ => by rw [crashU_zero]; exact h
  | k + 1, hk => by
    have ih := crashU_ok ks h k (by omega)
    obtain ⟨f, hf⟩ : ∃ f, fs[k]? = some f := ⟨_, List.getElem?_eq_getElem (by rw [h.2.1]; omega)⟩
    rw [crashU_succ hf]
    have hf2 := crashU_get (ks := ks) hf
    have h3 := h.2.2 f (List.mem_of_getElem? hf)
    refine ih.set hf2 ?_ ⟨?_, fun b hb => h3.2 b (List.mem_of_mem_take hb)⟩
    · have := ih.1
      simp only [crash1, List.length_take]
      omega
    · have := h3.1
      simp only [crash1, List.length_take]
      omega
theorem OkP.crash {room : Nat} {d : Pd} (h : OkP room d) (ks : List Int) : OkP room (crashP ks d) := by
  have := crashU_ok ks h.f 64 (Nat.le_refl _)
  exact ⟨h.1, this.1, this.2.1, this.2.2, Nat.zero_le _⟩
/-- an act of the law -/
structure DAct where
  (k x n : Int) (bs : List Nat) (ks : List Int)
def doP (room : Nat) (d : Pd) (a : DAct) : Pd × Nat :=
  if a.k = 0 then appendP room d a.x a.bs else if a.k = 1 then syncP d a.x else if a.k = 2 then cutP d a.x a.n else if a.k = 3 then (fuseP d a.n, 0) else if a.k = 4 then (crashP a.ks d, 0) else (d, 0)
def OkA (a : DAct) : Prop := (∀ b ∈ a.bs, b < 256) ∧ a.n ≤ 9223372036854775807 ∧ a.ks.length ≤ 1099511627776
theorem OkP.act {room : Nat} {d : Pd} (h : OkP room d) {a : DAct} (ha : OkA a) : OkP room (doP room d a).1 := by
  unfold doP
  split
  · exact h.append _ ha.1
  · split
    · exact h.sync _
    · split
      · exact h.cut _ _
      · split
        · exact h.fuse ha.2.1
        · split
          · exact h.crash _
          · exact h
end Go.Proofs.Ytahichieakdbnaa

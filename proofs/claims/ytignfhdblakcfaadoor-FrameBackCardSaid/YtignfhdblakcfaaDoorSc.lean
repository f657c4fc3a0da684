/- Scanning, in plain words; and rows of own rows. -/
import Derived.Test.YtignfhdblakcfaaDoorFst
namespace Go.Proofs.YtignfhdblakcfaaDoor
open Go.ChangeShapes Go.WideShapes Go.ChangeAt Go.RowKit
set_option linter.unusedVariables false
namespace Fm
def scanF : Nat → List Nat → List (List Nat) × Nat × Nat
  | 0, _ => ([], 0, 0)
  | f + 1, b => if b = [] then ([], 0, 0) else if (next b).2.2 ≠ 0 then ([], 0, (next b).2.2)
    else ((next b).1 :: (scanF f (b.drop (next b).2.1)).1, (next b).2.1 + (scanF f (b.drop (next b).2.1)).2.1, (scanF f (b.drop (next b).2.1)).2.2)
def scan (b : List Nat) : List (List Nat) × Nat × Nat := scanF b.length b
theorem next_pos {b : List Nat} (h : (next b).2.2 = 0) : 1 ≤ (next b).2.1 := by
  revert h
  unfold next
  split
  · next h => intro h2; exact absurd h2 h
  · split
    · intro h; cases h
    · split
      · intro h; cases h
      · split
        · intro h; cases h
        · intro _; show 1 ≤ _ + _ + 4; omega
theorem scanF_nil (f : Nat) : scanF f [] = ([], 0, 0) := by cases f <;> simp [scanF]
theorem scanF_fuel : ∀ (f g : Nat) (b : List Nat), b.length ≤ f → b.length ≤ g → scanF f b = scanF g b
  | 0, g, b, h, _ => by
    obtain rfl : b = [] := List.eq_nil_of_length_eq_zero (by omega)
    rw [scanF_nil, scanF_nil]
  | f + 1, 0, b, _, h => by
    obtain rfl : b = [] := List.eq_nil_of_length_eq_zero (by omega)
    rw [scanF_nil, scanF_nil]
  | f + 1, g + 1, b, h1, h2 => by
    unfold scanF
    by_cases hb : b = []
    · rw [if_pos hb, if_pos hb]
    · rw [if_neg hb, if_neg hb]
      by_cases he : (next b).2.2 ≠ 0
      · rw [if_pos he, if_pos he]
      · rw [if_neg he, if_neg he]
        have hp := next_pos (b := b) (by omega)
        have hl : 0 < b.length := List.length_pos_iff.2 hb
        rw [scanF_fuel f g (b.drop (next b).2.1) (by simp; omega) (by simp; omega)]
theorem scan_nil : scan [] = ([], 0, 0) := rfl
theorem scan_err {b : List Nat} {q : List Nat} {s d : Nat} (hb : b ≠ []) (h : next b = (q, s, d)) (hd : d ≠ 0) : scan b = ([], 0, d) := by
  unfold scan
  obtain ⟨n, hn⟩ : ∃ n, b.length = n + 1 := ⟨b.length - 1, by have := List.length_pos_iff.2 hb; omega⟩
  rw [hn]
  unfold scanF
  rw [if_neg hb, h, if_pos hd]
theorem scan_ok {b : List Nat} {q : List Nat} {s : Nat} (hb : b ≠ []) (h : next b = (q, s, 0)) : scan b = (q :: (scan (b.drop s)).1, s + (scan (b.drop s)).2.1, (scan (b.drop s)).2.2) := by
  have hp := next_pos (b := b) (by rw [h])
  have hl : 0 < b.length := List.length_pos_iff.2 hb
  rw [h] at hp
  obtain ⟨n, hn⟩ : ∃ n, b.length = n + 1 := ⟨b.length - 1, by omega⟩
  have e : scanF n (b.drop s) = scan (b.drop s) := scanF_fuel _ _ _ (by simp at hp ⊢; omega) (Nat.le_refl _)
  show scanF b.length b = _
  rw [hn]
  unfold scanF
  rw [if_neg hb, h, if_neg (by simp)]
  simp only
  rw [e]
/-- what has been scanned, up to k, are the records qs -/
def ScI (b : List Nat) (qs : List (List Nat)) (k : Nat) : Prop :=
  (scan b).1 = qs ++ (scan (b.drop k)).1 ∧ (scan b).2.1 = k + (scan (b.drop k)).2.1 ∧ (scan b).2.2 = (scan (b.drop k)).2.2
theorem ScI.start (b : List Nat) : ScI b [] 0 := by simp [ScI]
theorem ScI.step {b : List Nat} {qs : List (List Nat)} {k s : Nat} {q : List Nat} (h : ScI b qs k) (hk : k < b.length) (hq : next (b.drop k) = (q, s, 0)) : ScI b (qs ++ [q]) (k + s) := by
  obtain ⟨h1, h2, h3⟩ := h
  have hs := scan_ok (b := b.drop k) (by intro h0; have := congrArg List.length h0; simp at this; omega) hq
  rw [hs] at h1 h2 h3
  rw [List.drop_drop] at h1 h2 h3
  refine ⟨by rw [h1]; simp, by rw [h2]; simp only; omega, h3⟩
theorem ScI.fin {b : List Nat} {qs : List (List Nat)} {k : Nat} (h : ScI b qs k) (hk : b.length ≤ k) : scan b = (qs, k, 0) := by
  obtain ⟨h1, h2, h3⟩ := h
  have e : b.drop k = [] := List.drop_eq_nil_of_le hk
  rw [e, scan_nil] at h1 h2 h3
  refine Prod.ext (by simpa using h1) (Prod.ext (by simpa using h2) h3)
theorem ScI.err {b : List Nat} {qs : List (List Nat)} {k s d : Nat} {q : List Nat} (h : ScI b qs k) (hk : k < b.length) (hq : next (b.drop k) = (q, s, d)) (hd : d ≠ 0) : scan b = (qs, k, d) := by
  obtain ⟨h1, h2, h3⟩ := h
  have hs := scan_err (b := b.drop k) (by intro h0; have := congrArg List.length h0; simp at this; omega) hq hd
  rw [hs] at h1 h2 h3
  refine Prod.ext (by simpa using h1) (Prod.ext (by simpa using h2) h3)
end Fm
/-! An own row is as it was where its block is. -/
theorem own_other {w w' : World} {base : Nat} {e : TypeId} {size : Nat} {v : Value} {n : Nat} {xs : List Value} {row : Option Nat} (h : w.ownsRow base e size v n xs) (hg : w.grownBy w' row) (hne : ∀ k, v.ownBlock = some k → row ≠ some k) : w'.ownsRow base e size v n xs := by
  refine ⟨h.1, ?_⟩
  rcases h.2 with h2 | ⟨g, cap, cur, rfl, hb, hh, r⟩
  · exact .inl h2
  · exact .inr ⟨g, cap, cur, rfl, hb, (hg.block g (Array.getElem?_eq_some_iff.1 hh).1 (fun h => hne g rfl h.symm)).trans hh, r⟩
theorem own_apart {w : World} {b1 b2 : Nat} {e1 e2 : TypeId} {s1 s2 : Nat} {v1 v2 : Value} {n1 n2 : Nat} {xs1 xs2 : List Value} (h1 : w.ownsRow b1 e1 s1 v1 n1 xs1) (h2 : w.ownsRow b2 e2 s2 v2 n2 xs2) (he : e1 ≠ e2) : ∀ k, v1.ownBlock = some k → v2.ownBlock ≠ some k := by
  intro k hk hk2
  rcases h1.2 with ⟨rfl, _⟩ | ⟨g, cap, cur, rfl, _, hh, _⟩
  · simp [Value.ownBlock] at hk
  · rcases h2.2 with ⟨rfl, _⟩ | ⟨g2, cap2, cur2, rfl, _, hh2, _⟩
    · simp [Value.ownBlock] at hk2
    · simp [Value.ownBlock] at hk hk2
      subst hk hk2
      rw [hh] at hh2
      injection hh2 with hh2
      injection hh2 with _ h _
      exact he h
theorem own_blk {w : World} {b1 : Nat} {e1 t : TypeId} {s1 : Nat} {v1 : Value} {n1 : Nat} {xs1 : List Value} {g : Nat} {cs : Array Value} (h1 : w.ownsRow b1 e1 s1 v1 n1 xs1) (h2 : Blk w g t cs) (he : e1 ≠ t) : ∀ k, v1.ownBlock = some k → k ≠ g := by
  rintro k hk rfl
  rcases h1.2 with ⟨rfl, _⟩ | ⟨g', cap, cur, rfl, _, hh, _⟩
  · simp [Value.ownBlock] at hk
  · simp [Value.ownBlock] at hk
    subst hk
    have h3 : w.heap[g']? = some (.cells cs t (0, 0)) := h2
    rw [hh] at h3
    injection h3 with h3
    injection h3 with _ h _
    exact he h
/-- an element of a row of rows: an own row of bytes -/
def IsE (w : World) (v : Value) (q : List Nat) : Prop := w.ownsRow 0 5 1 v q.length (u8s q) ∧ ∀ b ∈ q, b < 256
def OwnE (w : World) (base : Nat) (v : Value) (qs : List (List Nat)) : Prop := ∃ vs : List Value, vs.length = qs.length ∧ w.ownsRow base 22 1 v qs.length vs ∧ ∀ (j : Nat) (u : Value) (q : List Nat), vs[j]? = some u → qs[j]? = some q → IsE w u q
theorem OwnE.grown {w w' : World} {base g : Nat} {v : Value} {qs : List (List Nat)} {t : TypeId} {cs : Array Value} (h : OwnE w base v qs) (hg : w.grownBy w' (some g)) (hb : Blk w g t cs) (h1 : 22 ≠ t) (h2 : 5 ≠ t) : OwnE w' base v qs := by
  obtain ⟨vs, hl, ho, he⟩ := h
  exact ⟨vs, hl, own_other ho hg (fun k hk h => own_blk ho hb h1 k hk (by injection h with h; exact h.symm)), fun j u q hu hq => ⟨own_other (he j u q hu hq).1 hg (fun k hk h => own_blk (he j u q hu hq).1 hb h2 k hk (by injection h with h; exact h.symm)), (he j u q hu hq).2⟩⟩
theorem OwnE.below {w w' : World} {base : Nat} {v : Value} {qs : List (List Nat)} (h : OwnE w base v qs) (hb : Below w.heap.size w w') : OwnE w' base v qs := by
  obtain ⟨vs, hl, ho, he⟩ := h
  exact ⟨vs, hl, own_below ho hb, fun j u q hu hq => ⟨own_below (he j u q hu hq).1 hb, (he j u q hu hq).2⟩⟩
/-- one more -/
theorem OwnE.push {w w' : World} {base : Nat} {v v' u : Value} {qs : List (List Nat)} {vs : List Value} {q : List Nat} (hl : vs.length = qs.length) (ho : w.ownsRow base 22 1 v qs.length vs) (he : ∀ (j : Nat) (u : Value) (q : List Nat), vs[j]? = some u → qs[j]? = some q → IsE w u q) (hu : IsE w u q) (hg : w.grownBy w' v.ownBlock) (ho' : w'.ownsRow base 22 1 v' (qs.length + 1) (vs ++ [u])) : OwnE w' base v' (qs ++ [q]) := by
  have key : ∀ u q, IsE w u q → IsE w' u q := fun u q h => ⟨own_other h.1 hg (fun k hk h2 => own_apart h.1 ho (by decide) k hk h2), h.2⟩
  refine ⟨vs ++ [u], by simp [hl], by simpa using ho', fun j x p hx hp => ?_⟩
  by_cases hj : j < vs.length
  · rw [List.getElem?_append_left hj] at hx
    rw [List.getElem?_append_left (by omega)] at hp
    exact key _ _ (he j x p hx hp)
  · rw [List.getElem?_append_right (by omega)] at hx
    rw [List.getElem?_append_right (by omega)] at hp
    rw [hl] at hx
    have hj0 : j - qs.length = 0 := by have := (List.getElem?_eq_some_iff.1 hx).1; simp at this; omega
    rw [hj0] at hx hp
    simp at hx hp
    subst hx hp
    exact key _ _ hu
/-- rows as they are handed back -/
def RowsM (w : World) (v : Value) (qs : List (List Nat)) : Prop := ∃ A c, v = .slice A qs.length c ∧ RowsB w w.heap.size A qs ∧ qs.length ≤ c ∧ c ≤ maxLen ∧ (A = none → c = 0)
theorem OwnE.rows {w : World} {base : Nat} {v : Value} {qs : List (List Nat)} (h : OwnE w base v qs) : RowsM w v qs := by
  obtain ⟨vs, hl, ho, he⟩ := h
  obtain ⟨A, c, rfl, h1, h2, h3, h4, h5⟩ := own_form ho
  refine ⟨A, c, rfl, ⟨vs, hl, h4, fun j u q hu hq => ?_⟩, h1, h2, h5⟩
  obtain ⟨o1, o2⟩ := he j u q hu hq
  obtain ⟨A', c', rfl, k1, k2, k3, k4, k5⟩ := own_form o1
  exact ⟨A', c', rfl, k4, k1, k2, k5, o2⟩
theorem RowsM.below {w w' : World} {v : Value} {qs : List (List Nat)} (h : RowsM w v qs) (hb : Below w.heap.size w w') : RowsM w' v qs := by
  obtain ⟨A, c, h0, h1, h2⟩ := h
  obtain ⟨vs, k1, k2, k3⟩ := h1.below hb
  exact ⟨A, c, h0, ⟨vs, k1, k2.more hb.size, fun j u q hu hq => by
    obtain ⟨A', c', e, r, t⟩ := k3 j u q hu hq
    exact ⟨A', c', e, r.more hb.size, t⟩⟩, h2⟩
end Go.Proofs.YtignfhdblakcfaaDoor

/- Nothing that was there turns but the blocks of a set. -/
import Derived.Test.YtjaifieakcnlmaaGby
import Derived.Maps.OwnSet
namespace Go.Proofs.Ytjaifieakcnlmaa
open Go.ChangeShapes Go.WideShapes Go.ChangeAt Go.RowKit
set_option linter.unusedVariables false

/-- w' is w but for blocks of S, and new ones. -/
def Only (S : Nat → Prop) (w w' : World) : Prop := w'.os = w.os ∧ w'.tape = w.tape ∧ w'.output = w.output ∧ w.heap.size ≤ w'.heap.size ∧ ∀ j, j < w.heap.size → ¬ S j → w'.heap[j]? = w.heap[j]?
/-- S' is S, and new blocks. -/
def Sub (w : World) (S S' : Nat → Prop) : Prop := ∀ j, S' j → S j ∨ w.heap.size ≤ j
theorem Sub.refl (w : World) (S : Nat → Prop) : Sub w S S := fun j h => .inl h
theorem Sub.trans {a b : World} {S T U : Nat → Prop} (h : Sub a S T) (k : Sub b T U) (hs : a.heap.size ≤ b.heap.size) : Sub a S U := fun j hj => by
  rcases k j hj with h1 | h1
  · exact h j h1
  · exact .inr (by omega)
theorem Sub.above {w : World} {S T : Nat → Prop} {B : Nat} (h : Sub w S T) (hB : B ≤ w.heap.size) (hS : ∀ j, S j → B ≤ j) : ∀ j, T j → B ≤ j := fun j hj => by
  rcases h j hj with h1 | h1
  · exact hS j h1
  · omega
namespace Only
variable {S T : Nat → Prop} {a b c w w' : World}
theorem refl (S : Nat → Prop) (a : World) : Only S a a := ⟨rfl, rfl, rfl, Nat.le_refl _, fun _ _ _ => rfl⟩
theorem size (h : Only S a b) : a.heap.size ≤ b.heap.size := h.2.2.2.1
theorem trans (h : Only S a b) (k : Only T b c) (hT : Sub a S T) : Only S a c :=
  ⟨k.1.trans h.1, k.2.1.trans h.2.1, k.2.2.1.trans h.2.2.1, Nat.le_trans h.size k.size, fun j hj hn => (k.2.2.2.2 j (Nat.lt_of_lt_of_le hj h.size) (fun ht => by
    rcases hT j ht with h1 | h1
    · exact hn h1
    · omega)).trans (h.2.2.2.2 j hj hn)⟩
theorem of_grown {row : Option Nat} (h : a.grownBy b row) (hS : ∀ j, row = some j → S j) : Only S a b :=
  ⟨h.os, h.tape, h.output, h.size, fun j hj hn => h.block j hj (fun e => hn (hS j e.symm))⟩
theorem of_below (h : Below a.heap.size a b) : Only S a b := ⟨h.os, h.tape, h.output, h.size, fun j hj _ => h.block j hj⟩
theorem to_below {B : Nat} (h : Only S a b) (hB : B ≤ a.heap.size) (hS : ∀ j, S j → B ≤ j) : Below B a b :=
  ⟨h.1, h.2.1, h.2.2.1, h.size, fun j hj => h.2.2.2.2 j (by omega) (fun hs => by have := hS j hs; omega)⟩
theorem mono (h : Only S a b) (hS : ∀ j, j < a.heap.size → S j → T j) : Only T a b := ⟨h.1, h.2.1, h.2.2.1, h.size, fun j hj hn => h.2.2.2.2 j hj (fun hs => hn (hS j hj hs))⟩
theorem set (h : Only S a b) {g : Nat} (hg : S g) (i : Nat) (u : Value) : Only S a (b.setCell ⟨g, i, none⟩ u) :=
  ⟨h.1, h.2.1, h.2.2.1, by simpa [World.setCell] using h.size, fun j hj hn => (Below.heap_setCell b ⟨g, i, none⟩ u j (fun e => hn (by rw [e]; exact hg))).trans (h.2.2.2.2 j hj hn)⟩
theorem alloc (h : Only S a b) (o : Obj) : Only S a (b.alloc o) :=
  ⟨h.1, h.2.1, h.2.2.1, Nat.le_trans h.size (by simp), fun j hj hn => (Below.heap_alloc b o j (Nat.lt_of_lt_of_le hj h.size)).trans (h.2.2.2.2 j hj hn)⟩
theorem drew (h : Only S a b) : Only S a b.drew := h
theorem drewN (h : Only S a b) (q : Nat) : Only S a (b.drewN q) := h
theorem blk {g : Nat} {t : TypeId} {cs : Array Value} (h : Only S a b) (k : Blk a g t cs) (hg : ¬ S g) : Blk b g t cs := (h.2.2.2.2 g k.lt hg).trans k
theorem own {base : Nat} {e : TypeId} {size : Nat} {v : Value} {n : Nat} {xs : List Value} (h : Only S a b) (k : a.ownsRow base e size v n xs) (hv : ∀ j, v.ownBlock = some j → ¬ S j) : b.ownsRow base e size v n xs := by
  refine ⟨k.1, ?_⟩
  rcases k.2 with h2 | ⟨g, cap, cur, rfl, hb, hh, r⟩
  · exact .inl h2
  · exact .inr ⟨g, cap, cur, rfl, hb, (h.2.2.2.2 g (Array.getElem?_eq_some_iff.1 hh).1 (hv g rfl)).trans hh, r⟩
theorem map {H : Type} {P : Program} {k : TypeId} {R : Value → Option (DataW H × List MemPlace)} {m n : Nat} {D : DataW H} (h : Only S a b) (hm : a.ownsMap P k R m n D) (hs : ¬ S m) : b.ownsMap P k R m n D := by
  have hlt := hm.lt
  obtain ⟨es, clock, hb, r⟩ := hm
  exact ⟨es, clock, (h.2.2.2.2 m hlt hs).trans hb, r⟩
theorem rd {B : Nat} {A : Option Addr} {xs : List Value} (h : Only S a b) (k : Rd a B A xs) (hB : B ≤ a.heap.size) (hs : ∀ g o, A = some ⟨g, o, none⟩ → xs ≠ [] → ¬ S g) : Rd b B A xs := fun hn => by
  obtain ⟨g, o, e, hg, hc⟩ := k hn
  refine ⟨g, o, e, hg, fun j u hu => ?_⟩
  have h1 := hc j u hu
  unfold World.cell? at h1 ⊢
  rw [h.2.2.2.2 g (by omega) (hs g o e hn)]
  exact h1
end Only
/-- as few entries as there are -/
theorem map_tight {H : Type} {P : Program} {k : TypeId} {R : Value → Option (DataW H × List MemPlace)} {w : World} {m n : Nat} {D : DataW H} (h : w.ownsMap P k R m n D) : w.ownsMap P k R m (Maps.size D) D := by
  obtain ⟨es, clock, hb, F, hs, rfl⟩ := h
  refine ⟨es, clock, hb, F, ?_, rfl⟩
  rw [Maps.size_eq, length_read]
  exact Nat.le_refl _
/-- a map and a row of cells lie in different blocks -/
theorem map_blk {H : Type} {P : Program} {k : TypeId} {R : Value → Option (DataW H × List MemPlace)} {w : World} {m n g : Nat} {D : DataW H} {t : TypeId} {cs : Array Value} (h : w.ownsMap P k R m n D) (hb : Blk w g t cs) : m ≠ g := by
  rintro rfl
  obtain ⟨es, clock, hm, _⟩ := h
  have h2 : w.heap[m]? = some (.cells cs t (0, 0)) := hb
  rw [hm] at h2
  cases h2
theorem map_own {H : Type} {P : Program} {k : TypeId} {R : Value → Option (DataW H × List MemPlace)} {w : World} {m n base l : Nat} {D : DataW H} {e : TypeId} {s : Nat} {v : Value} {xs : List Value} (h : w.ownsMap P k R m n D) (ho : w.ownsRow base e s v l xs) : v.ownBlock ≠ some m := by
  intro hv
  rcases ho.2 with ⟨rfl, _⟩ | ⟨g, cap, cur, rfl, _, hh, _⟩
  · simp [Value.ownBlock] at hv
  · simp [Value.ownBlock] at hv
    subst hv
    obtain ⟨es, clock, hm, _⟩ := h
    rw [hm] at hh
    cases hh
theorem own_ne_blk {w : World} {b1 : Nat} {e1 t : TypeId} {s1 : Nat} {v1 : Value} {n1 : Nat} {xs1 : List Value} {g : Nat} {cs : Array Value} (h1 : w.ownsRow b1 e1 s1 v1 n1 xs1) (h2 : Blk w g t cs) (he : e1 ≠ t) : ∀ k, v1.ownBlock = some k → k ≠ g := by
  rintro k hk rfl
  rcases h1.2 with ⟨rfl, _⟩ | ⟨g', cap, cur, rfl, _, hh, _⟩
  · simp [Value.ownBlock] at hk
  · simp [Value.ownBlock] at hk
    subst hk
    have h3 : w.heap[g']? = some (.cells cs t (0, 0)) := h2
    rw [hh] at h3
    injection h3 with h3
    injection h3 with _ h _
    exact he h
theorem own_lt {w : World} {base n : Nat} {e : TypeId} {s : Nat} {v : Value} {xs : List Value} (h : w.ownsRow base e s v n xs) : ∀ j, v.ownBlock = some j → j < w.heap.size := by
  intro j hj
  rcases h.2 with ⟨rfl, _⟩ | ⟨g, cap, cur, rfl, _, hh, _⟩
  · simp [Value.ownBlock] at hj
  · simp [Value.ownBlock] at hj
    subst hj
    exact (Array.getElem?_eq_some_iff.1 hh).1
end Go.Proofs.Ytjaifieakcnlmaa

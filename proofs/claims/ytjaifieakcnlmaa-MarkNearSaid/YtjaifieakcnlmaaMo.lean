/- Blocks that turn, made bytes apart from them; bytes.Clone (seats without dictionaries). -/
import Derived.Test.YtjaifieakcnlmaaOnl
import Derived.Test.YtjaifieakcnlmaaGby
import Derived.Deep.DeepMust
import Derived.Lib.SliceRun
namespace Go.Proofs.Ytjaifieakcnlmaa
open Go.ChangeShapes Go.WideShapes Go.ChangeAt Go.RowKit Go.Maps
set_option linter.unusedVariables false
set_option linter.unusedSimpArgs false

/-- what become of a dictionary's blocks: S' is S and new ones; only S turned -/
def Turned (w : World) (S S' : Nat → Prop) (w' : World) : Prop := Sub w S S' ∧ Only S w w'
theorem infoU8 : (Try.prog.info? 5).map (fun i => (i.zero, i.size, i.bytes)) = some (some (.int .u8 0), 1, 1) := by kernel_rfl
theorem made_none (w : World) : Made w (.slice none 0 0) [] 0 := ⟨none, 0, rfl, Rd.nil _ _ _, rfl, Nat.le_refl _, Nat.zero_le _, by simp, fun _ => rfl⟩
theorem Turned.below {w w1 w2 : World} {S S' : Nat → Prop} (h : Turned w S S' w1) (hb : Below w1.heap.size w1 w2) : Turned w S S' w2 := ⟨h.1, h.2.trans (Only.of_below (S := fun _ => False) hb) (fun j hj => hj.elim)⟩
theorem Turned.refl (w : World) (S : Nat → Prop) : Turned w S S w := ⟨Sub.refl _ _, Only.refl _ _⟩
theorem Turned.trans {a b c : World} {S T U : Nat → Prop} (h : Turned a S T b) (k : Turned b T U c) : Turned a S U c := ⟨h.1.trans k.1 h.2.size, h.2.trans k.2 h.1⟩
theorem below_own {w w' : World} {base B n : Nat} {e : TypeId} {s : Nat} {v : Value} {xs : List Value} (ho : w.ownsRow base e s v n xs) (hg : w.grownBy w' v.ownBlock) (hB : B ≤ base) (hB2 : B ≤ w.heap.size) : Below B w w' :=
  ⟨hg.os, hg.tape, hg.output, hg.size, fun j hj => hg.block j (by omega) (fun h => by have := (ho.lt j h.symm).1; omega)⟩
/-- a slice in a block that was not there, and is none of S -/
def Fre (w : World) (S : Nat → Prop) (v : Value) : Prop := ∀ g o n c, v = .slice (some ⟨g, o, none⟩) n c → w.heap.size ≤ g ∧ ¬ S g
theorem Fre.nil (w : World) (S : Nat → Prop) : Fre w S (.slice none 0 0) := fun g o n c h => by cases h
/-- bytes in a block that is none of S -/
def MadeO (w : World) (S : Nat → Prop) (v : Value) (bs : List Nat) (k : Nat) : Prop := Made w v bs k ∧ ∀ g o n c, v = .slice (some ⟨g, o, none⟩) n c → bs ≠ [] → ¬ S g
theorem MadeO.other {w w' : World} {S T : Nat → Prop} {v : Value} {bs : List Nat} {k : Nat} (h : MadeO w S v bs k) (ho : Only T w w') (hT : ∀ g o n c, v = .slice (some ⟨g, o, none⟩) n c → bs ≠ [] → ¬ T g) : MadeO w' S v bs k := by
  obtain ⟨⟨A, c, rfl, hr, h1, h2, h3, h4, h5⟩, h6⟩ := h
  exact ⟨⟨A, c, rfl, (ho.rd hr (Nat.le_refl _) (fun g o hA hn => hT g o _ _ (by rw [hA]) (fun h => hn (by rw [h]; rfl)))).more ho.size, h1, h2, h3, h4, h5⟩, h6⟩
theorem MadeO.lt {w : World} {S : Nat → Prop} {v : Value} {bs : List Nat} {k : Nat} (h : MadeO w S v bs k) {g o n c : Nat} (hv : v = .slice (some ⟨g, o, none⟩) n c) (hb : bs ≠ []) : g < w.heap.size := by
  obtain ⟨⟨A, c', rfl, hr, _⟩, _⟩ := h
  injection hv with hA _ _
  obtain ⟨g', o', hA', hlt, _⟩ := hr (by simpa [u8s] using hb)
  rw [hA] at hA'
  injection hA' with hA'
  injection hA' with e1 _
  omega
theorem MadeO.turn {w w' : World} {S S' : Nat → Prop} {v : Value} {bs : List Nat} {k : Nat} (h : MadeO w S v bs k) (t : Turned w S S' w') : MadeO w' S' v bs k := by
  refine ⟨(h.other t.2 h.2).1, fun g o n c hv hb hs => ?_⟩
  rcases t.1 g hs with h1 | h1
  · exact h.2 g o n c hv hb h1
  · have := h.lt hv hb; omega
theorem MadeO.below {w w' : World} {S : Nat → Prop} {v : Value} {bs : List Nat} {k : Nat} (h : MadeO w S v bs k) (hb : Below w.heap.size w w') : MadeO w' S v bs k := h.other (Only.of_below (S := fun _ => False) hb) (fun _ _ _ _ _ _ h => h)
theorem MadeO.of_fre {w w' : World} {S : Nat → Prop} {v : Value} {bs : List Nat} {k : Nat} (h : Made w' v bs k) (hf : Fre w S v) : MadeO w' S v bs k := ⟨h, fun g o n c hv _ => (hf g o n c hv).2⟩
/-- and none of T, whose blocks were there -/
theorem MadeO.also {w w' : World} {S T : Nat → Prop} {v : Value} {bs : List Nat} {k : Nat} (h : Made w' v bs k) (hf : Fre w S v) (hT : ∀ j, T j → j < w.heap.size) : MadeO w' (fun j => S j ∨ T j) v bs k := ⟨h, fun g o n c hv _ hs => by
  rcases hs with hs | hs
  · exact (hf g o n c hv).2 hs
  · have := hT g hs; have := (hf g o n c hv).1; omega⟩
/-- .. whose blocks are new -/
theorem MadeO.more {w w' : World} {S T : Nat → Prop} {v : Value} {bs : List Nat} {k : Nat} (h : MadeO w S v bs k) (hb : Below w.heap.size w w') (hT : ∀ j, T j → w.heap.size ≤ j) : MadeO w' (fun j => S j ∨ T j) v bs k := ⟨(h.below hb).1, fun g o n c hv hn hs => by
  rcases hs with hs | hs
  · exact h.2 g o n c hv hn hs
  · have := hT g hs; have := h.lt hv hn; omega⟩
theorem Turned.left {w w' : World} {S S' T : Nat → Prop} (h : Turned w S S' w') : Turned w (fun j => S j ∨ T j) (fun j => S' j ∨ T j) w' := ⟨fun j hj => by
  rcases hj with hj | hj
  · rcases h.1 j hj with h1 | h1
    · exact .inl (.inl h1)
    · exact .inr h1
  · exact .inl (.inr hj), h.2.mono (fun j _ hj => .inl hj)⟩
theorem Turned.right {w w' : World} {S S' T : Nat → Prop} (h : Turned w S S' w') : Turned w (fun j => T j ∨ S j) (fun j => T j ∨ S' j) w' := ⟨fun j hj => by
  rcases hj with hj | hj
  · exact .inl (.inl hj)
  · rcases h.1 j hj with h1 | h1
    · exact .inl (.inr h1)
    · exact .inr h1, h.2.mono (fun j _ hj => .inr hj)⟩
/-- two that share no block -/
def Apart (S T : Nat → Prop) : Prop := ∀ j, S j → T j → False
theorem Apart.symm {S T : Nat → Prop} (h : Apart S T) : Apart T S := fun j a b => h j b a
theorem Apart.turn {w w' : World} {S S' T : Nat → Prop} (h : Apart S T) (t : Turned w S S' w') (hT : ∀ j, T j → j < w.heap.size) : Apart S' T := fun j hj ht => by
  rcases t.1 j hj with h1 | h1
  · exact h j h1 ht
  · have := hT j ht; omega
theorem own_sl {w : World} {base : Nat} {e : TypeId} {s : Nat} {v : Value} {n : Nat} {xs : List Value} (h : w.ownsRow base e s v n xs) : ∃ A c, v = .slice A n c := by
  rcases h.2 with ⟨rfl, rfl⟩ | ⟨g, cap, cur, rfl, _⟩
  · exact ⟨none, 0, rfl⟩
  · exact ⟨_, _, rfl⟩
end Go.Proofs.Ytjaifieakcnlmaa

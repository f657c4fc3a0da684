/- txn.reader: write. -/
import Derived.Test.YtgjkeccopjgjlaaTrd
import Derived.Test.YtgjkeccopjgjlaaStr
import Derived.Test.YtgjkeccopjgjlaaSl3
import Derived.Deep.RegionWith
namespace Go.Proofs.Ytgjkeccopjgjlaa
open Go.ChangeShapes Go.WideShapes Go.ChangeAt Go.RowKit Go.Maps
set_option linter.unusedVariables false
set_option linter.unusedSimpArgs false

theorem blk_turn {w w' : World} {S S' : Nat → Prop} {g : Nat} {t : TypeId} {cs : Array Value} (hb : Blk w g t cs) (hn : ¬ S g) (ht : Turned w S S' w') : Blk w' g t cs ∧ ¬ S' g :=
  ⟨ht.2.blk hb hn, fun h => by rcases ht.1 g h with h1 | h1; exact hn h1; have := hb.lt; omega⟩
theorem RdS.only {w w' : World} {B q d : Nat} {S T : Nat → Prop} {ks : List ByteArray} {e : Nat} {b : List Nat} (h : RdS w B q d S ks e b) (ho : Only T w w') (hT : ∀ j, T j → S j → False) (hB : ∀ j, T j → B ≤ j) : RdS w' B q d S ks e b := by
  obtain ⟨A, n, c, U, h1, h2, h3, h4, ⟨h5n, h5⟩, h6, h7, h8, h9, h10, h11⟩ := h
  refine ⟨A, n, c, U, ho.blk h1 (fun ht => hT _ ht ((h9 q).2 (.inl rfl))), h2.only ho (fun j hj hu => hT j hj ((h9 j).2 (.inr hu))), ho.rd h3 h11 (fun g o hA hne hg => ?_), h4, ⟨h5n, h5⟩, h6, h7, h8, h9, h10, by have := ho.size; omega⟩
  obtain ⟨g2, o2, hA2, hlt2, _⟩ := h3 hne
  rw [hA] at hA2
  injection hA2 with hA2
  injection hA2 with e1 _
  have := hB g hg
  omega
/-- the dictionary turns -/
theorem RdS.turn {w w' : World} {B q d : Nat} {S T T' : Nat → Prop} {ks ks' : List ByteArray} {e e' : Nat} {b : List Nat} {A : Option Addr} {n c : Nat} (h1 : Blk w q 90 #[.slice A n c, .pointer (some ⟨d, 0, none⟩)]) (h2 : DictM w d T ks e) (h3 : Rd w B A (u8s b)) (h4 : b.length = n) (h5 : n ≤ 1000000000) (h6 : n ≤ c) (h7 : c ≤ maxLen) (h8 : ∀ x ∈ b, x < 256) (h9 : ∀ j, S j ↔ (j = q ∨ T j)) (h10 : ∀ j, S j → B ≤ j) (h11 : B ≤ w.heap.size)
    (hd : DictM w' d T' ks' e') (ht : Turned w T T' w') : Blk w' q 90 #[.slice A n c, .pointer (some ⟨d, 0, none⟩)] ∧ Rd w' B A (u8s b) ∧ (∀ j, (j = q ∨ T' j) → B ≤ j) ∧ Turned w S (fun j => j = q ∨ T' j) w' ∧ B ≤ w'.heap.size := by
  have hnq : ¬ T q := h2.not_blk h1 (by decide) (by decide)
  have hT : ∀ j, T j → B ≤ j := fun j hj => h10 j ((h9 j).2 (.inr hj))
  refine ⟨ht.2.blk h1 hnq, ht.2.rd h3 h11 (fun g o hA hne hg => ?_), ?_, ⟨?_, ht.2.mono (fun j _ hj => (h9 j).2 (.inr hj))⟩, by have := ht.2.size; omega⟩
  · obtain ⟨g2, o2, hA2, hlt2, _⟩ := h3 hne
    rw [hA] at hA2
    injection hA2 with hA2
    injection hA2 with e1 _
    have := hT g hg
    omega
  · rintro j (rfl | hj)
    · exact h10 _ ((h9 _).2 (.inl rfl))
    · rcases ht.1 j hj with h | h
      · exact hT j h
      · omega
  · rintro j (rfl | hj)
    · exact .inl ((h9 _).2 (.inl rfl))
    · rcases ht.1 j hj with h | h
      · exact .inl ((h9 _).2 (.inr h))
      · exact .inr h
abbrev Wr0 : Wr := (⟨#[]⟩, ⟨#[]⟩, false)
namespace Tm
/-- what write reads behind the key -/
def takeV (k : ByteArray) (r : Nat × Nat × List Nat) : (Wr × Nat) × List Nat :=
  if r.2.1 ≠ 0 then ((Wr0, r.2.1), r.2.2) else if r.1 = 0 then (((k, ⟨#[]⟩, true), 0), r.2.2)
  else if r.2.2.length < r.1 - 1 then ((Wr0, 2), r.2.2) else (((k, str (r.2.2.take (r.1 - 1)), false), 0), r.2.2.drop (r.1 - 1))
/-- a write's bytes: the write, the error; the dictionary then, what is left -/
def takeW (ks : List ByteArray) (e : Nat) (b : List Nat) : (Wr × Nat) × (List ByteArray × Nat × List Nat) :=
  if (Dm.takeD ks e b).2.2.1 ≠ 0 then ((Wr0, (Dm.takeD ks e b).2.2.1), ((Dm.takeD ks e b).2.2.2.1, (Dm.takeD ks e b).2.2.2.2, b))
  else ((takeV (Dm.takeD ks e b).1 (upT 257 4 (b.drop (Dm.takeD ks e b).2.1))).1, ((Dm.takeD ks e b).2.2.2.1, (Dm.takeD ks e b).2.2.2.2, (takeV (Dm.takeD ks e b).1 (upT 257 4 (b.drop (Dm.takeD ks e b).2.1))).2))
end Tm
def WrPost (w : World) (B q d : Nat) (S : Nat → Prop) (r : (Wr × Nat) × (List ByteArray × Nat × List Nat)) (en : Ending) (w' : World) : Prop :=
  en = .returned (.tuple #[aggW r.1.1, .int .i64 (r.1.2 : Int)]) ∧ ∃ S', RdS w' B q d S' r.2.1 r.2.2.1 r.2.2.2 ∧ Turned w S S' w'
abbrev wrc (x : Wr) : Array Value := #[.string x.1, .string x.2.1, .bool x.2.2]
/-- the end: the result's block is set -/
theorem wr_end {w w1 : World} {B q d : Nat} {S S' : Nat → Prop} {ks : List ByteArray} {e : Nat} {b : List Nat} (h : RdS w1 B q d S' ks e b) (hn : ¬ S' w.heap.size) (ht : Turned w S S' w1) (hB : B ≤ w.heap.size) {x : Wr} {n : Nat} {w2 : World} (ho : Only (fun j => j = w.heap.size) w1 w2) :
    WrPost w B q d S ((x, n), (ks, e, b)) (.returned (.tuple #[aggW x, .int .i64 (n : Int)])) w2 :=
  ⟨rfl, S', h.only ho (fun j hj hs => hn (hj ▸ hs)) (fun j hj => by rw [hj]; exact hB), ht.1, ht.2.trans ho (fun j hj => .inr (by rw [hj]; exact Nat.le_refl _))⟩
end Go.Proofs.Ytgjkeccopjgjlaa

/- txn.reader: txn. -/
import Derived.Test.YtgjkeccopjgjlaaTws
import Derived.Test.YtgjkeccopjgjlaaCtake
namespace Go.Proofs.Ytgjkeccopjgjlaa
open Go.ChangeShapes Go.WideShapes Go.ChangeAt Go.RowKit Go.Maps
set_option linter.unusedVariables false
set_option linter.unusedSimpArgs false

namespace Tm
def T0 : Txn := (0, 0, (0, 0, 0), [])
/-- a transaction's bytes: it, the error; the state then -/
def readT (c : Tri3) (ks : List ByteArray) (e : Nat) (b : List Nat) : (Txn × Nat) × WsSt :=
  if (upT 4611686018427387903 1 b).2.1 ≠ 0 then ((T0, (upT 4611686018427387903 1 b).2.1), (ks, e, (upT 4611686018427387903 1 b).2.2))
  else if (upT 4611686018427387903 1 (upT 4611686018427387903 1 b).2.2).2.1 ≠ 0 then ((T0, (upT 4611686018427387903 1 (upT 4611686018427387903 1 b).2.2).2.1), (ks, e, (upT 4611686018427387903 1 (upT 4611686018427387903 1 b).2.2).2.2))
  else if (takeC c (upT 4611686018427387903 1 (upT 4611686018427387903 1 b).2.2).2.2).2.2 ≠ 0 then ((T0, (takeC c (upT 4611686018427387903 1 (upT 4611686018427387903 1 b).2.2).2.2).2.2), (ks, e, (upT 4611686018427387903 1 (upT 4611686018427387903 1 b).2.2).2.2))
  else ((((upT 4611686018427387903 1 b).1, (upT 4611686018427387903 1 (upT 4611686018427387903 1 b).2.2).1, (takeC c (upT 4611686018427387903 1 (upT 4611686018427387903 1 b).2.2).2.2).1,
    (readWs ks e ((upT 4611686018427387903 1 (upT 4611686018427387903 1 b).2.2).2.2.drop (takeC c (upT 4611686018427387903 1 (upT 4611686018427387903 1 b).2.2).2.2).2.1)).1.1),
    (readWs ks e ((upT 4611686018427387903 1 (upT 4611686018427387903 1 b).2.2).2.2.drop (takeC c (upT 4611686018427387903 1 (upT 4611686018427387903 1 b).2.2).2.2).2.1)).1.2),
    (readWs ks e ((upT 4611686018427387903 1 (upT 4611686018427387903 1 b).2.2).2.2.drop (takeC c (upT 4611686018427387903 1 (upT 4611686018427387903 1 b).2.2).2.2).2.1)).2)
variable {c : Tri3} {ks : List ByteArray} {e : Nat} {b b1 b2 : List Nat} {n1 n2 d1 d2 sz d3 : Nat} {x y z : Int}
theorem readT_1 (h1 : upT 4611686018427387903 1 b = (n1, d1, b1)) (h : d1 ≠ 0) : readT c ks e b = ((T0, d1), (ks, e, b1)) := by
  unfold readT; rw [h1]; simp only; rw [if_pos h]
theorem readT_2 (h1 : upT 4611686018427387903 1 b = (n1, 0, b1)) (h2 : upT 4611686018427387903 1 b1 = (n2, d2, b2)) (h : d2 ≠ 0) : readT c ks e b = ((T0, d2), (ks, e, b2)) := by
  unfold readT; rw [h1]; simp only; rw [if_neg (by simp), h2]; simp only; rw [if_pos h]
theorem readT_3 (h1 : upT 4611686018427387903 1 b = (n1, 0, b1)) (h2 : upT 4611686018427387903 1 b1 = (n2, 0, b2)) (h3 : takeC c b2 = ((x, y, z), sz, d3)) (h : d3 ≠ 0) : readT c ks e b = ((T0, d3), (ks, e, b2)) := by
  unfold readT; rw [h1]; simp only; rw [if_neg (by simp), h2]; simp only; rw [if_neg (by simp), h3]; simp only; rw [if_pos h]
theorem readT_4 (h1 : upT 4611686018427387903 1 b = (n1, 0, b1)) (h2 : upT 4611686018427387903 1 b1 = (n2, 0, b2)) (h3 : takeC c b2 = ((x, y, z), sz, 0)) : readT c ks e b = ((((n1 : Int), (n2 : Int), (x, y, z), (readWs ks e (b2.drop sz)).1.1), (readWs ks e (b2.drop sz)).1.2), (readWs ks e (b2.drop sz)).2) := by
  unfold readT; rw [h1]; simp only; rw [if_neg (by simp), h2]; simp only; rw [if_neg (by simp), h3]; simp only; rw [if_neg (by simp)]
end Tm
def TxPost (w : World) (B q d : Nat) (S : Nat → Prop) (r : (Txn × Nat) × WsSt) (en : Ending) (w' : World) : Prop :=
  ∃ v S', en = .returned (.tuple #[.agg #[.int .i64 r.1.1.1, .int .i64 r.1.1.2.1, .int .i64 r.1.1.2.2.1.1, .int .i64 r.1.1.2.2.1.2.1, .int .i64 r.1.1.2.2.1.2.2, v], .int .i64 (r.1.2 : Int)]) ∧ w'.ownsRow w.heap.size 73 3 v r.1.1.2.2.2.length (wflat r.1.1.2.2.2) ∧ RdS w' B q d S' r.2.1 r.2.2.1 r.2.2.2 ∧ Turned w S S' w'
abbrev tz : Array Value := #[.int .i64 0, .int .i64 0, .int .i64 0, .int .i64 0, .int .i64 0, .slice none 0 0]
def set6 (w : World) (g : Nat) (a0 a1 a2 a3 a4 a5 : Value) : World := (((((w.setCell ⟨g, 0, none⟩ a0).setCell ⟨g, 1, none⟩ a1).setCell ⟨g, 2, none⟩ a2).setCell ⟨g, 3, none⟩ a3).setCell ⟨g, 4, none⟩ a4).setCell ⟨g, 5, none⟩ a5
theorem only6 (w : World) (g : Nat) (a0 a1 a2 a3 a4 a5 : Value) : Only (fun j => j = g) w (((((( w.setCell ⟨g, 0, none⟩ a0).setCell ⟨g, 1, none⟩ a1).setCell ⟨g, 2, none⟩ a2).setCell ⟨g, 3, none⟩ a3).setCell ⟨g, 4, none⟩ a4).setCell ⟨g, 5, none⟩ a5) :=
  ((((((Only.refl (fun j => j = g) w).set (g := g) rfl 0 a0).set (g := g) rfl 1 a1).set (g := g) rfl 2 a2).set (g := g) rfl 3 a3).set (g := g) rfl 4 a4).set (g := g) rfl 5 a5
/-- the end: the result's block is set -/
theorem tx_end {w w1 : World} {B q d g : Nat} {S S' : Nat → Prop} {ks : List ByteArray} {e : Nat} {b : List Nat} (h : RdS w1 B q d S' ks e b) (hg : w.heap.size ≤ g) {cs : Array Value} (hn : Blk w1 g 38 cs) (hn2 : ¬ S' g) (ht : Turned w S S' w1) (hB : B ≤ w.heap.size) {v : Value} {o s x y z : Int} {l : List Wr} {n : Nat} (ho : w1.ownsRow w.heap.size 73 3 v l.length (wflat l)) {w2 : World} (hO : Only (fun j => j = g) w1 w2) :
    TxPost w B q d S (((o, s, (x, y, z), l), n), (ks, e, b)) (.returned (.tuple #[.agg #[.int .i64 o, .int .i64 s, .int .i64 x, .int .i64 y, .int .i64 z, v], .int .i64 (n : Int)])) w2 :=
  ⟨v, S', rfl, hO.own ho (fun j hj hjg => own_ne_blk ho hn (by decide) _ hj hjg), h.only hO (fun j hj hs => hn2 (hj ▸ hs)) (fun j hj => by rw [hj]; omega), ht.1, ht.2.trans hO (fun j hj => .inr (by rw [hj]; exact hg))⟩
end Go.Proofs.Ytgjkeccopjgjlaa

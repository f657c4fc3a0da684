/- Words for memory: slices of one-cell elements that can be read, and what the call owns. -/
import Derived.Test.YtjoibfcjijddjaaRows
import Derived.WalkKit
import Derived.ProofKit
import Derived.OpenShut
import Derived.ShutString
import Derived.ChangeOld
import Derived.Below
import Derived.Handy
import Derived.Outline
import Derived.WalkLawsBesides
import Derived.WalkSpells
import Derived.Lib.Hide
import Derived.Deep.QuietTactic
import Derived.BigQuiet
import Derived.Deep.DeepFit
import Derived.Deep.LoopGhost
namespace Go.Proofs.Ytjoibfcjijddjaa
open Go.ChangeShapes Go.WideShapes Go.ChangeAt Go.RowKit
set_option linter.unusedVariables false

/-- The slice that begins at A reads, in blocks below B, as the values xs. -/
def Rd (w : World) (B : Nat) (A : Option Addr) (xs : List Value) : Prop :=
  xs ≠ [] → ∃ g o, A = some ⟨g, o, none⟩ ∧ g < B ∧ ∀ j u, xs[j]? = some u → w.cell? ⟨g, o + j, none⟩ = some u

/-- Bytes as the values that cells hold. -/
def u8s (bs : List Nat) : List Value := bs.map fun (b : Nat) => Value.int .u8 (b : Int)
def u64s (bs : List Nat) : List Value := bs.map fun (b : Nat) => Value.int .u64 (b : Int)
@[simp] theorem u8s_length (bs : List Nat) : (u8s bs).length = bs.length := by simp [u8s]
@[simp] theorem u64s_length (bs : List Nat) : (u64s bs).length = bs.length := by simp [u64s]
theorem u8s_append (a b : List Nat) : u8s (a ++ b) = u8s a ++ u8s b := by simp [u8s]
theorem u8s_inj : ∀ {a b : List Nat}, u8s a = u8s b → a = b
  | [], [], _ => rfl
  | [], _ :: _, h => by simp [u8s] at h
  | _ :: _, [], h => by simp [u8s] at h
  | a :: ar, b :: br, h => by
    simp only [u8s, List.map_cons, List.cons.injEq] at h
    have h1 : a = b := by
      have h0 := h.1
      simp only [Value.int.injEq] at h0
      omega
    rw [h1, u8s_inj (a := ar) (b := br) h.2]

namespace Rd
variable {w w' : World} {B B' : Nat} {A : Option Addr} {xs : List Value}
theorem nil (w : World) (B : Nat) (A : Option Addr) : Rd w B A [] := fun h => absurd rfl h
theorem keep (h : Rd w B A xs) (hk : ∀ p : Addr, p.block < B → w'.cell? p = w.cell? p) : Rd w' B A xs := fun hn => by
  obtain ⟨g, o, e, hb, hc⟩ := h hn
  exact ⟨g, o, e, hb, fun j u hu => (hk ⟨g, o + j, none⟩ hb).trans (hc j u hu)⟩
theorem below (h : Rd w B A xs) (hb : Below B w w') : Rd w' B A xs := h.keep fun _ hp => hb.cell hp
theorem more (h : Rd w B A xs) (hB : B ≤ B') : Rd w B' A xs := fun hn => by
  obtain ⟨g, o, e, hb, hc⟩ := h hn
  exact ⟨g, o, e, by omega, hc⟩
theorem of_own {base : Nat} {e : TypeId} {n c : Nat} (h : w.ownsRow base e 1 (.slice A n c) n xs) : Rd w w.heap.size A xs := fun hn => by
  have hl := h.1
  rcases h.2 with ⟨hv, h0⟩ | ⟨g, cap, cur, hv, hb, hh, hnc, hm, hs, ht⟩
  · exact absurd (List.eq_nil_of_length_eq_zero (by omega)) hn
  · injection hv with h1 h2 h3
    refine ⟨g, 0, h1, ?_, fun j u hu => ?_⟩
    · rcases Nat.lt_or_ge g w.heap.size with hlt | hge
      · exact hlt
      · rw [Array.getElem?_eq_none hge] at hh; cases hh
    · have := h.cells (g := g) (by rw [h1]; rfl) j u hu
      rcases Nat.eq_zero_or_pos j with h0 | h0
      · subst h0; simpa [Addr.add] using this
      · simpa [Addr.add, Nat.ne_of_gt h0] using this
theorem alloc (h : Rd w w.heap.size A xs) (o : Obj) : Rd (w.alloc o) w.heap.size A xs := h.keep fun p hp => World.cell?_alloc_lt w o p hp
/-- the cell of place k, for bytes -/
theorem u8 {bs : List Nat} (h : Rd w B A (u8s bs)) (hn : bs ≠ []) : ∃ g o, A = some ⟨g, o, none⟩ ∧ g < B ∧ ∀ k, k < bs.length → w.cell? ⟨g, o + k, none⟩ = some (.int .u8 ((bs[k]?.getD 0 : Nat) : Int)) := by
  obtain ⟨g, o, e, hb, hc⟩ := h (by intro h; apply hn; simpa [u8s] using h)
  refine ⟨g, o, e, hb, fun k hk => hc k _ ?_⟩
  simp [u8s, hk]
theorem u64 {bs : List Nat} (h : Rd w B A (u64s bs)) (hn : bs ≠ []) : ∃ g o, A = some ⟨g, o, none⟩ ∧ g < B ∧ ∀ k, k < bs.length → w.cell? ⟨g, o + k, none⟩ = some (.int .u64 ((bs[k]?.getD 0 : Nat) : Int)) := by
  obtain ⟨g, o, e, hb, hc⟩ := h (by intro h; apply hn; simpa [u64s] using h)
  refine ⟨g, o, e, hb, fun k hk => hc k _ ?_⟩
  simp [u64s, hk]
theorem take (h : Rd w B A xs) (k : Nat) : Rd w B A (xs.take k) := fun hn => by
  obtain ⟨g, o, e, hb, hc⟩ := h (by intro h0; apply hn; simp [h0])
  refine ⟨g, o, e, hb, fun j u hu => hc j u ?_⟩
  rw [List.getElem?_take] at hu
  split at hu
  · exact hu
  · cases hu
end Rd

/-- What an owned row is as a value. -/
theorem own_form {w : World} {base : Nat} {e : TypeId} {v : Value} {n : Nat} {xs : List Value} (h : w.ownsRow base e 1 v n xs) :
    ∃ A c, v = .slice A n c ∧ n ≤ c ∧ c ≤ maxLen ∧ xs.length = n ∧ Rd w w.heap.size A xs := by
  have hl := h.1
  rcases h.2 with ⟨rfl, rfl⟩ | ⟨g, cap, cur, rfl, hb, hh, hnc, hm, hs, ht⟩
  · refine ⟨none, 0, rfl, Nat.le_refl _, Nat.zero_le _, by omega, ?_⟩
    obtain rfl : xs = [] := List.eq_nil_of_length_eq_zero (by omega)
    exact Rd.nil _ _ _
  · exact ⟨_, _, rfl, hnc, hm, by omega, Rd.of_own h⟩

theorem below_trans {B : Nat} {a b c : World} (h : Below a.heap.size a b) (k : Below b.heap.size b c) (hB : B ≤ a.heap.size) : Below B a c :=
  (h.mono hB).trans (k.mono (Nat.le_trans hB h.size))
theorem below_drewN {B : Nat} {a w : World} (h : Below B a w) (n : Nat) : Below B a (w.drewN n) := ⟨h.os, h.tape, h.output, h.size, h.block⟩
/-- One new cell behind a world. -/
theorem one_new (w : World) (x : Value) (t : TypeId) : ∀ (j : Nat) (u : Value), [x][j]? = some u → (w.alloc (.cells #[x] t)).cell? ((⟨w.heap.size, 0, none⟩ : Addr).add j) = some u := by
  intro j u hj
  match j, hj with
  | 0, hj => simp at hj; subst hj; simp [Addr.add]
theorem one_cell {x : Value} (h : x.oneCell' = true) : ∀ u ∈ [x], u.oneCell' = true := by
  intro u hu
  simp at hu
  subst hu
  exact h
theorem ret_eq {a b : Value} (h : a = b) : Ending.returned a = .returned b := by rw [h]
end Go.Proofs.Ytjoibfcjijddjaa

/- What a coder puts, in plain words. -/
import Derived.Test.YtgjkeccopjgjlaaDbm
import Derived.Test.YtgjkeccopjgjlaaTm
import Derived.Test.YtgjkeccopjgjlaaCput
import Derived.Test.YtgjkeccopjgjlaaTval
namespace Go.Proofs.Ytgjkeccopjgjlaa
open Go.ChangeShapes Go.WideShapes Go.ChangeAt Go.RowKit
set_option linter.unusedVariables false
namespace Tm
/-- writes put one behind the other: their bytes, the dictionary then -/
def putWs : List ByteArray → Nat → List Wr → List Nat × List ByteArray × Nat
  | ks, e, [] => ([], ks, e)
  | ks, e, x :: l => ((Dm.putD ks e x.1).1 ++ valB x ++ (putWs (Dm.putD ks e x.1).2.2.1 (Dm.putD ks e x.1).2.2.2 l).1, (putWs (Dm.putD ks e x.1).2.2.1 (Dm.putD ks e x.1).2.2.2 l).2)
theorem putWs_snoc : ∀ (l : List Wr) (ks : List ByteArray) (e : Nat) (x : Wr), putWs ks e (l ++ [x]) = ((putWs ks e l).1 ++ ((Dm.putD (putWs ks e l).2.1 (putWs ks e l).2.2 x.1).1 ++ valB x), (Dm.putD (putWs ks e l).2.1 (putWs ks e l).2.2 x.1).2.2.1, (Dm.putD (putWs ks e l).2.1 (putWs ks e l).2.2 x.1).2.2.2)
  | [], ks, e, x => by simp [putWs]
  | y :: l, ks, e, x => by
    rw [List.cons_append]
    unfold putWs
    rw [putWs_snoc l]
    simp [List.append_assoc]
theorem putWs_step {ks : List ByteArray} {e : Nat} {l : List Wr} {k : Nat} {x : Wr} (h : l[k]? = some x) {bs : List Nat} {ks' : List ByteArray} {e' : Nat} (hp : putWs ks e (l.take k) = (bs, ks', e')) :
    putWs ks e (l.take (k + 1)) = (bs ++ ((Dm.putD ks' e' x.1).1 ++ valB x), (Dm.putD ks' e' x.1).2.2.1, (Dm.putD ks' e' x.1).2.2.2) := by
  obtain ⟨hk, he⟩ := List.getElem?_eq_some_iff.1 h
  rw [List.take_succ_eq_append_getElem hk, he, putWs_snoc, hp]
theorem valB_len (x : Wr) : (valB x).length ≤ 10 + x.2.1.size := by
  unfold valB
  split
  · have := Vm.enc_le 0; omega
  · rw [List.length_append, sb_length]; have := Vm.enc_le (x.2.1.size + 1); omega
theorem valB_byte (x : Wr) (h : x.2.1.size ≤ 1000000000) : ∀ b ∈ valB x, b < 256 := by
  unfold valB
  split
  · exact Vm.enc_byte (by omega)
  · intro b hb
    rcases List.mem_append.1 hb with hb | hb
    · exact Vm.enc_byte (by omega) b hb
    · exact sb_byte _ b hb
theorem putWs_ok : ∀ (l : List Wr) (ks : List ByteArray) (e : Nat), Dm.Ok ks e → (∀ x ∈ l, x.2.1.size ≤ 256) → (putWs ks e l).1.length ≤ 350 * l.length ∧ (∀ b ∈ (putWs ks e l).1, b < 256) ∧ Dm.Ok (putWs ks e l).2.1 (putWs ks e l).2.2
  | [], ks, e, h, hl => ⟨Nat.zero_le _, fun b hb => by simp [putWs] at hb, h⟩
  | x :: l, ks, e, h, hl => by
    obtain ⟨h1, h2, h3⟩ := putWs_ok l _ _ (h.put x.1) (fun y hy => hl y (List.mem_cons_of_mem _ hy))
    obtain ⟨h4, h5⟩ := Dm.put_len (k := x.1) h
    have h6 := hl x (List.mem_cons_self ..)
    have h7 := valB_len x
    unfold putWs
    refine ⟨?_, ?_, h3⟩
    · simp only [List.length_append, List.length_cons]
      omega
    · intro b hb
      simp only [List.mem_append] at hb
      rcases hb with (hb | hb) | hb
      · exact h5 b hb
      · exact valB_byte x (by omega) b hb
      · exact h2 b hb
theorem putD_fine {ks : List ByteArray} {e : Nat} {k : ByteArray} (h : k.size ≤ 64) : (Dm.putD ks e k).2.1 = 0 := by
  unfold Dm.putD
  rw [if_neg (by omega)]
  split <;> rfl
/-- the bytes ahead of the writes -/
def head (t : Txn) (c : Int × Int × Int) : List Nat := Vm.encs [t.1.toNat, t.2.1.toNat] ++ putC c t.2.2.1 ++ Vm.enc t.2.2.2.length
/-- what Put answers, and what the coder is then -/
def put (ks : List ByteArray) (e : Nat) (c : Int × Int × Int) (t : Txn) : (List Nat × Nat) × (List ByteArray × Nat × (Int × Int × Int)) :=
  if check t ≠ 0 then (([], check t), (ks, e, c)) else ((head t c ++ (putWs ks e t.2.2.2).1, 0), ((putWs ks e t.2.2.2).2.1, (putWs ks e t.2.2.2).2.2, t.2.2.1))
end Tm
end Go.Proofs.Ytgjkeccopjgjlaa

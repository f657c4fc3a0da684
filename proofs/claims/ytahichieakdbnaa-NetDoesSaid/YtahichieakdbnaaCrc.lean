/- crc.Sum, crc.Seal, crc.Open. -/
import Derived.Test.YtahichieakdbnaaMore
import Derived.Deep.DeepMust
namespace Go.Proofs.Ytahichieakdbnaa
open Go.ChangeShapes Go.WideShapes Go.ChangeAt Go.RowKit
set_option linter.unusedVariables false

theorem Try.infoB : (Try.prog.info? 5).map (fun i => (i.zero, i.size, i.bytes)) = some (some (.int .u8 0), 1, 1) := by kernel_rfl

/-! Seal -/
def SealPost (w : World) (bs : List Nat) (e : Ending) (w' : World) : Prop :=
  ∃ v', e = .returned v' ∧ w'.ownsRow w.heap.size 5 1 v' (Cm.sealed bs).length (u8s (Cm.sealed bs)) ∧ Below w.heap.size w w'
def SealRel (w : World) (bs : List Nat) (x : Nat) (s3 s4 s14 : Value) (wr : World) : Prop :=
  ∃ k y : Nat, s4 = .int .u32 (y : Int) ∧ s14 = .int .i64 (k : Int) ∧ k ≤ 4 ∧ y < 4294967296 ∧ Hid (y = x / 256 ^ k) ∧ wr.ownsRow w.heap.size 5 1 s3 (bs.length + k) (u8s (bs ++ (Cm.le4 x).take k)) ∧ Below w.heap.size w wr
theorem le4_take (x : Nat) : ∀ k, k < 4 → (Cm.le4 x).take (k + 1) = (Cm.le4 x).take k ++ [x / 256 ^ k % 256] := by
  intro k hk
  match k, hk with
  | 0, _ => simp [Cm.le4]
  | 1, _ => simp [Cm.le4]
  | 2, _ => simp [Cm.le4]
  | 3, _ => simp [Cm.le4]
theorem seal_step {w w1 : World} {bs : List Nat} {x k y : Nat} {v1 : Value} (hk : k < 4) (hy : y < 4294967296) (hyx : y = x / 256 ^ k) (ho : w1.ownsRow w.heap.size 5 1 v1 (bs.length + k + 1) (u8s (bs ++ (Cm.le4 x).take k) ++ [.int .u8 ((y : Int) % 256)])) (hb : Below w.heap.size w w1) :
    SealRel w bs x v1 (.int .u32 ((y : Int) / 256)) (.int .i64 ((k : Int) + 1)) w1 := by
  refine ⟨k + 1, y / 256, by go_num, by go_num, by omega, by omega, ?_, ?_, hb⟩
  · show _ = _
    rw [hyx, Nat.pow_succ, Nat.div_div_eq_div_mul]
  · have e : u8s (bs ++ (Cm.le4 x).take (k + 1)) = u8s (bs ++ (Cm.le4 x).take k) ++ [.int .u8 ((y : Int) % 256)] := by
      rw [le4_take x k hk, ← hyx, ← List.append_assoc, u8s_append]
      simp [u8s]
    rw [e]; exact ho

/-! Open -/
def OpenPost (w : World) (bs : List Nat) (e : Ending) (w' : World) : Prop :=
  ∃ v, e = .returned (.tuple #[v, .int .i64 (Cm.openE bs : Int)]) ∧ Made w' v (Cm.openB bs) (Cm.openB bs).length ∧ Below w.heap.size w w'
theorem made_nil (w : World) : Made w (.slice none 0 0) [] 0 := ⟨none, 0, rfl, Rd.nil _ _ _, rfl, Nat.le_refl _, Nat.zero_le _, by simp, fun _ => rfl⟩
theorem open_err {w w' : World} {bs : List Nat} {d : Nat} (h : Cm.openE bs = d) (hd : d ≠ 0) (hb : Below w.heap.size w w') : OpenPost w bs (.returned (.tuple #[.slice none 0 0, .int .i64 (d : Int)])) w' := by
  refine ⟨_, by rw [h], ?_, hb⟩
  have e : Cm.openB bs = [] := by unfold Cm.openB; rw [if_neg (by rw [h]; exact hd)]
  rw [e]
  exact made_nil w'
def OpenRel (bs : List Nat) (n : Nat) (s5 s6 : Value) : Prop := ∃ (k S : Nat) (i : Int), s5 = .int .u32 (S : Int) ∧ s6 = .int .i64 i ∧ i + k ≤ n + 3 ∧ (n : Int) + 3 ≤ i + k ∧ k ≤ 4 ∧ Hid (S = Cm.tail bs k)
theorem or8 {S x : Nat} (h : S < 16777216) (hx : x < 256) : bits .or .u32 ((S : Int) * 256) (x : Int) = ((S * 256 + x : Nat) : Int) := by
  rw [show ((S : Int) * 256) = ((S * 256 : Nat) : Int) by omega, u32_or_nat _ _ (by omega) (by omega), nat_join 8 (S * 256) x (by omega) (by omega)]

end Go.Proofs.Ytahichieakdbnaa

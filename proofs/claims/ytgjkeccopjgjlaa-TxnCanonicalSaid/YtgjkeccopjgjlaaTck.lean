/- txn.Check. -/
import Derived.Test.YtgjkeccopjgjlaaTm
import Derived.Test.YtgjkeccopjgjlaaBlk
import Derived.Test.YtgjkeccopjgjlaaBas
import Derived.Handy
namespace Go.Proofs.Ytgjkeccopjgjlaa
open Go.ChangeShapes Go.WideShapes Go.ChangeAt Go.RowKit
set_option linter.unusedVariables false
set_option linter.unusedSimpArgs false

def aggW (x : Wr) : Value := .agg #[.string x.1, .string x.2.1, .bool x.2.2]
/-- three cells that are a write -/
def RWr (cs : List Value) (x : Wr) : Prop := cs = [.string x.1, .string x.2.1, .bool x.2.2]
abbrev WrR (w : World) (B : Nat) (A : Option Addr) (ws : List Wr) : Prop := StR 3 RWr w B A ws
theorem WrR.below {w w' : World} {B : Nat} {A : Option Addr} {ws : List Wr} (h : WrR w B A ws) (hb : Below B w w') : WrR w' B A ws := StR.below h hb (fun _ _ h => h)
theorem WrR.step {w w' : World} {A : Option Addr} {ws : List Wr} (h : WrR w w.heap.size A ws) (hb : Below w.heap.size w w') : WrR w' w'.heap.size A ws := StR.more (WrR.below h hb) hb.size
theorem WrR.row {w : World} {B : Nat} {A : Option Addr} {ws : List Wr} (h : WrR w B A ws) {k : Nat} (hk : k < ws.length) : ∃ g o x, A = some ⟨g, o, none⟩ ∧ g < B ∧ ws[k]? = some x ∧ w.cell? ⟨g, o + k * 3, none⟩ = some (.string x.1) ∧ w.cell? ⟨g, o + k * 3 + 1, none⟩ = some (.string x.2.1) ∧ w.cell? ⟨g, o + k * 3 + 2, none⟩ = some (.bool x.2.2) := by
  obtain ⟨g, o, x, cs, e, hg, hk', hl, rfl, hc⟩ := StR.row h hk
  exact ⟨g, o, x, e, hg, hk', hc 0 _ rfl, hc 1 _ rfl, hc 2 _ rfl⟩
def BoolP (w : World) (b : Bool) (e : Ending) (w' : World) : Prop := e = .returned (.bool b) ∧ Below w.heap.size w w'
set_option maxHeartbeats 1000000 in
theorem tooLong_any (w : World) (x : Wr) : Calls Try.prog 43 #[aggW x] w (BoolP w (Tm.tooB x)) := by
  obtain ⟨k, v, b⟩ := x
  unfold aggW Tm.tooB
  simp only
  have HB := Lib.hid ((Below.refl w.heap.size w).alloc (Nat.le_refl _) (.cells #[.string k, .string v, .bool b] 73))
  by_cases h1 : 64 < k.size
  · have h1I : (64 : Int) < (k.size : Int) := by omega
    go_enter Try.func43, Try.ntmps43
    go_wp2
    go_ret
    exact ⟨by simp [h1], HB.out⟩
  · have h1I : ¬ (64 : Int) < (k.size : Int) := by omega
    by_cases h2 : 256 < v.size
    · have h2I : (256 : Int) < (v.size : Int) := by omega
      go_enter Try.func43, Try.ntmps43
      go_wp2
      go_ret
      exact ⟨by simp [h1, h2], HB.out⟩
    · have h2I : ¬ (256 : Int) < (v.size : Int) := by omega
      go_enter Try.func43, Try.ntmps43
      go_wp2
      go_ret
      exact ⟨by simp [h1, h2], HB.out⟩
set_option maxHeartbeats 1000000 in
theorem odd_any (w : World) (x : Wr) : Calls Try.prog 44 #[aggW x] w (BoolP w (Tm.oddB x)) := by
  obtain ⟨k, v, b⟩ := x
  unfold aggW Tm.oddB
  simp only
  have HB := Lib.hid ((Below.refl w.heap.size w).alloc (Nat.le_refl _) (.cells #[.string k, .string v, .bool b] 73))
  cases b
  · go_enter Try.func44, Try.ntmps44
    go_wp2
    go_ret
    exact ⟨by simp, HB.out⟩
  · by_cases h : v.size = 0
    · obtain rfl := bas_mt h
      go_enter Try.func44, Try.ntmps44
      go_wp2
      go_ret
      exact ⟨rfl, HB.out⟩
    · have n1 := bas_ne (x := v) (k := ⟨#[]⟩) (by rintro rfl; exact h rfl)
      have h2 : (!decide (v.size = 0)) = true := by simp [h]
      go_enter Try.func44, Try.ntmps44
      go_wp2
      go_ret
      exact ⟨by rw [h2]; simpa using n1, HB.out⟩
end Go.Proofs.Ytgjkeccopjgjlaa

/- disk: file, Sure, Down. -/
import Derived.Test.YtahichieakdbnaaDn
namespace Go.Proofs.Ytahichieakdbnaa
open Go.ChangeShapes Go.WideShapes Go.ChangeAt Go.RowKit Go.Maps
set_option linter.unusedVariables false
set_option linter.unusedSimpArgs false

theorem DskM.sureA {w : World} {g room fuse : Nat} {vs : List Value} {fs : List Fl} {down fused : Bool} (h : DskM w g room vs fs down fused fuse) {i : Nat} {f : Fl} (hf : fs[i]? = some f) : w.cell? ⟨g, 1 + i * 2 + 1, none⟩ = some (.int .i64 (f.2 : Int)) := by
  rw [show 1 + i * 2 + 1 = 2 * i + 2 by omega]
  exact h.sure hf
/-- where a file's row lies -/
def rowAt (g : Nat) (x : Int) : Option Addr := if 0 ≤ x ∧ x < 64 then some ⟨g, 1 + x.toNat * 2, none⟩ else none
set_option maxHeartbeats 2000000 in
theorem DFile_any (w : World) (g room : Nat) (vs : List Value) (fs : List Fl) (down fused : Bool) (fuse : Nat) (x : Int) (h : DskM w g room vs fs down fused fuse) :
    Calls Try.prog 71 #[.pointer (some ⟨g, 0, none⟩), .int .i64 x] w (fun en w' => en = .returned (.pointer (rowAt g x)) ∧ ∃ q, w' = w.drewN q) := by
  have gl := h.2.2.1.lt
  clear h
  by_cases h0 : x < 0
  · have e : rowAt g x = none := by unfold rowAt; rw [if_neg (by omega)]
    rw [e]
    go_enter Try.func71, Try.ntmps71
    go_wp2
    go_ret
    exact ⟨rfl, by first | exact ⟨0, rfl⟩ | exact ⟨_, rfl⟩ | exact ⟨_, World.drewN_drewN ..⟩⟩
  · by_cases h1 : 64 ≤ x
    · have e : rowAt g x = none := by unfold rowAt; rw [if_neg (by omega)]
      rw [e]
      go_enter Try.func71, Try.ntmps71
      go_wp2
      go_ret
      exact ⟨rfl, by first | exact ⟨0, rfl⟩ | exact ⟨_, rfl⟩ | exact ⟨_, World.drewN_drewN ..⟩⟩
    · obtain ⟨i, rfl⟩ : ∃ i : Nat, x = (i : Int) := ⟨x.toNat, by omega⟩
      have e : rowAt g (i : Int) = some ⟨g, 1 + i * 2, none⟩ := by unfold rowAt; rw [if_pos (by omega)]; simp
      rw [e]
      have hi1 : (i : Int) < 64 := by omega
      have hi2 : i < 64 := by omega
      go_enter Try.func71, Try.ntmps71
      go_wp2
      go_ret
      exact ⟨rfl, by first | exact ⟨0, rfl⟩ | exact ⟨_, rfl⟩ | exact ⟨_, World.drewN_drewN ..⟩⟩
set_option maxHeartbeats 1000000 in
theorem DDown_any (w : World) (g room : Nat) (vs : List Value) (fs : List Fl) (down fused : Bool) (fuse : Nat) (h : DskM w g room vs fs down fused fuse) :
    Calls Try.prog 30 #[.pointer (some ⟨g, 0, none⟩)] w (fun en w' => en = .returned (.bool down) ∧ ∃ q, w' = w.drewN q) := by
  have a0 := h.down0
  have gl := h.2.2.1.lt
  clear h
  go_enter Try.func30, Try.ntmps30
  go_wp2
  go_ret
  exact ⟨rfl, by first | exact ⟨0, rfl⟩ | exact ⟨_, rfl⟩⟩
end Go.Proofs.Ytahichieakdbnaa

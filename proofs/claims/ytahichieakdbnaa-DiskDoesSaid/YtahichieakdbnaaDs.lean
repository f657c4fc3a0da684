/- disk: step, over the function that it is handed; its deferred look. -/
import Derived.Test.YtahichieakdbnaaDr
import Derived.Defers
namespace Go.Proofs.Ytahichieakdbnaa
open Go.ChangeShapes Go.WideShapes Go.ChangeAt Go.RowKit Go.Maps
set_option linter.unusedVariables false
set_option linter.unusedSimpArgs false

set_option maxHeartbeats 2000000 in
theorem look_down (w : World) (be bd g : Nat) (u : FrameMode) (he : w.cell? ⟨be, 0, none⟩ = some (.int .i64 8)) (hd : w.cell? ⟨bd, 0, none⟩ = some (.pointer (some ⟨g, 0, none⟩)))
    (c0 : ∃ x, w.cell? ⟨g, 129, none⟩ = some x) (z0 : w.frozen? ⟨g, 129, none⟩ = false) :
    CallsD Try.prog 93 #[.pointer (some ⟨be, 0, none⟩), .pointer (some ⟨bd, 0, none⟩)] u w (fun en u' w' => u' = u ∧ (en = .returned (.tuple #[]) ∧ w' = w.setCell ⟨g, 129, none⟩ (.bool true))) := by
  obtain ⟨x, c0⟩ := c0
  go_enter_d Try.func93, Try.ntmps93
  go_wp2
  all_goals (first | (go_end0; exact ⟨rfl, rfl⟩) | skip)
set_option maxHeartbeats 2000000 in
theorem look_burn (w : World) (be bd g : Nat) (n : Int) (hn : (n == 8) = false) (k : Nat) (hk : k ≤ 9223372036854775807) (hk0 : 0 < k) (u : FrameMode) (he : w.cell? ⟨be, 0, none⟩ = some (.int .i64 n)) (hd : w.cell? ⟨bd, 0, none⟩ = some (.pointer (some ⟨g, 0, none⟩)))
    (c1 : w.cell? ⟨g, 130, none⟩ = some (.bool true)) (c2 : w.cell? ⟨g, 131, none⟩ = some (.int .i64 (k : Int))) (z0 : w.frozen? ⟨g, 131, none⟩ = false) :
    CallsD Try.prog 93 #[.pointer (some ⟨be, 0, none⟩), .pointer (some ⟨bd, 0, none⟩)] u w (fun en u' w' => u' = u ∧ (en = .returned (.tuple #[]) ∧ w' = w.setCell ⟨g, 131, none⟩ (.int .i64 ((k - 1 : Nat) : Int)))) := by
  have hw : IntKind.i64.wrap ((k : Int) - 1) = ((k - 1 : Nat) : Int) := by rw [IntWalk.i64_in _ ⟨by omega, by omega⟩]; omega
  go_enter_d Try.func93, Try.ntmps93
  go_wp2
  all_goals (first | (go_end0; exact ⟨rfl, rfl⟩) | skip)
set_option maxHeartbeats 2000000 in
theorem look_none (w : World) (be bd g : Nat) (n : Int) (hn : (n == 8) = false) (u : FrameMode) (he : w.cell? ⟨be, 0, none⟩ = some (.int .i64 n)) (hd : w.cell? ⟨bd, 0, none⟩ = some (.pointer (some ⟨g, 0, none⟩)))
    (c1 : w.cell? ⟨g, 130, none⟩ = some (.bool false)) :
    CallsD Try.prog 93 #[.pointer (some ⟨be, 0, none⟩), .pointer (some ⟨bd, 0, none⟩)] u w (fun en u' w' => u' = u ∧ (en = .returned (.tuple #[]) ∧ w' = w)) := by
  go_enter_d Try.func93, Try.ntmps93
  go_wp2
  all_goals (first | (go_end0; exact ⟨rfl, rfl⟩) | skip)
end Go.Proofs.Ytahichieakdbnaa

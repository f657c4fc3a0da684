/- disk: Sure. -/
import Derived.Test.YtahichieakdbnaaDo
namespace Go.Proofs.Ytahichieakdbnaa
open Go.ChangeShapes Go.WideShapes Go.ChangeAt Go.RowKit Go.Maps
set_option linter.unusedVariables false
set_option linter.unusedSimpArgs false

/-- how many bytes of a file are sure -/
def sureF (fs : List Fl) (x : Int) : Nat := if 0 ≤ x ∧ x < 64 then (fs[x.toNat]?.getD ([], 0)).2 else 0
set_option maxHeartbeats 2000000 in
theorem DSure_any (w : World) (g room : Nat) (vs : List Value) (fs : List Fl) (down fused : Bool) (fuse : Nat) (x : Int) (h : DskM w g room vs fs down fused fuse) :
    Calls Try.prog 26 #[.pointer (some ⟨g, 0, none⟩), .int .i64 x] w (fun en w' => en = .returned (.int .i64 (sureF fs x : Int)) ∧ ∃ q, w' = w.drewN q) := by
  have gl := h.2.2.1.lt
  have HF := Lib.hid (DFile_any w g room vs fs down fused fuse x h)
  by_cases hx : 0 ≤ x ∧ x < 64
  · obtain ⟨f, hf⟩ : ∃ f, fs[x.toNat]? = some f := ⟨_, List.getElem?_eq_getElem (by rw [h.2.1]; omega)⟩
    have hs : sureF fs x = f.2 := by unfold sureF; rw [if_pos hx, hf]; rfl
    have hr : rowAt g x = some ⟨g, 1 + x.toNat * 2, none⟩ := by unfold rowAt; rw [if_pos hx]
    have c0 := h.sureA hf
    rw [hs]
    rw [hr] at HF
    clear h hf hr hs hx
    go_enter Try.func26, Try.ntmps26
    go_wp2_with fail
    refine HF.out.mono ?_
    rintro en w1 ⟨rfl, q, rfl⟩
    go_wp2
    go_ret
    exact ⟨rfl, by first | exact ⟨_, rfl⟩ | exact ⟨_, World.drewN_drewN ..⟩⟩
  · have hs : sureF fs x = 0 := by unfold sureF; rw [if_neg hx]
    have hr : rowAt g x = none := by unfold rowAt; rw [if_neg hx]
    rw [hs]
    rw [hr] at HF
    clear h hr hs hx
    go_enter Try.func26, Try.ntmps26
    go_wp2_with fail
    refine HF.out.mono ?_
    rintro en w1 ⟨rfl, q, rfl⟩
    go_wp2
    go_ret
    exact ⟨rfl, by first | exact ⟨_, rfl⟩ | exact ⟨_, World.drewN_drewN ..⟩⟩
end Go.Proofs.Ytahichieakdbnaa

/- disk: Left. -/
import Derived.Test.YtahichieakdbnaaDl
import Derived.Test.YtahichieakdbnaaMo
namespace Go.Proofs.Ytahichieakdbnaa
open Go.ChangeShapes Go.WideShapes Go.ChangeAt Go.RowKit Go.Maps
set_option linter.unusedVariables false
set_option linter.unusedSimpArgs false

theorem DskM.bytesA {w : World} {g room fuse : Nat} {vs : List Value} {fs : List Fl} {down fused : Bool} (h : DskM w g room vs fs down fused fuse) {i : Nat} {v : Value} (hv : vs[i]? = some v) : w.cell? ⟨g, 1 + i * 2, none⟩ = some v := by
  rw [show 1 + i * 2 = 2 * i + 1 by omega]
  exact h.bytes hv
/-- how many bytes files have -/
def totF (fs : List Fl) : Nat := (fs.map fun f => f.1.length).sum
theorem totF_take {fs : List Fl} {i : Nat} {f : Fl} (h : fs[i]? = some f) : totF (fs.take (i + 1)) = totF (fs.take i) + f.1.length := by
  unfold totF
  rw [List.take_add_one, h, Option.toList_some, List.map_append, List.sum_append]
  simp
set_option maxHeartbeats 2000000 in
set_option maxRecDepth 100000 in
theorem DLeft_any (w : World) (g room : Nat) (vs : List Value) (fs : List Fl) (down fused : Bool) (fuse : Nat) (h : DskM w g room vs fs down fused fuse) (hroom : room ≤ 1048576) (htot : ∀ i, totF (fs.take i) ≤ room) :
    Calls Try.prog 28 #[.pointer (some ⟨g, 0, none⟩)] w (fun en w' => en = .returned (.int .i64 ((room - totF fs : Nat) : Int)) ∧ ∃ q, w' = w.drewN q) := by
  have H := Lib.hid h; have HT := Lib.hid htot
  have a0 := h.room0
  have gl := h.2.2.1.lt
  clear h htot
  go_enter Try.func28, Try.ntmps28
  go_wp2
  go_loopw [3, 9] (fun s3 s9 wr => ∃ (i t : Nat), s9 = .int .i64 (i : Int) ∧ s3 = .int .i64 (t : Int) ∧ i ≤ 64 ∧ Hid (t = room - totF (fs.take i)) ∧ ∃ q, wr = w.drewN q) (fun _ s9 _ => 64 - (intOf s9).toNat)
  case atStart => exact ⟨0, room, rfl, rfl, by omega, Lib.hid (by simp [totF]), 0, rfl⟩
  case round =>
    obtain ⟨i, t, rfl, rfl, hi, ht, q, rfl⟩ := hrel
    by_cases hlt : i < 64
    · have hiI : (i : Int) < 64 := by omega
      obtain ⟨v, hv⟩ : ∃ v, vs[i]? = some v := ⟨_, List.getElem?_eq_getElem (by rw [H.out.1]; exact hlt)⟩
      obtain ⟨f, hf⟩ : ∃ f, fs[i]? = some f := ⟨_, List.getElem?_eq_getElem (by rw [H.out.2.1]; exact hlt)⟩
      have ho := H.out.2.2.2.1 i v f hv hf
      obtain ⟨A, c, rfl⟩ := own_sl ho
      have b0 := H.out.bytesA hv
      obtain ⟨n, hn⟩ : ∃ n, f.1.length = n := ⟨_, rfl⟩
      rw [hn] at b0
      have h1 := HT.out (i + 1)
      rw [totF_take hf, hn] at h1
      have hnt : n ≤ t := by rw [ht.out]; omega
      have htr : t ≤ 1048576 := by rw [ht.out]; omega
      have R : Hid (t - n = room - totF (fs.take (i + 1))) := Lib.hid (by rw [ht.out, totF_take hf, hn]; omega)
      have hw : IntKind.i64.wrap ((t : Int) - (n : Int)) = ((t - n : Nat) : Int) := by rw [IntWalk.i64_in _ ⟨by omega, by omega⟩]; omega
      clear ho hv hf hn h1 ht
      go_wp2
      go_roundw
      case rel => exact ⟨i + 1, t - n, by go_num, by first | rfl | go_num | (congr 1; omega), by omega, R, by first | exact ⟨_, rfl⟩ | exact ⟨_, World.drewN_drewN ..⟩⟩
      case measure => simp [intOf]; omega
    · obtain rfl : i = 64 := by omega
      have ht' := ht.out
      rw [List.take_of_length_le (by rw [H.out.2.1]; exact Nat.le_refl _)] at ht'
      subst ht'
      clear ht
      go_wp2
      go_ret
      exact ⟨rfl, by first | exact ⟨_, rfl⟩ | exact ⟨_, World.drewN_drewN ..⟩⟩
end Go.Proofs.Ytahichieakdbnaa

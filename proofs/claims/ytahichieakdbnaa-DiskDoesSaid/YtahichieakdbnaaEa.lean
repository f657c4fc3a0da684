/- disk: Files. -/
import Derived.Test.YtahichieakdbnaaDy
namespace Go.Proofs.Ytahichieakdbnaa
open Go.ChangeShapes Go.WideShapes Go.ChangeAt Go.RowKit Go.Maps
set_option linter.unusedVariables false
set_option linter.unusedSimpArgs false

def i64n (l : List Nat) : List Value := l.map fun (n : Nat) => Value.int .i64 (n : Int)
theorem i64n_length (l : List Nat) : (i64n l).length = l.length := by simp [i64n]
/-- of the first k files, those that have bytes -/
def filesK (fs : List Fl) (k : Nat) : List Nat := (List.range k).filter fun i => decide (0 < (fs[i]?.getD ([], 0)).1.length)
theorem filesK_succ (fs : List Fl) (k : Nat) : filesK fs (k + 1) = filesK fs k ++ (if 0 < (fs[k]?.getD ([], 0)).1.length then [k] else []) := by
  unfold filesK
  rw [List.range_succ, List.filter_append]
  congr 1
  by_cases h : 0 < (fs[k]?.getD ([], 0)).1.length
  · rw [if_pos h]; simp [h]
  · rw [if_neg h]; simp at h; simp [h]
theorem filesK_len (fs : List Fl) (k : Nat) : (filesK fs k).length ≤ k := by
  have := List.length_filter_le (fun i => decide (0 < (fs[i]?.getD ([], 0)).1.length)) (List.range k)
  rw [List.length_range] at this
  exact this
theorem infoInt : (Try.prog.info? 3).map (fun i => (i.zero, i.size, i.bytes)) = some (some (.int .i64 0), 1, 8) := by kernel_rfl
def FilesPost (w : World) (l : List Nat) (en : Ending) (w' : World) : Prop := ∃ v, en = .returned v ∧ w'.ownsRow w.heap.size 3 1 v l.length (i64n l) ∧ Below w.heap.size w w'
set_option maxHeartbeats 3000000 in
set_option maxRecDepth 100000 in
theorem DFiles_any (w : World) (g room : Nat) (vs : List Value) (d : Pd) (h : DM w g room vs d) (hok : OkP room d) :
    Calls Try.prog 32 #[.pointer (some ⟨g, 0, none⟩)] w (FilesPost w (filesK d.1 64)) := by
  obtain ⟨i0, hi, hz0, hz1, hz2⟩ := info_parts infoInt
  have gl := h.2.2.1.lt
  have H := Lib.hid h
  have HOK := Lib.hid hok
  clear h hok
  go_enter Try.func32, Try.ntmps32
  go_wp2
  go_loopw [3, 5] (fun s3 s5 wr => ∃ (i : Nat), s5 = .int .i64 (i : Int) ∧ i ≤ 64 ∧ Hid (wr.ownsRow w.heap.size 3 1 s3 (filesK d.1 i).length (i64n (filesK d.1 i))) ∧ Hid (Below w.heap.size w wr)) (fun _ s5 _ => 64 - (intOf s5).toNat)
  case atStart => exact ⟨0, rfl, by omega, Lib.hid ⟨rfl, .inl ⟨rfl, rfl⟩⟩, Lib.hid (Below.refl _ _)⟩
  case round =>
    obtain ⟨i, rfl, hi64, HO, HB⟩ := hrel
    have hlen := filesK_len d.1 i
    obtain ⟨m, hm⟩ : ∃ m, (filesK d.1 i).length = m := ⟨_, rfl⟩
    rw [hm] at hlen HO
    have HM := Lib.hid hm
    obtain ⟨A3, c3, rfl⟩ := own_sl HO.out
    by_cases hlt : i < 64
    · have hiI : (i : Int) < 64 := by omega
      obtain ⟨v, hv⟩ : ∃ v, vs[i]? = some v := ⟨_, List.getElem?_eq_getElem (by rw [H.out.1]; exact hlt)⟩
      obtain ⟨f, hf⟩ : ∃ f, d.1[i]? = some f := ⟨_, List.getElem?_eq_getElem (by rw [HOK.out.2.2.1]; exact hlt)⟩
      have ho := H.out.2.2.2.1 i v f hv hf
      obtain ⟨A, c, rfl⟩ := own_sl ho
      have b0 := DskM.bytesA (DskM.below H.out HB.out) hv
      have hfd : d.1[i]?.getD ([], 0) = f := by rw [hf]; rfl
      have gl2 : g < wr.heap.size := Nat.lt_of_lt_of_le gl HB.out.size
      have hnx := filesK_succ d.1 i
      rw [hfd] at hnx
      obtain ⟨n, hn⟩ : ∃ n, f.1.length = n := ⟨_, rfl⟩
      rw [hn] at b0 hnx
      by_cases h0 : 0 < n
      · rw [if_pos h0] at hnx
        have HNX := Lib.hid hnx
        have h0I : (0 : Int) < (n : Int) := by omega
        clear ho hv hf hfd hn hnx hm
        go_wp2_with (at_builtin; go_must (refine wpList_append_own_at _ rfl (.tmp 17) (.tmp 19) 33 rfl w.heap.size 3 i0 (.int .i64 0) 1 8 Try.underlying33 hi hz0 hz1 hz2 rfl (by decide) _ m (i64n (filesK d.1 i)) rfl (HO.out.alloc _) ⟨wr.heap.size, 0, none⟩ 1 1 [.int .i64 (i : Int)] rfl rfl (one_new _ _ _) (one_cell rfl) (by unfold maxLen; omega) (by omega) (by simp; have := HB.out.size; omega) ?_; intro v2 w2 ho2 hg2 _ _; obtain ⟨A2, c2, rfl⟩ := own_sl ho2; have HO2 := Lib.hid ho2; have HG2 := Lib.hid hg2; clear ho2 hg2))
        have R : Hid (w2.ownsRow w.heap.size 3 1 (.slice A2 (m + 1) c2) (filesK d.1 (i + 1)).length (i64n (filesK d.1 (i + 1)))) := Lib.hid (by
          rw [HNX.out]
          have := HO2.out
          rw [List.length_append, HM.out]
          simpa [i64n] using this)
        have RB : Hid (Below w.heap.size w w2) := Lib.hid ((HB.out.alloc HB.out.size _).trans (below_own (B := w.heap.size) (HO.out.alloc _) HG2.out (Nat.le_refl _) (by have := HB.out.size; simp; omega)))
        go_wp2
        go_roundw
        case rel => exact ⟨i + 1, by go_num, by omega, R, RB⟩
        case measure => simp [intOf]; omega
      · rw [if_neg h0, List.append_nil] at hnx
        obtain rfl : n = 0 := by omega
        have R : Hid (wr.ownsRow w.heap.size 3 1 (.slice A3 m c3) (filesK d.1 (i + 1)).length (i64n (filesK d.1 (i + 1)))) := Lib.hid (by rw [hnx, hm]; exact HO.out)
        clear ho hv hf hfd hn hnx hm
        go_wp2
        go_roundw
        case rel => exact ⟨i + 1, by go_num, by omega, R, HB⟩
        case measure => simp [intOf]; omega
    · obtain rfl : i = 64 := by omega
      clear hm
      go_wp2
      go_ret
      have R := HO.out
      exact ⟨_, rfl, by rw [show (filesK d.1 64).length = m from HM.out]; exact HO.out, HB.out⟩
end Go.Proofs.Ytahichieakdbnaa

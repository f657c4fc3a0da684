/- packetboatref08: Left, Sure, Fuse, New, Read, Files. -/
import Derived.Test.YtahichieakdbnaaEk
namespace Go.Proofs.Ytahichieakdbnaa
open Go.ChangeShapes Go.WideShapes Go.ChangeAt Go.RowKit Go.Maps Go.Deep
set_option linter.unusedVariables false
set_option linter.unusedSimpArgs false

theorem RM.made {w : World} {S : Nat → Prop} {g room : Nat} {vs : List Value} {d : Pd} (h : RM w S g room vs d) {i : Nat} (hi : i < 64) : ∃ A c f, vs[i]? = some (.slice A f.1.length c) ∧ d.1[i]? = some f ∧ MadeO w S (.slice A f.1.length c) f.1 f.1.length := by
  obtain ⟨v, hv⟩ : ∃ v, vs[i]? = some v := ⟨_, List.getElem?_eq_getElem (by rw [h.1]; exact hi)⟩
  obtain ⟨f, hf⟩ : ∃ f, d.1[i]? = some f := ⟨_, List.getElem?_eq_getElem (by rw [h.2.1]; exact hi)⟩
  have hm := h.2.2.2.2 i v f hv hf
  obtain ⟨A, c, rfl, _⟩ := id hm.1
  exact ⟨A, c, f, hv, hf, hm⟩
set_option maxHeartbeats 2000000 in
set_option maxRecDepth 100000 in
theorem RLeft_any (w : World) (S : Nat → Prop) (g room : Nat) (vs : List Value) (d : Pd) (h : RM w S g room vs d) (hok : OkP room d) :
    Calls Try.prog 29 #[.pointer (some ⟨g, 0, none⟩)] w (fun en w' => en = .returned (.int .i64 ((room - totF d.1 : Nat) : Int)) ∧ ∃ q, w' = w.drewN q) := by
  have H := Lib.hid h; have HT : Hid (∀ i, totF (d.1.take i) ≤ room) := Lib.hid (fun i => Nat.le_trans (totF_take_le _ _) hok.2.1)
  have hroom := hok.1
  have a0 := h.room0
  have gl := h.lt
  clear h hok
  go_enter Try.func29, Try.ntmps29
  go_wp2
  go_loopw [3, 4] (fun s3 s4 wr => ∃ (i t : Nat), s4 = .int .i64 (i : Int) ∧ s3 = .int .i64 (t : Int) ∧ i ≤ 64 ∧ Hid (t = room - totF (d.1.take i)) ∧ ∃ q, wr = w.drewN q) (fun _ s4 _ => 64 - (intOf s4).toNat)
  case atStart => exact ⟨0, room, rfl, rfl, by omega, Lib.hid (by simp [totF]), 0, rfl⟩
  case round =>
    obtain ⟨i, t, rfl, rfl, hi, ht, q, rfl⟩ := hrel
    by_cases hlt : i < 64
    · have hiI : (i : Int) < 64 := by omega
      obtain ⟨A, c, f, hv, hf, hm⟩ := H.out.made hlt
      have b0 := H.out.bytes hv
      obtain ⟨n, hn⟩ : ∃ n, f.1.length = n := ⟨_, rfl⟩
      rw [hn] at b0
      have h1 := HT.out (i + 1)
      rw [totF_take hf, hn] at h1
      have hnt : n ≤ t := by rw [ht.out]; omega
      have htr : t ≤ 1048576 := by rw [ht.out]; omega
      have R : Hid (t - n = room - totF (d.1.take (i + 1))) := Lib.hid (by rw [ht.out, totF_take hf, hn]; omega)
      have hw : IntKind.i64.wrap ((t : Int) - (n : Int)) = ((t - n : Nat) : Int) := by rw [IntWalk.i64_in _ ⟨by omega, by omega⟩]; omega
      clear hv hf hn h1 ht hm
      go_wp2
      go_roundw
      case rel => exact ⟨i + 1, t - n, by go_num, by first | rfl | go_num | (congr 1; omega), by omega, R, by first | exact ⟨_, rfl⟩ | exact ⟨_, World.drewN_drewN ..⟩⟩
      case measure => simp [intOf]; omega
    · obtain rfl : i = 64 := by omega
      have ht' := ht.out
      rw [List.take_of_length_le (by rw [H.out.2.1]; exact Nat.le_refl _)] at ht'
      subst ht'
      clear ht
      go_wp2
      go_ret
      exact ⟨rfl, by first | exact ⟨_, rfl⟩ | exact ⟨_, World.drewN_drewN ..⟩⟩
set_option maxHeartbeats 2000000 in
theorem RSure_any (w : World) (S : Nat → Prop) (g room : Nat) (vs : List Value) (d : Pd) (x : Int) (h : RM w S g room vs d) :
    Calls Try.prog 27 #[.pointer (some ⟨g, 0, none⟩), .int .i64 x] w (fun en w' => en = .returned (.int .i64 (sureF d.1 x : Int)) ∧ ∃ q, w' = w.drewN q) := by
  have gl := h.lt
  by_cases hx : inF x
  · obtain ⟨i, rfl⟩ : ∃ i : Nat, x = (i : Int) := ⟨x.toNat, by unfold inF at hx; omega⟩
    have hi : i < 64 := by unfold inF at hx; omega
    obtain ⟨A, c, f, hv, hf, hm⟩ := h.made hi
    have c0 := h.sure hf
    have e : sureF d.1 (i : Int) = f.2 := by unfold sureF; rw [if_pos (show 0 ≤ (i : Int) ∧ (i : Int) < 64 from hx), Int.toNat_natCast, hf]; rfl
    have hi0 : (i : Int) < 64 := by omega
    have hd : decide (inF (i : Int)) = true := decide_eq_true hx
    have HT := Lib.hid (there_any w (i : Int))
    rw [hd] at HT
    rw [e]
    clear h hv hf hm hd hx e
    go_enter Try.func27, Try.ntmps27
    go_wp2_with fail
    refine HT.out.mono ?_
    rintro en w1 ⟨rfl, hw⟩
    subst hw
    go_wp2
    go_ret
    exact ⟨rfl, by first | exact ⟨0, rfl⟩ | exact ⟨_, rfl⟩⟩
  · have e : sureF d.1 x = 0 := by unfold sureF; rw [if_neg (show ¬ (0 ≤ x ∧ x < 64) from hx)]
    have hd : decide (inF x) = false := decide_eq_false hx
    have HT := Lib.hid (there_any w x)
    rw [hd] at HT
    rw [e]
    clear h hd hx e
    go_enter Try.func27, Try.ntmps27
    go_wp2_with fail
    refine HT.out.mono ?_
    rintro en w1 ⟨rfl, hw⟩
    subst hw
    go_wp2
    go_ret
    exact ⟨rfl, by first | exact ⟨0, rfl⟩ | exact ⟨_, rfl⟩⟩
set_option maxHeartbeats 3000000 in
theorem RFuse_any (w : World) (S : Nat → Prop) (g room : Nat) (vs : List Value) (d : Pd) (n : Int) (h : RM w S g room vs d) :
    Calls Try.prog 21 #[.pointer (some ⟨g, 0, none⟩), .int .i64 n] w (fun en w' => en = .returned (.tuple #[]) ∧ RM w' S g room vs (fuseP d n) ∧ Only (fun j => j = g) w w') := by
  have gl := h.lt
  have a1 := h.fu0
  have z1 := h.2.2.1.frozen 129
  by_cases h0 : 0 ≤ n
  · obtain ⟨k, rfl⟩ : ∃ k : Nat, n = (k : Int) := ⟨n.toNat, by omega⟩
    have e1 : decide ((0 : Int) ≤ (k : Int)) = true := decide_eq_true h0
    have HD := Lib.hid (h.setFu (b := true) (n := k) (k : Int) rfl)
    have HO : Hid (Only (fun j => j = g) w (w.setCell ⟨g, 129, none⟩ (.int .i64 (k : Int)))) := Lib.hid (Only.set (S := fun j => j = g) (Only.refl _ w) rfl _ _)
    clear h
    go_enter Try.func21, Try.ntmps21
    go_wp2
    go_end0
    refine ⟨rfl, ?_, HO.out⟩
    unfold fuseP
    rw [e1]
    exact HD.out
  · have e1 : decide ((0 : Int) ≤ n) = false := decide_eq_false h0
    have h9 := h.cellset (vs' := vs) (d' := d) 129 (.int .i64 (fuI d)) h.1 h.2.1 (by
      unfold rcs
      rw [List.set_append_right _ _ (by rw [h.1]; omega), h.1, List.set_append_right _ _ (by rw [h.sl]; omega), h.sl]
      rfl) h.2.2.2.2
    have HO : Hid (Only (fun j => j = g) w ((w.setCell ⟨g, 129, none⟩ (.int .i64 n)).setCell ⟨g, 129, none⟩ (.int .i64 (-1)))) := Lib.hid (Only.set (S := fun j => j = g) (Only.set (S := fun j => j = g) (Only.refl _ w) rfl _ _) rfl _ _)
    have hD : RM ((w.setCell ⟨g, 129, none⟩ (.int .i64 n)).setCell ⟨g, 129, none⟩ (.int .i64 (-1))) S g room vs (d.1, d.2.1, false, 0) := by
      have k1 := h.2.2.1.set 129 (.int .i64 n)
      have k2 := k1.set 129 (.int .i64 (-1))
      refine ⟨h.1, h.2.1, ?_, h.2.2.2.1, fun i v f hv hf => ?_⟩
      · rw [List.setIfInBounds_toArray, List.setIfInBounds_toArray, List.set_set] at k2
        have e : (rcs room vs d).set 129 (.int .i64 (-1)) = rcs room vs (d.1, d.2.1, false, 0) := by
          unfold rcs
          rw [List.set_append_right _ _ (by rw [h.1]; omega), h.1, List.set_append_right _ _ (by rw [h.sl]; omega), h.sl]
          rfl
        rw [e] at k2
        exact k2
      · exact (h.2.2.2.2 i v f hv hf).other HO.out (fun g' o n' c hv' hb e => (h.2.2.2.2 i v f hv hf).2 g' o n' c hv' hb (e ▸ h.2.2.2.1))
    have HD := Lib.hid hD
    have hn : n.toNat = 0 := by omega
    have h0' : n < 0 := by omega
    clear h h9 hD
    go_enter Try.func21, Try.ntmps21
    go_wp2
    go_end0
    refine ⟨rfl, ?_, HO.out⟩
    unfold fuseP
    rw [e1, hn]
    exact HD.out
theorem rnew_cells (n : Nat) : (Try.zeroCells50.setIfInBounds 128 (.int .i64 (n : Int))).setIfInBounds 129 (.int .i64 (-1)) = (rcs n vs0 (fs0, false, false, 0)).toArray := by
  set_option maxRecDepth 100000 in rfl
theorem new_rdisk (w : World) (n : Nat) : RM (w.alloc (.cells ((Try.zeroCells50.setIfInBounds 128 (.int .i64 (n : Int))).setIfInBounds 129 (.int .i64 (-1))) 50)) (fun j => j = w.heap.size) w.heap.size n vs0 (fs0, false, false, 0) := by
  have hk := Blk.new w 50 ((Try.zeroCells50.setIfInBounds 128 (.int .i64 (n : Int))).setIfInBounds 129 (.int .i64 (-1)))
  refine ⟨by simp [vs0], by simp [fs0], ?_, rfl, ?_⟩
  · rw [rnew_cells] at hk ⊢
    exact hk
  · intro i v f hv hf
    have e1 : v = .slice none 0 0 := List.eq_of_mem_replicate (List.mem_of_getElem? hv)
    have e2 : f = ([], 0) := List.eq_of_mem_replicate (List.mem_of_getElem? hf)
    subst e1 e2
    exact ⟨made_none _, fun g o n c h hb => absurd rfl hb⟩
set_option maxHeartbeats 3000000 in
set_option maxRecDepth 100000 in
theorem RNew_any (w : World) (n : Nat) (hn : n ≤ 1048576) :
    Calls Try.prog 16 #[.int .i64 (n : Int)] w (fun en w' => en = .returned (.tuple #[.pointer (some ⟨w.heap.size, 0, none⟩), .int .i64 0]) ∧ RM w' (fun j => j = w.heap.size) w.heap.size n vs0 (fs0, false, false, 0) ∧ Below w.heap.size w w') := by
  have hI : ¬ ((n : Int) < 0) := by omega
  have hI2 : ¬ ((1048576 : Int) < (n : Int)) := by omega
  have HD := Lib.hid (new_rdisk w n)
  go_enter Try.func16, Try.ntmps16
  go_wp2
  go_ret2
  exact ⟨rfl, HD.out, (Below.refl _ w).alloc (Nat.le_refl _) _⟩
set_option maxHeartbeats 3000000 in
set_option maxRecDepth 100000 in
theorem RNew_no (w : World) (n : Int) (hn : n < 0 ∨ 1048576 < n) :
    Calls Try.prog 16 #[.int .i64 n] w (fun en w' => en = .returned (.tuple #[.pointer none, .int .i64 1]) ∧ w' = w) := by
  by_cases h0 : n < 0
  · clear hn
    go_enter Try.func16, Try.ntmps16
    go_wp2
    go_ret2
    exact ⟨rfl, rfl⟩
  · have h1 : (1048576 : Int) < n := by omega
    clear hn
    go_enter Try.func16, Try.ntmps16
    go_wp2
    go_ret2
    exact ⟨rfl, rfl⟩
end Go.Proofs.Ytahichieakdbnaa

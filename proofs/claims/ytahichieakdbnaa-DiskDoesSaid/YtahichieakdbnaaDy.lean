/- disk: Read, Fuse, New. -/
import Derived.Test.YtahichieakdbnaaDx
namespace Go.Proofs.Ytahichieakdbnaa
open Go.ChangeShapes Go.WideShapes Go.ChangeAt Go.RowKit Go.Maps
set_option linter.unusedVariables false
set_option linter.unusedSimpArgs false

/-- a file's bytes, or the error -/
def readP (d : Pd) (x : Int) : List Nat × Nat := if inF x then ((d.1[x.toNat]?.getD ([], 0)).1, 0) else ([], 1)
theorem fre_downD {w w1 : World} {S : Nat → Prop} {v : Value} (h : Fre w1 S v) (hs : w.heap.size ≤ w1.heap.size) : Fre w S v := fun g o n c hv => ⟨Nat.le_trans hs (h g o n c hv).1, (h g o n c hv).2⟩
def ReadPost (w : World) (r : List Nat × Nat) (en : Ending) (w' : World) : Prop := ∃ v, en = .returned (.tuple #[v, .int .i64 (r.2 : Int)]) ∧ Made w' v r.1 r.1.length ∧ Fre w (fun _ => False) v ∧ Below w.heap.size w w'
set_option maxHeartbeats 3000000 in
set_option maxRecDepth 100000 in
theorem DRead_any (w : World) (g room : Nat) (vs : List Value) (d : Pd) (x : Int) (h : DM w g room vs d) (hok : OkP room d) :
    Calls Try.prog 23 #[.pointer (some ⟨g, 0, none⟩), .int .i64 x] w (ReadPost w (readP d x)) := by
  have HF := Lib.hid (DFile_any w g room vs d.1 d.2.1 d.2.2.1 d.2.2.2 x h)
  by_cases hx : inF x
  · rw [rowAt_in hx] at HF
    obtain ⟨v, hv⟩ : ∃ v, vs[x.toNat]? = some v := ⟨_, List.getElem?_eq_getElem (by rw [h.1]; unfold inF at hx; omega)⟩
    obtain ⟨f, hf⟩ : ∃ f, d.1[x.toNat]? = some f := ⟨_, List.getElem?_eq_getElem (by rw [hok.2.2.1]; unfold inF at hx; omega)⟩
    have ho := h.2.2.2.1 x.toNat v f hv hf
    obtain ⟨A, c, rfl⟩ := own_sl ho
    have c0 := h.bytesA hv
    have gl := h.2.2.1.lt
    have hlen := Nat.le_trans (totF_mem hf) hok.2.1
    have hroom := hok.1
    have hnone : A = none → c = 0 := by
      rintro rfl
      rcases ho.2 with ⟨h1, _⟩ | ⟨g', cap, cur, hv', _⟩
      · injection h1
      · injection hv' with e1; cases e1
    have HC := fun q => Lib.hid (Clone_any (w.drewN q) A f.1.length c f.1 (Rd.of_own (own_below ho (below_drewN (Below.refl _ w) q))) ((hok.2.2.2.1 f (List.mem_of_getElem? hf)).2) rfl (by omega) (own_cap ho) hnone)
    have e : readP d x = (f.1, 0) := by unfold readP; rw [if_pos hx, hf]; rfl
    rw [e]
    clear h ho hv hf e
    go_enter Try.func23, Try.ntmps23
    go_wp2_with fail
    refine HF.out.mono ?_
    rintro en w1 ⟨rfl, q, rfl⟩
    go_wp2_with fail
    refine (HC q).out.mono ?_
    rintro en w2 ⟨v, rfl, hm, hfr, hb⟩
    have HM := Lib.hid hm; have HFR := Lib.hid hfr; have HB := Lib.hid ((below_drewN (Below.refl w.heap.size w) q).trans (hb.mono (by simp)))
    clear hm hfr hb
    go_wp2
    go_ret2
    exact ⟨v, rfl, HM.out, fre_downD HFR.out (by simp), HB.out⟩
  · rw [rowAt_out hx] at HF
    have e : readP d x = ([], 1) := by unfold readP; rw [if_neg hx]
    rw [e]
    clear h e
    go_enter Try.func23, Try.ntmps23
    go_wp2_with fail
    refine HF.out.mono ?_
    rintro en w1 ⟨rfl, q, rfl⟩
    go_wp2
    go_ret2
    exact ⟨_, rfl, made_none _, Fre.nil _ _, below_drewN (Below.refl _ w) q⟩
def fuseP (d : Pd) (n : Int) : Pd := (d.1, d.2.1, decide (0 ≤ n), n.toNat)
set_option maxHeartbeats 3000000 in
set_option maxRecDepth 100000 in
theorem DFuse_any (w : World) (g room : Nat) (vs : List Value) (d : Pd) (n : Int) (h : DM w g room vs d) :
    Calls Try.prog 35 #[.pointer (some ⟨g, 0, none⟩), .int .i64 n] w (fun en w' => en = .returned (.tuple #[]) ∧ DM w' g room vs (fuseP d n) ∧ Only (fun j => j = g) w w') := by
  have a1 := h.fused0
  have gl := h.2.2.1.lt
  have z1 := h.2.2.1.frozen 130
  have h2 := DskM.setFused h (decide (0 ≤ n))
  have a2 := h.fuse0
  have z2 := h.2.2.1.frozen 131
  have HD := Lib.hid (h2.setFuse n.toNat)
  have HO : Hid (Only (fun j => j = g) w ((w.setCell ⟨g, 130, none⟩ (.bool (decide (0 ≤ n)))).setCell ⟨g, 131, none⟩ (.int .i64 (n.toNat : Int)))) := Lib.hid (Only.set (S := fun j => j = g) (Only.set (S := fun j => j = g) (Only.refl _ w) rfl _ _) rfl _ _)
  by_cases h0 : 0 ≤ n
  · obtain ⟨k, rfl⟩ : ∃ k : Nat, n = (k : Int) := ⟨n.toNat, by omega⟩
    have e1 : decide ((0 : Int) ≤ (k : Int)) = true := decide_eq_true h0
    rw [e1] at HD HO
    clear h h2
    go_enter Try.func35, Try.ntmps35
    go_wp2
    go_end0
    refine ⟨rfl, ?_, HO.out⟩
    unfold DM fuseP
    simp only [e1]
    exact HD.out
  · have e1 : decide ((0 : Int) ≤ n) = false := decide_eq_false h0
    have e2 : (n.toNat : Int) = 0 := by omega
    rw [e1, e2] at HD HO
    have e3 : n.toNat = 0 := by omega
    have h0' : n < 0 := by omega
    clear h h2
    go_enter Try.func35, Try.ntmps35
    go_wp2
    go_end0
    refine ⟨rfl, ?_, HO.out⟩
    unfold DM fuseP
    simp only [e1]
    exact HD.out
def vs0 : List Value := List.replicate 64 (.slice none 0 0)
def fs0 : List Fl := List.replicate 64 ([], 0)
set_option maxRecDepth 100000 in
theorem new_cells (n : Nat) : Try.zeroCells119.setIfInBounds 0 (.int .i64 (n : Int)) = (Value.int .i64 (n : Int) :: (fcs vs0 fs0 ++ [.bool false, .bool false, .int .i64 ((0 : Nat) : Int)])).toArray := rfl
theorem new_disk (w : World) (n : Nat) : DM (w.alloc (.cells (Try.zeroCells119.setIfInBounds 0 (.int .i64 (n : Int))) 119)) w.heap.size n vs0 (fs0, false, false, 0) := by
  have hk := Blk.new w 119 (Try.zeroCells119.setIfInBounds 0 (.int .i64 (n : Int)))
  refine ⟨by simp [vs0], by simp [fs0], ?_, ?_, ?_⟩
  · rw [new_cells] at hk ⊢
    exact hk
  · intro i v f hv hf
    have e1 : v = .slice none 0 0 := List.eq_of_mem_replicate (List.mem_of_getElem? hv)
    have e2 : f = ([], 0) := List.eq_of_mem_replicate (List.mem_of_getElem? hf)
    subst e1 e2
    exact ⟨rfl, .inl ⟨rfl, rfl⟩⟩
  · intro i j v v' _ hv _ b hb
    have e1 : v = .slice none 0 0 := List.eq_of_mem_replicate (List.mem_of_getElem? hv)
    subst e1
    simp [Value.ownBlock] at hb
theorem DS_new (w : World) : ∀ j, DS w.heap.size vs0 j → w.heap.size ≤ j := by
  rintro j (rfl | ⟨i, v, hv, hj⟩)
  · exact Nat.le_refl _
  · have e1 : v = .slice none 0 0 := List.eq_of_mem_replicate (List.mem_of_getElem? hv)
    subst e1
    simp [Value.ownBlock] at hj
theorem ok_new {n : Nat} (hn : n ≤ 1048576) : OkP n (fs0, false, false, 0) := by
  refine ⟨hn, ?_, by simp [fs0], ?_, Nat.zero_le _⟩
  · have : totF fs0 = 0 := by decide +kernel
    rw [this]; exact Nat.zero_le _
  · intro f hf
    have e2 : f = ([], 0) := List.eq_of_mem_replicate hf
    subst e2
    simp
set_option maxHeartbeats 3000000 in
set_option maxRecDepth 100000 in
theorem DNew_any (w : World) (n : Nat) (hn : n ≤ 1048576) :
    Calls Try.prog 15 #[.int .i64 (n : Int)] w (fun en w' => en = .returned (.tuple #[.pointer (some ⟨w.heap.size, 0, none⟩), .int .i64 0]) ∧ DM w' w.heap.size n vs0 (fs0, false, false, 0) ∧ Below w.heap.size w w') := by
  have hI : ¬ ((n : Int) < 0) := by omega
  have hI2 : ¬ ((1048576 : Int) < (n : Int)) := by omega
  have HD := Lib.hid (new_disk w n)
  go_enter Try.func15, Try.ntmps15
  go_wp2
  go_ret2
  exact ⟨rfl, HD.out, (Below.refl _ w).alloc (Nat.le_refl _) _⟩
set_option maxHeartbeats 3000000 in
set_option maxRecDepth 100000 in
theorem DNew_no (w : World) (n : Int) (hn : n < 0 ∨ 1048576 < n) :
    Calls Try.prog 15 #[.int .i64 n] w (fun en w' => en = .returned (.tuple #[.pointer none, .int .i64 1]) ∧ w' = w) := by
  by_cases h0 : n < 0
  · clear hn
    go_enter Try.func15, Try.ntmps15
    go_wp2
    go_ret2
    exact ⟨rfl, rfl⟩
  · have h1 : (1048576 : Int) < n := by omega
    clear hn
    go_enter Try.func15, Try.ntmps15
    go_wp2
    go_ret2
    exact ⟨rfl, rfl⟩
end Go.Proofs.Ytahichieakdbnaa

/- packetboatref04.Merge: the document's greatest numbers of clocks. -/
import Derived.Test.YtignfhdblakcfaaMrg
namespace Go.Proofs.Ytignfhdblakcfaa
open Go.ChangeShapes Go.WideShapes Go.ChangeAt Go.RowKit
set_option linter.unusedVariables false
set_option linter.unusedSimpArgs false

def RMergeRel (w : World) (cs : List Tri) (s4 : Value) (wr : World) : Prop :=
  ∃ (k : Nat) (x y z : Int), s4 = .int .i64 (k : Int) ∧ k ≤ cs.length ∧ (x, y, z) = mergeL (cs.take k) ∧ Blk wr w.heap.size 23 #[.int .i64 0, .int .i64 0, .int .i64 0] ∧ Blk wr (w.heap.size + 1) 23 #[.int .i64 x, .int .i64 y, .int .i64 z] ∧ Below w.heap.size w wr
def pk (b : Bool) (x u : Int) : Int := if b then u else x
theorem pk_max {x u : Int} : pk (decide (x < u)) x u = max x u := by
  unfold pk
  by_cases h : x < u
  · simp [h]; omega
  · simp [h]; omega
theorem rmerge_round {w : World} {cs : List Tri} {k : Nat} {a b c : Int} (hk : k < cs.length) (hm : mergeL (cs.take (k + 1)) = (a, b, c)) :
    ∀ w' : World, Blk w' w.heap.size 23 #[.int .i64 0, .int .i64 0, .int .i64 0] → Blk w' (w.heap.size + 1) 23 #[.int .i64 a, .int .i64 b, .int .i64 c] → Below w.heap.size w w' → RMergeRel w cs (.int .i64 ((k : Int) + 1)) w' := fun w' h0 h1 h2 =>
  ⟨k + 1, _, _, _, by go_num, by omega, hm.symm, h0, h1, h2⟩
theorem Blk.s0 {w : World} {g : Nat} {t : TypeId} {x y z : Value} (h : Blk w g t #[x, y, z]) (u : Value) : Blk (w.setCell ⟨g, 0, none⟩ u) g t #[u, y, z] := h.set 0 u
theorem Blk.s1 {w : World} {g : Nat} {t : TypeId} {x y z : Value} (h : Blk w g t #[x, y, z]) (u : Value) : Blk (w.setCell ⟨g, 1, none⟩ u) g t #[x, u, z] := h.set 1 u
theorem Blk.s2 {w : World} {g : Nat} {t : TypeId} {x y z : Value} (h : Blk w g t #[x, y, z]) (u : Value) : Blk (w.setCell ⟨g, 2, none⟩ u) g t #[x, y, u] := h.set 2 u
theorem mergeL_one {cs : List Tri} (h : 0 < cs.length) : mergeL (cs.take 1) = cs[0]?.getD (0, 0, 0) := by
  cases cs with
  | nil => simp at h
  | cons a r => rfl

set_option maxRecDepth 100000 in
set_option maxHeartbeats 4000000 in
theorem RMerge_any (w : World) (A : Option Addr) (c B : Nat) (cs : List Tri) (hr : Rd w B A (cells3 cs)) (hB : B ≤ w.heap.size) (hl : cs.length ≤ c) (hcm : c ≤ maxLen) :
    Calls Try.prog 26 #[.slice A cs.length c] w (MergePost w (mergeL cs)) := by
  unfold maxLen at hcm
  have START : ∀ w2 : World, w2 = ((w.alloc (Obj.cells #[Value.int IntKind.i64 0, Value.int IntKind.i64 0, Value.int IntKind.i64 0] 23)).alloc (Obj.cells #[Value.int IntKind.i64 0, Value.int IntKind.i64 0, Value.int IntKind.i64 0] 23)) → RMergeRel w cs (.int .i64 0) w2 := by
    rintro w2 rfl
    refine ⟨0, 0, 0, 0, rfl, by omega, rfl, ?_, ?_, ((Below.refl _ _).alloc (Nat.le_refl _) _).alloc (by simp) _⟩
    · exact (Blk.new w _ _).alloc _
    · exact Blk.new' _ _ _ (by simp)
  have HS := Lib.hid START; clear START
  go_enter Try.func26, Try.ntmps26
  go_wp2
  go_loopw [4] (fun s4 wr => RMergeRel w cs s4 wr) (fun s4 _ => cs.length - (intOf s4).toNat)
  case atStart => exact HS.out _ rfl
  case round =>
    clear HS
    obtain ⟨k, x, y, z, rfl, hk, hm, hb0, hb1, hbel⟩ := hrel
    have HM := Lib.hid hm; clear hm
    have hsz := hb1.lt
    obtain ⟨e0, e1, e2, ef⟩ := hb0.three
    obtain ⟨f0, f1, f2, ff⟩ := hb1.three
    by_cases hlt : k < cs.length
    · obtain ⟨g, o, rfl, hg, hc⟩ := hr (by intro h; have := cells3_length cs; rw [h] at this; simp at this; omega)
      obtain ⟨c0, c1, c2⟩ := cells3_at (cs := cs) (k := k) hlt
      have d0 := hc _ _ c0
      have d1 := hc _ _ c1
      have d2 := hc _ _ c2
      clear hc
      rw [← hbel.cell (by simp; omega)] at d0 d1 d2
      rw [show o + 3 * k = o + k * 3 by omega] at d0
      rw [show o + (3 * k + 1) = o + k * 3 + 1 by omega] at d1
      rw [show o + (3 * k + 2) = o + k * 3 + 2 by omega] at d2
      obtain ⟨u, v, r, ht⟩ : ∃ x y z, (x, y, z) = cs[k]?.getD (0, 0, 0) := ⟨_, _, _, rfl⟩
      rw [← ht] at d0 d1 d2
      have HT := Lib.hid ht
      clear c0 c1 c2 ht
      have ng : g ≠ w.heap.size + 1 := by omega
      have ng' : w.heap.size + 1 ≠ g := by omega
      by_cases hk0 : k = 0
      · subst hk0
        have hmm : mergeL (cs.take 1) = (u, v, r) := by rw [mergeL_one hlt]; exact HT.out.symm
        have HMM := Lib.hid hmm; clear hmm
        simp only [Nat.zero_mul, Nat.add_zero] at d0 d1 d2
        have HB := Lib.hid hbel; have H0 := Lib.hid hb0; have H1 := Lib.hid hb1
        clear hbel hb0 hb1
        have HRR := Lib.hid (rmerge_round (w := w) hlt HMM.out)
        go_wp2
        refine wp_loop_rounds 4 ?_
        rw [rounds_succ]
        go_wp2
        go_quiet (fail)
        go_wp2
        rw [rounds_succ]
        go_wp2
        go_quiet (fail)
        go_wp2
        rw [rounds_succ]
        go_wp2
        go_quiet (fail)
        go_wp2
        rw [rounds_succ]
        go_wp2
        refine ⟨HRR.out _ ?_ ?_ ?_, by simp [intOf]; omega⟩
        · repeat' (first | exact H0.out | refine Blk.drewN ?_ _ | refine Blk.far ?_ (by simp) _)
        · repeat' (first | exact H1.out | refine Blk.drewN ?_ _ | refine Blk.s2 (z := ?_) ?_ _ | refine Blk.s1 (y := ?_) ?_ _ | refine Blk.s0 (x := ?_) ?_ _)
        · repeat' (first | exact HB.out | refine below_drewN ?_ _ | refine Below.setCell ?_ (by simp) _)
      · have hms : mergeL (cs.take (k + 1)) = mx (x, y, z) (u, v, r) := by
          obtain ⟨j, rfl⟩ : ∃ j, k = j + 1 := ⟨k - 1, by omega⟩
          rw [merge_step hlt, ← HM.out, HT.out]
        have hmm : mergeL (cs.take (k + 1)) = (pk (decide (x < u)) x u, pk (decide (y < v)) y v, pk (decide (z < r)) z r) := by
          rw [hms, pk_max, pk_max, pk_max]; rfl
        have HMM := Lib.hid (rmerge_round (w := w) hlt hmm); clear hms hmm
        have HB := Lib.hid hbel; have H0 := Lib.hid hb0; have H1 := Lib.hid hb1
        clear hbel hb0 hb1
        have hkf : ((k : Int) == 0) = false := by simp; omega
        have hk1 : (0 : Int) ≤ (k : Int) := by omega
        have hk2 : (k : Int) < (cs.length : Int) := by omega
        cases hd0 : decide (x < u) <;> cases hd1 : decide (y < v) <;> cases hd2 : decide (z < r)
        all_goals
          have HRR := Lib.hid HMM.out
          rw [hd0, hd1, hd2] at HRR
          go_wp2
          refine wp_loop_rounds 4 ?_
          rw [rounds_succ]
          go_wp2
          go_quiet (fail)
          go_wp2
          rw [rounds_succ]
          go_wp2
          go_quiet (fail)
          go_wp2
          rw [rounds_succ]
          go_wp2
          go_quiet (fail)
          go_wp2
          rw [rounds_succ]
          go_wp2
          refine ⟨HRR.out _ ?_ ?_ ?_, by simp [intOf]; omega⟩
          · repeat' (first | exact H0.out | refine Blk.drewN ?_ _ | refine Blk.far ?_ (by simp) _)
          · repeat' (first | exact H1.out | refine Blk.drewN ?_ _ | refine Blk.s2 (z := ?_) ?_ _ | refine Blk.s1 (y := ?_) ?_ _ | refine Blk.s0 (x := ?_) ?_ _)
          · repeat' (first | exact HB.out | refine below_drewN ?_ _ | refine Below.setCell ?_ (by simp) _)
    · have hkk : k = cs.length := by omega
      have R : (Value.agg #[.int .i64 x, .int .i64 y, .int .i64 z]) = .agg #[.int .i64 (mergeL cs).1, .int .i64 (mergeL cs).2.1, .int .i64 (mergeL cs).2.2] := by
        have h := HM.out
        rw [hkk, List.take_length] at h
        rw [← h]
      have HR := Lib.hid R; clear R HM
      have HB := Lib.hid hbel
      clear hbel hb0 hb1
      subst hkk
      go_wp2
      refine bodyPost_ret (v := .agg #[.int .i64 x, .int .i64 y, .int .i64 z]) (by simp [results, Try.results26, go_sem, *]) rfl ⟨by rw [HR.out], ?_⟩
      exact (((HB.out.setCell (by simp) _).setCell (by simp) _).setCell (by simp) _)
end Go.Proofs.Ytignfhdblakcfaa

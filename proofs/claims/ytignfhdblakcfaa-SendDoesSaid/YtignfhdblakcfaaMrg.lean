/- clock.Merge: the greatest numbers of clocks. -/
import Derived.Handy
import Derived.Test.YtignfhdblakcfaaClk
import Derived.Test.YtignfhdblakcfaaBlk
namespace Go.Proofs.Ytignfhdblakcfaa
open Go.ChangeShapes Go.WideShapes Go.ChangeAt Go.RowKit
set_option linter.unusedVariables false

abbrev Tri := Int × Int × Int
def cells3 (cs : List Tri) : List Value := cs.flatMap fun c => [.int .i64 c.1, .int .i64 c.2.1, .int .i64 c.2.2]
def mx (a b : Tri) : Tri := (max a.1 b.1, max a.2.1 b.2.1, max a.2.2 b.2.2)
def mergeL : List Tri → Tri
  | [] => (0, 0, 0)
  | c :: r => r.foldl mx c
theorem cells3_length (cs : List Tri) : (cells3 cs).length = 3 * cs.length := by
  induction cs with
  | nil => rfl
  | cons c r ih => simp only [cells3, List.flatMap_cons, List.length_append, List.length_cons] at ih ⊢; rw [ih]; simp; omega
theorem cells3_at {cs : List Tri} : ∀ {k : Nat}, k < cs.length → (cells3 cs)[3 * k]? = some (.int .i64 (cs[k]?.getD (0, 0, 0)).1) ∧ (cells3 cs)[3 * k + 1]? = some (.int .i64 (cs[k]?.getD (0, 0, 0)).2.1) ∧ (cells3 cs)[3 * k + 2]? = some (.int .i64 (cs[k]?.getD (0, 0, 0)).2.2) := by
  induction cs with
  | nil => intro k h; simp at h
  | cons c r ih =>
    intro k h
    cases k with
    | zero => simp [cells3]
    | succ k =>
      have := ih (k := k) (by simpa using h)
      simp only [cells3, List.flatMap_cons, List.getElem?_cons_succ] at this ⊢
      rw [show 3 * (k + 1) = 3 * k + 3 by omega]
      simpa [List.getElem?_append] using this
theorem merge_step {cs : List Tri} {k : Nat} (h : k + 1 < cs.length) : mergeL (cs.take (k + 2)) = mx (mergeL (cs.take (k + 1))) (cs[k + 1]?.getD (0, 0, 0)) := by
  cases cs with
  | nil => simp at h
  | cons c r =>
    simp only [List.take_succ_cons, mergeL, List.getElem?_cons_succ]
    have hk : k < r.length := by simpa using h
    rw [List.take_succ_eq_append_getElem hk, List.foldl_append, List.getElem?_eq_getElem hk]
    rfl
def MergePost (w : World) (t : Tri) (e : Ending) (w' : World) : Prop := e = .returned (.agg #[.int .i64 t.1, .int .i64 t.2.1, .int .i64 t.2.2]) ∧ Below w.heap.size w w'
def MergeRel (w : World) (cs : List Tri) (s18 : Value) (wr : World) : Prop :=
  ∃ (k : Nat) (x y z : Int), s18 = .int .i64 (k : Int) ∧ k + 1 ≤ cs.length ∧ (x, y, z) = mergeL (cs.take (k + 1)) ∧ Blk wr w.heap.size 23 #[.int .i64 0, .int .i64 0, .int .i64 0] ∧ Blk wr (w.heap.size + 1) 23 #[.int .i64 x, .int .i64 y, .int .i64 z] ∧ Below w.heap.size w wr

theorem merge_round {w wr : World} {cs : List Tri} {k : Nat} {x y z u v r : Int} (hk : k + 1 < cs.length) (hm : mergeL (cs.take (k + 2)) = mx (x, y, z) (u, v, r))
    (hb0 : Blk wr w.heap.size 23 #[.int .i64 0, .int .i64 0, .int .i64 0]) (hb1 : Blk wr (w.heap.size + 1) 23 #[.int .i64 x, .int .i64 y, .int .i64 z]) (hbel : Below w.heap.size w wr)
    (p q s : Int) (hp : p = max x u) (hq : q = max y v) (hs : s = max z r) (o : Obj) :
    MergeRel w cs (.int .i64 ((k : Int) + 1)) ((((wr.setCell ⟨w.heap.size + 1, 0, none⟩ (.int .i64 p)).setCell ⟨w.heap.size + 1, 1, none⟩ (.int .i64 q)).setCell ⟨w.heap.size + 1, 2, none⟩ (.int .i64 s)).alloc o) := by
  have hsz := hb1.lt
  refine ⟨k + 1, p, q, s, by go_num, by omega, ?_, ?_, ?_, ?_⟩
  · rw [hm, hp, hq, hs]; rfl
  · exact (((hb0.far (p := ⟨w.heap.size + 1, 0, none⟩) (by simp) _).far (p := ⟨w.heap.size + 1, 1, none⟩) (by simp) _).far (p := ⟨w.heap.size + 1, 2, none⟩) (by simp) _).alloc _
  · exact (((hb1.set 0 _).set 1 _).set 2 _).alloc _
  · exact (((hbel.setCell (p := ⟨w.heap.size + 1, 0, none⟩) (by simp) _).setCell (p := ⟨w.heap.size + 1, 1, none⟩) (by simp) _).setCell (p := ⟨w.heap.size + 1, 2, none⟩) (by simp) _).alloc (by have := hbel.size; simp [World.setCell]; omega) _

set_option maxHeartbeats 1000000 in
set_option maxRecDepth 100000 in
theorem Merge_any (w : World) (A : Option Addr) (c B : Nat) (cs : List Tri) (hr : Rd w B A (cells3 cs)) (hB : B ≤ w.heap.size) (hl : cs.length ≤ c) (hcm : c ≤ maxLen) :
    Calls Try.prog 25 #[.slice A cs.length c] w (MergePost w (mergeL cs)) := by
  unfold maxLen at hcm
  by_cases h0 : cs = []
  · subst h0
    have HB := Lib.hid (Below.refl w.heap.size w)
    go_enter Try.func25, Try.ntmps25
    go_wp2
    exact bodyPost_ret (v := .agg #[.int .i64 0, .int .i64 0, .int .i64 0]) (by simp [results, Try.results25, go_sem]) rfl ⟨rfl, by first | exact (HB.out.alloc (Nat.le_refl _) _) | exact (HB.out.alloc (Nat.le_refl _) _).setCell (by simp) _⟩
  · have hpos : 0 < cs.length := List.length_pos_iff.2 h0
    have hlen : ((cs.length : Int) == 0) = false := by simp; exact h0
    obtain ⟨g, o, rfl, hg, hc⟩ := hr (by intro h; have := cells3_length cs; rw [h] at this; simp at this; omega)
    obtain ⟨c0, c1, c2⟩ := cells3_at (cs := cs) (k := 0) hpos
    have d0 := hc _ _ c0
    have d1 := hc _ _ c1
    have d2 := hc _ _ c2
    have HC := Lib.hid hc; clear hc
    simp only [Nat.mul_zero, Nat.add_zero, Nat.zero_add] at d0 d1 d2
    have hm0 : mergeL (cs.take 1) = cs[0]?.getD (0, 0, 0) := by
      cases cs with
      | nil => exact absurd rfl h0
      | cons a r => rfl
    obtain ⟨x0, y0, z0, ht⟩ : ∃ x y z, (x, y, z) = cs[0]?.getD (0, 0, 0) := ⟨_, _, _, rfl⟩
    rw [← ht] at d0 d1 d2 hm0
    have HM := Lib.hid hm0
    clear c0 c1 c2 h0 ht hm0
    have hgw : g < w.heap.size := by omega
    have n0 := World.new_ne w _ d0
    have n1 := World.new_ne w _ d1
    have n2 := World.new_ne w _ d2
    by_cases h1 : c = 1
    · subst h1
      have hn1 : cs.length = 1 := by omega
      have R : MergePost w (mergeL cs) (.returned (.agg #[.int .i64 x0, .int .i64 y0, .int .i64 z0])) w := by
        refine ⟨?_, Below.refl _ _⟩
        have h := HM.out
        rw [List.take_of_length_le (by omega)] at h
        rw [h]
      have HR := Lib.hid R; clear R
      rw [hn1] at hlen ⊢
      clear hn1
      go_enter Try.func25, Try.ntmps25
      go_wp2
      go_rounds 1
      refine bodyPost_ret (v := .agg #[.int .i64 x0, .int .i64 y0, .int .i64 z0]) (by simp [results, Try.results25, go_sem]) rfl ⟨HR.out.1, ?_⟩
      exact ((Below.refl _ _).alloc (Nat.le_refl _) _).alloc (by simp) _
    · have START : ∀ w2 : World, w2 = ((w.alloc (Obj.cells #[Value.int IntKind.i64 0, Value.int IntKind.i64 0, Value.int IntKind.i64 0] 23)).alloc (Obj.cells #[Value.int IntKind.i64 x0, Value.int IntKind.i64 y0, Value.int IntKind.i64 z0] 23)) → MergeRel w cs (.int .i64 0) w2 := by
        rintro w2 rfl
        refine ⟨0, x0, y0, z0, rfl, by omega, HM.out.symm, ?_, ?_, ((Below.refl _ _).alloc (Nat.le_refl _) _).alloc (by simp) _⟩
        · exact (Blk.new w _ _).alloc _
        · exact Blk.new' _ _ _ (by simp)
      have HS := Lib.hid START; clear START
      clear HM
      go_enter Try.func25, Try.ntmps25
      go_wp2
      go_loopw [18] (fun s18 wr => MergeRel w cs s18 wr) (fun s18 _ => cs.length - (intOf s18).toNat)
      case atStart => exact HS.out _ rfl
      case round =>
        clear HS d0 d1 d2 n0 n1 n2
        obtain ⟨k, x, y, z, rfl, hk, hm, hb0, hb1, hbel⟩ := hrel
        have HM := Lib.hid hm; clear hm
        have hsz := hb1.lt
        have e0 := hb0.cell 0
        have e1 := hb0.cell 1
        have e2 := hb0.cell 2
        have ef := hb0.frozen
        have f0 := hb1.cell 0
        have f1 := hb1.cell 1
        have f2 := hb1.cell 2
        have ff := hb1.frozen
        simp at e0 e1 e2 f0 f1 f2
        by_cases hlt : k + 1 < cs.length
        · obtain ⟨c0, c1, c2⟩ := cells3_at (cs := cs) (k := k + 1) hlt
          have d0 := HC.out _ _ c0
          have d1 := HC.out _ _ c1
          have d2 := HC.out _ _ c2
          rw [← hbel.cell (by simp; omega)] at d0 d1 d2
          rw [show o + 3 * (k + 1) = o + 3 + k * 3 by omega] at d0
          rw [show o + (3 * (k + 1) + 1) = o + 3 + k * 3 + 1 by omega] at d1
          rw [show o + (3 * (k + 1) + 2) = o + 3 + k * 3 + 2 by omega] at d2
          have hms := merge_step hlt
          obtain ⟨u, v, r, ht⟩ : ∃ x y z, (x, y, z) = cs[k + 1]?.getD (0, 0, 0) := ⟨_, _, _, rfl⟩
          rw [← ht] at d0 d1 d2 hms
          rw [← HM.out] at hms
          have HMS := Lib.hid (merge_round hlt hms hb0 hb1 hbel)
          clear c0 c1 c2 ht hms hb0 hb1
          have hk1 : (k : Int) < ((cs.length - 1 : Nat) : Int) := by omega
          have i0 : ∀ w, (Instr.index 23 (.agg #[.int .i64 u, .int .i64 v, .int .i64 r]) (.int .i64 0)).run Try.prog w = .ok (.int .i64 u) w := fun _ => by kernel_rfl
          have i1 : ∀ w, (Instr.index 23 (.agg #[.int .i64 u, .int .i64 v, .int .i64 r]) (.int .i64 1)).run Try.prog w = .ok (.int .i64 v) w := fun _ => by kernel_rfl
          have i2 : ∀ w, (Instr.index 23 (.agg #[.int .i64 u, .int .i64 v, .int .i64 r]) (.int .i64 2)).run Try.prog w = .ok (.int .i64 r) w := fun _ => by kernel_rfl
          have n3 : wr.heap.size ≠ w.heap.size + 1 := by omega
          have n4 : wr.heap.size ≠ w.heap.size := by omega
          go_wp2
          go_rounds 4
          all_goals exact ⟨HMS.out _ _ _ (by omega) (by omega) (by omega) _, by simp [intOf]; omega⟩
        · have hkk : k + 1 = cs.length := by omega
          have R : (Value.agg #[.int .i64 x, .int .i64 y, .int .i64 z]) = .agg #[.int .i64 (mergeL cs).1, .int .i64 (mergeL cs).2.1, .int .i64 (mergeL cs).2.2] := by
            have h := HM.out
            rw [hkk, List.take_length] at h
            rw [← h]
          have HR := Lib.hid R; clear R HM
          have hk1 : ¬ (k : Int) < ((cs.length - 1 : Nat) : Int) := by omega
          have HB := Lib.hid hbel
          clear hkk hb0 hb1
          go_wp2
          refine bodyPost_ret (v := .agg #[.int .i64 x, .int .i64 y, .int .i64 z]) (by simp [results, Try.results25, go_sem, *]) rfl ⟨by rw [HR.out], ?_⟩
          exact (((HB.out.setCell (by simp) _).setCell (by simp) _).setCell (by simp) _)
end Go.Proofs.Ytignfhdblakcfaa

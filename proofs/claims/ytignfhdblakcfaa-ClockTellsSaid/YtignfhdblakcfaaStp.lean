/- clock.Step, packetboatref04.Step. -/
import Derived.Test.YtignfhdblakcfaaClk
import Derived.Test.YtignfhdblakcfaaBlk
namespace Go.Proofs.Ytignfhdblakcfaa
open Go.ChangeShapes Go.WideShapes Go.ChangeAt Go.RowKit
set_option linter.unusedVariables false
set_option linter.unusedSimpArgs false

/-- one more, or why not: the clock and the error's number -/
def stepL (a b c : Int) (k : Int) : (Int × Int × Int) × Int :=
  if rightB a b c = false then ((0, 0, 0), 1) else if k < 0 ∨ 2 < k then ((0, 0, 0), 9)
  else if k = 0 then (if a = 4611686018427387903 then ((0, 0, 0), 10) else ((a + 1, b, c), 0))
  else if k = 1 then (if b = 4611686018427387903 then ((0, 0, 0), 10) else ((a, b + 1, c), 0))
  else (if c = 4611686018427387903 then ((0, 0, 0), 10) else ((a, b, c + 1), 0))
def StepPost (w : World) (r : (Int × Int × Int) × Int) (e : Ending) (w' : World) : Prop :=
  e = .returned (.tuple #[.agg #[.int .i64 r.1.1, .int .i64 r.1.2.1, .int .i64 r.1.2.2], .int .i64 r.2]) ∧ Below w.heap.size w w'
theorem stepPost {w w' : World} {r : (Int × Int × Int) × Int} {a b c d : Int} (h : r = ((a, b, c), d)) (hb : Below w.heap.size w w') : StepPost w r (.returned (.tuple #[.agg #[.int .i64 a, .int .i64 b, .int .i64 c], .int .i64 d])) w' := by
  subst h; exact ⟨rfl, hb⟩
set_option maxRecDepth 100000 in
set_option maxHeartbeats 2000000 in
theorem Step_any (w : World) (a b c k : Int) :
    Calls Try.prog 13 #[.agg #[.int .i64 a, .int .i64 b, .int .i64 c], .int .i64 k] w (StepPost w (stepL a b c k)) := by
  have hB : Below w.heap.size w ((w.alloc (Obj.cells #[Value.int IntKind.i64 a, Value.int IntKind.i64 b, Value.int IntKind.i64 c] 23)).alloc (Obj.cells #[Value.int IntKind.i64 0, Value.int IntKind.i64 0, Value.int IntKind.i64 0] 23)) := ((Below.refl _ _).alloc (Nat.le_refl _) _).alloc (by simp) _
  have HB := Lib.hid hB; clear hB
  have HK : ∀ w1, Below ((w.alloc (Obj.cells #[Value.int IntKind.i64 a, Value.int IntKind.i64 b, Value.int IntKind.i64 c] 23)).alloc (Obj.cells #[Value.int IntKind.i64 0, Value.int IntKind.i64 0, Value.int IntKind.i64 0] 23)).heap.size ((w.alloc (Obj.cells #[Value.int IntKind.i64 a, Value.int IntKind.i64 b, Value.int IntKind.i64 c] 23)).alloc (Obj.cells #[Value.int IntKind.i64 0, Value.int IntKind.i64 0, Value.int IntKind.i64 0] 23)) w1 → Blk w1 w.heap.size 23 #[Value.int IntKind.i64 a, Value.int IntKind.i64 b, Value.int IntKind.i64 c] ∧ Blk w1 (w.heap.size + 1) 23 #[Value.int IntKind.i64 0, Value.int IntKind.i64 0, Value.int IntKind.i64 0] :=
    fun w1 hb => ⟨((Blk.new w _ _).alloc _).below hb (by simp; omega), (Blk.new' _ _ _ (by simp)).below hb (by simp)⟩
  have HKK := Lib.hid HK; clear HK
  cases hr : rightB a b c
  · have HR := Lib.hid (show stepL a b c k = ((0, 0, 0), 1) by rw [stepL, if_pos hr])
    go_enter Try.func13, Try.ntmps13
    go_wp2_with fail
    refine (Right_any _ _ _ _).mono ?_
    rintro e w1 ⟨rfl, hb1⟩
    obtain ⟨q0, q1, q2, qf⟩ := (HKK.out _ hb1).1.three
    obtain ⟨r0, r1, r2, rf⟩ := (HKK.out _ hb1).2.three
    have hsz : w.heap.size + 1 < w1.heap.size := by have := hb1.size; simp at this; omega
    rw [hr]
    go_wp2
    refine bodyPost_ret (v := .tuple #[.agg #[.int .i64 0, .int .i64 0, .int .i64 0], .int .i64 1]) (by simp [results, Try.results13, go_sem, *]) rfl (stepPost HR.out ?_)
    have hb2 := HB.out.trans (hb1.mono HB.out.size)
    have hsz2 := hb2.size
    exact ((hb2.setCell (by simp) _).setCell (by simp) _).setCell (by simp) _
  · obtain ⟨⟨a0, a1⟩, ⟨b0, b1⟩, ⟨c0, c1⟩⟩ := right_le hr
    by_cases hk : k < 0 ∨ 2 < k
    · have HR := Lib.hid (show stepL a b c k = ((0, 0, 0), 9) by rw [stepL, if_neg (by simp [hr]), if_pos hk])
      rcases hk with hk | hk
      all_goals
        go_enter Try.func13, Try.ntmps13
        go_wp2_with fail
        refine (Right_any _ _ _ _).mono ?_
        rintro e w1 ⟨rfl, hb1⟩
        obtain ⟨q0, q1, q2, qf⟩ := (HKK.out _ hb1).1.three
        obtain ⟨r0, r1, r2, rf⟩ := (HKK.out _ hb1).2.three
        have hsz : w.heap.size + 1 < w1.heap.size := by have := hb1.size; simp at this; omega
        rw [hr]
        go_wp2
        refine bodyPost_ret (v := .tuple #[.agg #[.int .i64 0, .int .i64 0, .int .i64 0], .int .i64 9]) (by simp [results, Try.results13, go_sem, *]) rfl (stepPost HR.out ?_)
        have hb2 := HB.out.trans (hb1.mono HB.out.size)
        have hsz2 := hb2.size
        exact ((hb2.setCell (by simp) _).setCell (by simp) _).setCell (by simp) _
    · have hk' : k = 0 ∨ k = 1 ∨ k = 2 := by omega
      rcases hk' with rfl | rfl | rfl
      · by_cases ho : a = 4611686018427387903
        · have HR := Lib.hid (show stepL a b c 0 = ((0, 0, 0), 10) by rw [stepL, if_neg (by simp [hr]), if_neg (by omega), if_pos rfl, if_pos ho])
          have ho' : (a == 4611686018427387903) = true := by simp [ho]
          have HO := Lib.hid ho; clear ho
          go_enter Try.func13, Try.ntmps13
          go_wp2_with fail
          refine (Right_any _ _ _ _).mono ?_
          rintro e w1 ⟨rfl, hb1⟩
          obtain ⟨q0, q1, q2, qf⟩ := (HKK.out _ hb1).1.three
          obtain ⟨r0, r1, r2, rf⟩ := (HKK.out _ hb1).2.three
          have hsz : w.heap.size + 1 < w1.heap.size := by have := hb1.size; simp at this; omega
          rw [hr]
          go_wp2
          refine bodyPost_ret (v := .tuple #[.agg #[.int .i64 0, .int .i64 0, .int .i64 0], .int .i64 10]) (by simp [results, Try.results13, go_sem, *]) rfl (stepPost HR.out ?_)
          have hb2 := HB.out.trans (hb1.mono HB.out.size)
          have hsz2 := hb2.size
          exact ((hb2.setCell (by simp) _).setCell (by simp) _).setCell (by simp) _
        · have HR := Lib.hid (show stepL a b c 0 = ((a + 1, b, c), 0) by rw [stepL, if_neg (by simp [hr]), if_neg (by omega), if_pos rfl, if_neg ho])
          have ho' : (a == 4611686018427387903) = false := by simp [ho]
          have v2 : a < 4611686018427387903 := by omega
          go_enter Try.func13, Try.ntmps13
          go_wp2_with fail
          refine (Right_any _ _ _ _).mono ?_
          rintro e w1 ⟨rfl, hb1⟩
          obtain ⟨q0, q1, q2, qf⟩ := (HKK.out _ hb1).1.three
          obtain ⟨r0, r1, r2, rf⟩ := (HKK.out _ hb1).2.three
          have hsz : w.heap.size + 1 < w1.heap.size := by have := hb1.size; simp at this; omega
          rw [hr]
          go_wp2
          refine bodyPost_ret (v := .tuple #[.agg #[.int .i64 (a + 1), .int .i64 b, .int .i64 c], .int .i64 0]) (by simp [results, Try.results13, go_sem, *]) rfl (stepPost HR.out ?_)
          have hb2 := HB.out.trans (hb1.mono HB.out.size)
          have hsz2 := hb2.size
          exact (((hb2.setCell (by simp) _).setCell (by simp) _).setCell (by simp) _).setCell (by simp) _
      · by_cases ho : b = 4611686018427387903
        · have HR := Lib.hid (show stepL a b c 1 = ((0, 0, 0), 10) by rw [stepL, if_neg (by simp [hr]), if_neg (by omega), if_neg (by omega), if_pos rfl, if_pos ho])
          have ho' : (b == 4611686018427387903) = true := by simp [ho]
          have HO := Lib.hid ho; clear ho
          go_enter Try.func13, Try.ntmps13
          go_wp2_with fail
          refine (Right_any _ _ _ _).mono ?_
          rintro e w1 ⟨rfl, hb1⟩
          obtain ⟨q0, q1, q2, qf⟩ := (HKK.out _ hb1).1.three
          obtain ⟨r0, r1, r2, rf⟩ := (HKK.out _ hb1).2.three
          have hsz : w.heap.size + 1 < w1.heap.size := by have := hb1.size; simp at this; omega
          rw [hr]
          go_wp2
          refine bodyPost_ret (v := .tuple #[.agg #[.int .i64 0, .int .i64 0, .int .i64 0], .int .i64 10]) (by simp [results, Try.results13, go_sem, *]) rfl (stepPost HR.out ?_)
          have hb2 := HB.out.trans (hb1.mono HB.out.size)
          have hsz2 := hb2.size
          exact ((hb2.setCell (by simp) _).setCell (by simp) _).setCell (by simp) _
        · have HR := Lib.hid (show stepL a b c 1 = ((a, b + 1, c), 0) by rw [stepL, if_neg (by simp [hr]), if_neg (by omega), if_neg (by omega), if_pos rfl, if_neg ho])
          have ho' : (b == 4611686018427387903) = false := by simp [ho]
          have v2 : b < 4611686018427387903 := by omega
          go_enter Try.func13, Try.ntmps13
          go_wp2_with fail
          refine (Right_any _ _ _ _).mono ?_
          rintro e w1 ⟨rfl, hb1⟩
          obtain ⟨q0, q1, q2, qf⟩ := (HKK.out _ hb1).1.three
          obtain ⟨r0, r1, r2, rf⟩ := (HKK.out _ hb1).2.three
          have hsz : w.heap.size + 1 < w1.heap.size := by have := hb1.size; simp at this; omega
          rw [hr]
          go_wp2
          refine bodyPost_ret (v := .tuple #[.agg #[.int .i64 a, .int .i64 (b + 1), .int .i64 c], .int .i64 0]) (by simp [results, Try.results13, go_sem, *]) rfl (stepPost HR.out ?_)
          have hb2 := HB.out.trans (hb1.mono HB.out.size)
          have hsz2 := hb2.size
          exact (((hb2.setCell (by simp) _).setCell (by simp) _).setCell (by simp) _).setCell (by simp) _
      · by_cases ho : c = 4611686018427387903
        · have HR := Lib.hid (show stepL a b c 2 = ((0, 0, 0), 10) by rw [stepL, if_neg (by simp [hr]), if_neg (by omega), if_neg (by omega), if_neg (by omega), if_pos ho])
          have ho' : (c == 4611686018427387903) = true := by simp [ho]
          have HO := Lib.hid ho; clear ho
          go_enter Try.func13, Try.ntmps13
          go_wp2_with fail
          refine (Right_any _ _ _ _).mono ?_
          rintro e w1 ⟨rfl, hb1⟩
          obtain ⟨q0, q1, q2, qf⟩ := (HKK.out _ hb1).1.three
          obtain ⟨r0, r1, r2, rf⟩ := (HKK.out _ hb1).2.three
          have hsz : w.heap.size + 1 < w1.heap.size := by have := hb1.size; simp at this; omega
          rw [hr]
          go_wp2
          refine bodyPost_ret (v := .tuple #[.agg #[.int .i64 0, .int .i64 0, .int .i64 0], .int .i64 10]) (by simp [results, Try.results13, go_sem, *]) rfl (stepPost HR.out ?_)
          have hb2 := HB.out.trans (hb1.mono HB.out.size)
          have hsz2 := hb2.size
          exact ((hb2.setCell (by simp) _).setCell (by simp) _).setCell (by simp) _
        · have HR := Lib.hid (show stepL a b c 2 = ((a, b, c + 1), 0) by rw [stepL, if_neg (by simp [hr]), if_neg (by omega), if_neg (by omega), if_neg (by omega), if_neg ho])
          have ho' : (c == 4611686018427387903) = false := by simp [ho]
          have v2 : c < 4611686018427387903 := by omega
          go_enter Try.func13, Try.ntmps13
          go_wp2_with fail
          refine (Right_any _ _ _ _).mono ?_
          rintro e w1 ⟨rfl, hb1⟩
          obtain ⟨q0, q1, q2, qf⟩ := (HKK.out _ hb1).1.three
          obtain ⟨r0, r1, r2, rf⟩ := (HKK.out _ hb1).2.three
          have hsz : w.heap.size + 1 < w1.heap.size := by have := hb1.size; simp at this; omega
          rw [hr]
          go_wp2
          refine bodyPost_ret (v := .tuple #[.agg #[.int .i64 a, .int .i64 b, .int .i64 (c + 1)], .int .i64 0]) (by simp [results, Try.results13, go_sem, *]) rfl (stepPost HR.out ?_)
          have hb2 := HB.out.trans (hb1.mono HB.out.size)
          have hsz2 := hb2.size
          exact (((hb2.setCell (by simp) _).setCell (by simp) _).setCell (by simp) _).setCell (by simp) _
set_option maxRecDepth 100000 in
set_option maxHeartbeats 2000000 in
theorem RStep_any (w : World) (a b c k : Int) :
    Calls Try.prog 14 #[.agg #[.int .i64 a, .int .i64 b, .int .i64 c], .int .i64 k] w (StepPost w (stepL a b c k)) := by
  have hB : Below w.heap.size w ((w.alloc (Obj.cells #[Value.int IntKind.i64 a, Value.int IntKind.i64 b, Value.int IntKind.i64 c] 23)).alloc (Obj.cells #[Value.int IntKind.i64 0, Value.int IntKind.i64 0, Value.int IntKind.i64 0] 23)) := ((Below.refl _ _).alloc (Nat.le_refl _) _).alloc (by simp) _
  have HB := Lib.hid hB; clear hB
  have HK : ∀ w1, Below ((w.alloc (Obj.cells #[Value.int IntKind.i64 a, Value.int IntKind.i64 b, Value.int IntKind.i64 c] 23)).alloc (Obj.cells #[Value.int IntKind.i64 0, Value.int IntKind.i64 0, Value.int IntKind.i64 0] 23)).heap.size ((w.alloc (Obj.cells #[Value.int IntKind.i64 a, Value.int IntKind.i64 b, Value.int IntKind.i64 c] 23)).alloc (Obj.cells #[Value.int IntKind.i64 0, Value.int IntKind.i64 0, Value.int IntKind.i64 0] 23)) w1 → Blk w1 w.heap.size 23 #[Value.int IntKind.i64 a, Value.int IntKind.i64 b, Value.int IntKind.i64 c] ∧ Blk w1 (w.heap.size + 1) 23 #[Value.int IntKind.i64 0, Value.int IntKind.i64 0, Value.int IntKind.i64 0] :=
    fun w1 hb => ⟨((Blk.new w _ _).alloc _).below hb (by simp; omega), (Blk.new' _ _ _ (by simp)).below hb (by simp)⟩
  have HKK := Lib.hid HK; clear HK
  cases hr : rightB a b c
  · have HR := Lib.hid (show stepL a b c k = ((0, 0, 0), 1) by rw [stepL, if_pos hr])
    go_enter Try.func14, Try.ntmps14
    go_wp2_with fail
    refine (RRight_any _ _ _ _).mono ?_
    rintro e w1 ⟨rfl, hb1⟩
    obtain ⟨q0, q1, q2, qf⟩ := (HKK.out _ hb1).1.three
    obtain ⟨r0, r1, r2, rf⟩ := (HKK.out _ hb1).2.three
    have hsz : w.heap.size + 1 < w1.heap.size := by have := hb1.size; simp at this; omega
    rw [hr]
    have n3 : w1.heap.size ≠ w.heap.size := by omega
    have n4 : w1.heap.size ≠ w.heap.size + 1 := by omega
    go_wp2
    refine bodyPost_ret (v := .tuple #[.agg #[.int .i64 0, .int .i64 0, .int .i64 0], .int .i64 1]) (by simp [results, Try.results14, go_sem, *]) rfl (stepPost HR.out ?_)
    have hb2 := HB.out.trans (hb1.mono HB.out.size)
    have hsz2 := hb2.size
    exact ((hb2.setCell (by simp) _).setCell (by simp) _).setCell (by simp) _
  · obtain ⟨⟨a0, a1⟩, ⟨b0, b1⟩, ⟨c0, c1⟩⟩ := right_le hr
    by_cases hk : k < 0 ∨ 2 < k
    · have HR := Lib.hid (show stepL a b c k = ((0, 0, 0), 9) by rw [stepL, if_neg (by simp [hr]), if_pos hk])
      rcases hk with hk | hk
      all_goals
        go_enter Try.func14, Try.ntmps14
        go_wp2_with fail
        refine (RRight_any _ _ _ _).mono ?_
        rintro e w1 ⟨rfl, hb1⟩
        obtain ⟨q0, q1, q2, qf⟩ := (HKK.out _ hb1).1.three
        obtain ⟨r0, r1, r2, rf⟩ := (HKK.out _ hb1).2.three
        have hsz : w.heap.size + 1 < w1.heap.size := by have := hb1.size; simp at this; omega
        rw [hr]
        have n3 : w1.heap.size ≠ w.heap.size := by omega
        have n4 : w1.heap.size ≠ w.heap.size + 1 := by omega
        go_wp2
        refine bodyPost_ret (v := .tuple #[.agg #[.int .i64 0, .int .i64 0, .int .i64 0], .int .i64 9]) (by simp [results, Try.results14, go_sem, *]) rfl (stepPost HR.out ?_)
        have hb2 := HB.out.trans (hb1.mono HB.out.size)
        have hsz2 := hb2.size
        exact ((hb2.setCell (by simp) _).setCell (by simp) _).setCell (by simp) _
    · have hk' : k = 0 ∨ k = 1 ∨ k = 2 := by omega
      rcases hk' with rfl | rfl | rfl
      · by_cases ho : a = 4611686018427387903
        · have HR := Lib.hid (show stepL a b c 0 = ((0, 0, 0), 10) by rw [stepL, if_neg (by simp [hr]), if_neg (by omega), if_pos rfl, if_pos ho])
          have ho' : (a == 4611686018427387903) = true := by simp [ho]
          have HO := Lib.hid ho; clear ho
          go_enter Try.func14, Try.ntmps14
          go_wp2_with fail
          refine (RRight_any _ _ _ _).mono ?_
          rintro e w1 ⟨rfl, hb1⟩
          obtain ⟨q0, q1, q2, qf⟩ := (HKK.out _ hb1).1.three
          obtain ⟨r0, r1, r2, rf⟩ := (HKK.out _ hb1).2.three
          have hsz : w.heap.size + 1 < w1.heap.size := by have := hb1.size; simp at this; omega
          rw [hr]
          have n3 : w1.heap.size ≠ w.heap.size := by omega
          have n4 : w1.heap.size ≠ w.heap.size + 1 := by omega
          go_wp2
          refine bodyPost_ret (v := .tuple #[.agg #[.int .i64 0, .int .i64 0, .int .i64 0], .int .i64 10]) (by simp [results, Try.results14, go_sem, *]) rfl (stepPost HR.out ?_)
          have hb2 := HB.out.trans (hb1.mono HB.out.size)
          have hsz2 := hb2.size
          exact ((hb2.setCell (by simp) _).setCell (by simp) _).setCell (by simp) _
        · have HR := Lib.hid (show stepL a b c 0 = ((a + 1, b, c), 0) by rw [stepL, if_neg (by simp [hr]), if_neg (by omega), if_pos rfl, if_neg ho])
          have ho' : (a == 4611686018427387903) = false := by simp [ho]
          have v2 : a < 4611686018427387903 := by omega
          go_enter Try.func14, Try.ntmps14
          go_wp2_with fail
          refine (RRight_any _ _ _ _).mono ?_
          rintro e w1 ⟨rfl, hb1⟩
          obtain ⟨q0, q1, q2, qf⟩ := (HKK.out _ hb1).1.three
          obtain ⟨r0, r1, r2, rf⟩ := (HKK.out _ hb1).2.three
          have hsz : w.heap.size + 1 < w1.heap.size := by have := hb1.size; simp at this; omega
          rw [hr]
          have n3 : w1.heap.size ≠ w.heap.size := by omega
          have n4 : w1.heap.size ≠ w.heap.size + 1 := by omega
          go_wp2
          refine bodyPost_ret (v := .tuple #[.agg #[.int .i64 (a + 1), .int .i64 b, .int .i64 c], .int .i64 0]) (by simp [results, Try.results14, go_sem, *]) rfl (stepPost HR.out ?_)
          have hb2 := HB.out.trans (hb1.mono HB.out.size)
          have hsz2 := hb2.size
          exact ((((hb2.setCell (by simp) _).setCell (by simp) _).setCell (by simp) _).alloc (by simp; omega) _)
      · by_cases ho : b = 4611686018427387903
        · have HR := Lib.hid (show stepL a b c 1 = ((0, 0, 0), 10) by rw [stepL, if_neg (by simp [hr]), if_neg (by omega), if_neg (by omega), if_pos rfl, if_pos ho])
          have ho' : (b == 4611686018427387903) = true := by simp [ho]
          have HO := Lib.hid ho; clear ho
          go_enter Try.func14, Try.ntmps14
          go_wp2_with fail
          refine (RRight_any _ _ _ _).mono ?_
          rintro e w1 ⟨rfl, hb1⟩
          obtain ⟨q0, q1, q2, qf⟩ := (HKK.out _ hb1).1.three
          obtain ⟨r0, r1, r2, rf⟩ := (HKK.out _ hb1).2.three
          have hsz : w.heap.size + 1 < w1.heap.size := by have := hb1.size; simp at this; omega
          rw [hr]
          have n3 : w1.heap.size ≠ w.heap.size := by omega
          have n4 : w1.heap.size ≠ w.heap.size + 1 := by omega
          go_wp2
          refine bodyPost_ret (v := .tuple #[.agg #[.int .i64 0, .int .i64 0, .int .i64 0], .int .i64 10]) (by simp [results, Try.results14, go_sem, *]) rfl (stepPost HR.out ?_)
          have hb2 := HB.out.trans (hb1.mono HB.out.size)
          have hsz2 := hb2.size
          exact ((hb2.setCell (by simp) _).setCell (by simp) _).setCell (by simp) _
        · have HR := Lib.hid (show stepL a b c 1 = ((a, b + 1, c), 0) by rw [stepL, if_neg (by simp [hr]), if_neg (by omega), if_neg (by omega), if_pos rfl, if_neg ho])
          have ho' : (b == 4611686018427387903) = false := by simp [ho]
          have v2 : b < 4611686018427387903 := by omega
          go_enter Try.func14, Try.ntmps14
          go_wp2_with fail
          refine (RRight_any _ _ _ _).mono ?_
          rintro e w1 ⟨rfl, hb1⟩
          obtain ⟨q0, q1, q2, qf⟩ := (HKK.out _ hb1).1.three
          obtain ⟨r0, r1, r2, rf⟩ := (HKK.out _ hb1).2.three
          have hsz : w.heap.size + 1 < w1.heap.size := by have := hb1.size; simp at this; omega
          rw [hr]
          have n3 : w1.heap.size ≠ w.heap.size := by omega
          have n4 : w1.heap.size ≠ w.heap.size + 1 := by omega
          go_wp2
          refine bodyPost_ret (v := .tuple #[.agg #[.int .i64 a, .int .i64 (b + 1), .int .i64 c], .int .i64 0]) (by simp [results, Try.results14, go_sem, *]) rfl (stepPost HR.out ?_)
          have hb2 := HB.out.trans (hb1.mono HB.out.size)
          have hsz2 := hb2.size
          exact ((((hb2.setCell (by simp) _).setCell (by simp) _).setCell (by simp) _).alloc (by simp; omega) _)
      · by_cases ho : c = 4611686018427387903
        · have HR := Lib.hid (show stepL a b c 2 = ((0, 0, 0), 10) by rw [stepL, if_neg (by simp [hr]), if_neg (by omega), if_neg (by omega), if_neg (by omega), if_pos ho])
          have ho' : (c == 4611686018427387903) = true := by simp [ho]
          have HO := Lib.hid ho; clear ho
          go_enter Try.func14, Try.ntmps14
          go_wp2_with fail
          refine (RRight_any _ _ _ _).mono ?_
          rintro e w1 ⟨rfl, hb1⟩
          obtain ⟨q0, q1, q2, qf⟩ := (HKK.out _ hb1).1.three
          obtain ⟨r0, r1, r2, rf⟩ := (HKK.out _ hb1).2.three
          have hsz : w.heap.size + 1 < w1.heap.size := by have := hb1.size; simp at this; omega
          rw [hr]
          have n3 : w1.heap.size ≠ w.heap.size := by omega
          have n4 : w1.heap.size ≠ w.heap.size + 1 := by omega
          go_wp2
          refine bodyPost_ret (v := .tuple #[.agg #[.int .i64 0, .int .i64 0, .int .i64 0], .int .i64 10]) (by simp [results, Try.results14, go_sem, *]) rfl (stepPost HR.out ?_)
          have hb2 := HB.out.trans (hb1.mono HB.out.size)
          have hsz2 := hb2.size
          exact ((hb2.setCell (by simp) _).setCell (by simp) _).setCell (by simp) _
        · have HR := Lib.hid (show stepL a b c 2 = ((a, b, c + 1), 0) by rw [stepL, if_neg (by simp [hr]), if_neg (by omega), if_neg (by omega), if_neg (by omega), if_neg ho])
          have ho' : (c == 4611686018427387903) = false := by simp [ho]
          have v2 : c < 4611686018427387903 := by omega
          go_enter Try.func14, Try.ntmps14
          go_wp2_with fail
          refine (RRight_any _ _ _ _).mono ?_
          rintro e w1 ⟨rfl, hb1⟩
          obtain ⟨q0, q1, q2, qf⟩ := (HKK.out _ hb1).1.three
          obtain ⟨r0, r1, r2, rf⟩ := (HKK.out _ hb1).2.three
          have hsz : w.heap.size + 1 < w1.heap.size := by have := hb1.size; simp at this; omega
          rw [hr]
          have n3 : w1.heap.size ≠ w.heap.size := by omega
          have n4 : w1.heap.size ≠ w.heap.size + 1 := by omega
          go_wp2
          refine bodyPost_ret (v := .tuple #[.agg #[.int .i64 a, .int .i64 b, .int .i64 (c + 1)], .int .i64 0]) (by simp [results, Try.results14, go_sem, *]) rfl (stepPost HR.out ?_)
          have hb2 := HB.out.trans (hb1.mono HB.out.size)
          have hsz2 := hb2.size
          exact ((((hb2.setCell (by simp) _).setCell (by simp) _).setCell (by simp) _).alloc (by simp; omega) _)
end Go.Proofs.Ytignfhdblakcfaa

/- clock.Put: a clock's bytes behind another one. -/
import Derived.Test.YtgjkeccopjgjlaaClk
import Derived.Test.YtgjkeccopjgjlaaMrg
import Derived.Test.YtgjkeccopjgjlaaBlk
import Derived.Test.YtgjkeccopjgjlaaAt
namespace Go.Proofs.Ytgjkeccopjgjlaa
open Go.ChangeShapes Go.WideShapes Go.ChangeAt Go.RowKit
set_option linter.unusedVariables false
set_option linter.unusedSimpArgs false

def put1 (p c : Int) : List Nat := Vm.enc (Vm.zig (c - p))
def putC (p c : Tri) : List Nat := put1 p.1 c.1 ++ put1 p.2.1 c.2.1 ++ put1 p.2.2 c.2.2
theorem put1_byte {p c : Int} (h0 : 0 ≤ p) (h1 : p ≤ 4611686018427387903) (h2 : 0 ≤ c) (h3 : c ≤ 4611686018427387903) : ∀ b ∈ put1 p c, b < 256 :=
  Vm.enc_byte (Vm.zig_lt (by omega) (by omega))
theorem put1_le (p c : Int) : (put1 p c).length ≤ 10 := Vm.enc_le _
def CputPost (w : World) (p c : Tri) (e : Ending) (w' : World) : Prop :=
  Below w.heap.size w w' ∧
  if rightB p.1 p.2.1 p.2.2 = true ∧ rightB c.1 c.2.1 c.2.2 = true then ∃ v, e = .returned (.tuple #[v, .int .i64 0]) ∧ Made w' v (putC p c) (putC p c).length
  else e = .returned (.tuple #[.slice none 0 0, .int .i64 1])
theorem cputPost_no {w w' : World} {p c : Tri} (h : ¬ (rightB p.1 p.2.1 p.2.2 = true ∧ rightB c.1 c.2.1 c.2.2 = true)) (hb : Below w.heap.size w w') : CputPost w p c (.returned (.tuple #[.slice none 0 0, .int .i64 1])) w' :=
  ⟨hb, by rw [if_neg h]⟩
theorem cput_end {w w' : World} {base : Nat} {v : Value} {p0 p1 p2 c0 c1 c2 : Int} {n : Nat} (hp : rightB p0 p1 p2 = true) (hc : rightB c0 c1 c2 = true)
    (ho : w'.ownsRow base 5 1 v n (u8s (put1 p0 c0) ++ u8s (put1 p1 c1) ++ u8s (put1 p2 c2))) (hb : Below w.heap.size w w') : CputPost w (p0, p1, p2) (c0, c1, c2) (.returned (.tuple #[v, .int .i64 0])) w' := by
  refine ⟨hb, ?_⟩
  rw [if_pos ⟨hp, hc⟩]
  obtain ⟨⟨_, _⟩, ⟨_, _⟩, ⟨_, _⟩⟩ := right_le hp
  obtain ⟨⟨_, _⟩, ⟨_, _⟩, ⟨_, _⟩⟩ := right_le hc
  rw [← u8s_append, ← u8s_append] at ho
  refine ⟨v, rfl, made_of_own ho rfl ?_⟩
  intro b hb
  simp only [putC, List.mem_append] at hb
  rcases hb with (hb | hb) | hb
  · exact put1_byte ‹_› ‹_› ‹_› ‹_› b hb
  · exact put1_byte ‹_› ‹_› ‹_› ‹_› b hb
  · exact put1_byte ‹_› ‹_› ‹_› ‹_› b hb

set_option maxRecDepth 100000 in
set_option maxHeartbeats 2000000 in
theorem Cput_any (w : World) (p0 p1 p2 c0 c1 c2 : Int) :
    Calls Try.prog 47 #[.agg #[.int .i64 p0, .int .i64 p1, .int .i64 p2], .agg #[.int .i64 c0, .int .i64 c1, .int .i64 c2]] w (CputPost w (p0, p1, p2) (c0, c1, c2)) := by
  have hB : Below w.heap.size w ((w.alloc (Obj.cells #[.int .i64 p0, .int .i64 p1, .int .i64 p2] 29)).alloc (Obj.cells #[.int .i64 c0, .int .i64 c1, .int .i64 c2] 29)) := ((Below.refl _ _).alloc (Nat.le_refl _) _).alloc (by simp) _
  have HB := Lib.hid hB; clear hB
  have HK : ∀ w1, Below ((w.alloc (Obj.cells #[.int .i64 p0, .int .i64 p1, .int .i64 p2] 29)).alloc (Obj.cells #[.int .i64 c0, .int .i64 c1, .int .i64 c2] 29)).heap.size ((w.alloc (Obj.cells #[.int .i64 p0, .int .i64 p1, .int .i64 p2] 29)).alloc (Obj.cells #[.int .i64 c0, .int .i64 c1, .int .i64 c2] 29)) w1 → Blk w1 w.heap.size 29 #[.int .i64 p0, .int .i64 p1, .int .i64 p2] ∧ Blk w1 (w.heap.size + 1) 29 #[.int .i64 c0, .int .i64 c1, .int .i64 c2] :=
    fun w1 hb => ⟨((Blk.new w _ _).alloc _).below hb (by simp; omega), (Blk.new' _ _ _ (by simp)).below hb (by simp)⟩
  have HKK := Lib.hid HK; clear HK
  cases hp : rightB p0 p1 p2
  · have HR : ∀ w', Below w.heap.size w w' → CputPost w (p0, p1, p2) (c0, c1, c2) (.returned (.tuple #[.slice none 0 0, .int .i64 1])) w' := fun w' hb => cputPost_no (by simp [hp]) hb
    have HRR := Lib.hid HR; clear HR
    go_enter Try.func47, Try.ntmps47
    go_wp2_with fail
    refine (Right_any _ _ _ _).mono ?_
    rintro e w1 ⟨rfl, hb1⟩
    rw [hp]
    go_wp2
    go_ret2
    exact HRR.out _ (HB.out.trans (hb1.mono HB.out.size))
  · cases hc : rightB c0 c1 c2
    · have HR : ∀ w', Below w.heap.size w w' → CputPost w (p0, p1, p2) (c0, c1, c2) (.returned (.tuple #[.slice none 0 0, .int .i64 1])) w' := fun w' hb => cputPost_no (by simp [hc]) hb
      have HRR := Lib.hid HR; clear HR
      go_enter Try.func47, Try.ntmps47
      go_wp2_with fail
      refine (Right_any _ _ _ _).mono ?_
      rintro e w1 ⟨rfl, hb1⟩
      obtain ⟨r0, r1, r2, rf⟩ := (HKK.out _ hb1).2.three
      rw [hp]
      go_wp2_with fail
      refine (Right_any _ _ _ _).mono ?_
      rintro e w2 ⟨rfl, hb2⟩
      rw [hc]
      go_wp2
      go_ret2
      exact HRR.out _ ((HB.out.trans (hb1.mono HB.out.size)).trans (hb2.mono (Nat.le_trans HB.out.size hb1.size)))
    · obtain ⟨⟨pa0, pa1⟩, ⟨pb0, pb1⟩, ⟨pc0, pc1⟩⟩ := right_le hp
      obtain ⟨⟨ca0, ca1⟩, ⟨cb0, cb1⟩, ⟨cc0, cc1⟩⟩ := right_le hc
      obtain ⟨i0, hi, hz0, hz1, hz2⟩ := info_parts Try.infoB
      have j0 : ∀ w, (Instr.index 29 (.agg #[.int .i64 c0, .int .i64 c1, .int .i64 c2]) (.int .i64 0)).run Try.prog w = .ok (.int .i64 c0) w := fun _ => by kernel_rfl
      have j1 : ∀ w, (Instr.index 29 (.agg #[.int .i64 c0, .int .i64 c1, .int .i64 c2]) (.int .i64 1)).run Try.prog w = .ok (.int .i64 c1) w := fun _ => by kernel_rfl
      have j2 : ∀ w, (Instr.index 29 (.agg #[.int .i64 c0, .int .i64 c1, .int .i64 c2]) (.int .i64 2)).run Try.prog w = .ok (.int .i64 c2) w := fun _ => by kernel_rfl
      have HE := Lib.hid (fun (w' : World) (base n : Nat) (v : Value) => cput_end (w := w) (w' := w') (base := base) (n := n) (v := v) hp hc)
      have L0 := put1_le p0 c0
      have L1 := put1_le p1 c1
      have L2 := put1_le p2 c2
      go_enter Try.func47, Try.ntmps47
      go_wp2_with fail
      refine (Right_any _ _ _ _).mono ?_
      rintro e w1 ⟨rfl, hb1⟩
      obtain ⟨r0, r1, r2, rf⟩ := (HKK.out _ hb1).2.three
      rw [hp]
      go_wp2_with fail
      refine (Right_any _ _ _ _).mono ?_
      rintro e w2 ⟨rfl, hb2⟩
      rw [hc]
      have hb02 := hb1.trans (hb2.mono hb1.size)
      have HB2 := Lib.hid (HB.out.trans (hb02.mono HB.out.size))
      have hk1 := (HKK.out _ hb02).1
      have hk2 := (HKK.out _ hb02).2
      have s2 := hk2.lt
      clear r0 r1 r2 rf HB HKK hb1 hb2 hb02
      obtain ⟨r0, r1, r2, rf⟩ := hk2.three
      obtain ⟨q0, q1, q2, qf⟩ := hk1.three
      go_wp2
      refine wp_loop_rounds 4 ?_
      rw [rounds_succ]
      clear r0 r1 r2 rf
      go_wp2_with fail
      refine (PutS_at _ (c0 - p0) (put1 p0 c0) _ (by omega) (by omega) rfl rfl).mono ?_
      rintro e w3 ⟨v, rfl, ⟨A3, k3, rfl, hr3, _, hl3, hm3, _, hn3⟩, hb3⟩
      have ho3 : w3.ownsRow w2.heap.size 5 1 (.slice none 0 0) 0 [] := World.ownsRow_nil _ _ _ _
      have hbb3 := hb3
      go_wp2_with (at_builtin; refine app_own rfl _ _ 39 rfl w2.heap.size 5 i0 (.int .u8 0) 1 Try.underlying39 hi hz0 hz1 hz2 rfl (.slice none 0 0) _ _ rfl ho3 _ A3 _ k3 _ rfl (by simp) hr3 hn3 (u8s_one _) (by unfold maxLen; omega) (by omega) hbb3.size ?_; intro v4 w4 ho4 hg4 hne4)
      have hb4 := hbb3.grown hg4 hbb3.size (fun k hk => by simp [Value.ownBlock] at hk)
      clear q0 q1 q2 qf
      obtain ⟨q0, q1, q2, qf⟩ := (hk1.below hb4 (by omega)).three
      rw [rounds_succ]
      go_wp2_with fail
      refine (PutS_at _ (c1 - p1) (put1 p1 c1) _ (by omega) (by omega) rfl rfl).mono ?_
      rintro e w5 ⟨v, rfl, ⟨A5, k5, rfl, hr5, _, hl5, hm5, _, hn5⟩, hb5⟩
      have ho5 := own_below ho4 hb5
      have hbb5 := hb4.trans (hb5.mono hb4.size)
      go_wp2_with (at_builtin; refine app_own rfl _ _ 39 rfl w2.heap.size 5 i0 (.int .u8 0) 1 Try.underlying39 hi hz0 hz1 hz2 rfl v4 _ _ rfl ho5 _ A5 _ k5 _ rfl (by simp) hr5 hn5 (u8s_one _) (by unfold maxLen; omega) (by omega) hbb5.size ?_; intro v6 w6 ho6 hg6 hne6)
      have hb6 := hbb5.grown hg6 hbb5.size (fun k hk => (ho5.lt k hk).1)
      clear q0 q1 q2 qf
      obtain ⟨q0, q1, q2, qf⟩ := (hk1.below hb6 (by omega)).three
      rw [rounds_succ]
      go_wp2_with fail
      refine (PutS_at _ (c2 - p2) (put1 p2 c2) _ (by omega) (by omega) rfl rfl).mono ?_
      rintro e w7 ⟨v, rfl, ⟨A7, k7, rfl, hr7, _, hl7, hm7, _, hn7⟩, hb7⟩
      have ho7 := own_below ho6 hb7
      have hbb7 := hb6.trans (hb7.mono hb6.size)
      go_wp2_with (at_builtin; refine app_own rfl _ _ 39 rfl w2.heap.size 5 i0 (.int .u8 0) 1 Try.underlying39 hi hz0 hz1 hz2 rfl v6 _ _ rfl ho7 _ A7 _ k7 _ rfl (by simp) hr7 hn7 (u8s_one _) (by unfold maxLen; omega) (by omega) hbb7.size ?_; intro v8 w8 ho8 hg8 hne8)
      have hb8 := hbb7.grown hg8 hbb7.size (fun k hk => (ho7.lt k hk).1)
      clear q0 q1 q2 qf
      rw [rounds_succ]
      go_wp2
      go_ret2
      exact HE.out _ _ _ _ (by simpa using ho8) (HB2.out.trans (hb8.mono HB2.out.size))
end Go.Proofs.Ytgjkeccopjgjlaa

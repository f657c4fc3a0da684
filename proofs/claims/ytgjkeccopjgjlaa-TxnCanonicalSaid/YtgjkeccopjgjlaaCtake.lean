/- clock.Take: the clock of bytes behind another one. -/
import Derived.Test.YtgjkeccopjgjlaaCput
import Derived.Test.YtgjkeccopjgjlaaSl
import Derived.Test.YtgjkeccopjgjlaaVm2
import Derived.Test.YtgjkeccopjgjlaaRef1
namespace Go.Proofs.Ytgjkeccopjgjlaa
open Go.ChangeShapes Go.WideShapes Go.ChangeAt Go.RowKit
set_option linter.unusedVariables false
set_option linter.unusedSimpArgs false

def take1 (p : Int) (bs : List Nat) : Int × Nat × Nat :=
  if (Vm.take bs).2.2 ≠ 0 then (0, 0, (Vm.take bs).2.2)
  else if Vm.zag (Vm.take bs).1 < -p ∨ 4611686018427387903 - p < Vm.zag (Vm.take bs).1 then (0, 0, 3)
  else (p + Vm.zag (Vm.take bs).1, (Vm.take bs).2.1, 0)
def takeC (p : Tri) (bs : List Nat) : Tri × Nat × Nat :=
  if rightB p.1 p.2.1 p.2.2 = false then ((0, 0, 0), 0, 1)
  else if (take1 p.1 bs).2.2 ≠ 0 then ((0, 0, 0), 0, (take1 p.1 bs).2.2)
  else if (take1 p.2.1 (bs.drop (take1 p.1 bs).2.1)).2.2 ≠ 0 then ((0, 0, 0), 0, (take1 p.2.1 (bs.drop (take1 p.1 bs).2.1)).2.2)
  else if (take1 p.2.2 (bs.drop ((take1 p.1 bs).2.1 + (take1 p.2.1 (bs.drop (take1 p.1 bs).2.1)).2.1))).2.2 ≠ 0 then ((0, 0, 0), 0, (take1 p.2.2 (bs.drop ((take1 p.1 bs).2.1 + (take1 p.2.1 (bs.drop (take1 p.1 bs).2.1)).2.1))).2.2)
  else (((take1 p.1 bs).1, (take1 p.2.1 (bs.drop (take1 p.1 bs).2.1)).1, (take1 p.2.2 (bs.drop ((take1 p.1 bs).2.1 + (take1 p.2.1 (bs.drop (take1 p.1 bs).2.1)).2.1))).1),
    (take1 p.1 bs).2.1 + (take1 p.2.1 (bs.drop (take1 p.1 bs).2.1)).2.1 + (take1 p.2.2 (bs.drop ((take1 p.1 bs).2.1 + (take1 p.2.1 (bs.drop (take1 p.1 bs).2.1)).2.1))).2.1, 0)
theorem take1_err {p : Int} {bs : List Nat} {u s d : Nat} (h : Vm.take bs = (u, s, d)) (hd : d ≠ 0) : take1 p bs = (0, 0, d) := by
  simp only [take1, h]; rw [if_pos hd]
theorem take1_out {p : Int} {bs : List Nat} {u s : Nat} (h : Vm.take bs = (u, s, 0)) (ho : Vm.zag u < -p ∨ 4611686018427387903 - p < Vm.zag u) : take1 p bs = (0, 0, 3) := by
  simp only [take1, h]; rw [if_neg (by simp), if_pos ho]
theorem take1_ok {p : Int} {bs : List Nat} {u s : Nat} (h : Vm.take bs = (u, s, 0)) (ho : ¬ (Vm.zag u < -p ∨ 4611686018427387903 - p < Vm.zag u)) : take1 p bs = (p + Vm.zag u, s, 0) := by
  simp only [take1, h]; rw [if_neg (by simp), if_neg ho]
theorem takeC_e0 {p0 p1 p2 : Int} {bs : List Nat} {d : Nat} (hr : rightB p0 p1 p2 = true) (h : take1 p0 bs = (0, 0, d)) (hd : d ≠ 0) : takeC (p0, p1, p2) bs = ((0, 0, 0), 0, d) := by
  simp only [takeC, h, hr]; rw [if_neg (by simp), if_pos hd]
theorem takeC_e1 {p0 p1 p2 n0 : Int} {bs : List Nat} {s0 d : Nat} (hr : rightB p0 p1 p2 = true) (h0 : take1 p0 bs = (n0, s0, 0)) (h : take1 p1 (bs.drop s0) = (0, 0, d)) (hd : d ≠ 0) : takeC (p0, p1, p2) bs = ((0, 0, 0), 0, d) := by
  simp only [takeC, h0, h, hr]; rw [if_neg (by simp), if_neg (by simp), if_pos hd]
theorem takeC_e2 {p0 p1 p2 n0 n1 : Int} {bs : List Nat} {s0 s1 d : Nat} (hr : rightB p0 p1 p2 = true) (h0 : take1 p0 bs = (n0, s0, 0)) (h1 : take1 p1 (bs.drop s0) = (n1, s1, 0)) (h : take1 p2 (bs.drop (s0 + s1)) = (0, 0, d)) (hd : d ≠ 0) : takeC (p0, p1, p2) bs = ((0, 0, 0), 0, d) := by
  simp only [takeC, h0, h1, h, hr]; rw [if_neg (by simp), if_neg (by simp), if_neg (by simp), if_pos hd]
theorem takeC_ok {p0 p1 p2 n0 n1 n2 : Int} {bs : List Nat} {s0 s1 s2 : Nat} (hr : rightB p0 p1 p2 = true) (h0 : take1 p0 bs = (n0, s0, 0)) (h1 : take1 p1 (bs.drop s0) = (n1, s1, 0)) (h2 : take1 p2 (bs.drop (s0 + s1)) = (n2, s2, 0)) : takeC (p0, p1, p2) bs = ((n0, n1, n2), s0 + s1 + s2, 0) := by
  simp only [takeC, h0, h1, h2, hr]; simp
def CtakePost (w : World) (r : Tri × Nat × Nat) (e : Ending) (w' : World) : Prop :=
  e = .returned (.tuple #[.agg #[.int .i64 r.1.1, .int .i64 r.1.2.1, .int .i64 r.1.2.2], .int .i64 (r.2.1 : Int), .int .i64 (r.2.2 : Int)]) ∧ Below w.heap.size w w'
theorem ctakePost {w w' : World} {r : Tri × Nat × Nat} {x y z n d : Int} {n' d' : Nat} (h : r = ((x, y, z), n', d')) (hn : n = n') (hd : d = d') (hb : Below w.heap.size w w') : CtakePost w r (.returned (.tuple #[.agg #[.int .i64 x, .int .i64 y, .int .i64 z], .int .i64 n, .int .i64 d])) w' := by
  subst h hn hd; exact ⟨rfl, hb⟩
theorem take_le {bs : List Nat} {u s : Nat} (h : Vm.take bs = (u, s, 0)) (h256 : ∀ b ∈ bs, b < 256) : 1 ≤ s ∧ s ≤ bs.length ∧ s ≤ 10 := by
  have := Vm.take_ok h h256; omega
theorem drop_byte {bs : List Nat} (h : ∀ b ∈ bs, b < 256) (k : Nat) : ∀ b ∈ bs.drop k, b < 256 := fun b hb => h b (List.mem_of_mem_drop hb)

set_option maxRecDepth 100000 in
set_option maxHeartbeats 1600000 in
theorem Ctake_any (w : World) (p0 p1 p2 : Int) (A : Option Addr) (n c : Nat) (bs : List Nat) (hr : Rd w w.heap.size A (u8s bs)) (h256 : ∀ b ∈ bs, b < 256) (hn : bs.length = n) (hc : n ≤ c) (hm : c ≤ maxLen) (hnone : A = none → c = 0) :
    Calls Try.prog 71 #[.agg #[.int .i64 p0, .int .i64 p1, .int .i64 p2], .slice A n c] w (CtakePost w (takeC (p0, p1, p2) bs)) := by
  have hB : Below w.heap.size w ((w.alloc (Obj.cells #[Value.int IntKind.i64 p0, Value.int IntKind.i64 p1, Value.int IntKind.i64 p2] 29)).alloc (Obj.cells #[Value.int IntKind.i64 0, Value.int IntKind.i64 0, Value.int IntKind.i64 0] 29)) := ((Below.refl _ _).alloc (Nat.le_refl _) _).alloc (by simp) _
  have HB := Lib.hid hB; clear hB
  have HK : ∀ w1, Below ((w.alloc (Obj.cells #[Value.int IntKind.i64 p0, Value.int IntKind.i64 p1, Value.int IntKind.i64 p2] 29)).alloc (Obj.cells #[Value.int IntKind.i64 0, Value.int IntKind.i64 0, Value.int IntKind.i64 0] 29)).heap.size ((w.alloc (Obj.cells #[Value.int IntKind.i64 p0, Value.int IntKind.i64 p1, Value.int IntKind.i64 p2] 29)).alloc (Obj.cells #[Value.int IntKind.i64 0, Value.int IntKind.i64 0, Value.int IntKind.i64 0] 29)) w1 → Blk w1 w.heap.size 29 #[Value.int IntKind.i64 p0, Value.int IntKind.i64 p1, Value.int IntKind.i64 p2] ∧ Blk w1 (w.heap.size + 1) 29 #[Value.int IntKind.i64 0, Value.int IntKind.i64 0, Value.int IntKind.i64 0] :=
    fun w1 hb => ⟨((Blk.new w _ _).alloc _).below hb (by simp; omega), (Blk.new' _ _ _ (by simp)).below hb (by simp)⟩
  have HKK := Lib.hid HK; clear HK
  unfold maxLen at hm
  have H256 := Lib.hid h256; clear h256
  have HN := Lib.hid hn; clear hn
  cases hp : rightB p0 p1 p2
  · have HR := Lib.hid (show takeC (p0, p1, p2) bs = ((0, 0, 0), 0, 1) by rw [takeC, if_pos hp])
    go_enter Try.func71, Try.ntmps71
    go_wp2_with fail
    refine (Right_any _ _ _ _).mono ?_
    rintro e w1 ⟨rfl, hb1⟩
    obtain ⟨q0, q1, q2, qf⟩ := (HKK.out _ hb1).1.three
    obtain ⟨r0, r1, r2, rf⟩ := (HKK.out _ hb1).2.three
    rw [hp]
    go_wp2
    refine bodyPost_ret (v := .tuple #[.agg #[.int .i64 0, .int .i64 0, .int .i64 0], .int .i64 0, .int .i64 1]) (by simp [results, Try.results71, go_sem, *]) rfl (ctakePost HR.out rfl rfl ?_)
    exact (((HB.out.trans (hb1.mono HB.out.size)).setCell (by simp) _).setCell (by simp) _).setCell (by simp) _
  · obtain ⟨⟨pa0, pa1⟩, ⟨pb0, pb1⟩, ⟨pc0, pc1⟩⟩ := right_le hp
    have j0 : ∀ w, (Instr.index 29 (.agg #[Value.int IntKind.i64 p0, Value.int IntKind.i64 p1, Value.int IntKind.i64 p2]) (.int .i64 0)).run Try.prog w = .ok (.int .i64 p0) w := fun _ => by kernel_rfl
    have j1 : ∀ w, (Instr.index 29 (.agg #[Value.int IntKind.i64 p0, Value.int IntKind.i64 p1, Value.int IntKind.i64 p2]) (.int .i64 1)).run Try.prog w = .ok (.int .i64 p1) w := fun _ => by kernel_rfl
    have j2 : ∀ w, (Instr.index 29 (.agg #[Value.int IntKind.i64 p0, Value.int IntKind.i64 p1, Value.int IntKind.i64 p2]) (.int .i64 2)).run Try.prog w = .ok (.int .i64 p2) w := fun _ => by kernel_rfl
    have HE0 := Lib.hid (fun (d : Nat) => takeC_e0 (p0 := p0) (p1 := p1) (p2 := p2) (bs := bs) (d := d) hp)
    have HE1 := Lib.hid (fun (n0 : Int) (s0 d : Nat) => takeC_e1 (p0 := p0) (p1 := p1) (p2 := p2) (bs := bs) (n0 := n0) (s0 := s0) (d := d) hp)
    have HE2 := Lib.hid (fun (n0 n1 : Int) (s0 s1 d : Nat) => takeC_e2 (p0 := p0) (p1 := p1) (p2 := p2) (bs := bs) (n0 := n0) (n1 := n1) (s0 := s0) (s1 := s1) (d := d) hp)
    have HOK := Lib.hid (fun (n0 n1 n2 : Int) (s0 s1 s2 : Nat) => takeC_ok (p0 := p0) (p1 := p1) (p2 := p2) (bs := bs) (n0 := n0) (n1 := n1) (n2 := n2) (s0 := s0) (s1 := s1) (s2 := s2) hp)
    go_enter Try.func71, Try.ntmps71
    go_wp2_with fail
    refine (Right_any _ _ _ _).mono ?_
    rintro e w1 ⟨rfl, hb1⟩
    obtain ⟨q0, q1, q2, qf⟩ := (HKK.out _ hb1).1.three
    obtain ⟨r0, r1, r2, rf⟩ := (HKK.out _ hb1).2.three
    have hsz : w.heap.size + 1 < w1.heap.size := by have := hb1.size; simp at this; omega
    have n3 : w1.heap.size ≠ w.heap.size := by omega
    have m3 : w.heap.size < w1.heap.size := by omega
    have n4 : w1.heap.size ≠ w.heap.size + 1 := by omega
    have HB1 := Lib.hid (HB.out.trans (hb1.mono HB.out.size))
    have hr1 := hr.below HB1.out
    clear hb1 HB HKK
    rw [hp]
    go_wp2_with fail
    refine wp_loop_rounds 4 ?_
    rw [rounds_succ]
    go_wp2_with fail
    obtain ⟨u0, s0, d0, ht0⟩ : ∃ u s d, Vm.take bs = (u, s, d) := ⟨_, _, _, rfl⟩
    have HT0 := Lib.hid ht0
    have hu0 := (take_range bs).1
    rw [ht0] at hu0
    simp only at hu0
    clear ht0
    have hq0 : u0 < 18446744073709551616 := by omega
    have zl0 := Vm.zag_lo hq0
    have zh0 := Vm.zag_hi hq0
    have HRD0 := Lib.hid (fun (w' : World) (hb : Below w1.heap.size w1 w') => hr1.below (hb.mono (by omega)))
    by_cases hd0 : d0 = 0
    · subst hd0
      have hs0 := take_le HT0.out H256.out
      simp only [List.length_drop, HN.out] at hs0
      obtain ⟨m0x, hm0⟩ : ∃ m, m = Vm.zag u0 := ⟨_, rfl⟩
      rw [← hm0] at zl0 zh0
      have HM0 := Lib.hid hm0; clear hm0
      by_cases hlo0 : m0x < -p0
      · have HX := Lib.hid (HE0.out _ (take1_out HT0.out (by rw [← HM0.out]; omega)) (by omega))
        refine (takeS_at _ _ _ bs w.heap.size _ s0 m0x u0 (HRD0.out _ (by first | exact (Below.refl _ _).alloc (Nat.le_refl _) _ | exact ((Below.refl _ _).alloc (Nat.le_refl _) _).setCell (by simp) _ | exact (((Below.refl _ _).alloc (Nat.le_refl _) _).setCell (by simp) _).setCell (by simp) _)) H256.out (by have h := HN.out; unfold maxLen; (try simp only [List.length_drop]); omega) HN.out HT0.out HM0.out.symm).mono ?_
        rintro e w' ⟨rfl, rfl⟩
        go_wp2
        refine bodyPost_ret (v := .tuple #[.agg #[.int .i64 (0), .int .i64 (0), .int .i64 (0)], .int .i64 (0), .int .i64 (3)]) (by simp [results, Try.results71, go_sem, *]) rfl (ctakePost HX.out (by first | rfl | omega | (simp; omega)) rfl ?_)
        have hz := HB1.out.size
        repeat' (first | exact HB1.out | refine Below.alloc ?_ ?_ _ | refine Below.setCell ?_ ?_ _ | (simp [World.setCell]; done) | (simp [World.setCell]; omega))
      by_cases hhi0 : 4611686018427387903 - p0 < m0x
      · have HX := Lib.hid (HE0.out _ (take1_out HT0.out (by rw [← HM0.out]; omega)) (by omega))
        refine (takeS_at _ _ _ bs w.heap.size _ s0 m0x u0 (HRD0.out _ (by first | exact (Below.refl _ _).alloc (Nat.le_refl _) _ | exact ((Below.refl _ _).alloc (Nat.le_refl _) _).setCell (by simp) _ | exact (((Below.refl _ _).alloc (Nat.le_refl _) _).setCell (by simp) _).setCell (by simp) _)) H256.out (by have h := HN.out; unfold maxLen; (try simp only [List.length_drop]); omega) HN.out HT0.out HM0.out.symm).mono ?_
        rintro e w' ⟨rfl, rfl⟩
        go_wp2
        refine bodyPost_ret (v := .tuple #[.agg #[.int .i64 (0), .int .i64 (0), .int .i64 (0)], .int .i64 (0), .int .i64 (3)]) (by simp [results, Try.results71, go_sem, *]) rfl (ctakePost HX.out (by first | rfl | omega | (simp; omega)) rfl ?_)
        have hz := HB1.out.size
        repeat' (first | exact HB1.out | refine Below.alloc ?_ ?_ _ | refine Below.setCell ?_ ?_ _ | (simp [World.setCell]; done) | (simp [World.setCell]; omega))
      obtain ⟨A1, hsl1, hrd1, hnn1⟩ := slice_from (P := Try.prog) 39 5 Try.underlying39 Try.sizeOf5 A n c s0 ((s0 : Int)) (by omega) (by omega) hc
      have E0 := Lib.hid (take1_ok (p := p0) HT0.out (by rw [← HM0.out]; omega))
      have e0 := E0.out; rw [← HM0.out] at e0; clear E0; have E0 := Lib.hid e0; clear e0
      refine (takeS_at _ _ _ bs w.heap.size _ s0 m0x u0 (HRD0.out _ (by first | exact (Below.refl _ _).alloc (Nat.le_refl _) _ | exact ((Below.refl _ _).alloc (Nat.le_refl _) _).setCell (by simp) _ | exact (((Below.refl _ _).alloc (Nat.le_refl _) _).setCell (by simp) _).setCell (by simp) _)) H256.out (by have h := HN.out; unfold maxLen; (try simp only [List.length_drop]); omega) HN.out HT0.out HM0.out.symm).mono ?_
      rintro e w' ⟨rfl, rfl⟩
      go_wp2
      rw [rounds_succ]
      go_wp2_with fail
      obtain ⟨u1, s1, d1, ht1⟩ : ∃ u s d, Vm.take (bs.drop s0) = (u, s, d) := ⟨_, _, _, rfl⟩
      have HT1 := Lib.hid ht1
      have hu1 := (take_range (bs.drop s0)).1
      rw [ht1] at hu1
      simp only at hu1
      clear ht1
      have hq1 : u1 < 18446744073709551616 := by omega
      have zl1 := Vm.zag_lo hq1
      have zh1 := Vm.zag_hi hq1
      have RD1 : ∀ w', Below w1.heap.size w1 w' → Rd w' w.heap.size A1 (u8s (bs.drop s0)) := fun w' hb => by
        have h := (hrd1 _ _ (u8s bs) (by simpa using HN.out) hr1).below (hb.mono (by omega))
        simpa [u8s] using h
      have HRD1 := Lib.hid RD1; clear RD1 hrd1
      by_cases hd1 : d1 = 0
      · subst hd1
        have hs1 := take_le HT1.out (drop_byte H256.out s0)
        simp only [List.length_drop, HN.out] at hs1
        obtain ⟨m1x, hm1⟩ : ∃ m, m = Vm.zag u1 := ⟨_, rfl⟩
        rw [← hm1] at zl1 zh1
        have HM1 := Lib.hid hm1; clear hm1
        by_cases hlo1 : m1x < -p1
        · have HX := Lib.hid (HE1.out _ _ _ E0.out (take1_out HT1.out (by rw [← HM1.out]; omega)) (by omega))
          refine (takeS_at _ _ _ (bs.drop s0) w.heap.size _ s1 m1x u1 (HRD1.out _ (by first | exact (Below.refl _ _).alloc (Nat.le_refl _) _ | exact ((Below.refl _ _).alloc (Nat.le_refl _) _).setCell (by simp) _ | exact (((Below.refl _ _).alloc (Nat.le_refl _) _).setCell (by simp) _).setCell (by simp) _)) (drop_byte H256.out s0) (by have h := HN.out; unfold maxLen; (try simp only [List.length_drop]); omega) (by simp [HN.out]) HT1.out HM1.out.symm).mono ?_
          rintro e w' ⟨rfl, rfl⟩
          go_wp2
          refine bodyPost_ret (v := .tuple #[.agg #[.int .i64 (0), .int .i64 (0), .int .i64 (0)], .int .i64 (0), .int .i64 (3)]) (by simp [results, Try.results71, go_sem, *]) rfl (ctakePost HX.out (by first | rfl | omega | (simp; omega)) rfl ?_)
          have hz := HB1.out.size
          repeat' (first | exact HB1.out | refine Below.alloc ?_ ?_ _ | refine Below.setCell ?_ ?_ _ | (simp [World.setCell]; done) | (simp [World.setCell]; omega))
        by_cases hhi1 : 4611686018427387903 - p1 < m1x
        · have HX := Lib.hid (HE1.out _ _ _ E0.out (take1_out HT1.out (by rw [← HM1.out]; omega)) (by omega))
          refine (takeS_at _ _ _ (bs.drop s0) w.heap.size _ s1 m1x u1 (HRD1.out _ (by first | exact (Below.refl _ _).alloc (Nat.le_refl _) _ | exact ((Below.refl _ _).alloc (Nat.le_refl _) _).setCell (by simp) _ | exact (((Below.refl _ _).alloc (Nat.le_refl _) _).setCell (by simp) _).setCell (by simp) _)) (drop_byte H256.out s0) (by have h := HN.out; unfold maxLen; (try simp only [List.length_drop]); omega) (by simp [HN.out]) HT1.out HM1.out.symm).mono ?_
          rintro e w' ⟨rfl, rfl⟩
          go_wp2
          refine bodyPost_ret (v := .tuple #[.agg #[.int .i64 (0), .int .i64 (0), .int .i64 (0)], .int .i64 (0), .int .i64 (3)]) (by simp [results, Try.results71, go_sem, *]) rfl (ctakePost HX.out (by first | rfl | omega | (simp; omega)) rfl ?_)
          have hz := HB1.out.size
          repeat' (first | exact HB1.out | refine Below.alloc ?_ ?_ _ | refine Below.setCell ?_ ?_ _ | (simp [World.setCell]; done) | (simp [World.setCell]; omega))
        obtain ⟨A2, hsl2, hrd2, hnn2⟩ := slice_from (P := Try.prog) 39 5 Try.underlying39 Try.sizeOf5 A n c (s0 + s1) ((s0 : Int) + (s1 : Int)) (by omega) (by omega) hc
        have E1 := Lib.hid (take1_ok (p := p1) HT1.out (by rw [← HM1.out]; omega))
        have e1 := E1.out; rw [← HM1.out] at e1; clear E1; have E1 := Lib.hid e1; clear e1
        refine (takeS_at _ _ _ (bs.drop s0) w.heap.size _ s1 m1x u1 (HRD1.out _ (by first | exact (Below.refl _ _).alloc (Nat.le_refl _) _ | exact ((Below.refl _ _).alloc (Nat.le_refl _) _).setCell (by simp) _ | exact (((Below.refl _ _).alloc (Nat.le_refl _) _).setCell (by simp) _).setCell (by simp) _)) (drop_byte H256.out s0) (by have h := HN.out; unfold maxLen; (try simp only [List.length_drop]); omega) (by simp [HN.out]) HT1.out HM1.out.symm).mono ?_
        rintro e w' ⟨rfl, rfl⟩
        go_wp2
        rw [rounds_succ]
        go_wp2_with fail
        obtain ⟨u2, s2, d2, ht2⟩ : ∃ u s d, Vm.take (bs.drop (s0 + s1)) = (u, s, d) := ⟨_, _, _, rfl⟩
        have HT2 := Lib.hid ht2
        have hu2 := (take_range (bs.drop (s0 + s1))).1
        rw [ht2] at hu2
        simp only at hu2
        clear ht2
        have hq2 : u2 < 18446744073709551616 := by omega
        have zl2 := Vm.zag_lo hq2
        have zh2 := Vm.zag_hi hq2
        have RD2 : ∀ w', Below w1.heap.size w1 w' → Rd w' w.heap.size A2 (u8s (bs.drop (s0 + s1))) := fun w' hb => by
          have h := (hrd2 _ _ (u8s bs) (by simpa using HN.out) hr1).below (hb.mono (by omega))
          simpa [u8s] using h
        have HRD2 := Lib.hid RD2; clear RD2 hrd2
        by_cases hd2 : d2 = 0
        · subst hd2
          have hs2 := take_le HT2.out (drop_byte H256.out (s0 + s1))
          simp only [List.length_drop, HN.out] at hs2
          obtain ⟨m2x, hm2⟩ : ∃ m, m = Vm.zag u2 := ⟨_, rfl⟩
          rw [← hm2] at zl2 zh2
          have HM2 := Lib.hid hm2; clear hm2
          by_cases hlo2 : m2x < -p2
          · have HX := Lib.hid (HE2.out _ _ _ _ _ E0.out E1.out (take1_out HT2.out (by rw [← HM2.out]; omega)) (by omega))
            refine (takeS_at _ _ _ (bs.drop (s0 + s1)) w.heap.size _ s2 m2x u2 (HRD2.out _ (by first | exact (Below.refl _ _).alloc (Nat.le_refl _) _ | exact ((Below.refl _ _).alloc (Nat.le_refl _) _).setCell (by simp) _ | exact (((Below.refl _ _).alloc (Nat.le_refl _) _).setCell (by simp) _).setCell (by simp) _)) (drop_byte H256.out (s0 + s1)) (by have h := HN.out; unfold maxLen; (try simp only [List.length_drop]); omega) (by simp [HN.out]) HT2.out HM2.out.symm).mono ?_
            rintro e w' ⟨rfl, rfl⟩
            go_wp2
            refine bodyPost_ret (v := .tuple #[.agg #[.int .i64 (0), .int .i64 (0), .int .i64 (0)], .int .i64 (0), .int .i64 (3)]) (by simp [results, Try.results71, go_sem, *]) rfl (ctakePost HX.out (by first | rfl | omega | (simp; omega)) rfl ?_)
            have hz := HB1.out.size
            repeat' (first | exact HB1.out | refine Below.alloc ?_ ?_ _ | refine Below.setCell ?_ ?_ _ | (simp [World.setCell]; done) | (simp [World.setCell]; omega))
          by_cases hhi2 : 4611686018427387903 - p2 < m2x
          · have HX := Lib.hid (HE2.out _ _ _ _ _ E0.out E1.out (take1_out HT2.out (by rw [← HM2.out]; omega)) (by omega))
            refine (takeS_at _ _ _ (bs.drop (s0 + s1)) w.heap.size _ s2 m2x u2 (HRD2.out _ (by first | exact (Below.refl _ _).alloc (Nat.le_refl _) _ | exact ((Below.refl _ _).alloc (Nat.le_refl _) _).setCell (by simp) _ | exact (((Below.refl _ _).alloc (Nat.le_refl _) _).setCell (by simp) _).setCell (by simp) _)) (drop_byte H256.out (s0 + s1)) (by have h := HN.out; unfold maxLen; (try simp only [List.length_drop]); omega) (by simp [HN.out]) HT2.out HM2.out.symm).mono ?_
            rintro e w' ⟨rfl, rfl⟩
            go_wp2
            refine bodyPost_ret (v := .tuple #[.agg #[.int .i64 (0), .int .i64 (0), .int .i64 (0)], .int .i64 (0), .int .i64 (3)]) (by simp [results, Try.results71, go_sem, *]) rfl (ctakePost HX.out (by first | rfl | omega | (simp; omega)) rfl ?_)
            have hz := HB1.out.size
            repeat' (first | exact HB1.out | refine Below.alloc ?_ ?_ _ | refine Below.setCell ?_ ?_ _ | (simp [World.setCell]; done) | (simp [World.setCell]; omega))
          have E2 := Lib.hid (take1_ok (p := p2) HT2.out (by rw [← HM2.out]; omega))
          have e2 := E2.out; rw [← HM2.out] at e2; clear E2; have E2 := Lib.hid e2; clear e2
          refine (takeS_at _ _ _ (bs.drop (s0 + s1)) w.heap.size _ s2 m2x u2 (HRD2.out _ (by first | exact (Below.refl _ _).alloc (Nat.le_refl _) _ | exact ((Below.refl _ _).alloc (Nat.le_refl _) _).setCell (by simp) _ | exact (((Below.refl _ _).alloc (Nat.le_refl _) _).setCell (by simp) _).setCell (by simp) _)) (drop_byte H256.out (s0 + s1)) (by have h := HN.out; unfold maxLen; (try simp only [List.length_drop]); omega) (by simp [HN.out]) HT2.out HM2.out.symm).mono ?_
          rintro e w' ⟨rfl, rfl⟩
          go_wp2
          rw [rounds_succ]
          go_wp2
          refine bodyPost_ret (v := .tuple #[.agg #[.int .i64 (p0 + m0x), .int .i64 (p1 + m1x), .int .i64 (p2 + m2x)], .int .i64 (((s0 + s1 + s2 : Nat) : Int)), .int .i64 (0)]) (by simp [results, Try.results71, go_sem, *]) rfl (ctakePost (HOK.out _ _ _ _ _ _ E0.out E1.out E2.out) (by first | rfl | omega | (simp; omega)) rfl ?_)
          have hz := HB1.out.size
          repeat' (first | exact HB1.out | refine Below.alloc ?_ ?_ _ | refine Below.setCell ?_ ?_ _ | (simp [World.setCell]; done) | (simp [World.setCell]; omega))
        · have HX := Lib.hid (HE2.out _ _ _ _ _ E0.out E1.out (take1_err HT2.out hd2) hd2)
          have hdd : ((d2 : Int) != 0) = true := by simp; exact hd2
          refine (takeS_no_at _ _ _ (bs.drop (s0 + s1)) w.heap.size _ u2 s2 d2 (HRD2.out _ (by first | exact (Below.refl _ _).alloc (Nat.le_refl _) _ | exact ((Below.refl _ _).alloc (Nat.le_refl _) _).setCell (by simp) _ | exact (((Below.refl _ _).alloc (Nat.le_refl _) _).setCell (by simp) _).setCell (by simp) _)) (drop_byte H256.out (s0 + s1)) (by have h := HN.out; unfold maxLen; (try simp only [List.length_drop]); omega) (by simp [HN.out]) HT2.out hd2).mono ?_
          rintro e w' ⟨rfl, rfl⟩
          go_wp2
          refine bodyPost_ret (v := .tuple #[.agg #[.int .i64 (0), .int .i64 (0), .int .i64 (0)], .int .i64 (0), .int .i64 ((d2 : Int))]) (by simp [results, Try.results71, go_sem, *]) rfl (ctakePost HX.out (by first | rfl | omega | (simp; omega)) rfl ?_)
          have hz := HB1.out.size
          repeat' (first | exact HB1.out | refine Below.alloc ?_ ?_ _ | refine Below.setCell ?_ ?_ _ | (simp [World.setCell]; done) | (simp [World.setCell]; omega))
      · have HX := Lib.hid (HE1.out _ _ _ E0.out (take1_err HT1.out hd1) hd1)
        have hdd : ((d1 : Int) != 0) = true := by simp; exact hd1
        refine (takeS_no_at _ _ _ (bs.drop s0) w.heap.size _ u1 s1 d1 (HRD1.out _ (by first | exact (Below.refl _ _).alloc (Nat.le_refl _) _ | exact ((Below.refl _ _).alloc (Nat.le_refl _) _).setCell (by simp) _ | exact (((Below.refl _ _).alloc (Nat.le_refl _) _).setCell (by simp) _).setCell (by simp) _)) (drop_byte H256.out s0) (by have h := HN.out; unfold maxLen; (try simp only [List.length_drop]); omega) (by simp [HN.out]) HT1.out hd1).mono ?_
        rintro e w' ⟨rfl, rfl⟩
        go_wp2
        refine bodyPost_ret (v := .tuple #[.agg #[.int .i64 (0), .int .i64 (0), .int .i64 (0)], .int .i64 (0), .int .i64 ((d1 : Int))]) (by simp [results, Try.results71, go_sem, *]) rfl (ctakePost HX.out (by first | rfl | omega | (simp; omega)) rfl ?_)
        have hz := HB1.out.size
        repeat' (first | exact HB1.out | refine Below.alloc ?_ ?_ _ | refine Below.setCell ?_ ?_ _ | (simp [World.setCell]; done) | (simp [World.setCell]; omega))
    · have HX := Lib.hid (HE0.out _ (take1_err HT0.out hd0) hd0)
      have hdd : ((d0 : Int) != 0) = true := by simp; exact hd0
      refine (takeS_no_at _ _ _ bs w.heap.size _ u0 s0 d0 (HRD0.out _ (by first | exact (Below.refl _ _).alloc (Nat.le_refl _) _ | exact ((Below.refl _ _).alloc (Nat.le_refl _) _).setCell (by simp) _ | exact (((Below.refl _ _).alloc (Nat.le_refl _) _).setCell (by simp) _).setCell (by simp) _)) H256.out (by have h := HN.out; unfold maxLen; (try simp only [List.length_drop]); omega) HN.out HT0.out hd0).mono ?_
      rintro e w' ⟨rfl, rfl⟩
      go_wp2
      refine bodyPost_ret (v := .tuple #[.agg #[.int .i64 (0), .int .i64 (0), .int .i64 (0)], .int .i64 (0), .int .i64 ((d0 : Int))]) (by simp [results, Try.results71, go_sem, *]) rfl (ctakePost HX.out (by first | rfl | omega | (simp; omega)) rfl ?_)
      have hz := HB1.out.size
      repeat' (first | exact HB1.out | refine Below.alloc ?_ ?_ _ | refine Below.setCell ?_ ?_ _ | (simp [World.setCell]; done) | (simp [World.setCell]; omega))
end Go.Proofs.Ytgjkeccopjgjlaa

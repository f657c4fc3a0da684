/- txn.reader: what it is; upTo. -/
import Derived.Test.YtgjkeccopjgjlaaTput
import Derived.Test.YtgjkeccopjgjlaaDtk
namespace Go.Proofs.Ytgjkeccopjgjlaa
open Go.ChangeShapes Go.WideShapes Go.ChangeAt Go.RowKit Go.Maps
set_option linter.unusedVariables false
set_option linter.unusedSimpArgs false

namespace Tm
/-- a number that may be no more than most: the number, the error, what is left -/
def upT (most over : Nat) (b : List Nat) : Nat × Nat × List Nat :=
  if (Vm.take b).2.2 ≠ 0 then (0, (Vm.take b).2.2, b) else if most < (Vm.take b).1 then (0, over, b) else ((Vm.take b).1, 0, b.drop (Vm.take b).2.1)
end Tm
/-- block q is a reader: its bytes lie below B, it and its dictionary (block d) in S, not below B -/
def RdS (w : World) (B q d : Nat) (S : Nat → Prop) (ks : List ByteArray) (e : Nat) (b : List Nat) : Prop :=
  ∃ A n c T, Blk w q 90 #[.slice A n c, .pointer (some ⟨d, 0, none⟩)] ∧ DictM w d T ks e ∧ Rd w B A (u8s b) ∧ b.length = n ∧ ((A = none → c = 0) ∧ n ≤ 1000000000) ∧ n ≤ c ∧ c ≤ maxLen ∧ (∀ x ∈ b, x < 256) ∧ (∀ j, S j ↔ (j = q ∨ T j)) ∧ (∀ j, S j → B ≤ j) ∧ B ≤ w.heap.size
theorem RdS.below {w w' : World} {B q d : Nat} {S : Nat → Prop} {ks : List ByteArray} {e : Nat} {b : List Nat} (h : RdS w B q d S ks e b) (hb : Below w.heap.size w w') : RdS w' B q d S ks e b := by
  obtain ⟨A, n, c, T, h1, h2, h3, h4, ⟨h5n, h5⟩, h6, h7, h8, h9, h10, h11⟩ := h
  exact ⟨A, n, c, T, h1.below hb h1.lt, h2.below hb, h3.below (hb.mono h11), h4, ⟨h5n, h5⟩, h6, h7, h8, h9, h10, by have := hb.size; omega⟩
theorem RdS.lt {w : World} {B q d : Nat} {S : Nat → Prop} {ks : List ByteArray} {e : Nat} {b : List Nat} (h : RdS w B q d S ks e b) : ∀ j, S j → j < w.heap.size := by
  obtain ⟨A, n, c, T, h1, h2, h3, h4, ⟨h5n, h5⟩, h6, h7, h8, h9, h10, h11⟩ := h
  intro j hj
  rcases (h9 j).1 hj with rfl | hj
  · exact h1.lt
  · exact h2.lt j hj
/-- a slot of the reader turns: other bytes are left -/
theorem RdS.set {w : World} {B q d : Nat} {S T : Nat → Prop} {ks : List ByteArray} {e : Nat} {b : List Nat} {A A' : Option Addr} {n c n' c' : Nat} (h1 : Blk w q 90 #[.slice A n c, .pointer (some ⟨d, 0, none⟩)]) (h2 : DictM w d T ks e) (h9 : ∀ j, S j ↔ (j = q ∨ T j)) (h10 : ∀ j, S j → B ≤ j) (h11 : B ≤ w.heap.size)
    (hr : Rd w B A' (u8s b)) (hn : b.length = n') (hno : A' = none → c' = 0) (hl : n' ≤ 1000000000) (hc : n' ≤ c') (hcm : c' ≤ maxLen) (h256 : ∀ x ∈ b, x < 256) : RdS (w.setCell ⟨q, 0, none⟩ (.slice A' n' c')) B q d S ks e b ∧ Turned w S S (w.setCell ⟨q, 0, none⟩ (.slice A' n' c')) := by
  have hq : S q := (h9 q).2 (.inl rfl)
  have hO := (Only.refl (fun j => j = q) w).set rfl 0 (.slice A' n' c')
  have hnT : ¬ T q := h2.not_blk h1 (by decide) (by decide)
  refine ⟨⟨A', n', c', T, h1.set 0 _, h2.only hO (fun j hj ht => hnT (hj ▸ ht)), hO.rd hr h11 (fun g o hA hne => fun hgq => ?_), hn, ⟨hno, hl⟩, hc, hcm, h256, h9, h10, by have := hO.size; omega⟩, Sub.refl _ _, hO.mono (fun j _ hj => by rw [hj]; exact hq)⟩
  obtain ⟨g2, o2, hA2, hlt2, _⟩ := hr hne
  rw [hA] at hA2
  injection hA2 with hA2
  injection hA2 with e1 _
  have := h10 q hq
  omega
def UpPost (w : World) (B q d : Nat) (S : Nat → Prop) (ks : List ByteArray) (e : Nat) (r : Nat × Nat × List Nat) (en : Ending) (w' : World) : Prop :=
  en = .returned (.tuple #[.int .i64 (r.1 : Int), .int .i64 (r.2.1 : Int)]) ∧ RdS w' B q d S ks e r.2.2 ∧ Turned w S S w'
set_option maxHeartbeats 1000000 in
theorem upTo_any (w : World) (B q d : Nat) (S : Nat → Prop) (ks : List ByteArray) (e : Nat) (b : List Nat) (most over : Nat) (h : RdS w B q d S ks e b) (hm : most ≤ 4611686018427387903) :
    Calls Try.prog 70 #[.pointer (some ⟨q, 0, none⟩), .int .u64 (most : Int), .int .i64 (over : Int)] w (UpPost w B q d S ks e (Tm.upT most over b)) := by
  have HR := Lib.hid h
  obtain ⟨A, n, c, T, h1, h2, h3, h4, ⟨h5n, h5⟩, h6, h7, h8, h9, h10, h11⟩ := h
  have a0 : w.cell? ⟨q, 0, none⟩ = some (.slice A n c) := h1.cell 0
  have qf := h1.frozen 0
  have hql := h1.lt
  obtain ⟨⟨z, k, f⟩, ht⟩ : ∃ r, Vm.take b = r := ⟨_, rfl⟩
  have cT := Lib.hid (take_at w A c b B n z k f h3 h8 (by omega) h4 ht)
  by_cases hf : f = 0
  · subst hf
    by_cases hz : most < z
    · have HP := Lib.hid (show UpPost w B q d S ks e (Tm.upT most over b) (.returned (.tuple #[.int .i64 0, .int .i64 (over : Int)])) w from by
        unfold Tm.upT; rw [ht]; simp only; rw [if_neg (by simp), if_pos hz]; exact ⟨rfl, HR.out, Turned.refl _ _⟩)
      have hzI : (most : Int) < (z : Int) := by omega
      clear h1 h2 h3 h4 h5n h5 h6 h7 h8 h9 h10 h11 ht
      go_enter Try.func70, Try.ntmps70
      go_wp2_with fail
      refine cT.out.mono ?_
      rintro e1 w' ⟨rfl, rfl⟩
      go_wp2
      go_ret2
      exact HP.out
    · obtain ⟨hk1, hk2, -, -⟩ := Vm.take_ok ht h8
      obtain ⟨A', q1, q2, q4⟩ := slice_from (P := Try.prog) 39 5 Try.underlying39 sizeOfU8 A n c k (k : Int) rfl (by omega) h6
      have q3 := q2 w B (u8s b) (by simp [h4]) h3
      rw [show (u8s b).drop k = u8s (b.drop k) by simp [u8s, List.map_drop]] at q3
      have HS := RdS.set h1 h2 h9 h10 h11 q3 (by rw [List.length_drop, h4]) (q4 h5n) (by omega) (c' := c - k) (by omega) (by omega) (fun x hx => h8 x (List.mem_of_mem_drop hx))
      have HP := Lib.hid (show UpPost w B q d S ks e (Tm.upT most over b) (.returned (.tuple #[.int .i64 (z : Int), .int .i64 0])) (w.setCell ⟨q, 0, none⟩ (.slice A' (n - k) (c - k))) from by
        unfold Tm.upT; rw [ht]; simp only; rw [if_neg (by simp), if_neg hz]; exact ⟨rfl, HS⟩)
      have hzI : ¬ (most : Int) < (z : Int) := by omega
      have hzz : IntKind.i64.wrap (z : Int) = (z : Int) := IntWalk.i64_in _ ⟨by omega, by omega⟩
      clear h1 h2 h3 h4 h5n h5 h6 h7 h8 h9 h10 h11 ht HS q2 q3 q4
      go_enter Try.func70, Try.ntmps70
      go_wp2_with fail
      refine cT.out.mono ?_
      rintro e1 w' ⟨rfl, rfl⟩
      go_wp2
      go_ret2
      exact HP.out
  · have HP := Lib.hid (show UpPost w B q d S ks e (Tm.upT most over b) (.returned (.tuple #[.int .i64 0, .int .i64 (f : Int)])) w from by
      unfold Tm.upT; rw [ht]; simp only; rw [if_pos hf]; exact ⟨rfl, HR.out, Turned.refl _ _⟩)
    have hfI : (f : Int) ≠ 0 := by omega
    clear h1 h2 h3 h4 h5n h5 h6 h7 h8 h9 h10 h11 ht
    go_enter Try.func70, Try.ntmps70
    go_wp2_with fail
    refine cT.out.mono ?_
    rintro e1 w' ⟨rfl, rfl⟩
    go_wp2
    go_ret2
    exact HP.out
end Go.Proofs.Ytgjkeccopjgjlaa

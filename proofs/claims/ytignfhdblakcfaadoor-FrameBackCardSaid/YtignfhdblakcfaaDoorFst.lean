/- frame.Scan's closure. -/
import Derived.Test.YtignfhdblakcfaaDoorNxt
import Derived.Test.YtignfhdblakcfaaDoorApp
import Derived.Test.YtignfhdblakcfaaDoorFal
namespace Go.Proofs.YtignfhdblakcfaaDoor
open Go.ChangeShapes Go.WideShapes Go.ChangeAt Go.RowKit
set_option linter.unusedVariables false

namespace Gb
variable {a b c : World} {g : Nat}
theorem set (h : a.grownBy b (some g)) (i : Nat) (u : Value) : a.grownBy (b.setCell ⟨g, i, none⟩ u) (some g) :=
  ⟨h.os, h.tape, h.output, by simpa [World.setCell] using h.size, fun j hj hne => (Below.heap_setCell b ⟨g, i, none⟩ u j (fun e => hne (by rw [e]))).trans (h.block j hj hne)⟩
theorem below (h : Below a.heap.size a b) : a.grownBy b (some g) := ⟨h.os, h.tape, h.output, h.size, fun j hj _ => h.block j hj⟩
theorem to_below {B : Nat} (h : a.grownBy b (some g)) (hB : B ≤ a.heap.size) (hg : B ≤ g) : Below B a b := ⟨h.os, h.tape, h.output, h.size, fun j hj => h.block j (by omega) (fun e => by injection e with e; omega)⟩
end Gb
def StepP (w : World) (ga k : Nat) (r : List Nat × Nat × Nat) (e : Ending) (w' : World) : Prop :=
  ∃ v, e = .returned (.tuple #[v, .int .i64 (r.2.2 : Int)]) ∧
    ((r.2.2 ≠ 0 ∧ v = .slice none 0 0) ∨ (r.2.2 = 0 ∧ ∃ a, v = .slice (some a) r.1.length r.1.length ∧ Rd w' w'.heap.size (some a) (u8s r.1))) ∧
    Blk w' ga 3 #[.int .i64 ((k + r.2.1 : Nat) : Int)] ∧ w.grownBy w' (some ga)
set_option maxHeartbeats 1000000 in
set_option maxRecDepth 100000 in
theorem step_any (w : World) (ga gb : Nat) (A : Option Addr) (len cap k : Nat) (bs : List Nat) (hT : Tab w) (hka : Blk w ga 3 #[.int .i64 (k : Int)]) (hkb : Blk w gb 22 #[.slice A len cap]) (hr : Rd w w.heap.size A (u8s bs)) (h256 : ∀ b ∈ bs, b < 256) (hn : bs.length = len) (hk : k ≤ len) (hlc : len ≤ cap) (hcm : cap ≤ maxLen) (hl : len ≤ 1099511627776) :
    Calls Tryd.prog 27 #[.pointer (some ⟨gb, 0, none⟩), .pointer (some ⟨ga, 0, none⟩)] w (StepP w ga k (Fm.next (bs.drop k))) := by
  obtain ⟨A', hs1, hr1, _⟩ := slice_from 22 5 Tryd.underlying22 one8 A len cap k (k : Int) rfl hk hlc
  have hrA := hr1 w w.heap.size (u8s bs) (by simp [u8s, hn]) hr
  rw [← u8s_drop] at hrA
  have HC := Lib.hid (next_any w A' (len - k) (cap - k) (bs.drop k) hT hrA (fun b hb => h256 b (List.mem_of_mem_drop hb)) (by simp [hn]) (by omega) (by omega) (by omega))
  have hle := (Fm.next_le (bs.drop k)).1
  obtain ⟨⟨q, s, d⟩, hq⟩ : ∃ r, Fm.next (bs.drop k) = r := ⟨_, rfl⟩
  rw [hq] at HC hle ⊢
  simp only [List.length_drop, hn] at hle
  have a0 : w.cell? ⟨ga, 0, none⟩ = some (.int .i64 (k : Int)) := hka.cell 0
  have b0 : w.cell? ⟨gb, 0, none⟩ = some (.slice A len cap) := hkb.cell 0
  have hla := hka.lt
  clear hT hr h256 hn hrA hr1 hq hkb
  go_enter Tryd.func27, Tryd.ntmps27
  go_wp2_with fail
  refine HC.out.mono ?_
  rintro e w1 ⟨v, rfl, hv, hb1⟩
  have hka1 := hka.below hb1 hla
  have c0 : w1.cell? ⟨ga, 0, none⟩ = some (.int .i64 (k : Int)) := hka1.cell 0
  have cf : w1.frozen? ⟨ga, 0, none⟩ = false := hka1.frozen 0
  have hla1 := hka1.lt
  have hset := hka1.set 0 (.int .i64 ((k + s : Nat) : Int))
  have HP := Lib.hid (show StepP w ga k (q, s, d) (.returned (.tuple #[v, .int .i64 (d : Int)])) (w1.setCell ⟨ga, 0, none⟩ (.int .i64 ((k : Int) + (s : Int)))) from by
    rw [show (k : Int) + (s : Int) = ((k + s : Nat) : Int) by omega]
    refine ⟨v, rfl, ?_, by simpa using hset, Gb.set (Gb.below hb1) 0 _⟩
    rcases hv with ⟨hd, rfl⟩ | ⟨hd, a, rfl, hra⟩
    · exact .inl ⟨hd, rfl⟩
    · refine .inr ⟨hd, a, rfl, ?_⟩
      have e2 : (w1.setCell ⟨ga, 0, none⟩ (.int .i64 ((k + s : Nat) : Int))).heap.size = w1.heap.size := by simp [World.setCell]
      rw [e2]
      by_cases hq0 : q = []
      · subst hq0; exact Rd.nil _ _ _
      · refine rd_far hra (fun g o hgo => ?_) _
        cases hgo
        exact rd_ne hra hq0 hka1 (by intro v hv; simp at hv; exact ⟨_, hv⟩))
  clear hv hb1 hka hka1 hset
  go_wp2
  go_ret2
  exact HP.out
end Go.Proofs.YtignfhdblakcfaaDoor

/- mark: Delete of the first of two; Drop so. -/
import Derived.Test.YtjaifieakcnlmaaMf
import Derived.Laws.IdiomCopy
namespace Go.Proofs.Ytjaifieakcnlmaa
open Go.ChangeShapes Go.WideShapes Go.ChangeAt Go.RowKit Go.Maps
set_option linter.unusedVariables false
set_option linter.unusedSimpArgs false

theorem zeroMark : ∀ w, (zeroValue 29).run Try.prog w = .ok (.agg #[.int .i64 0, .int .i64 0, .int .i64 0]) w := fun w => by kernel_rfl
theorem run_clear1 (w : World) (ty : TypeId) (q o c : Nat) (hc : ∀ j, j < 3 → (w.cell? ⟨q, o + j, none⟩).isSome = true) (hf : ∀ j, j < 3 → w.frozen? ⟨q, o + j, none⟩ = false) :
    (Builtin.clear_ #[40] ty #[.slice (some ⟨q, o, none⟩) 1 c]).run Try.prog w = .ok (.tuple #[]) (w.setCells q o [.int .i64 0, .int .i64 0, .int .i64 0]) := by
  have hst := run_storeCells_cells (P := Try.prog) q o [.int .i64 0, .int .i64 0, .int .i64 0] 0 w (by simpa using hc) (by simpa using hf) (by intro v hv; simp at hv; subst hv; rfl)
  simp only [Nat.add_zero] at hst
  have hz : (Builtin.zeroCells (Value.agg #[.int .i64 0, .int .i64 0, .int .i64 0]).cells 1).toList = [.int .i64 0, .int .i64 0, .int .i64 0] := by simp [Builtin.zeroCells, Value.cells]; try rfl
  simp [Builtin.clear_, run_underlying Try.underlying40, zeroMark, Result.andThen, hz, hst]
def mk6 (a1 a2 a3 b1 b2 b3 : Int) (rest : List Value) : Array Value := (Value.int .i64 a1 :: .int .i64 a2 :: .int .i64 a3 :: .int .i64 b1 :: .int .i64 b2 :: .int .i64 b3 :: rest).toArray
theorem own_six {w : World} {c : Nat} {a1 a2 a3 b1 b2 b3 : Int} {A : Option Addr} (h : w.ownsRow 0 29 3 (.slice A 2 c) 2 (flm [(a1, a2, a3), (b1, b2, b3)])) : ∃ q rest, A = some ⟨q, 0, none⟩ ∧ Blk w q 29 (mk6 a1 a2 a3 b1 b2 b3 rest) ∧ 2 ≤ c ∧ c ≤ maxLen ∧ rest.length + 6 = c * 3 := by
  rcases h.2 with ⟨h1, h0⟩ | ⟨q, cap, cur, hv, hb, hh, hnc, hm, hs, ht⟩
  · omega
  · injection hv with e1 e2 e3
    subst e1 e3
    have hl : cur.toList.length = c * 3 := by simpa using hs
    obtain ⟨rest, hr⟩ : ∃ rest, cur.toList = flm [(a1, a2, a3), (b1, b2, b3)] ++ rest := ⟨cur.toList.drop 6, by
      have := List.take_append_drop (2 * 3) cur.toList
      rw [ht] at this
      exact this.symm⟩
    refine ⟨q, rest, rfl, ?_, hnc, hm, ?_⟩
    · have : cur = mk6 a1 a2 a3 b1 b2 b3 rest := by
        apply Array.ext'
        rw [hr]
        rfl
      rw [this] at hh
      exact hh
    · rw [hr] at hl
      simp [flm, mkv] at hl
      omega
set_option maxHeartbeats 4000000 in
set_option maxRecDepth 100000 in
theorem Del21 (w : World) (q c : Nat) (a1 a2 a3 b1 b2 b3 : Int) (rest : List Value) (hk : Blk w q 29 (mk6 a1 a2 a3 b1 b2 b3 rest)) (hc : 2 ≤ c) (hm : c ≤ maxLen) (hr : rest.length + 6 = c * 3) :
    Calls Try.prog 18 #[.slice (some ⟨q, 0, none⟩) 2 c, .int .i64 0, .int .i64 1] w (fun en w' => en = .returned (.slice (some ⟨q, 0, none⟩) 1 c) ∧ Blk w' q 29 (mk6 b1 b2 b3 0 0 0 rest) ∧ Only (fun j => j = q) w w') := by
  obtain ⟨i0, hi, hz0, hz1, hz2⟩ := info_parts infoMark
  have hd := hk.drew
  have k1 : Blk (w.drew.setCells q (0 + 0 * 3) [.int .i64 b1, .int .i64 b2, .int .i64 b3]) q 29 (mk6 b1 b2 b3 b1 b2 b3 rest) := ((hd.set 0 (.int .i64 b1)).set 1 (.int .i64 b2)).set 2 (.int .i64 b3)
  have o1 : Only (fun j => j = q) w (w.drew.setCells q (0 + 0 * 3) [.int .i64 b1, .int .i64 b2, .int .i64 b3]) := Only.set (S := fun j => j = q) (Only.set (S := fun j => j = q) (Only.set (S := fun j => j = q) (Only.refl _ w).drew rfl _ _) rfl _ _) rfl _ _
  have c3 := hd.cell 3; have c4 := hd.cell 4; have c5 := hd.cell 5
  have sp : ∀ j, j < 3 → (w.drew.cell? ⟨q, 0 + 0 * 3 + j, none⟩).isSome = true ∧ w.drew.frozen? ⟨q, 0 + 0 * 3 + j, none⟩ = false := fun j hj => by
    refine ⟨?_, hd.frozen _⟩
    match j, hj with
    | 0, _ => rw [hd.cell]; rfl
    | 1, _ => rw [hd.cell]; rfl
    | 2, _ => rw [hd.cell]; rfl
  have HSP := Lib.hid sp
  have hsrc : ∀ j u, [Value.int .i64 b1, .int .i64 b2, .int .i64 b3][j]? = some u → w.drew.cell? ((⟨q, 3, none⟩ : Addr).add j) = some u := fun j u hu => by
    match j, hu with
    | 0, hu => simp at hu; subst hu; exact c3
    | 1, hu => simp at hu; subst hu; exact c4
    | 2, hu => simp at hu; subst hu; exact c5
  have HSRC := Lib.hid hsrc
  generalize hW : w.drew.setCells q (0 + 0 * 3) [.int .i64 b1, .int .i64 b2, .int .i64 b3] = W1 at *
  have HW := Lib.hid hW
  have hcl : ∀ ty, (Builtin.clear_ #[40] ty #[.slice (some ⟨q, 3, none⟩) 1 (c - 1)]).run Try.prog W1 = .ok (.tuple #[]) (W1.setCells q 3 [.int .i64 0, .int .i64 0, .int .i64 0]) := fun ty => run_clear1 W1 ty q 3 (c - 1) (fun j hj => by
    match j, hj with
    | 0, _ => rw [k1.cell]; rfl
    | 1, _ => rw [k1.cell]; rfl
    | 2, _ => rw [k1.cell]; rfl) (fun j hj => k1.frozen _)
  have HE1 : Hid (Blk (W1.setCells q 3 [.int .i64 0, .int .i64 0, .int .i64 0]) q 29 (mk6 b1 b2 b3 0 0 0 rest)) := Lib.hid (((k1.set 3 (.int .i64 0)).set 4 (.int .i64 0)).set 5 (.int .i64 0))
  have HE2 : Hid (Only (fun j => j = q) w (W1.setCells q 3 [.int .i64 0, .int .i64 0, .int .i64 0])) := Lib.hid (Only.set (S := fun j => j = q) (Only.set (S := fun j => j = q) (Only.set (S := fun j => j = q) o1 rfl _ _) rfl _ _) rfl _ _)
  have hcI : (2 : Int) ≤ (c : Int) := by omega
  have hcm : c ≠ 1 := by omega
  have hc0 : c ≠ 0 := by omega
  clear hk hd k1 o1 c3 c4 c5 sp hsrc hW hm hr
  go_enter Try.func18, Try.ntmps18
  go_wp2_with fail
  go_region_law (refine step_append_room rfl (.tmp 22) (.tmp 25) 40 rfl 29 i0 3 Try.underlying40 hi hz1 q 0 0 c (by simp [Act.eval, Act.put]) ⟨q, 3, none⟩ 1 (c - 1) [.int .i64 b1, .int .i64 b2, .int .i64 b3] (by simp [Act.eval, Act.put]) rfl HSRC.out (by intro u hu; simp at hu; rcases hu with rfl | rfl | rfl <;> rfl) (by omega) HSP.out ?_; rw [HW.out])
  go_wp2
  go_ret
  exact ⟨rfl, HE1.out, HE2.out⟩
theorem mk6_own {w : World} {q c : Nat} {b1 b2 b3 : Int} {rest : List Value} (h : Blk w q 29 (mk6 b1 b2 b3 0 0 0 rest)) (hc : 2 ≤ c) (hm : c ≤ maxLen) (hr : rest.length + 6 = c * 3) : w.ownsRow 0 29 3 (.slice (some ⟨q, 0, none⟩) 1 c) 1 (flm [(b1, b2, b3)]) :=
  ⟨rfl, .inr ⟨q, c, mk6 b1 b2 b3 0 0 0 rest, rfl, Nat.zero_le _, h, by omega, hm, by simp [mk6]; omega, rfl⟩⟩
set_option maxHeartbeats 3000000 in
set_option maxRecDepth 100000 in
theorem Drop21 (w : World) (S : Nat → Prop) (g : Nat) (most s : Int) (a1 a2 a3 b1 b2 b3 : Int) (h : IM w S g [(a1, a2, a3), (b1, b2, b3)] most) (hris : Ris [(a1, a2, a3), (b1, b2, b3)]) (hle : lec [(a1, a2, a3), (b1, b2, b3)] s = 2) :
    Calls Try.prog 10 #[.pointer (some ⟨g, 0, none⟩), .int .i64 s] w (fun en w' => en = .returned (.int .i64 1) ∧ IM w' S g [(b1, b2, b3)] most ∧ Turned w S S w') := by
  have HP := Lib.hid (place_any w S g _ most s h hris (by simp))
  rw [hle] at HP
  obtain ⟨A, c, k1, k2, k3⟩ := h
  obtain ⟨q, rest, rfl, hq, hc2, hcm, hrl⟩ := own_six k2
  have hqg : q ≠ g := own_ne_blk k2 k1 (by decide) q rfl
  have HD := fun W (hW : Below w.heap.size w W) => Lib.hid (Del21 W q c a1 a2 a3 b1 b2 b3 rest (hq.below hW hq.lt) hc2 hcm hrl)
  have HK := fun W (hW : Below w.heap.size w W) => Lib.hid (k1.below hW k1.lt)
  have K3 := Lib.hid k3
  have HG := Lib.hid k1
  clear hris hle k1 k2 k3
  go_enter Try.func10, Try.ntmps10
  go_wp2_with fail
  refine HP.out.mono ?_
  rintro en W ⟨rfl, hb⟩
  have kk := (HK W hb).out
  have c0 := kk.cell 0
  simp at c0
  have gl := kk.lt
  have HB := Lib.hid hb
  clear hb kk
  go_wp2_with fail
  refine (HD W HB.out).out.mono ?_
  rintro en W2 ⟨rfl, e1, e2⟩
  have kk := e2.blk ((HK W HB.out).out) (fun e => hqg e.symm)
  have c0' := kk.cell 0
  simp at c0'
  have z0 := kk.frozen 0
  have gl2 := kk.lt
  have HF : Hid (IM (W2.setCell ⟨g, 0, none⟩ (.slice (some ⟨q, 0, none⟩) 1 c)) S g [(b1, b2, b3)] most ∧ Turned w S S (W2.setCell ⟨g, 0, none⟩ (.slice (some ⟨q, 0, none⟩) 1 c))) := Lib.hid (by
    have hO : Only (fun j => j = g) W2 (W2.setCell ⟨g, 0, none⟩ (.slice (some ⟨q, 0, none⟩) 1 c)) := Only.set (S := fun j => j = g) (Only.refl _ W2) rfl _ _
    refine ⟨⟨some ⟨q, 0, none⟩, c, kk.set 0 _, hO.own (mk6_own e1 hc2 hcm hrl) (fun j hj e => hqg (by simp [Value.ownBlock] at hj; rw [hj]; exact e)), fun j => ?_⟩, Sub.refl _ _, ?_⟩
    · rw [K3.out j]; simp [Value.ownBlock]
    · refine ((Only.of_below (S := S) HB.out).trans (e2.mono (fun j _ hj => ?_)) (Sub.refl _ _)).set ((K3.out g).2 (.inl rfl)) _ _
      rw [hj]
      exact (K3.out q).2 (.inr rfl))
  clear e1 e2 kk
  go_wp2
  go_ret
  exact ⟨rfl, HF.out.1, HF.out.2⟩
end Go.Proofs.Ytjaifieakcnlmaa

/- Acts of five numbers; law 18's large. -/
import Derived.Test.YtignfhdblakcfabGby
import Derived.Handy
namespace Go.Proofs.Ytignfhdblakcfab
open Go.ChangeShapes Go.WideShapes Go.ChangeAt Go.RowKit
set_option linter.unusedVariables false
set_option linter.unusedSimpArgs false

abbrev Act5 := Int × Int × Int × Int × Int
def nil5 : Act5 := (0, 0, 0, 0, 0)
def cells5 (cs : List Act5) : List Value := cs.flatMap fun c => [.int .i64 c.1, .int .i64 c.2.1, .int .i64 c.2.2.1, .int .i64 c.2.2.2.1, .int .i64 c.2.2.2.2]
theorem cells5_length (cs : List Act5) : (cells5 cs).length = 5 * cs.length := by
  induction cs with
  | nil => rfl
  | cons c r ih => simp only [cells5, List.flatMap_cons, List.length_append, List.length_cons] at ih ⊢; rw [ih]; simp; omega
theorem cells5_at {cs : List Act5} : ∀ {k : Nat}, k < cs.length → (cells5 cs)[5 * k]? = some (.int .i64 (cs[k]?.getD nil5).1) ∧ (cells5 cs)[5 * k + 1]? = some (.int .i64 (cs[k]?.getD nil5).2.1) ∧ (cells5 cs)[5 * k + 2]? = some (.int .i64 (cs[k]?.getD nil5).2.2.1) ∧ (cells5 cs)[5 * k + 3]? = some (.int .i64 (cs[k]?.getD nil5).2.2.2.1) ∧ (cells5 cs)[5 * k + 4]? = some (.int .i64 (cs[k]?.getD nil5).2.2.2.2) := by
  induction cs with
  | nil => intro k h; simp at h
  | cons c r ih =>
    intro k h
    cases k with
    | zero => simp [cells5]
    | succ k =>
      have := ih (k := k) (by simpa using h)
      simp only [cells5, List.flatMap_cons, List.getElem?_cons_succ] at this ⊢
      rw [show 5 * (k + 1) = 5 * k + 5 by omega]
      simpa [List.getElem?_append] using this
/-- the cells of act k -/
theorem rd_act {w : World} {B : Nat} {A : Option Addr} {cs : List Act5} (hr : Rd w B A (cells5 cs)) {k : Nat} (hk : k < cs.length) : ∃ g o d f t b s, A = some ⟨g, o, none⟩ ∧ g < B ∧ cs[k]?.getD nil5 = (d, f, t, b, s) ∧
    w.cell? ⟨g, o + k * 5, none⟩ = some (.int .i64 d) ∧ w.cell? ⟨g, o + k * 5 + 1, none⟩ = some (.int .i64 f) ∧ w.cell? ⟨g, o + k * 5 + 2, none⟩ = some (.int .i64 t) ∧ w.cell? ⟨g, o + k * 5 + 3, none⟩ = some (.int .i64 b) ∧ w.cell? ⟨g, o + k * 5 + 4, none⟩ = some (.int .i64 s) := by
  obtain ⟨g, o, rfl, hg, hc⟩ := hr (by intro h; have := cells5_length cs; rw [h] at this; simp at this; omega)
  obtain ⟨c0, c1, c2, c3, c4⟩ := cells5_at hk
  have d0 := hc _ _ c0
  have d1 := hc _ _ c1
  have d2 := hc _ _ c2
  have d3 := hc _ _ c3
  have d4 := hc _ _ c4
  rw [show o + 5 * k = o + k * 5 by omega] at d0
  rw [show o + (5 * k + 1) = o + k * 5 + 1 by omega] at d1
  rw [show o + (5 * k + 2) = o + k * 5 + 2 by omega] at d2
  rw [show o + (5 * k + 3) = o + k * 5 + 3 by omega] at d3
  rw [show o + (5 * k + 4) = o + k * 5 + 4 by omega] at d4
  exact ⟨g, o, _, _, _, _, _, rfl, hg, rfl, d0, d1, d2, d3, d4⟩
/-- is the number within 2^61? -/
def in61 (n : Int) : Prop := -2305843009213693952 ≤ n ∧ n ≤ 2305843009213693952
def fine5 (c : Act5) : Prop := in61 c.2.1 ∧ in61 c.2.2.1 ∧ in61 c.2.2.2.1 ∧ in61 c.2.2.2.2
/-- large answers false only where all is fine -/
def LargePost (w : World) (cs : List Act5) (e : Ending) (w' : World) : Prop := (∃ b, e = .returned (.bool b) ∧ (b = false → cs.length ≤ 100 ∧ ∀ k, k < cs.length → fine5 (cs[k]?.getD nil5))) ∧ Below w.heap.size w w'
theorem large_t {w w' : World} {cs : List Act5} (hb : Below w.heap.size w w') : LargePost w cs (.returned (.bool true)) w' := ⟨⟨true, rfl, fun h => by cases h⟩, hb⟩
def LargeRel (w : World) (cs : List Act5) (s12 : Value) (wr : World) : Prop := ∃ k : Nat, s12 = .int .i64 (k : Int) ∧ k ≤ cs.length ∧ Hid (∀ j, j < k → fine5 (cs[j]?.getD nil5)) ∧ Below w.heap.size w wr
set_option maxRecDepth 100000 in
set_option maxHeartbeats 2000000 in
theorem large_any (w : World) (A : Option Addr) (c B : Nat) (cs : List Act5) (hr : Rd w B A (cells5 cs)) (hB : B ≤ w.heap.size) (hl : cs.length ≤ c) (hcm : c ≤ maxLen) :
    Calls Try.prog 5 #[.slice A cs.length c] w (LargePost w cs) := by
  unfold maxLen at hcm
  by_cases h100 : 100 < cs.length
  · have HP := Lib.hid (large_t (cs := cs) (Below.refl w.heap.size w))
    go_enter Try.func5, Try.ntmps5
    go_wp2
    go_ret
    exact HP.out
  · go_enter Try.func5, Try.ntmps5
    go_wp2
    go_loopw [12] (fun s12 wr => LargeRel w cs s12 wr) (fun s12 _ => cs.length - (intOf s12).toNat)
    case atStart => exact ⟨0, rfl, by omega, Lib.hid (fun j hj => absurd hj (by omega)), Below.refl _ _⟩
    case round =>
      obtain ⟨k, rfl, hk, hall, hbel⟩ := hrel
      have HB := Lib.hid hbel
      by_cases hlt : k < cs.length
      · obtain ⟨g, o, d, f, t, b, s, rfl, hg, hact, d0, d1, d2, d3, d4⟩ := rd_act hr hlt
        rw [← hbel.cell (by simp; omega)] at d0 d1 d2 d3 d4
        have hgw : g < wr.heap.size := World.block_lt_of_cell? _ _ d0
        have HA := Lib.hid hact
        clear hact hbel
        have j0 : ∀ w, (Instr.index 38 (.agg #[.int .i64 f, .int .i64 t, .int .i64 b, .int .i64 s]) (.int .i64 0)).run Try.prog w = .ok (.int .i64 f) w := fun _ => by kernel_rfl
        have j1 : ∀ w, (Instr.index 38 (.agg #[.int .i64 f, .int .i64 t, .int .i64 b, .int .i64 s]) (.int .i64 1)).run Try.prog w = .ok (.int .i64 t) w := fun _ => by kernel_rfl
        have j2 : ∀ w, (Instr.index 38 (.agg #[.int .i64 f, .int .i64 t, .int .i64 b, .int .i64 s]) (.int .i64 2)).run Try.prog w = .ok (.int .i64 b) w := fun _ => by kernel_rfl
        have j3 : ∀ w, (Instr.index 38 (.agg #[.int .i64 f, .int .i64 t, .int .i64 b, .int .i64 s]) (.int .i64 3)).run Try.prog w = .ok (.int .i64 s) w := fun _ => by kernel_rfl
        have hlt2 : (k : Int) < (cs.length : Int) := by omega
        by_cases hf : -2305843009213693952 ≤ f ∧ f ≤ 2305843009213693952
        · obtain ⟨f0, f1⟩ := hf
          by_cases ht : -2305843009213693952 ≤ t ∧ t ≤ 2305843009213693952
          · obtain ⟨t0, t1⟩ := ht
            by_cases hb : -2305843009213693952 ≤ b ∧ b ≤ 2305843009213693952
            · obtain ⟨b0, b1⟩ := hb
              by_cases hs : -2305843009213693952 ≤ s ∧ s ≤ 2305843009213693952
              · obtain ⟨s0, s1⟩ := hs
                have R : ∀ ob : Obj, LargeRel w cs (.int .i64 ((k : Int) + 1)) (wr.alloc ob) := fun ob =>
                  ⟨k + 1, by go_num, hlt, Lib.hid (fun j hj => by
                    by_cases e : j = k
                    · subst e; rw [HA.out]; exact ⟨⟨f0, f1⟩, ⟨t0, t1⟩, ⟨b0, b1⟩, ⟨s0, s1⟩⟩
                    · exact hall.out j (by omega)), HB.out.alloc HB.out.size _⟩
                have HR := Lib.hid R; clear R
                go_wp2
                go_rounds 5
                exact ⟨HR.out _, by simp [intOf]; omega⟩
              · go_wp2
                go_rounds 4
                all_goals first | (go_ret; exact large_t (HB.out.alloc HB.out.size _)) | omega
            · go_wp2
              go_rounds 3
              all_goals first | (go_ret; exact large_t (HB.out.alloc HB.out.size _)) | omega
          · go_wp2
            go_rounds 2
            all_goals first | (go_ret; exact large_t (HB.out.alloc HB.out.size _)) | omega
        · go_wp2
          go_rounds 1
          all_goals first | (go_ret; exact large_t (HB.out.alloc HB.out.size _)) | omega
      · obtain rfl : k = cs.length := by omega
        have HP : LargePost w cs (.returned (.bool false)) wr := ⟨⟨false, rfl, fun _ => ⟨by omega, hall.out⟩⟩, HB.out⟩
        have HPP := Lib.hid HP; clear HP hbel
        go_wp2
        go_ret
        exact HPP.out
end Go.Proofs.Ytignfhdblakcfab

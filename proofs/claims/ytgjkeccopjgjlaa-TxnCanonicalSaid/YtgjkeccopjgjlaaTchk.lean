/- txn.Check. -/
import Derived.Test.YtgjkeccopjgjlaaTcf
import Derived.BigQuiet
import Derived.Shelf.Abstract
namespace Go.Proofs.Ytgjkeccopjgjlaa
open Go.ChangeShapes Go.WideShapes Go.ChangeAt Go.RowKit
set_option linter.unusedVariables false
set_option linter.unusedSimpArgs false

def CkP (w : World) (t : Txn) (e : Ending) (w' : World) : Prop := e = .returned (.int .i64 (Tm.check t : Int)) ∧ Below w.heap.size w w'
theorem ckP {w w' : World} {t : Txn} {n : Nat} (h : Tm.check t = n) (hb : Below w.heap.size w w') : CkP w t (.returned (.int .i64 (n : Int))) w' := by subst h; exact ⟨rfl, hb⟩
theorem eg_tooLong : ∀ args w, (callFunc 43 args).run Try.prog w = .ok (.enter 43 args) w := enters_of Try.func43 (by kernel_rfl) rfl
theorem eg_odd : ∀ args w, (callFunc 44 args).run Try.prog w = .ok (.enter 44 args) w := enters_of Try.func44 (by kernel_rfl) rfl
set_option maxHeartbeats 300000 in
theorem Check_o1 (w : World) (o s c0 c1 c2 : Int) (ws : List Wr) (A : Option Addr) (len cap : Nat) (h : o < 0) :
    Calls Try.prog 12 #[.agg #[.int .i64 (o), .int .i64 s, .int .i64 c0, .int .i64 c1, .int .i64 c2, .slice A len cap]] w (CkP w (o, s, (c0, c1, c2), ws)) := by
  have hk : Tm.check (o, s, (c0, c1, c2), ws) = 9 := by
    unfold Tm.check
    simp only
    rw [if_pos (by omega)]
  have HK := Lib.hid hk; clear hk
  have hb0 := (Below.refl w.heap.size w).alloc (Nat.le_refl _) (.cells #[.int .i64 (o), .int .i64 s, .int .i64 c0, .int .i64 c1, .int .i64 c2, .slice A len cap] 38)
  have HB := Lib.hid hb0; clear hb0
  go_enter Try.func12, Try.ntmps12
  go_wp2
  go_ret
  exact ckP HK.out HB.out
set_option maxHeartbeats 300000 in
theorem Check_o2 (w : World) (o s c0 c1 c2 : Int) (ws : List Wr) (A : Option Addr) (len cap : Nat) (h : 2 < o) :
    Calls Try.prog 12 #[.agg #[.int .i64 (o), .int .i64 s, .int .i64 c0, .int .i64 c1, .int .i64 c2, .slice A len cap]] w (CkP w (o, s, (c0, c1, c2), ws)) := by
  have hk : Tm.check (o, s, (c0, c1, c2), ws) = 9 := by
    unfold Tm.check
    simp only
    rw [if_pos (by omega)]
  have HK := Lib.hid hk; clear hk
  have hb0 := (Below.refl w.heap.size w).alloc (Nat.le_refl _) (.cells #[.int .i64 (o), .int .i64 s, .int .i64 c0, .int .i64 c1, .int .i64 c2, .slice A len cap] 38)
  have h0 : ¬ o < 0 := by omega
  have h1 : (3 : Int) ≤ o := by omega
  have HB := Lib.hid hb0; clear hb0
  go_enter Try.func12, Try.ntmps12
  go_wp2
  go_ret
  exact ckP HK.out HB.out
set_option maxHeartbeats 300000 in
theorem Check_s1 (w : World) (o s c0 c1 c2 : Int) (ws : List Wr) (A : Option Addr) (len cap : Nat) (ho : 0 ≤ o ∧ o ≤ 2) (h : s < 1) :
    Calls Try.prog 12 #[.agg #[.int .i64 (o), .int .i64 s, .int .i64 c0, .int .i64 c1, .int .i64 c2, .slice A len cap]] w (CkP w (o, s, (c0, c1, c2), ws)) := by
  have hk : Tm.check (o, s, (c0, c1, c2), ws) = 1 := by
    unfold Tm.check
    simp only
    rw [if_neg (by omega), if_pos (.inl h)]
  have HK := Lib.hid hk; clear hk
  have hb0 := (Below.refl w.heap.size w).alloc (Nat.le_refl _) (.cells #[.int .i64 (o), .int .i64 s, .int .i64 c0, .int .i64 c1, .int .i64 c2, .slice A len cap] 38)
  have h0 : ¬ o < 0 := by omega
  have h1 : ¬ (3 : Int) ≤ o := by omega
  have HB := Lib.hid hb0; clear hb0
  go_enter Try.func12, Try.ntmps12
  go_wp2
  go_ret
  exact ckP HK.out HB.out
set_option maxHeartbeats 300000 in
theorem Check_s2 (w : World) (o s c0 c1 c2 : Int) (ws : List Wr) (A : Option Addr) (len cap : Nat) (ho : 0 ≤ o ∧ o ≤ 2) (h : 4611686018427387903 < s) :
    Calls Try.prog 12 #[.agg #[.int .i64 (o), .int .i64 s, .int .i64 c0, .int .i64 c1, .int .i64 c2, .slice A len cap]] w (CkP w (o, s, (c0, c1, c2), ws)) := by
  have hk : Tm.check (o, s, (c0, c1, c2), ws) = 1 := by
    unfold Tm.check
    simp only
    rw [if_neg (by omega), if_pos (.inr (.inl h))]
  have HK := Lib.hid hk; clear hk
  have hb0 := (Below.refl w.heap.size w).alloc (Nat.le_refl _) (.cells #[.int .i64 (o), .int .i64 s, .int .i64 c0, .int .i64 c1, .int .i64 c2, .slice A len cap] 38)
  have h0 : ¬ o < 0 := by omega
  have h1 : ¬ (3 : Int) ≤ o := by omega
  have h2 : ¬ s < 1 := by omega
  have HB := Lib.hid hb0; clear hb0
  go_enter Try.func12, Try.ntmps12
  go_wp2
  go_ret
  exact ckP HK.out HB.out
set_option maxHeartbeats 300000 in
theorem Check_r (w : World) (o s c0 c1 c2 : Int) (ws : List Wr) (A : Option Addr) (len cap : Nat) (ho : 0 ≤ o ∧ o ≤ 2) (hs : 1 ≤ s ∧ s ≤ 4611686018427387903) (hri : rightB c0 c1 c2 = false) :
    Calls Try.prog 12 #[.agg #[.int .i64 (o), .int .i64 s, .int .i64 c0, .int .i64 c1, .int .i64 c2, .slice A len cap]] w (CkP w (o, s, (c0, c1, c2), ws)) := by
  have hk : Tm.check (o, s, (c0, c1, c2), ws) = 1 := by
    unfold Tm.check
    simp only
    rw [if_neg (by omega), if_pos (.inr (.inr hri))]
  have HK := Lib.hid hk; clear hk
  have hb0 := (Below.refl w.heap.size w).alloc (Nat.le_refl _) (.cells #[.int .i64 (o), .int .i64 s, .int .i64 c0, .int .i64 c1, .int .i64 c2, .slice A len cap] 38)
  have h0 : ¬ o < 0 := by omega
  have h1 : ¬ (3 : Int) ≤ o := by omega
  have h2 : ¬ s < 1 := by omega
  have h3 : ¬ 4611686018427387903 < s := by omega
  have HR : ∀ w, Calls Try.prog 41 #[.agg #[.int .i64 c0, .int .i64 c1, .int .i64 c2]] w (BoolPost w false) := fun w => hri ▸ Right_any w c0 c1 c2
  have HB := Lib.hid hb0; clear hb0
  go_enter Try.func12, Try.ntmps12
  go_wp2_with fail
  refine (HR _).mono ?_
  rintro e w1 ⟨rfl, hb⟩
  have hb1 := HB.out.trans (hb.mono (by simp))
  have HB1 := Lib.hid hb1
  clear hb hb1
  go_wp2
  go_ret
  exact ckP HK.out HB1.out
set_option maxHeartbeats 300000 in
theorem Check_d0 (w : World) (s c0 c1 c2 : Int) (ws : List Wr) (A : Option Addr) (len cap : Nat) (hs : 1 ≤ s ∧ s ≤ 4611686018427387903) (hri : rightB c0 c1 c2 = true) (hd : c0 ≠ s - 1) :
    Calls Try.prog 12 #[.agg #[.int .i64 (0), .int .i64 s, .int .i64 c0, .int .i64 c1, .int .i64 c2, .slice A len cap]] w (CkP w (0, s, (c0, c1, c2), ws)) := by
  have hk : Tm.check (0, s, (c0, c1, c2), ws) = 11 := by
    unfold Tm.check
    simp only
    rw [if_neg (by omega), if_neg (by simp only [hri]; simp; omega), if_pos (by simpa [Tm.dep] using hd)]
  have HK := Lib.hid hk; clear hk
  have hb0 := (Below.refl w.heap.size w).alloc (Nat.le_refl _) (.cells #[.int .i64 (0), .int .i64 s, .int .i64 c0, .int .i64 c1, .int .i64 c2, .slice A len cap] 38)
  have h2 : ¬ s < 1 := by omega
  have h3 : ¬ 4611686018427387903 < s := by omega
  have HR : ∀ w, Calls Try.prog 41 #[.agg #[.int .i64 c0, .int .i64 c1, .int .i64 c2]] w (BoolPost w true) := fun w => hri ▸ Right_any w c0 c1 c2
  have HB := Lib.hid hb0; clear hb0
  go_enter Try.func12, Try.ntmps12
  go_wp2_with fail
  refine (HR _).mono ?_
  rintro e w1 ⟨rfl, hb⟩
  have hb1 := HB.out.trans (hb.mono (by simp))
  have HB1 := Lib.hid hb1
  have hcl : w1.cell? ⟨w.heap.size, 2, none⟩ = some (.int .i64 c0) := (hb.cell (p := ⟨w.heap.size, 2, none⟩) (by simp)).trans (by simp)
  have hcs : w1.cell? ⟨w.heap.size, 1, none⟩ = some (.int .i64 s) := (hb.cell (p := ⟨w.heap.size, 1, none⟩) (by simp)).trans (by simp)
  have hco : w1.cell? ⟨w.heap.size, 0, none⟩ = some (.int .i64 0) := (hb.cell (p := ⟨w.heap.size, 0, none⟩) (by simp)).trans (by simp)
  have hcw : w1.cell? ⟨w.heap.size, 5, none⟩ = some (.slice A len cap) := (hb.cell (p := ⟨w.heap.size, 5, none⟩) (by simp)).trans (by simp)
  clear hb hb1
  go_wp2
  go_quiet (fail)
  go_wp2
  go_ret
  exact ckP HK.out (by first | exact HB1.out | exact below_drewN HB1.out _)
set_option maxHeartbeats 300000 in
theorem Check_l0 (w : World) (s c1 c2 : Int) (ws : List Wr) (A : Option Addr) (len cap : Nat) (hs : 1 ≤ s ∧ s ≤ 4611686018427387903) (hri : rightB (s - 1) c1 c2 = true) (hr : WrR w w.heap.size A ws) (hn : ws.length = len) (hl : len ≤ 1099511627776) (h : 16 < ws.length) :
    Calls Try.prog 12 #[.agg #[.int .i64 (0), .int .i64 s, .int .i64 (s - 1), .int .i64 c1, .int .i64 c2, .slice A len cap]] w (CkP w (0, s, ((s - 1), c1, c2), ws)) := by
  have hk : Tm.check (0, s, ((s - 1), c1, c2), ws) = 4 := by
    unfold Tm.check
    simp only
    rw [if_neg (by omega), if_neg (by simp only [hri]; simp; omega), if_neg (by simp [Tm.dep]), if_pos (.inl h)]
  have HK := Lib.hid hk; clear hk
  have hb0 := (Below.refl w.heap.size w).alloc (Nat.le_refl _) (.cells #[.int .i64 (0), .int .i64 s, .int .i64 (s - 1), .int .i64 c1, .int .i64 c2, .slice A len cap] 38)
  have h2 : ¬ s < 1 := by omega
  have h3 : ¬ 4611686018427387903 < s := by omega
  have HR : ∀ w, Calls Try.prog 41 #[.agg #[.int .i64 (s - 1), .int .i64 c1, .int .i64 c2]] w (BoolPost w true) := fun w => hri ▸ Right_any w (s - 1) c1 c2
  have h4 : (16 : Int) < (len : Int) := by omega
  have HB := Lib.hid hb0; clear hb0
  go_enter Try.func12, Try.ntmps12
  go_wp2_with fail
  refine (HR _).mono ?_
  rintro e w1 ⟨rfl, hb⟩
  have hb1 := HB.out.trans (hb.mono (by simp))
  have HB1 := Lib.hid hb1
  have hcl : w1.cell? ⟨w.heap.size, 2, none⟩ = some (.int .i64 (s - 1)) := (hb.cell (p := ⟨w.heap.size, 2, none⟩) (by simp)).trans (by simp)
  have hcs : w1.cell? ⟨w.heap.size, 1, none⟩ = some (.int .i64 s) := (hb.cell (p := ⟨w.heap.size, 1, none⟩) (by simp)).trans (by simp)
  have hco : w1.cell? ⟨w.heap.size, 0, none⟩ = some (.int .i64 0) := (hb.cell (p := ⟨w.heap.size, 0, none⟩) (by simp)).trans (by simp)
  have hcw : w1.cell? ⟨w.heap.size, 5, none⟩ = some (.slice A len cap) := (hb.cell (p := ⟨w.heap.size, 5, none⟩) (by simp)).trans (by simp)
  clear hb hb1 hr hn
  go_wp2
  go_quiet (fail)
  go_wp2
  go_ret
  exact ckP HK.out (by first | exact HB1.out | exact below_drewN HB1.out _)
set_option maxHeartbeats 300000 in
theorem Check_t0 (w : World) (s c1 c2 : Int) (ws : List Wr) (A : Option Addr) (len cap : Nat) (hs : 1 ≤ s ∧ s ≤ 4611686018427387903) (hri : rightB (s - 1) c1 c2 = true) (hr : WrR w w.heap.size A ws) (hn : ws.length = len) (hl : len ≤ 1099511627776) (h : ws.length ≤ 16) (ha : ws.any Tm.tooB = true) :
    Calls Try.prog 12 #[.agg #[.int .i64 (0), .int .i64 s, .int .i64 (s - 1), .int .i64 c1, .int .i64 c2, .slice A len cap]] w (CkP w (0, s, ((s - 1), c1, c2), ws)) := by
  have hk : Tm.check (0, s, ((s - 1), c1, c2), ws) = 4 := by
    unfold Tm.check
    simp only
    rw [if_neg (by omega), if_neg (by simp only [hri]; simp; omega), if_neg (by simp [Tm.dep]), if_pos (.inr ha)]
  have HK := Lib.hid hk; clear hk
  have hb0 := (Below.refl w.heap.size w).alloc (Nat.le_refl _) (.cells #[.int .i64 (0), .int .i64 s, .int .i64 (s - 1), .int .i64 c1, .int .i64 c2, .slice A len cap] 38)
  have h2 : ¬ s < 1 := by omega
  have h3 : ¬ 4611686018427387903 < s := by omega
  have HR : ∀ w, Calls Try.prog 41 #[.agg #[.int .i64 (s - 1), .int .i64 c1, .int .i64 c2]] w (BoolPost w true) := fun w => hri ▸ Right_any w (s - 1) c1 c2
  have h4 : ¬ (16 : Int) < (len : Int) := by omega
  have HB := Lib.hid hb0; clear hb0
  go_enter Try.func12, Try.ntmps12
  go_wp2_with fail
  refine (HR _).mono ?_
  rintro e w1 ⟨rfl, hb⟩
  have hb1 := HB.out.trans (hb.mono (by simp))
  have HB1 := Lib.hid hb1
  have hcl : w1.cell? ⟨w.heap.size, 2, none⟩ = some (.int .i64 (s - 1)) := (hb.cell (p := ⟨w.heap.size, 2, none⟩) (by simp)).trans (by simp)
  have hcs : w1.cell? ⟨w.heap.size, 1, none⟩ = some (.int .i64 s) := (hb.cell (p := ⟨w.heap.size, 1, none⟩) (by simp)).trans (by simp)
  have hco : w1.cell? ⟨w.heap.size, 0, none⟩ = some (.int .i64 0) := (hb.cell (p := ⟨w.heap.size, 0, none⟩) (by simp)).trans (by simp)
  have hcw : w1.cell? ⟨w.heap.size, 5, none⟩ = some (.slice A len cap) := (hb.cell (p := ⟨w.heap.size, 5, none⟩) (by simp)).trans (by simp)
  have HW1 := Lib.hid (fun q => ContainsFunc_any 43 Tm.tooB eg_tooLong tooLong_any (w1.drewN q) A len cap ws ((WrR.below hr (below_drewN hb1 q)).more hb1.size) hn hl)
  rw [ha] at HW1
  clear hb hb1 hr hn
  go_wp2
  go_quiet (fail)
  go_wp2_with fail
  refine (HW1.out nq).mono ?_
  have HQ := Lib.hid (below_drewN HB1.out nq)
  rintro e w2 ⟨rfl, hb2⟩
  have HB2 := Lib.hid (HQ.out.trans (hb2.mono HQ.out.size))
  clear hb2
  go_wp2
  go_ret
  exact ckP HK.out HB2.out
set_option maxHeartbeats 300000 in
theorem Check_f0 (w : World) (s c1 c2 : Int) (ws : List Wr) (A : Option Addr) (len cap : Nat) (hs : 1 ≤ s ∧ s ≤ 4611686018427387903) (hri : rightB (s - 1) c1 c2 = true) (hr : WrR w w.heap.size A ws) (hn : ws.length = len) (hl : len ≤ 1099511627776) (h : ws.length ≤ 16) (ha : ws.any Tm.tooB = false) (hc : ws.any Tm.oddB = true) :
    Calls Try.prog 12 #[.agg #[.int .i64 (0), .int .i64 s, .int .i64 (s - 1), .int .i64 c1, .int .i64 c2, .slice A len cap]] w (CkP w (0, s, ((s - 1), c1, c2), ws)) := by
  have hk : Tm.check (0, s, ((s - 1), c1, c2), ws) = 3 := by
    unfold Tm.check
    simp only
    rw [if_neg (by omega), if_neg (by simp only [hri]; simp; omega), if_neg (by simp [Tm.dep]), if_neg (by rw [ha]; simp; omega), if_pos hc]
  have HK := Lib.hid hk; clear hk
  have hb0 := (Below.refl w.heap.size w).alloc (Nat.le_refl _) (.cells #[.int .i64 (0), .int .i64 s, .int .i64 (s - 1), .int .i64 c1, .int .i64 c2, .slice A len cap] 38)
  have h2 : ¬ s < 1 := by omega
  have h3 : ¬ 4611686018427387903 < s := by omega
  have HR : ∀ w, Calls Try.prog 41 #[.agg #[.int .i64 (s - 1), .int .i64 c1, .int .i64 c2]] w (BoolPost w true) := fun w => hri ▸ Right_any w (s - 1) c1 c2
  have h4 : ¬ (16 : Int) < (len : Int) := by omega
  have HB := Lib.hid hb0; clear hb0
  go_enter Try.func12, Try.ntmps12
  go_wp2_with fail
  refine (HR _).mono ?_
  rintro e w1 ⟨rfl, hb⟩
  have hb1 := HB.out.trans (hb.mono (by simp))
  have HB1 := Lib.hid hb1
  have hcl : w1.cell? ⟨w.heap.size, 2, none⟩ = some (.int .i64 (s - 1)) := (hb.cell (p := ⟨w.heap.size, 2, none⟩) (by simp)).trans (by simp)
  have hcs : w1.cell? ⟨w.heap.size, 1, none⟩ = some (.int .i64 s) := (hb.cell (p := ⟨w.heap.size, 1, none⟩) (by simp)).trans (by simp)
  have hco : w1.cell? ⟨w.heap.size, 0, none⟩ = some (.int .i64 0) := (hb.cell (p := ⟨w.heap.size, 0, none⟩) (by simp)).trans (by simp)
  have hcw : w1.cell? ⟨w.heap.size, 5, none⟩ = some (.slice A len cap) := (hb.cell (p := ⟨w.heap.size, 5, none⟩) (by simp)).trans (by simp)
  have HW1 := Lib.hid (fun q => ContainsFunc_any 43 Tm.tooB eg_tooLong tooLong_any (w1.drewN q) A len cap ws ((WrR.below hr (below_drewN hb1 q)).more hb1.size) hn hl)
  have HWR := Lib.hid hr; have HN := Lib.hid hn; have HLT : Hid (w.heap.size < w1.heap.size) := Lib.hid (World.block_lt_of_cell? _ _ hco)
  rw [ha] at HW1
  clear hb hb1 hr hn
  go_wp2
  go_quiet (fail)
  go_wp2_with fail
  refine (HW1.out nq).mono ?_
  have HQ := Lib.hid (below_drewN HB1.out nq)
  rintro e w2 ⟨rfl, hb2⟩
  have hws2 : w2.cell? ⟨w.heap.size, 5, none⟩ = some (.slice A len cap) := (hb2.cell (p := ⟨w.heap.size, 5, none⟩) (HLT.out)).trans (show (w1.drewN nq).cell? _ = _ from hcw)
  have HB2 := Lib.hid (HQ.out.trans (hb2.mono HQ.out.size))
  have HW2 := Lib.hid (ContainsFunc_any 44 Tm.oddB eg_odd odd_any w2 A len cap ws ((WrR.below HWR.out HB2.out).more HB2.out.size) HN.out hl)
  rw [hc] at HW2
  clear hb2
  go_wp2_with fail
  refine HW2.out.mono ?_
  rintro e w3 ⟨rfl, hb3⟩
  have HB3 := Lib.hid (HB2.out.trans (hb3.mono HB2.out.size))
  clear hb3
  go_wp2
  go_ret
  exact ckP HK.out HB3.out
set_option maxHeartbeats 300000 in
theorem Check_k0 (w : World) (s c1 c2 : Int) (ws : List Wr) (A : Option Addr) (len cap : Nat) (hs : 1 ≤ s ∧ s ≤ 4611686018427387903) (hri : rightB (s - 1) c1 c2 = true) (hr : WrR w w.heap.size A ws) (hn : ws.length = len) (hl : len ≤ 1099511627776) (h : ws.length ≤ 16) (ha : ws.any Tm.tooB = false) (hc : ws.any Tm.oddB = false) :
    Calls Try.prog 12 #[.agg #[.int .i64 (0), .int .i64 s, .int .i64 (s - 1), .int .i64 c1, .int .i64 c2, .slice A len cap]] w (CkP w (0, s, ((s - 1), c1, c2), ws)) := by
  have hk : Tm.check (0, s, ((s - 1), c1, c2), ws) = 0 := by
    unfold Tm.check
    simp only
    rw [if_neg (by omega), if_neg (by simp only [hri]; simp; omega), if_neg (by simp [Tm.dep]), if_neg (by rw [ha]; simp; omega), if_neg (by simp [hc])]
  have HK := Lib.hid hk; clear hk
  have hb0 := (Below.refl w.heap.size w).alloc (Nat.le_refl _) (.cells #[.int .i64 (0), .int .i64 s, .int .i64 (s - 1), .int .i64 c1, .int .i64 c2, .slice A len cap] 38)
  have h2 : ¬ s < 1 := by omega
  have h3 : ¬ 4611686018427387903 < s := by omega
  have HR : ∀ w, Calls Try.prog 41 #[.agg #[.int .i64 (s - 1), .int .i64 c1, .int .i64 c2]] w (BoolPost w true) := fun w => hri ▸ Right_any w (s - 1) c1 c2
  have h4 : ¬ (16 : Int) < (len : Int) := by omega
  have HB := Lib.hid hb0; clear hb0
  go_enter Try.func12, Try.ntmps12
  go_wp2_with fail
  refine (HR _).mono ?_
  rintro e w1 ⟨rfl, hb⟩
  have hb1 := HB.out.trans (hb.mono (by simp))
  have HB1 := Lib.hid hb1
  have hcl : w1.cell? ⟨w.heap.size, 2, none⟩ = some (.int .i64 (s - 1)) := (hb.cell (p := ⟨w.heap.size, 2, none⟩) (by simp)).trans (by simp)
  have hcs : w1.cell? ⟨w.heap.size, 1, none⟩ = some (.int .i64 s) := (hb.cell (p := ⟨w.heap.size, 1, none⟩) (by simp)).trans (by simp)
  have hco : w1.cell? ⟨w.heap.size, 0, none⟩ = some (.int .i64 0) := (hb.cell (p := ⟨w.heap.size, 0, none⟩) (by simp)).trans (by simp)
  have hcw : w1.cell? ⟨w.heap.size, 5, none⟩ = some (.slice A len cap) := (hb.cell (p := ⟨w.heap.size, 5, none⟩) (by simp)).trans (by simp)
  have HW1 := Lib.hid (fun q => ContainsFunc_any 43 Tm.tooB eg_tooLong tooLong_any (w1.drewN q) A len cap ws ((WrR.below hr (below_drewN hb1 q)).more hb1.size) hn hl)
  have HWR := Lib.hid hr; have HN := Lib.hid hn; have HLT : Hid (w.heap.size < w1.heap.size) := Lib.hid (World.block_lt_of_cell? _ _ hco)
  rw [ha] at HW1
  clear hb hb1 hr hn
  go_wp2
  go_quiet (fail)
  go_wp2_with fail
  refine (HW1.out nq).mono ?_
  have HQ := Lib.hid (below_drewN HB1.out nq)
  rintro e w2 ⟨rfl, hb2⟩
  have hws2 : w2.cell? ⟨w.heap.size, 5, none⟩ = some (.slice A len cap) := (hb2.cell (p := ⟨w.heap.size, 5, none⟩) (HLT.out)).trans (show (w1.drewN nq).cell? _ = _ from hcw)
  have HB2 := Lib.hid (HQ.out.trans (hb2.mono HQ.out.size))
  have HW2 := Lib.hid (ContainsFunc_any 44 Tm.oddB eg_odd odd_any w2 A len cap ws ((WrR.below HWR.out HB2.out).more HB2.out.size) HN.out hl)
  rw [hc] at HW2
  clear hb2
  go_wp2_with fail
  refine HW2.out.mono ?_
  rintro e w3 ⟨rfl, hb3⟩
  have HB3 := Lib.hid (HB2.out.trans (hb3.mono HB2.out.size))
  clear hb3
  go_wp2
  go_ret
  exact ckP HK.out HB3.out
set_option maxHeartbeats 300000 in
theorem Check_d1 (w : World) (s c0 c1 c2 : Int) (ws : List Wr) (A : Option Addr) (len cap : Nat) (hs : 1 ≤ s ∧ s ≤ 4611686018427387903) (hri : rightB c0 c1 c2 = true) (hd : c1 ≠ s - 1) :
    Calls Try.prog 12 #[.agg #[.int .i64 (1), .int .i64 s, .int .i64 c0, .int .i64 c1, .int .i64 c2, .slice A len cap]] w (CkP w (1, s, (c0, c1, c2), ws)) := by
  have hk : Tm.check (1, s, (c0, c1, c2), ws) = 11 := by
    unfold Tm.check
    simp only
    rw [if_neg (by omega), if_neg (by simp only [hri]; simp; omega), if_pos (by simpa [Tm.dep] using hd)]
  have HK := Lib.hid hk; clear hk
  have hb0 := (Below.refl w.heap.size w).alloc (Nat.le_refl _) (.cells #[.int .i64 (1), .int .i64 s, .int .i64 c0, .int .i64 c1, .int .i64 c2, .slice A len cap] 38)
  have h2 : ¬ s < 1 := by omega
  have h3 : ¬ 4611686018427387903 < s := by omega
  have HR : ∀ w, Calls Try.prog 41 #[.agg #[.int .i64 c0, .int .i64 c1, .int .i64 c2]] w (BoolPost w true) := fun w => hri ▸ Right_any w c0 c1 c2
  have HB := Lib.hid hb0; clear hb0
  go_enter Try.func12, Try.ntmps12
  go_wp2_with fail
  refine (HR _).mono ?_
  rintro e w1 ⟨rfl, hb⟩
  have hb1 := HB.out.trans (hb.mono (by simp))
  have HB1 := Lib.hid hb1
  have hcl : w1.cell? ⟨w.heap.size, 3, none⟩ = some (.int .i64 c1) := (hb.cell (p := ⟨w.heap.size, 3, none⟩) (by simp)).trans (by simp)
  have hcs : w1.cell? ⟨w.heap.size, 1, none⟩ = some (.int .i64 s) := (hb.cell (p := ⟨w.heap.size, 1, none⟩) (by simp)).trans (by simp)
  have hco : w1.cell? ⟨w.heap.size, 0, none⟩ = some (.int .i64 1) := (hb.cell (p := ⟨w.heap.size, 0, none⟩) (by simp)).trans (by simp)
  have hcw : w1.cell? ⟨w.heap.size, 5, none⟩ = some (.slice A len cap) := (hb.cell (p := ⟨w.heap.size, 5, none⟩) (by simp)).trans (by simp)
  clear hb hb1
  go_wp2
  go_quiet (fail)
  go_wp2
  go_ret
  exact ckP HK.out (by first | exact HB1.out | exact below_drewN HB1.out _)
set_option maxHeartbeats 300000 in
theorem Check_l1 (w : World) (s c0 c2 : Int) (ws : List Wr) (A : Option Addr) (len cap : Nat) (hs : 1 ≤ s ∧ s ≤ 4611686018427387903) (hri : rightB c0 (s - 1) c2 = true) (hr : WrR w w.heap.size A ws) (hn : ws.length = len) (hl : len ≤ 1099511627776) (h : 16 < ws.length) :
    Calls Try.prog 12 #[.agg #[.int .i64 (1), .int .i64 s, .int .i64 c0, .int .i64 (s - 1), .int .i64 c2, .slice A len cap]] w (CkP w (1, s, (c0, (s - 1), c2), ws)) := by
  have hk : Tm.check (1, s, (c0, (s - 1), c2), ws) = 4 := by
    unfold Tm.check
    simp only
    rw [if_neg (by omega), if_neg (by simp only [hri]; simp; omega), if_neg (by simp [Tm.dep]), if_pos (.inl h)]
  have HK := Lib.hid hk; clear hk
  have hb0 := (Below.refl w.heap.size w).alloc (Nat.le_refl _) (.cells #[.int .i64 (1), .int .i64 s, .int .i64 c0, .int .i64 (s - 1), .int .i64 c2, .slice A len cap] 38)
  have h2 : ¬ s < 1 := by omega
  have h3 : ¬ 4611686018427387903 < s := by omega
  have HR : ∀ w, Calls Try.prog 41 #[.agg #[.int .i64 c0, .int .i64 (s - 1), .int .i64 c2]] w (BoolPost w true) := fun w => hri ▸ Right_any w c0 (s - 1) c2
  have h4 : (16 : Int) < (len : Int) := by omega
  have HB := Lib.hid hb0; clear hb0
  go_enter Try.func12, Try.ntmps12
  go_wp2_with fail
  refine (HR _).mono ?_
  rintro e w1 ⟨rfl, hb⟩
  have hb1 := HB.out.trans (hb.mono (by simp))
  have HB1 := Lib.hid hb1
  have hcl : w1.cell? ⟨w.heap.size, 3, none⟩ = some (.int .i64 (s - 1)) := (hb.cell (p := ⟨w.heap.size, 3, none⟩) (by simp)).trans (by simp)
  have hcs : w1.cell? ⟨w.heap.size, 1, none⟩ = some (.int .i64 s) := (hb.cell (p := ⟨w.heap.size, 1, none⟩) (by simp)).trans (by simp)
  have hco : w1.cell? ⟨w.heap.size, 0, none⟩ = some (.int .i64 1) := (hb.cell (p := ⟨w.heap.size, 0, none⟩) (by simp)).trans (by simp)
  have hcw : w1.cell? ⟨w.heap.size, 5, none⟩ = some (.slice A len cap) := (hb.cell (p := ⟨w.heap.size, 5, none⟩) (by simp)).trans (by simp)
  clear hb hb1 hr hn
  go_wp2
  go_quiet (fail)
  go_wp2
  go_ret
  exact ckP HK.out (by first | exact HB1.out | exact below_drewN HB1.out _)
set_option maxHeartbeats 300000 in
theorem Check_t1 (w : World) (s c0 c2 : Int) (ws : List Wr) (A : Option Addr) (len cap : Nat) (hs : 1 ≤ s ∧ s ≤ 4611686018427387903) (hri : rightB c0 (s - 1) c2 = true) (hr : WrR w w.heap.size A ws) (hn : ws.length = len) (hl : len ≤ 1099511627776) (h : ws.length ≤ 16) (ha : ws.any Tm.tooB = true) :
    Calls Try.prog 12 #[.agg #[.int .i64 (1), .int .i64 s, .int .i64 c0, .int .i64 (s - 1), .int .i64 c2, .slice A len cap]] w (CkP w (1, s, (c0, (s - 1), c2), ws)) := by
  have hk : Tm.check (1, s, (c0, (s - 1), c2), ws) = 4 := by
    unfold Tm.check
    simp only
    rw [if_neg (by omega), if_neg (by simp only [hri]; simp; omega), if_neg (by simp [Tm.dep]), if_pos (.inr ha)]
  have HK := Lib.hid hk; clear hk
  have hb0 := (Below.refl w.heap.size w).alloc (Nat.le_refl _) (.cells #[.int .i64 (1), .int .i64 s, .int .i64 c0, .int .i64 (s - 1), .int .i64 c2, .slice A len cap] 38)
  have h2 : ¬ s < 1 := by omega
  have h3 : ¬ 4611686018427387903 < s := by omega
  have HR : ∀ w, Calls Try.prog 41 #[.agg #[.int .i64 c0, .int .i64 (s - 1), .int .i64 c2]] w (BoolPost w true) := fun w => hri ▸ Right_any w c0 (s - 1) c2
  have h4 : ¬ (16 : Int) < (len : Int) := by omega
  have HB := Lib.hid hb0; clear hb0
  go_enter Try.func12, Try.ntmps12
  go_wp2_with fail
  refine (HR _).mono ?_
  rintro e w1 ⟨rfl, hb⟩
  have hb1 := HB.out.trans (hb.mono (by simp))
  have HB1 := Lib.hid hb1
  have hcl : w1.cell? ⟨w.heap.size, 3, none⟩ = some (.int .i64 (s - 1)) := (hb.cell (p := ⟨w.heap.size, 3, none⟩) (by simp)).trans (by simp)
  have hcs : w1.cell? ⟨w.heap.size, 1, none⟩ = some (.int .i64 s) := (hb.cell (p := ⟨w.heap.size, 1, none⟩) (by simp)).trans (by simp)
  have hco : w1.cell? ⟨w.heap.size, 0, none⟩ = some (.int .i64 1) := (hb.cell (p := ⟨w.heap.size, 0, none⟩) (by simp)).trans (by simp)
  have hcw : w1.cell? ⟨w.heap.size, 5, none⟩ = some (.slice A len cap) := (hb.cell (p := ⟨w.heap.size, 5, none⟩) (by simp)).trans (by simp)
  have HW1 := Lib.hid (fun q => ContainsFunc_any 43 Tm.tooB eg_tooLong tooLong_any (w1.drewN q) A len cap ws ((WrR.below hr (below_drewN hb1 q)).more hb1.size) hn hl)
  rw [ha] at HW1
  clear hb hb1 hr hn
  go_wp2
  go_quiet (fail)
  go_wp2_with fail
  refine (HW1.out nq).mono ?_
  have HQ := Lib.hid (below_drewN HB1.out nq)
  rintro e w2 ⟨rfl, hb2⟩
  have HB2 := Lib.hid (HQ.out.trans (hb2.mono HQ.out.size))
  clear hb2
  go_wp2
  go_ret
  exact ckP HK.out HB2.out
set_option maxHeartbeats 300000 in
theorem Check_f1 (w : World) (s c0 c2 : Int) (ws : List Wr) (A : Option Addr) (len cap : Nat) (hs : 1 ≤ s ∧ s ≤ 4611686018427387903) (hri : rightB c0 (s - 1) c2 = true) (hr : WrR w w.heap.size A ws) (hn : ws.length = len) (hl : len ≤ 1099511627776) (h : ws.length ≤ 16) (ha : ws.any Tm.tooB = false) (hc : ws.any Tm.oddB = true) :
    Calls Try.prog 12 #[.agg #[.int .i64 (1), .int .i64 s, .int .i64 c0, .int .i64 (s - 1), .int .i64 c2, .slice A len cap]] w (CkP w (1, s, (c0, (s - 1), c2), ws)) := by
  have hk : Tm.check (1, s, (c0, (s - 1), c2), ws) = 3 := by
    unfold Tm.check
    simp only
    rw [if_neg (by omega), if_neg (by simp only [hri]; simp; omega), if_neg (by simp [Tm.dep]), if_neg (by rw [ha]; simp; omega), if_pos hc]
  have HK := Lib.hid hk; clear hk
  have hb0 := (Below.refl w.heap.size w).alloc (Nat.le_refl _) (.cells #[.int .i64 (1), .int .i64 s, .int .i64 c0, .int .i64 (s - 1), .int .i64 c2, .slice A len cap] 38)
  have h2 : ¬ s < 1 := by omega
  have h3 : ¬ 4611686018427387903 < s := by omega
  have HR : ∀ w, Calls Try.prog 41 #[.agg #[.int .i64 c0, .int .i64 (s - 1), .int .i64 c2]] w (BoolPost w true) := fun w => hri ▸ Right_any w c0 (s - 1) c2
  have h4 : ¬ (16 : Int) < (len : Int) := by omega
  have HB := Lib.hid hb0; clear hb0
  go_enter Try.func12, Try.ntmps12
  go_wp2_with fail
  refine (HR _).mono ?_
  rintro e w1 ⟨rfl, hb⟩
  have hb1 := HB.out.trans (hb.mono (by simp))
  have HB1 := Lib.hid hb1
  have hcl : w1.cell? ⟨w.heap.size, 3, none⟩ = some (.int .i64 (s - 1)) := (hb.cell (p := ⟨w.heap.size, 3, none⟩) (by simp)).trans (by simp)
  have hcs : w1.cell? ⟨w.heap.size, 1, none⟩ = some (.int .i64 s) := (hb.cell (p := ⟨w.heap.size, 1, none⟩) (by simp)).trans (by simp)
  have hco : w1.cell? ⟨w.heap.size, 0, none⟩ = some (.int .i64 1) := (hb.cell (p := ⟨w.heap.size, 0, none⟩) (by simp)).trans (by simp)
  have hcw : w1.cell? ⟨w.heap.size, 5, none⟩ = some (.slice A len cap) := (hb.cell (p := ⟨w.heap.size, 5, none⟩) (by simp)).trans (by simp)
  have HW1 := Lib.hid (fun q => ContainsFunc_any 43 Tm.tooB eg_tooLong tooLong_any (w1.drewN q) A len cap ws ((WrR.below hr (below_drewN hb1 q)).more hb1.size) hn hl)
  have HWR := Lib.hid hr; have HN := Lib.hid hn; have HLT : Hid (w.heap.size < w1.heap.size) := Lib.hid (World.block_lt_of_cell? _ _ hco)
  rw [ha] at HW1
  clear hb hb1 hr hn
  go_wp2
  go_quiet (fail)
  go_wp2_with fail
  refine (HW1.out nq).mono ?_
  have HQ := Lib.hid (below_drewN HB1.out nq)
  rintro e w2 ⟨rfl, hb2⟩
  have hws2 : w2.cell? ⟨w.heap.size, 5, none⟩ = some (.slice A len cap) := (hb2.cell (p := ⟨w.heap.size, 5, none⟩) (HLT.out)).trans (show (w1.drewN nq).cell? _ = _ from hcw)
  have HB2 := Lib.hid (HQ.out.trans (hb2.mono HQ.out.size))
  have HW2 := Lib.hid (ContainsFunc_any 44 Tm.oddB eg_odd odd_any w2 A len cap ws ((WrR.below HWR.out HB2.out).more HB2.out.size) HN.out hl)
  rw [hc] at HW2
  clear hb2
  go_wp2_with fail
  refine HW2.out.mono ?_
  rintro e w3 ⟨rfl, hb3⟩
  have HB3 := Lib.hid (HB2.out.trans (hb3.mono HB2.out.size))
  clear hb3
  go_wp2
  go_ret
  exact ckP HK.out HB3.out
set_option maxHeartbeats 300000 in
theorem Check_k1 (w : World) (s c0 c2 : Int) (ws : List Wr) (A : Option Addr) (len cap : Nat) (hs : 1 ≤ s ∧ s ≤ 4611686018427387903) (hri : rightB c0 (s - 1) c2 = true) (hr : WrR w w.heap.size A ws) (hn : ws.length = len) (hl : len ≤ 1099511627776) (h : ws.length ≤ 16) (ha : ws.any Tm.tooB = false) (hc : ws.any Tm.oddB = false) :
    Calls Try.prog 12 #[.agg #[.int .i64 (1), .int .i64 s, .int .i64 c0, .int .i64 (s - 1), .int .i64 c2, .slice A len cap]] w (CkP w (1, s, (c0, (s - 1), c2), ws)) := by
  have hk : Tm.check (1, s, (c0, (s - 1), c2), ws) = 0 := by
    unfold Tm.check
    simp only
    rw [if_neg (by omega), if_neg (by simp only [hri]; simp; omega), if_neg (by simp [Tm.dep]), if_neg (by rw [ha]; simp; omega), if_neg (by simp [hc])]
  have HK := Lib.hid hk; clear hk
  have hb0 := (Below.refl w.heap.size w).alloc (Nat.le_refl _) (.cells #[.int .i64 (1), .int .i64 s, .int .i64 c0, .int .i64 (s - 1), .int .i64 c2, .slice A len cap] 38)
  have h2 : ¬ s < 1 := by omega
  have h3 : ¬ 4611686018427387903 < s := by omega
  have HR : ∀ w, Calls Try.prog 41 #[.agg #[.int .i64 c0, .int .i64 (s - 1), .int .i64 c2]] w (BoolPost w true) := fun w => hri ▸ Right_any w c0 (s - 1) c2
  have h4 : ¬ (16 : Int) < (len : Int) := by omega
  have HB := Lib.hid hb0; clear hb0
  go_enter Try.func12, Try.ntmps12
  go_wp2_with fail
  refine (HR _).mono ?_
  rintro e w1 ⟨rfl, hb⟩
  have hb1 := HB.out.trans (hb.mono (by simp))
  have HB1 := Lib.hid hb1
  have hcl : w1.cell? ⟨w.heap.size, 3, none⟩ = some (.int .i64 (s - 1)) := (hb.cell (p := ⟨w.heap.size, 3, none⟩) (by simp)).trans (by simp)
  have hcs : w1.cell? ⟨w.heap.size, 1, none⟩ = some (.int .i64 s) := (hb.cell (p := ⟨w.heap.size, 1, none⟩) (by simp)).trans (by simp)
  have hco : w1.cell? ⟨w.heap.size, 0, none⟩ = some (.int .i64 1) := (hb.cell (p := ⟨w.heap.size, 0, none⟩) (by simp)).trans (by simp)
  have hcw : w1.cell? ⟨w.heap.size, 5, none⟩ = some (.slice A len cap) := (hb.cell (p := ⟨w.heap.size, 5, none⟩) (by simp)).trans (by simp)
  have HW1 := Lib.hid (fun q => ContainsFunc_any 43 Tm.tooB eg_tooLong tooLong_any (w1.drewN q) A len cap ws ((WrR.below hr (below_drewN hb1 q)).more hb1.size) hn hl)
  have HWR := Lib.hid hr; have HN := Lib.hid hn; have HLT : Hid (w.heap.size < w1.heap.size) := Lib.hid (World.block_lt_of_cell? _ _ hco)
  rw [ha] at HW1
  clear hb hb1 hr hn
  go_wp2
  go_quiet (fail)
  go_wp2_with fail
  refine (HW1.out nq).mono ?_
  have HQ := Lib.hid (below_drewN HB1.out nq)
  rintro e w2 ⟨rfl, hb2⟩
  have hws2 : w2.cell? ⟨w.heap.size, 5, none⟩ = some (.slice A len cap) := (hb2.cell (p := ⟨w.heap.size, 5, none⟩) (HLT.out)).trans (show (w1.drewN nq).cell? _ = _ from hcw)
  have HB2 := Lib.hid (HQ.out.trans (hb2.mono HQ.out.size))
  have HW2 := Lib.hid (ContainsFunc_any 44 Tm.oddB eg_odd odd_any w2 A len cap ws ((WrR.below HWR.out HB2.out).more HB2.out.size) HN.out hl)
  rw [hc] at HW2
  clear hb2
  go_wp2_with fail
  refine HW2.out.mono ?_
  rintro e w3 ⟨rfl, hb3⟩
  have HB3 := Lib.hid (HB2.out.trans (hb3.mono HB2.out.size))
  clear hb3
  go_wp2
  go_ret
  exact ckP HK.out HB3.out
set_option maxHeartbeats 300000 in
theorem Check_d2 (w : World) (s c0 c1 c2 : Int) (ws : List Wr) (A : Option Addr) (len cap : Nat) (hs : 1 ≤ s ∧ s ≤ 4611686018427387903) (hri : rightB c0 c1 c2 = true) (hd : c2 ≠ s - 1) :
    Calls Try.prog 12 #[.agg #[.int .i64 (2), .int .i64 s, .int .i64 c0, .int .i64 c1, .int .i64 c2, .slice A len cap]] w (CkP w (2, s, (c0, c1, c2), ws)) := by
  have hk : Tm.check (2, s, (c0, c1, c2), ws) = 11 := by
    unfold Tm.check
    simp only
    rw [if_neg (by omega), if_neg (by simp only [hri]; simp; omega), if_pos (by simpa [Tm.dep] using hd)]
  have HK := Lib.hid hk; clear hk
  have hb0 := (Below.refl w.heap.size w).alloc (Nat.le_refl _) (.cells #[.int .i64 (2), .int .i64 s, .int .i64 c0, .int .i64 c1, .int .i64 c2, .slice A len cap] 38)
  have h2 : ¬ s < 1 := by omega
  have h3 : ¬ 4611686018427387903 < s := by omega
  have HR : ∀ w, Calls Try.prog 41 #[.agg #[.int .i64 c0, .int .i64 c1, .int .i64 c2]] w (BoolPost w true) := fun w => hri ▸ Right_any w c0 c1 c2
  have HB := Lib.hid hb0; clear hb0
  go_enter Try.func12, Try.ntmps12
  go_wp2_with fail
  refine (HR _).mono ?_
  rintro e w1 ⟨rfl, hb⟩
  have hb1 := HB.out.trans (hb.mono (by simp))
  have HB1 := Lib.hid hb1
  have hcl : w1.cell? ⟨w.heap.size, 4, none⟩ = some (.int .i64 c2) := (hb.cell (p := ⟨w.heap.size, 4, none⟩) (by simp)).trans (by simp)
  have hcs : w1.cell? ⟨w.heap.size, 1, none⟩ = some (.int .i64 s) := (hb.cell (p := ⟨w.heap.size, 1, none⟩) (by simp)).trans (by simp)
  have hco : w1.cell? ⟨w.heap.size, 0, none⟩ = some (.int .i64 2) := (hb.cell (p := ⟨w.heap.size, 0, none⟩) (by simp)).trans (by simp)
  have hcw : w1.cell? ⟨w.heap.size, 5, none⟩ = some (.slice A len cap) := (hb.cell (p := ⟨w.heap.size, 5, none⟩) (by simp)).trans (by simp)
  clear hb hb1
  go_wp2
  go_quiet (fail)
  go_wp2
  go_ret
  exact ckP HK.out (by first | exact HB1.out | exact below_drewN HB1.out _)
set_option maxHeartbeats 300000 in
theorem Check_l2 (w : World) (s c0 c1 : Int) (ws : List Wr) (A : Option Addr) (len cap : Nat) (hs : 1 ≤ s ∧ s ≤ 4611686018427387903) (hri : rightB c0 c1 (s - 1) = true) (hr : WrR w w.heap.size A ws) (hn : ws.length = len) (hl : len ≤ 1099511627776) (h : 16 < ws.length) :
    Calls Try.prog 12 #[.agg #[.int .i64 (2), .int .i64 s, .int .i64 c0, .int .i64 c1, .int .i64 (s - 1), .slice A len cap]] w (CkP w (2, s, (c0, c1, (s - 1)), ws)) := by
  have hk : Tm.check (2, s, (c0, c1, (s - 1)), ws) = 4 := by
    unfold Tm.check
    simp only
    rw [if_neg (by omega), if_neg (by simp only [hri]; simp; omega), if_neg (by simp [Tm.dep]), if_pos (.inl h)]
  have HK := Lib.hid hk; clear hk
  have hb0 := (Below.refl w.heap.size w).alloc (Nat.le_refl _) (.cells #[.int .i64 (2), .int .i64 s, .int .i64 c0, .int .i64 c1, .int .i64 (s - 1), .slice A len cap] 38)
  have h2 : ¬ s < 1 := by omega
  have h3 : ¬ 4611686018427387903 < s := by omega
  have HR : ∀ w, Calls Try.prog 41 #[.agg #[.int .i64 c0, .int .i64 c1, .int .i64 (s - 1)]] w (BoolPost w true) := fun w => hri ▸ Right_any w c0 c1 (s - 1)
  have h4 : (16 : Int) < (len : Int) := by omega
  have HB := Lib.hid hb0; clear hb0
  go_enter Try.func12, Try.ntmps12
  go_wp2_with fail
  refine (HR _).mono ?_
  rintro e w1 ⟨rfl, hb⟩
  have hb1 := HB.out.trans (hb.mono (by simp))
  have HB1 := Lib.hid hb1
  have hcl : w1.cell? ⟨w.heap.size, 4, none⟩ = some (.int .i64 (s - 1)) := (hb.cell (p := ⟨w.heap.size, 4, none⟩) (by simp)).trans (by simp)
  have hcs : w1.cell? ⟨w.heap.size, 1, none⟩ = some (.int .i64 s) := (hb.cell (p := ⟨w.heap.size, 1, none⟩) (by simp)).trans (by simp)
  have hco : w1.cell? ⟨w.heap.size, 0, none⟩ = some (.int .i64 2) := (hb.cell (p := ⟨w.heap.size, 0, none⟩) (by simp)).trans (by simp)
  have hcw : w1.cell? ⟨w.heap.size, 5, none⟩ = some (.slice A len cap) := (hb.cell (p := ⟨w.heap.size, 5, none⟩) (by simp)).trans (by simp)
  clear hb hb1 hr hn
  go_wp2
  go_quiet (fail)
  go_wp2
  go_ret
  exact ckP HK.out (by first | exact HB1.out | exact below_drewN HB1.out _)
set_option maxHeartbeats 300000 in
theorem Check_t2 (w : World) (s c0 c1 : Int) (ws : List Wr) (A : Option Addr) (len cap : Nat) (hs : 1 ≤ s ∧ s ≤ 4611686018427387903) (hri : rightB c0 c1 (s - 1) = true) (hr : WrR w w.heap.size A ws) (hn : ws.length = len) (hl : len ≤ 1099511627776) (h : ws.length ≤ 16) (ha : ws.any Tm.tooB = true) :
    Calls Try.prog 12 #[.agg #[.int .i64 (2), .int .i64 s, .int .i64 c0, .int .i64 c1, .int .i64 (s - 1), .slice A len cap]] w (CkP w (2, s, (c0, c1, (s - 1)), ws)) := by
  have hk : Tm.check (2, s, (c0, c1, (s - 1)), ws) = 4 := by
    unfold Tm.check
    simp only
    rw [if_neg (by omega), if_neg (by simp only [hri]; simp; omega), if_neg (by simp [Tm.dep]), if_pos (.inr ha)]
  have HK := Lib.hid hk; clear hk
  have hb0 := (Below.refl w.heap.size w).alloc (Nat.le_refl _) (.cells #[.int .i64 (2), .int .i64 s, .int .i64 c0, .int .i64 c1, .int .i64 (s - 1), .slice A len cap] 38)
  have h2 : ¬ s < 1 := by omega
  have h3 : ¬ 4611686018427387903 < s := by omega
  have HR : ∀ w, Calls Try.prog 41 #[.agg #[.int .i64 c0, .int .i64 c1, .int .i64 (s - 1)]] w (BoolPost w true) := fun w => hri ▸ Right_any w c0 c1 (s - 1)
  have h4 : ¬ (16 : Int) < (len : Int) := by omega
  have HB := Lib.hid hb0; clear hb0
  go_enter Try.func12, Try.ntmps12
  go_wp2_with fail
  refine (HR _).mono ?_
  rintro e w1 ⟨rfl, hb⟩
  have hb1 := HB.out.trans (hb.mono (by simp))
  have HB1 := Lib.hid hb1
  have hcl : w1.cell? ⟨w.heap.size, 4, none⟩ = some (.int .i64 (s - 1)) := (hb.cell (p := ⟨w.heap.size, 4, none⟩) (by simp)).trans (by simp)
  have hcs : w1.cell? ⟨w.heap.size, 1, none⟩ = some (.int .i64 s) := (hb.cell (p := ⟨w.heap.size, 1, none⟩) (by simp)).trans (by simp)
  have hco : w1.cell? ⟨w.heap.size, 0, none⟩ = some (.int .i64 2) := (hb.cell (p := ⟨w.heap.size, 0, none⟩) (by simp)).trans (by simp)
  have hcw : w1.cell? ⟨w.heap.size, 5, none⟩ = some (.slice A len cap) := (hb.cell (p := ⟨w.heap.size, 5, none⟩) (by simp)).trans (by simp)
  have HW1 := Lib.hid (fun q => ContainsFunc_any 43 Tm.tooB eg_tooLong tooLong_any (w1.drewN q) A len cap ws ((WrR.below hr (below_drewN hb1 q)).more hb1.size) hn hl)
  rw [ha] at HW1
  clear hb hb1 hr hn
  go_wp2
  go_quiet (fail)
  go_wp2_with fail
  refine (HW1.out nq).mono ?_
  have HQ := Lib.hid (below_drewN HB1.out nq)
  rintro e w2 ⟨rfl, hb2⟩
  have HB2 := Lib.hid (HQ.out.trans (hb2.mono HQ.out.size))
  clear hb2
  go_wp2
  go_ret
  exact ckP HK.out HB2.out
set_option maxHeartbeats 300000 in
theorem Check_f2 (w : World) (s c0 c1 : Int) (ws : List Wr) (A : Option Addr) (len cap : Nat) (hs : 1 ≤ s ∧ s ≤ 4611686018427387903) (hri : rightB c0 c1 (s - 1) = true) (hr : WrR w w.heap.size A ws) (hn : ws.length = len) (hl : len ≤ 1099511627776) (h : ws.length ≤ 16) (ha : ws.any Tm.tooB = false) (hc : ws.any Tm.oddB = true) :
    Calls Try.prog 12 #[.agg #[.int .i64 (2), .int .i64 s, .int .i64 c0, .int .i64 c1, .int .i64 (s - 1), .slice A len cap]] w (CkP w (2, s, (c0, c1, (s - 1)), ws)) := by
  have hk : Tm.check (2, s, (c0, c1, (s - 1)), ws) = 3 := by
    unfold Tm.check
    simp only
    rw [if_neg (by omega), if_neg (by simp only [hri]; simp; omega), if_neg (by simp [Tm.dep]), if_neg (by rw [ha]; simp; omega), if_pos hc]
  have HK := Lib.hid hk; clear hk
  have hb0 := (Below.refl w.heap.size w).alloc (Nat.le_refl _) (.cells #[.int .i64 (2), .int .i64 s, .int .i64 c0, .int .i64 c1, .int .i64 (s - 1), .slice A len cap] 38)
  have h2 : ¬ s < 1 := by omega
  have h3 : ¬ 4611686018427387903 < s := by omega
  have HR : ∀ w, Calls Try.prog 41 #[.agg #[.int .i64 c0, .int .i64 c1, .int .i64 (s - 1)]] w (BoolPost w true) := fun w => hri ▸ Right_any w c0 c1 (s - 1)
  have h4 : ¬ (16 : Int) < (len : Int) := by omega
  have HB := Lib.hid hb0; clear hb0
  go_enter Try.func12, Try.ntmps12
  go_wp2_with fail
  refine (HR _).mono ?_
  rintro e w1 ⟨rfl, hb⟩
  have hb1 := HB.out.trans (hb.mono (by simp))
  have HB1 := Lib.hid hb1
  have hcl : w1.cell? ⟨w.heap.size, 4, none⟩ = some (.int .i64 (s - 1)) := (hb.cell (p := ⟨w.heap.size, 4, none⟩) (by simp)).trans (by simp)
  have hcs : w1.cell? ⟨w.heap.size, 1, none⟩ = some (.int .i64 s) := (hb.cell (p := ⟨w.heap.size, 1, none⟩) (by simp)).trans (by simp)
  have hco : w1.cell? ⟨w.heap.size, 0, none⟩ = some (.int .i64 2) := (hb.cell (p := ⟨w.heap.size, 0, none⟩) (by simp)).trans (by simp)
  have hcw : w1.cell? ⟨w.heap.size, 5, none⟩ = some (.slice A len cap) := (hb.cell (p := ⟨w.heap.size, 5, none⟩) (by simp)).trans (by simp)
  have HW1 := Lib.hid (fun q => ContainsFunc_any 43 Tm.tooB eg_tooLong tooLong_any (w1.drewN q) A len cap ws ((WrR.below hr (below_drewN hb1 q)).more hb1.size) hn hl)
  have HWR := Lib.hid hr; have HN := Lib.hid hn; have HLT : Hid (w.heap.size < w1.heap.size) := Lib.hid (World.block_lt_of_cell? _ _ hco)
  rw [ha] at HW1
  clear hb hb1 hr hn
  go_wp2
  go_quiet (fail)
  go_wp2_with fail
  refine (HW1.out nq).mono ?_
  have HQ := Lib.hid (below_drewN HB1.out nq)
  rintro e w2 ⟨rfl, hb2⟩
  have hws2 : w2.cell? ⟨w.heap.size, 5, none⟩ = some (.slice A len cap) := (hb2.cell (p := ⟨w.heap.size, 5, none⟩) (HLT.out)).trans (show (w1.drewN nq).cell? _ = _ from hcw)
  have HB2 := Lib.hid (HQ.out.trans (hb2.mono HQ.out.size))
  have HW2 := Lib.hid (ContainsFunc_any 44 Tm.oddB eg_odd odd_any w2 A len cap ws ((WrR.below HWR.out HB2.out).more HB2.out.size) HN.out hl)
  rw [hc] at HW2
  clear hb2
  go_wp2_with fail
  refine HW2.out.mono ?_
  rintro e w3 ⟨rfl, hb3⟩
  have HB3 := Lib.hid (HB2.out.trans (hb3.mono HB2.out.size))
  clear hb3
  go_wp2
  go_ret
  exact ckP HK.out HB3.out
set_option maxHeartbeats 300000 in
theorem Check_k2 (w : World) (s c0 c1 : Int) (ws : List Wr) (A : Option Addr) (len cap : Nat) (hs : 1 ≤ s ∧ s ≤ 4611686018427387903) (hri : rightB c0 c1 (s - 1) = true) (hr : WrR w w.heap.size A ws) (hn : ws.length = len) (hl : len ≤ 1099511627776) (h : ws.length ≤ 16) (ha : ws.any Tm.tooB = false) (hc : ws.any Tm.oddB = false) :
    Calls Try.prog 12 #[.agg #[.int .i64 (2), .int .i64 s, .int .i64 c0, .int .i64 c1, .int .i64 (s - 1), .slice A len cap]] w (CkP w (2, s, (c0, c1, (s - 1)), ws)) := by
  have hk : Tm.check (2, s, (c0, c1, (s - 1)), ws) = 0 := by
    unfold Tm.check
    simp only
    rw [if_neg (by omega), if_neg (by simp only [hri]; simp; omega), if_neg (by simp [Tm.dep]), if_neg (by rw [ha]; simp; omega), if_neg (by simp [hc])]
  have HK := Lib.hid hk; clear hk
  have hb0 := (Below.refl w.heap.size w).alloc (Nat.le_refl _) (.cells #[.int .i64 (2), .int .i64 s, .int .i64 c0, .int .i64 c1, .int .i64 (s - 1), .slice A len cap] 38)
  have h2 : ¬ s < 1 := by omega
  have h3 : ¬ 4611686018427387903 < s := by omega
  have HR : ∀ w, Calls Try.prog 41 #[.agg #[.int .i64 c0, .int .i64 c1, .int .i64 (s - 1)]] w (BoolPost w true) := fun w => hri ▸ Right_any w c0 c1 (s - 1)
  have h4 : ¬ (16 : Int) < (len : Int) := by omega
  have HB := Lib.hid hb0; clear hb0
  go_enter Try.func12, Try.ntmps12
  go_wp2_with fail
  refine (HR _).mono ?_
  rintro e w1 ⟨rfl, hb⟩
  have hb1 := HB.out.trans (hb.mono (by simp))
  have HB1 := Lib.hid hb1
  have hcl : w1.cell? ⟨w.heap.size, 4, none⟩ = some (.int .i64 (s - 1)) := (hb.cell (p := ⟨w.heap.size, 4, none⟩) (by simp)).trans (by simp)
  have hcs : w1.cell? ⟨w.heap.size, 1, none⟩ = some (.int .i64 s) := (hb.cell (p := ⟨w.heap.size, 1, none⟩) (by simp)).trans (by simp)
  have hco : w1.cell? ⟨w.heap.size, 0, none⟩ = some (.int .i64 2) := (hb.cell (p := ⟨w.heap.size, 0, none⟩) (by simp)).trans (by simp)
  have hcw : w1.cell? ⟨w.heap.size, 5, none⟩ = some (.slice A len cap) := (hb.cell (p := ⟨w.heap.size, 5, none⟩) (by simp)).trans (by simp)
  have HW1 := Lib.hid (fun q => ContainsFunc_any 43 Tm.tooB eg_tooLong tooLong_any (w1.drewN q) A len cap ws ((WrR.below hr (below_drewN hb1 q)).more hb1.size) hn hl)
  have HWR := Lib.hid hr; have HN := Lib.hid hn; have HLT : Hid (w.heap.size < w1.heap.size) := Lib.hid (World.block_lt_of_cell? _ _ hco)
  rw [ha] at HW1
  clear hb hb1 hr hn
  go_wp2
  go_quiet (fail)
  go_wp2_with fail
  refine (HW1.out nq).mono ?_
  have HQ := Lib.hid (below_drewN HB1.out nq)
  rintro e w2 ⟨rfl, hb2⟩
  have hws2 : w2.cell? ⟨w.heap.size, 5, none⟩ = some (.slice A len cap) := (hb2.cell (p := ⟨w.heap.size, 5, none⟩) (HLT.out)).trans (show (w1.drewN nq).cell? _ = _ from hcw)
  have HB2 := Lib.hid (HQ.out.trans (hb2.mono HQ.out.size))
  have HW2 := Lib.hid (ContainsFunc_any 44 Tm.oddB eg_odd odd_any w2 A len cap ws ((WrR.below HWR.out HB2.out).more HB2.out.size) HN.out hl)
  rw [hc] at HW2
  clear hb2
  go_wp2_with fail
  refine HW2.out.mono ?_
  rintro e w3 ⟨rfl, hb3⟩
  have HB3 := Lib.hid (HB2.out.trans (hb3.mono HB2.out.size))
  clear hb3
  go_wp2
  go_ret
  exact ckP HK.out HB3.out
theorem Check_any (w : World) (o s c0 c1 c2 : Int) (ws : List Wr) (A : Option Addr) (len cap : Nat) (hr : WrR w w.heap.size A ws) (hn : ws.length = len) (hl : len ≤ 1099511627776) :
    Calls Try.prog 12 #[.agg #[.int .i64 (o), .int .i64 s, .int .i64 c0, .int .i64 c1, .int .i64 c2, .slice A len cap]] w (CkP w (o, s, (c0, c1, c2), ws)) := by
  by_cases h1 : o < 0
  · exact Check_o1 w o s c0 c1 c2 ws A len cap h1
  · by_cases h2 : 2 < o
    · exact Check_o2 w o s c0 c1 c2 ws A len cap h2
    · by_cases h3 : s < 1
      · exact Check_s1 w o s c0 c1 c2 ws A len cap (by omega) h3
      · by_cases h4 : 4611686018427387903 < s
        · exact Check_s2 w o s c0 c1 c2 ws A len cap (by omega) h4
        · have hs : 1 ≤ s ∧ s ≤ 4611686018427387903 := by omega
          cases hri : rightB c0 c1 c2 with
          | false => exact Check_r w o s c0 c1 c2 ws A len cap (by omega) hs hri
          | true =>
            rcases (by omega : o = 0 ∨ o = 1 ∨ o = 2) with rfl | rfl | rfl
            · by_cases hd : c0 = s - 1
              · subst hd
                by_cases h : 16 < ws.length
                · exact Check_l0 w s c1 c2 ws A len cap hs hri hr hn hl h
                · cases ha : ws.any Tm.tooB with
                  | true => exact Check_t0 w s c1 c2 ws A len cap hs hri hr hn hl (by omega) ha
                  | false =>
                    cases hc : ws.any Tm.oddB with
                    | true => exact Check_f0 w s c1 c2 ws A len cap hs hri hr hn hl (by omega) ha hc
                    | false => exact Check_k0 w s c1 c2 ws A len cap hs hri hr hn hl (by omega) ha hc
              · exact Check_d0 w s c0 c1 c2 ws A len cap hs hri hd
            · by_cases hd : c1 = s - 1
              · subst hd
                by_cases h : 16 < ws.length
                · exact Check_l1 w s c0 c2 ws A len cap hs hri hr hn hl h
                · cases ha : ws.any Tm.tooB with
                  | true => exact Check_t1 w s c0 c2 ws A len cap hs hri hr hn hl (by omega) ha
                  | false =>
                    cases hc : ws.any Tm.oddB with
                    | true => exact Check_f1 w s c0 c2 ws A len cap hs hri hr hn hl (by omega) ha hc
                    | false => exact Check_k1 w s c0 c2 ws A len cap hs hri hr hn hl (by omega) ha hc
              · exact Check_d1 w s c0 c1 c2 ws A len cap hs hri hd
            · by_cases hd : c2 = s - 1
              · subst hd
                by_cases h : 16 < ws.length
                · exact Check_l2 w s c0 c1 ws A len cap hs hri hr hn hl h
                · cases ha : ws.any Tm.tooB with
                  | true => exact Check_t2 w s c0 c1 ws A len cap hs hri hr hn hl (by omega) ha
                  | false =>
                    cases hc : ws.any Tm.oddB with
                    | true => exact Check_f2 w s c0 c1 ws A len cap hs hri hr hn hl (by omega) ha hc
                    | false => exact Check_k2 w s c0 c1 ws A len cap hs hri hr hn hl (by omega) ha hc
              · exact Check_d2 w s c0 c1 c2 ws A len cap hs hri hd
end Go.Proofs.Ytgjkeccopjgjlaa

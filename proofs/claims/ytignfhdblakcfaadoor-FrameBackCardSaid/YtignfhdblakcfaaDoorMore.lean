/- crc.More and crc.Sum: the sum of bytes. -/
import Derived.Test.YtignfhdblakcfaaDoorW
import Derived.Test.YtignfhdblakcfaaDoorCm
namespace Go.Proofs.YtignfhdblakcfaaDoor
open Go.ChangeShapes Go.WideShapes Go.ChangeAt Go.RowKit
set_option linter.unusedVariables false

/-- The table is there. -/
def Tab (w : World) : Prop := 0 < w.heap.size ∧ ∀ j, j < 16 → w.cell? ⟨0, j, none⟩ = some (.int .u32 (Cm.tab j : Int))
theorem Tab.below {w w' : World} (h : Tab w) (hb : Below w.heap.size w w') : Tab w' := ⟨Nat.lt_of_lt_of_le h.1 hb.size, fun j hj => (hb.cell (p := ⟨0, j, none⟩) h.1).trans (h.2 j hj)⟩
theorem Tab.alloc {w : World} (h : Tab w) (o : Obj) : Tab (w.alloc o) := h.below ((Below.refl _ w).alloc (Nat.le_refl _) o)
theorem Tab.drew {w : World} (h : Tab w) : Tab w.drew := h
theorem Tab.drewN {w : World} (h : Tab w) (q : Nat) : Tab (w.drewN q) := h

def MorePost (w : World) (x : Nat) (e : Ending) (w' : World) : Prop := e = .returned (.int .u32 (x : Int)) ∧ w = w'
theorem xor32 {a b : Nat} (ha : a < 4294967296) (hb : b < 4294967296) : bits .xor .u32 (a : Int) (b : Int) = ((a ^^^ b : Nat) : Int) := u32_xor_nat a b ha hb
theorem xor32d {a b : Nat} (ha : a < 4294967296) (hb : b < 4294967296) : bits .xor .u32 ((a : Int) / 16) (b : Int) = ((a / 16 ^^^ b : Nat) : Int) := by
  rw [show ((a : Int) / 16) = ((a / 16 : Nat) : Int) by omega]
  exact u32_xor_nat _ b (by omega) hb
theorem xorF {a : Nat} (ha : a < 4294967296) : bits .xor .u32 IntKind.u32.max (a : Int) = ((a ^^^ Cm.F : Nat) : Int) := by
  have e : IntKind.u32.max = ((4294967295 : Nat) : Int) := by decide
  rw [e, u32_xor_nat _ _ (by omega) ha, Nat.xor_comm]
  rfl
theorem and15 (a : Nat) (ha : a < 4294967296) : bits .and .u32 (a : Int) 15 = ((a % 16 : Nat) : Int) := by
  rw [show (15 : Int) = ((15 : Nat) : Int) from rfl, u32_and_nat _ _ ha (by omega), nat_mask4]
def MoreRel (s : Nat) (bs : List Nat) (s5 s12 : Value) : Prop := ∃ k c : Nat, s5 = .int .u32 (c : Int) ∧ s12 = .int .i64 (k : Int) ∧ k ≤ bs.length ∧ c < 4294967296 ∧ Hid (c = Cm.run (s ^^^ Cm.F) (bs.take k))

set_option maxRecDepth 100000 in
theorem More_any (w : World) (s : Nat) (A : Option Addr) (len cap : Nat) (bs : List Nat) (B : Nat) (hT : Tab w) (hs : s < 4294967296) (hr : Rd w B A (u8s bs)) (h256 : ∀ b ∈ bs, b < 256) (hn : bs.length = len) (hl : len ≤ maxLen) :
    Calls Tryd.prog 35 #[.int .u32 (s : Int), .slice A len cap] w (MorePost w (Cm.more s bs)) := by
  subst hn
  unfold maxLen at hl
  have e0 := xorF hs
  obtain ⟨c0, hc0⟩ : ∃ c0, c0 = s ^^^ Cm.F := ⟨_, rfl⟩
  have hc0l : c0 < 4294967296 := by rw [hc0]; exact Cm.xor_lt hs (by decide)
  rw [← hc0] at e0
  have HC0 := Lib.hid hc0; clear hc0
  have HT := Lib.hid hT.2
  clear hT
  go_enter Tryd.func35, Tryd.ntmps35
  go_wp2
  go_loop [5, 12] (fun s5 s12 => MoreRel s bs s5 s12) (fun _ s12 => bs.length - (intOf s12).toNat)
  case atStart => exact ⟨0, c0, rfl, rfl, by omega, hc0l, by show c0 = _; rw [HC0.out]; rfl⟩
  case round =>
    clear e0
    obtain ⟨k, c, rfl, rfl, hk, hcl, hrun⟩ := hrel
    by_cases hlt : k < bs.length
    · obtain ⟨g, o, rfl, hg, hcell⟩ := hr.u8 (by intro h; simp [h] at hlt)
      have hc := hcell k hlt
      clear hcell
      obtain ⟨x, hx⟩ : ∃ x, x = bs[k]?.getD 0 := ⟨_, rfl⟩
      have hx256 : x < 256 := by rw [hx, List.getElem?_eq_getElem hlt]; exact h256 _ (List.getElem_mem hlt)
      rw [← hx] at hc
      have HX := Lib.hid hx; clear hx
      have e1 := xor32 hcl (show x < 4294967296 by omega)
      obtain ⟨c1, hc1⟩ : ∃ c1, c1 = c ^^^ x := ⟨_, rfl⟩
      have hc1l : c1 < 4294967296 := by rw [hc1]; exact Cm.xor_lt hcl (by omega)
      rw [← hc1] at e1
      have f1 := and15 c1 hc1l
      obtain ⟨j1, hj1⟩ : ∃ j1, j1 = c1 % 16 := ⟨_, rfl⟩
      have hj1l : j1 < 16 := by omega
      rw [← hj1] at f1
      have t1 := HT.out j1 hj1l
      obtain ⟨y1, hy1⟩ : ∃ y1, y1 = Cm.tab j1 := ⟨_, rfl⟩
      have hy1l : y1 < 4294967296 := by rw [hy1]; exact Cm.tab_lt hj1l
      rw [← hy1] at t1
      have g1 := xor32d (a := c1) (b := y1) hc1l hy1l
      obtain ⟨c2, hc2⟩ : ∃ c2, c2 = c1 / 16 ^^^ y1 := ⟨_, rfl⟩
      have hc2l : c2 < 4294967296 := by rw [hc2]; exact Cm.xor_lt (by omega) hy1l
      rw [← hc2] at g1
      have f2 := and15 c2 hc2l
      obtain ⟨j2, hj2⟩ : ∃ j2, j2 = c2 % 16 := ⟨_, rfl⟩
      have hj2l : j2 < 16 := by omega
      rw [← hj2] at f2
      have t2 := HT.out j2 hj2l
      obtain ⟨y2, hy2⟩ : ∃ y2, y2 = Cm.tab j2 := ⟨_, rfl⟩
      have hy2l : y2 < 4294967296 := by rw [hy2]; exact Cm.tab_lt hj2l
      rw [← hy2] at t2
      have g2 := xor32d (a := c2) (b := y2) hc2l hy2l
      obtain ⟨c3, hc3⟩ : ∃ c3, c3 = c2 / 16 ^^^ y2 := ⟨_, rfl⟩
      have hc3l : c3 < 4294967296 := by rw [hc3]; exact Cm.xor_lt (by omega) hy2l
      rw [← hc3] at g2
      have hupd : c3 = Cm.upd c x := by
        unfold Cm.upd
        rw [show 8 = 4 + 4 from rfl, Cm.H_add, Cm.H4 (c ^^^ x), ← hc1, ← hj1, ← hy1, ← hc2, Cm.H4 c2, ← hj2, ← hy2, ← hc3]
      have hnext : c3 = Cm.run (s ^^^ Cm.F) (bs.take (k + 1)) := by
        rw [List.take_succ_eq_append_getElem hlt, Cm.run_append, ← hrun.out, hupd, HX.out, List.getElem?_eq_getElem hlt]
        rfl
      have HN := Lib.hid hnext
      clear hc1 hj1 hy1 hc2 hj2 hy2 hc3 hupd hnext
      have hj1i : (j1 : Int) < 16 := by omega
      have hj2i : (j2 : Int) < 16 := by omega
      go_wp2
      go_round
      case rel => exact ⟨k + 1, c3, rfl, by go_num, by omega, hc3l, HN.out⟩
      case measure => simp [intOf]; omega
    · have e2 := xorF hcl
      have hfin : c ^^^ Cm.F = Cm.more s bs := by
        rw [hrun.out, List.take_of_length_le (by omega)]
        rfl
      rw [hfin] at e2
      have HE := Lib.hid hfin; clear hfin
      go_wp2
      go_ret
      exact ⟨rfl, rfl⟩
end Go.Proofs.YtignfhdblakcfaaDoor

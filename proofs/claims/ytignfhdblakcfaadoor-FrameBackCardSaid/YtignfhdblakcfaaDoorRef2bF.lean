/- packetboatref02: Seal and Open. -/
import Derived.Test.YtignfhdblakcfaaDoorRef2
namespace Go.Proofs.YtignfhdblakcfaaDoor
open Go.ChangeShapes Go.WideShapes Go.ChangeAt Go.RowKit
set_option linter.unusedVariables false

theorem tab_keeps2 : Keeps Tab := fun _ _ h hb => h.below hb
set_option maxRecDepth 100000 in
theorem RSeal_any (w : World) (A : Option Addr) (len cap : Nat) (bs : List Nat) (hr : Rd w w.heap.size A (u8s bs)) (h256 : ∀ b ∈ bs, b < 256) (hn : bs.length = len) (hl : len ≤ 1099511627776) (hnone : A = none → cap = 0) :
    Calls Tryd.prog 23 #[.slice A len cap] w fun e w' => ∃ v, e = .returned v ∧ w'.ownsRow w.heap.size 5 1 v (len + 4) (u8s (Cm.sealed bs)) ∧ Below w.heap.size w w' := by
  obtain ⟨i0, hi, hz0, hz1, hz2⟩ := info_parts Tryd.infoB
  have cS := Lib.hid (RSum_any w A len cap bs w.heap.size hr h256 hn (by unfold maxLen; omega))
  obtain ⟨s, hs⟩ : ∃ s, Cm.sum bs = s := ⟨_, rfl⟩
  have hsl : s < 4294967296 := by rw [← hs]; exact Cm.sum_lt h256
  rw [hs] at cS
  obtain ⟨b0, h0⟩ : ∃ b, b = s % 256 := ⟨_, rfl⟩
  obtain ⟨b1, h1⟩ : ∃ b, b = s / 256 % 256 := ⟨_, rfl⟩
  obtain ⟨b2, h2⟩ : ∃ b, b = s / 65536 % 256 := ⟨_, rfl⟩
  obtain ⟨b3, h3⟩ : ∃ b, b = s / 16777216 := ⟨_, rfl⟩
  have hse : Cm.sealed bs = bs ++ [b0, b1, b2, b3] := by
    unfold Cm.sealed Cm.le4
    rw [hs, h0, h1, h2, h3, show s / 16777216 % 256 = s / 16777216 by omega]
  have e0 : (s : Int) % 256 = (b0 : Int) := by omega
  have e1 : (s : Int) / 256 % 256 = (b1 : Int) := by omega
  have e2 : (s : Int) / 65536 % 256 = (b2 : Int) := by omega
  have e3 : (s : Int) / 16777216 = (b3 : Int) := by omega
  have l0 : b0 < 256 := by omega
  have l1 : b1 < 256 := by omega
  have l2 : b2 < 256 := by omega
  have l3 : b3 < 256 := by omega
  have HSE := Lib.hid hse
  have HUL : Hid ((u8s bs).length = len) := Lib.hid (by simp [hn])
  have HR := Lib.hid hr
  have HN := Lib.hid hnone
  clear hse h0 h1 h2 h3 hs hn hnone hr h256
  have hb0 := own_lit0 w 5 w.heap.size (Nat.le_refl _)
  have hbw := (Below.refl w.heap.size w).alloc (Nat.le_refl _) (.cells #[] 5)
  have tok1 : True := trivial
  go_enter Tryd.func23, Tryd.ntmps23
  go_wp2_with fail
  refine cS.out.mono ?_
  rintro e w' ⟨rfl, rfl⟩
  go_wp2_with (first
    | (at_builtin; have _t := tok1; go_must (refine app_own rfl (.tmp 6) (.tmp 7) 22 rfl w.heap.size 5 i0 (.int .u8 0) 1 Tryd.underlying22 hi hz0 hz1 hz2 rfl (.slice (some ⟨w.heap.size, 0, none⟩) 0 0) 0 [] rfl hb0 w.heap.size A len cap (u8s bs) rfl HUL.out (HR.out.alloc _) HN.out (u8s_one _) (by unfold maxLen; omega) (by omega) (by simp) ?_; intro v2 w2 ho2 hg2 _hne2; have hb2 := hbw.grown hg2 (by simp) (fun k hk => (hb0.lt k hk).1); simp only [Nat.zero_add, List.nil_append] at ho2; clear hg2 hb0 hbw tok1))
    | (at_builtin; go_must (refine app_own rfl (.tmp 8) (.tmp 23) 22 rfl w.heap.size 5 i0 (.int .u8 0) 1 Tryd.underlying22 hi hz0 hz1 hz2 rfl v2 len (u8s bs) rfl (own_below ho2 ((Below.refl _ w2).alloc (Nat.le_refl _) _)) _ (some ⟨w2.heap.size, 0, none⟩) 4 4 (u8s [b0, b1, b2, b3]) rfl rfl (Rd.new w2 #[.int .u8 (b0 : Int), .int .u8 (b1 : Int), .int .u8 (b2 : Int), .int .u8 (b3 : Int)] 5) (fun h => by cases h) (u8s_one _) (by unfold maxLen; omega) (by omega) (by have := hb2.size; simp; omega) ?_; intro v3 w3 ho3 hg3 _hne3; have hb3 := (hb2.alloc hb2.size (.cells #[.int .u8 (b0 : Int), .int .u8 (b1 : Int), .int .u8 (b2 : Int), .int .u8 (b3 : Int)] 5)).grown hg3 (by have := hb2.size; simp; omega) (fun k hk => (ho2.lt k hk).1); rw [← u8s_append, ← HSE.out] at ho3))
    | fail)
  go_ret
  exact ⟨v3, rfl, ho3, hb3⟩

theorem sealed_iff {bs : List Nat} {n : Nat} (hn : bs.length = n + 4) : (Cm.sealed (bs.take n) = bs → Cm.openE bs = 0 ∧ Cm.openB bs = bs.take n) ∧ (Cm.sealed (bs.take n) ≠ bs → Cm.openE bs = 5) := by
  have e : bs.length - 4 = n := by omega
  have key : Cm.sealed (bs.take n) = bs ↔ bs.drop n = Cm.le4 (Cm.sum (bs.take n)) := by
    unfold Cm.sealed
    constructor
    · intro h
      have h2 : bs.take n ++ Cm.le4 (Cm.sum (bs.take n)) = bs.take n ++ bs.drop n := by rw [h, List.take_append_drop]
      exact (List.append_cancel_left h2).symm
    · intro h
      rw [← h, List.take_append_drop]
  constructor
  · intro h
    have h5 : Cm.openE bs = 0 := by unfold Cm.openE; rw [if_neg (by omega), e, if_pos (key.1 h)]
    exact ⟨h5, by unfold Cm.openB; rw [if_pos h5, e]⟩
  · intro h
    unfold Cm.openE
    rw [if_neg (by omega), e, if_neg (fun h2 => h (key.2 h2))]

end Go.Proofs.YtignfhdblakcfaaDoor

/- frame.next, Next; packetboatref03.Next. -/
import Derived.Test.YtignfhdblakcfaaDoorWrp
import Derived.Test.YtignfhdblakcfaaDoorSl3
namespace Go.Proofs.YtignfhdblakcfaaDoor
open Go.ChangeShapes Go.WideShapes Go.ChangeAt Go.RowKit
set_option linter.unusedVariables false

theorem u8s_take (bs : List Nat) (k : Nat) : u8s (bs.take k) = (u8s bs).take k := by simp [u8s, List.map_take]
theorem u8s_drop (bs : List Nat) (k : Nat) : u8s (bs.drop k) = (u8s bs).drop k := by simp [u8s, List.map_drop]
theorem one8 : ∀ w, (sizeOf 5).run Tryd.prog w = .ok 1 w := fun w => by kernel_rfl
/-- what next leaves: the record is a part of what came -/
def NextPost (w : World) (r : List Nat × Nat × Nat) (e : Ending) (w' : World) : Prop :=
  ∃ v, e = .returned (.tuple #[v, .int .i64 (r.2.1 : Int), .int .i64 (r.2.2 : Int)]) ∧
    ((r.2.2 ≠ 0 ∧ v = .slice none 0 0) ∨ (r.2.2 = 0 ∧ ∃ a, v = .slice (some a) r.1.length r.1.length ∧ Rd w' w'.heap.size (some a) (u8s r.1))) ∧ Below w.heap.size w w'
theorem nextPost_no {w w' : World} {r : List Nat × Nat × Nat} {q : List Nat} {d : Nat} (h : r = (q, 0, d)) (hd : d ≠ 0) (hb : Below w.heap.size w w') : NextPost w r (.returned (.tuple #[.slice none 0 0, .int .i64 0, .int .i64 (d : Int)])) w' := by
  subst h; exact ⟨_, rfl, .inl ⟨hd, rfl⟩, hb⟩
set_option maxHeartbeats 1000000 in
set_option maxRecDepth 100000 in
theorem next_any (w : World) (A : Option Addr) (len cap : Nat) (bs : List Nat) (hT : Tab w) (hr : Rd w w.heap.size A (u8s bs)) (h256 : ∀ b ∈ bs, b < 256) (hn : bs.length = len) (hlc : len ≤ cap) (hcm : cap ≤ maxLen) (hl : len ≤ 1099511627776) :
    Calls Tryd.prog 24 #[.slice A len cap] w (NextPost w (Fm.next bs)) := by
  obtain ⟨⟨n, k, d⟩, hte⟩ : ∃ x, Vm.take bs = x := ⟨_, rfl⟩
  have hTake := Lib.hid (take_at w A cap bs w.heap.size len n k d hr h256 (by unfold maxLen; omega) hn hte)
  by_cases hd : d = 0
  · subst hd
    obtain ⟨hk1, hk2, hk3, hk4⟩ := Vm.take_ok hte h256
    have hA : A ≠ none := by
      intro h; subst h
      obtain ⟨g, o, he, _⟩ := hr (by intro h0; have := congrArg List.length h0; simp [u8s] at this; subst this; simp at hk2; omega)
      cases he
    by_cases hn8 : 8192 < n
    · have hr18 := (take_range bs).1
      rw [hte] at hr18
      simp only at hr18
      have HP := Lib.hid (nextPost_no (w := w) (Fm.next_long hte hn8) (by decide) (Below.refl _ _))
      clear hT hr h256 hn hte hk4
      go_enter Tryd.func24, Tryd.ntmps24
      go_wp2_with fail
      refine hTake.out.mono ?_
      rintro e w' ⟨rfl, rfl⟩
      go_wp2
      go_ret3
      exact HP.out
    · by_cases hs : bs.length < k + n + 4
      · have HP := Lib.hid (nextPost_no (w := w) (Fm.next_short hte (by omega) hs) (by decide) (Below.refl _ _))
        rw [hn] at hs
        clear hT hr h256 hn hte hk4
        go_enter Tryd.func24, Tryd.ntmps24
        go_wp2_with fail
        refine hTake.out.mono ?_
        rintro e w' ⟨rfl, rfl⟩
        go_wp2
        go_ret3
        exact HP.out
      · obtain ⟨A1, hs1, hr1, hA1⟩ := slice_h 22 5 Tryd.underlying22 one8 A len cap (k + n + 4) ((k : Int) + (n : Int) + 4) (by omega) (by omega)
        obtain ⟨A2, hs2, hr2, hA2⟩ := slice_lhm 22 5 Tryd.underlying22 one8 A len cap k (k + n) (k : Int) ((k : Int) + (n : Int)) rfl (by omega) (by omega) (by omega)
        obtain ⟨d5, hd5⟩ : ∃ d5, Cm.openE (bs.take (k + n + 4)) = d5 := ⟨_, rfl⟩
        have hOpen := Lib.hid (Open_at w A1 (k + n + 4) cap (bs.take (k + n + 4)) hT (by rw [u8s_take]; exact hr1 w _ _ (by simp [u8s]; omega) hr) (fun b hb => h256 b (List.mem_of_mem_take hb)) (by simp; omega) (by omega) hcm (by omega) (fun h => absurd h (hA1 hA)) d5 _ _ hd5 rfl rfl)
        have hd05 := Fm.open_05 (bs.take (k + n + 4)) (by simp; omega)
        rw [hd5] at hd05
        have hlen : ¬ len < k + n + 4 := by omega
        by_cases hz : d5 = 0
        · subst hz
          have hq := Fm.next_ok hte (by omega) hs hd5
          have HP : ∀ w', Below w.heap.size w w' → NextPost w (Fm.next bs) (.returned (.tuple #[.slice A2 n n, .int .i64 ((k : Int) + (n : Int) + 4), .int .i64 0])) w' := by
            intro w' hb
            rw [hq]
            obtain ⟨a, ha⟩ : ∃ a, A2 = some a := by
              cases hA2' : A2 with
              | none => exact absurd hA2' (hA2 hA)
              | some a => exact ⟨a, rfl⟩
            have hlq : ((bs.drop k).take n).length = n := by simp; omega
            refine ⟨_, by simp only; congr 1, .inr ⟨rfl, a, ?_, ?_⟩, hb⟩
            · simp only; rw [hlq, ha]
            · simp only
              have h2 := hr2 w' w.heap.size (u8s bs) (by simp [u8s]; omega) (hr.below hb)
              rw [ha, show k + n - k = n by omega, ← u8s_drop, ← u8s_take] at h2
              exact h2.more hb.size
          have HPP := Lib.hid HP
          clear HP hq hT hr h256 hn hte hk4 hs hr1 hr2 hd5 hd05 hA hA1 hA2
          go_enter Tryd.func24, Tryd.ntmps24
          go_wp2_with fail
          refine hTake.out.mono ?_
          rintro e w' ⟨rfl, rfl⟩
          go_wp2_with fail
          refine hOpen.out.mono ?_
          rintro e w' ⟨v, rfl, hm, hb⟩
          have HB := Lib.hid hb
          clear hm hb
          go_wp2
          go_ret3
          exact HPP.out _ HB.out
        · obtain rfl : d5 = 5 := by omega
          have HP : ∀ w', Below w.heap.size w w' → NextPost w (Fm.next bs) (.returned (.tuple #[.slice none 0 0, .int .i64 0, .int .i64 5])) w' := fun w' hb => nextPost_no (Fm.next_sum hte (by omega) hs (by rw [hd5]; decide)) (by decide) hb
          have HPP := Lib.hid HP
          clear HP hT hr h256 hn hte hk4 hs hr1 hr2 hd5 hd05 hA hA1 hA2 hs2
          go_enter Tryd.func24, Tryd.ntmps24
          go_wp2_with fail
          refine hTake.out.mono ?_
          rintro e w' ⟨rfl, rfl⟩
          go_wp2_with fail
          refine hOpen.out.mono ?_
          rintro e w' ⟨v, rfl, hm, hb⟩
          have HB := Lib.hid hb
          clear hm hb
          go_wp2
          go_ret3
          exact HPP.out _ HB.out
  · have HP := Lib.hid (nextPost_no (w := w) (Fm.next_e hte hd) hd (Below.refl _ _))
    have hdn : ((d : Int) == 0) = false := by simp; omega
    clear hT hr h256 hn hte
    go_enter Tryd.func24, Tryd.ntmps24
    go_wp2_with fail
    refine hTake.out.mono ?_
    rintro e w' ⟨rfl, rfl⟩
    go_wp2
    go_ret3
    exact HP.out
theorem Next_at (w : World) (A : Option Addr) (len cap : Nat) (bs : List Nat) (hT : Tab w) (hr : Rd w w.heap.size A (u8s bs)) (h256 : ∀ b ∈ bs, b < 256) (hn : bs.length = len) (hlc : len ≤ cap) (hcm : cap ≤ maxLen) (hl : len ≤ 1099511627776) (q : List Nat) (s d m : Nat) (hq : Fm.next bs = (q, s, d)) (hm : q.length = m) :
    Calls Tryd.prog 10 #[.slice A len cap] w fun e w' => ∃ v, e = .returned (.tuple #[v, .int .i64 (s : Int), .int .i64 (d : Int)]) ∧ Made w' v q m ∧ Below w.heap.size w w' := by
  have hq256 : ∀ b ∈ q, b < 256 := by
    have h := Fm.next_byte bs h256
    rw [hq] at h
    exact h
  have hql := (Fm.next_le bs).2
  rw [hq] at hql
  have HC := Lib.hid (next_any w A len cap bs hT hr h256 hn hlc hcm hl)
  rw [hq] at HC
  have HQ := Lib.hid hq256; have HM := Lib.hid hm
  have hml : m ≤ 1099511627776 := by simp only at hql; omega
  have hqe := Lib.hid (show d ≠ 0 → q = [] from fun hd => by
    have h := Fm.next_nil bs
    rw [hq] at h
    exact h hd)
  clear hT hr h256 hn hq hq256 hql hm
  go_enter Tryd.func10, Tryd.ntmps10
  go_wp2_with fail
  refine HC.out.mono ?_
  rintro e w1 ⟨v, rfl, hv, hb1⟩
  rcases hv with ⟨hd, rfl⟩ | ⟨hd, a, rfl, hra⟩
  · go_wp2_with fail
    refine (Clone_nil _).mono ?_
    rintro e w' ⟨rfl, rfl⟩
    have HP := Lib.hid (show ∃ v, Ending.returned (.tuple #[.slice none 0 0, .int .i64 (s : Int), .int .i64 (d : Int)]) = .returned (.tuple #[v, .int .i64 (s : Int), .int .i64 (d : Int)]) ∧ Made w1 v q m ∧ Below w.heap.size w w1 from ⟨_, rfl, by
      have := hqe.out hd
      subst this
      have h0 := HM.out
      simp at h0
      subst h0
      exact made_nil _, hb1⟩)
    clear hb1
    go_wp2
    go_ret3
    exact HP.out
  · obtain rfl : d = 0 := hd
    rw [HM.out]
    go_wp2_with fail
    refine (Clone_at _ a m m q hra HQ.out HM.out hml).mono ?_
    rintro e w2 ⟨v, rfl, hmv, hb2⟩
    have HP := Lib.hid (show ∃ v', Ending.returned (.tuple #[v, .int .i64 (s : Int), .int .i64 0]) = .returned (.tuple #[v', .int .i64 (s : Int), .int .i64 ((0 : Nat) : Int)]) ∧ Made w2 v' q m ∧ Below w.heap.size w w2 from ⟨v, rfl, hmv, hb1.trans (hb2.mono hb1.size)⟩)
    clear hb1 hb2 hmv hra
    go_wp2
    go_ret3
    exact HP.out
end Go.Proofs.YtignfhdblakcfaaDoor

/- dict: Take. -/
import Derived.Test.YtgjkeccopjgjlaaDcp
import Derived.Test.YtgjkeccopjgjlaaSl3
import Derived.Test.YtgjkeccopjgjlaaVm2
namespace Go.Proofs.Ytgjkeccopjgjlaa
open Go.ChangeShapes Go.WideShapes Go.ChangeAt Go.RowKit Go.Maps
set_option linter.unusedVariables false
set_option linter.unusedSimpArgs false

theorem sizeOfU8 : ∀ w, (sizeOf 5).run Try.prog w = .ok 1 w := fun w => by kernel_rfl
theorem str_nil : str [] = ⟨#[]⟩ := rfl
def NewK (w : World) (r : ByteArray × Nat × Nat) (en : Ending) (w' : World) : Prop := en = .returned (.tuple #[.string r.1, .int .i64 (r.2.1 : Int), .int .i64 (r.2.2 : Int)]) ∧ w = w'
set_option maxHeartbeats 2000000 in
set_option maxRecDepth 100000 in
theorem takeNew_any (w : World) (g : Nat) (S : Nat → Prop) (ks : List ByteArray) (e : Nat) (A : Option Addr) (n c : Nat) (bs : List Nat) (h : DictM w g S ks e) (hr : Rd w w.heap.size A (u8s bs)) (h256 : ∀ b ∈ bs, b < 256) (hn : bs.length = n) (hl : n ≤ 1099511627776) (hc : n ≤ c) (hcm : c ≤ maxLen) :
    Calls Try.prog 84 #[.pointer (some ⟨g, 0, none⟩), .slice A n c] w (NewK w (Dm.newD ks bs)) := by
  obtain ⟨⟨a, b, d⟩, ht⟩ : ∃ r, Vm.take bs = r := ⟨_, rfl⟩
  have hnl : bs.length ≤ maxLen := by unfold maxLen; omega
  have cT := Lib.hid (take_at w A c bs w.heap.size n a b d hr h256 hnl hn ht)
  by_cases hd : d = 0
  · subst hd
    by_cases ha : 64 < a
    · have HP : Hid (NewK w (Dm.newD ks bs) (.returned (.tuple #[.string ⟨#[]⟩, .int .i64 0, .int .i64 4])) w) := Lib.hid (by
        unfold Dm.newD; rw [ht]; simp only; rw [if_neg (by simp), if_pos ha]; exact ⟨rfl, rfl⟩)
      have hai : (64 : Int) < (a : Int) := by omega
      clear h hr h256 hn ht hnl
      go_enter Try.func84, Try.ntmps84
      go_wp2_with fail
      refine cT.out.mono ?_
      rintro e1 w' ⟨rfl, rfl⟩
      go_wp2
      go_ret3
      exact HP.out
    · have hai : ¬ (64 : Int) < (a : Int) := by omega
      obtain ⟨hb1, hbl, hb10, -⟩ := Vm.take_ok ht h256
      rw [hn] at hbl
      have hblI : (b : Int) ≤ (n : Int) := by omega
      by_cases hs : n - b < a
      · have HP : Hid (NewK w (Dm.newD ks bs) (.returned (.tuple #[.string ⟨#[]⟩, .int .i64 0, .int .i64 2])) w) := Lib.hid (by
          unfold Dm.newD; rw [ht]; simp only; rw [if_neg (by simp), if_neg ha, hn, if_pos hs]; exact ⟨rfl, rfl⟩)
        have hsI : (n : Int) - (b : Int) < (a : Int) := by omega
        clear h hr h256 hn ht hnl
        go_enter Try.func84, Try.ntmps84
        go_wp2_with fail
        refine cT.out.mono ?_
        rintro e1 w' ⟨rfl, rfl⟩
        go_wp2
        go_ret3
        exact HP.out
      · have hsI : ¬ (n : Int) - (b : Int) < (a : Int) := by omega
        obtain ⟨A', q1, q2, -⟩ := slice_lh (P := Try.prog) 39 5 Try.underlying39 sizeOfU8 A n c b (b + a) (b : Int) ((b : Int) + (a : Int)) rfl (by omega) (by omega) (by omega)
        obtain ⟨kk, hkk⟩ : ∃ kk, str ((bs.drop b).take a) = kk := ⟨_, rfl⟩
        have hkl : ((bs.drop b).take a).length = a := by rw [List.length_take, List.length_drop]; omega
        have hks : kk.size = a := by rw [← hkk, str_size, hkl]
        have q3 := q2 w w.heap.size (u8s bs) (by simp [hn]; omega) hr
        rw [show ((u8s bs).drop b).take (b + a - b) = u8s ((bs.drop b).take a) by simp [u8s, List.map_take, List.map_drop]] at q3
        have q4 := run_str (P := Try.prog) w (src := 39) (dst := 9) (e := 5) (n := a) (c := c - b) Try.underlying39 Try.underlying5 Try.underlying9 q3 hkl
        rw [hkk] at q4
        obtain ⟨v, m, D, h1, h2, h3, h4, h5, h6⟩ := h
        obtain ⟨c0, c1, c2, -⟩ := Blk.three h1
        have hkm : kk.size ≤ maxLen := by unfold maxLen; omega
        have hcI : (b : Int) + (a : Int) ≤ (c : Int) := by omega
        cases hp : Dm.plc ks kk with
        | some i =>
          have hl2 := look_has h3 h4 hkm hp
          have HP : Hid (NewK w (Dm.newD ks bs) (.returned (.tuple #[.string ⟨#[]⟩, .int .i64 0, .int .i64 3])) w) := Lib.hid (by
            unfold Dm.newD; rw [ht]; simp only; rw [if_neg (by simp), if_neg ha, hn, if_neg hs, hkk, hp]; exact ⟨rfl, rfl⟩)
          clear h1 h2 h3 h4 h5 h6 hr h256 hn ht hnl q2 q3 hkk hp hks hkl
          go_enter Try.func84, Try.ntmps84
          go_wp2_with fail
          refine cT.out.mono ?_
          rintro e1 w' ⟨rfl, rfl⟩
          go_wp2
          go_ret3
          exact HP.out
        | none =>
          obtain ⟨cc, hl2⟩ := look_no h3 h4 hkm hp
          have HP : Hid (NewK w (Dm.newD ks bs) (.returned (.tuple #[.string kk, .int .i64 ((b : Int) + (a : Int)), .int .i64 0])) w) := Lib.hid (by
            unfold Dm.newD; rw [ht]; simp only; rw [if_neg (by simp), if_neg ha, hn, if_neg hs, hkk, hp]; exact ⟨by simp, rfl⟩)
          clear h1 h2 h3 h4 h5 h6 hr h256 hn ht hnl q2 q3 hkk hp hks hkl
          go_enter Try.func84, Try.ntmps84
          go_wp2_with fail
          refine cT.out.mono ?_
          rintro e1 w' ⟨rfl, rfl⟩
          go_wp2
          go_ret3
          exact HP.out
  · have HP : Hid (NewK w (Dm.newD ks bs) (.returned (.tuple #[.string ⟨#[]⟩, .int .i64 0, .int .i64 (d : Int)])) w) := Lib.hid (by
      unfold Dm.newD; rw [ht]; simp only; rw [if_pos hd]; exact ⟨rfl, rfl⟩)
    have hdn : ((d : Int) == 0) = false := by simp; omega
    clear h hr h256 hn ht hnl
    go_enter Try.func84, Try.ntmps84
    go_wp2_with fail
    refine cT.out.mono ?_
    rintro e1 w' ⟨rfl, rfl⟩
    go_wp2
    go_ret3
    exact HP.out
def DTakePost (w : World) (g : Nat) (S : Nat → Prop) (r : ByteArray × Nat × Nat × List ByteArray × Nat) (en : Ending) (w' : World) : Prop :=
  ∃ S', en = .returned (.tuple #[.string r.1, .int .i64 (r.2.1 : Int), .int .i64 (r.2.2.1 : Int)]) ∧ DictM w' g S' r.2.2.2.1 r.2.2.2.2 ∧ Turned w S S' w'
theorem newD_le (ks : List ByteArray) (bs : List Nat) (h256 : ∀ b ∈ bs, b < 256) : (Dm.newD ks bs).2.1 ≤ bs.length := by
  unfold Dm.newD
  split
  · simp
  · next h =>
    split
    · simp
    · split
      · simp
      · cases hp : Dm.plc ks (str ((bs.drop (Vm.take bs).2.1).take (Vm.take bs).1)) with
        | some i => simp
        | none =>
          obtain ⟨_, h2, _, _⟩ := Vm.take_ok (bs := bs) (z := (Vm.take bs).1) (k := (Vm.take bs).2.1) (by
            have : (Vm.take bs).2.2 = 0 := by omega
            rw [← this]) h256
          simp only
          omega
set_option maxHeartbeats 2000000 in
set_option maxRecDepth 100000 in
theorem DTake_any (w : World) (g : Nat) (S : Nat → Prop) (ks : List ByteArray) (e : Nat) (A : Option Addr) (n c : Nat) (bs : List Nat) (h : DictM w g S ks e) (hr : Rd w w.heap.size A (u8s bs)) (h256 : ∀ b ∈ bs, b < 256) (hn : bs.length = n) (hl : n ≤ 1099511627776) (hc : n ≤ c) (hcm : c ≤ maxLen) :
    Calls Try.prog 83 #[.pointer (some ⟨g, 0, none⟩), .slice A n c] w (DTakePost w g S (Dm.takeD ks e bs)) := by
  obtain ⟨⟨a, b, d⟩, ht⟩ : ∃ r, Vm.take bs = r := ⟨_, rfl⟩
  have hnl : bs.length ≤ maxLen := by unfold maxLen; omega
  have cT := Lib.hid (take_at w A c bs w.heap.size n a b d hr h256 hnl hn ht)
  have HM := Lib.hid h
  by_cases hd : d = 0
  · subst hd
    obtain ⟨hb1, hbl, hb10, -⟩ := Vm.take_ok ht h256
    rw [hn] at hbl
    have hlen := h.ok.2.1
    obtain ⟨v, m, D, h1, h2, h3, h4, h5, h6⟩ := h
    obtain ⟨c0, c1, c2, -⟩ := Blk.three h1
    obtain ⟨A1, cc, rfl, hnc, hccm, -, hrow, hnone⟩ := own_form h2
    by_cases ha : ks.length < a
    · have HP : Hid (DTakePost w g S (Dm.takeD ks e bs) (.returned (.tuple #[.string ⟨#[]⟩, .int .i64 0, .int .i64 9])) w) := Lib.hid (by
        unfold Dm.takeD; rw [ht]; simp only; rw [if_neg (by simp), if_pos ha]; exact ⟨S, rfl, HM.out, Turned.refl _ _⟩)
      have hai : (ks.length : Int) < (a : Int) := by omega
      clear h1 h2 h3 h4 h5 h6 hr h256 hn ht hnl hrow
      go_enter Try.func83, Try.ntmps83
      go_wp2_with fail
      refine cT.out.mono ?_
      rintro e1 w' ⟨rfl, rfl⟩
      go_wp2
      go_ret3
      exact HP.out
    · have hai : ¬ (ks.length : Int) < (a : Int) := by omega
      by_cases ha0 : 0 < a
      · have hai0 : (0 : Int) < (a : Int) := by omega
        obtain ⟨k, hk⟩ : ∃ k, ks[a - 1]? = some k := ⟨ks[a - 1]'(by omega), List.getElem?_eq_getElem (by omega)⟩
        obtain ⟨r, o, rfl, hrl, hcell⟩ := hrow (by intro h0; have h1 := congrArg List.length h0; rw [List.length_map] at h1; simp only [List.length_nil] at h1; omega)
        have hro : o = 0 := by
          rcases h2.2 with ⟨h9, _⟩ | ⟨g', cap, cur, h9, _⟩
          · cases h9
          · injection h9 with h9 _ _; injection h9 with h9; injection h9
        subst hro
        have hc3 := hcell (a - 1) (.string k) (by rw [List.getElem?_map, hk]; rfl)
        rw [Nat.zero_add] at hc3
        have HP : Hid (DTakePost w g S (Dm.takeD ks e bs) (.returned (.tuple #[.string k, .int .i64 (b : Int), .int .i64 0])) w) := Lib.hid (by
          unfold Dm.takeD; rw [ht]; simp only; rw [if_neg (by simp), if_neg ha, if_pos ha0, hk]; exact ⟨S, rfl, HM.out, Turned.refl _ _⟩)
        have hx1 : ((a : Int) - 1) < (ks.length : Int) := by omega
        have hx2 : (0 : Int) ≤ (a : Int) - 1 := by omega
        have hx3 : ((a : Int) - 1).toNat = a - 1 := by omega
        have hx4 : 1 ≤ (a : Int) := by omega
        clear h1 h2 h3 h4 h5 h6 hr h256 hn ht hnl hcell hk
        go_enter Try.func83, Try.ntmps83
        go_wp2_with fail
        refine cT.out.mono ?_
        rintro e1 w' ⟨rfl, rfl⟩
        go_wp2
        go_ret3
        exact HP.out
      · obtain rfl : a = 0 := by omega
        obtain ⟨A', q1, q2, -⟩ := slice_from (P := Try.prog) 39 5 Try.underlying39 sizeOfU8 A n c b (b : Int) rfl hbl hc
        have q3 := q2 w w.heap.size (u8s bs) (by simp [hn]) hr
        rw [show (u8s bs).drop b = u8s (bs.drop b) by simp [u8s, List.map_drop]] at q3
        have hle := newD_le ks (bs.drop b) (fun x hx => h256 x (List.mem_of_mem_drop hx))
        rw [List.length_drop, hn] at hle
        obtain ⟨⟨k, s, f⟩, hnw⟩ : ∃ r, Dm.newD ks (bs.drop b) = r := ⟨_, rfl⟩
        have cN := Lib.hid (takeNew_any w g S ks e A' (n - b) (c - b) (bs.drop b) HM.out q3 (fun x hx => h256 x (List.mem_of_mem_drop hx)) (by rw [List.length_drop, hn]) (by omega) (by omega) (by omega))
        have hok := Dm.newD_ok (ks := ks) (b := bs.drop b)
        rw [hnw] at cN hle hok
        simp only at hle hok
        have hbI : (b : Int) ≤ (n : Int) := by omega
        by_cases hf : f = 0
        · subst hf
          obtain ⟨hp, h64⟩ := hok rfl
          have cC := Lib.hid (come_any w g S ks e k HM.out hp h64)
          have HP : Hid (∀ w', ComePost w g S (Dm.comeD ks e k).1 (Dm.comeD ks e k).2 (.returned (.tuple #[])) w' → DTakePost w g S (Dm.takeD ks e bs) (.returned (.tuple #[.string k, .int .i64 ((b : Int) + (s : Int)), .int .i64 0])) w') := Lib.hid (fun w' hcm => by
            unfold Dm.takeD; rw [ht]; simp only; rw [if_neg (by simp), if_neg ha, if_neg ha0, hnw]; simp only; rw [if_neg (by simp)]
            obtain ⟨_, S', hd, hT⟩ := hcm
            exact ⟨S', by simp, hd, hT⟩)
          clear h1 h2 h3 h4 h5 h6 hr h256 hn ht hnl q2 q3 hnw hp hok h64 hrow
          go_enter Try.func83, Try.ntmps83
          go_wp2_with fail
          refine cT.out.mono ?_
          rintro e1 w' ⟨rfl, rfl⟩
          go_wp2_with fail
          refine cN.out.mono ?_
          rintro e1 w' ⟨rfl, rfl⟩
          go_wp2_with fail
          refine cC.out.mono ?_
          rintro e1 w1 hcp
          obtain rfl : e1 = .returned (.tuple #[]) := hcp.1
          have HPP := Lib.hid (HP.out _ hcp)
          clear hcp
          go_wp2
          go_ret3
          exact HPP.out
        · have HP : Hid (DTakePost w g S (Dm.takeD ks e bs) (.returned (.tuple #[.string ⟨#[]⟩, .int .i64 0, .int .i64 (f : Int)])) w) := Lib.hid (by
            unfold Dm.takeD; rw [ht]; simp only; rw [if_neg (by simp), if_neg ha, if_neg ha0, hnw]; simp only; rw [if_pos hf]; exact ⟨S, rfl, HM.out, Turned.refl _ _⟩)
          have hfn : ((f : Int) == 0) = false := by simp; omega
          clear h1 h2 h3 h4 h5 h6 hr h256 hn ht hnl q2 q3 hnw hok hrow
          go_enter Try.func83, Try.ntmps83
          go_wp2_with fail
          refine cT.out.mono ?_
          rintro e1 w' ⟨rfl, rfl⟩
          go_wp2_with fail
          refine cN.out.mono ?_
          rintro e1 w' ⟨rfl, rfl⟩
          go_wp2
          go_ret3
          exact HP.out
  · have HP : Hid (DTakePost w g S (Dm.takeD ks e bs) (.returned (.tuple #[.string ⟨#[]⟩, .int .i64 0, .int .i64 (d : Int)])) w) := Lib.hid (by
      unfold Dm.takeD; rw [ht]; simp only; rw [if_pos hd]; exact ⟨S, rfl, HM.out, Turned.refl _ _⟩)
    have hdn : ((d : Int) == 0) = false := by simp; omega
    clear h hr h256 hn ht hnl
    go_enter Try.func83, Try.ntmps83
    go_wp2_with fail
    refine cT.out.mono ?_
    rintro e1 w' ⟨rfl, rfl⟩
    go_wp2
    go_ret3
    exact HP.out
end Go.Proofs.Ytgjkeccopjgjlaa

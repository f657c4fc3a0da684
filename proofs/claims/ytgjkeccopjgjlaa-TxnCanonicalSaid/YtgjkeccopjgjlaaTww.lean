/- txn.reader.write: the walk. -/
import Derived.Test.YtgjkeccopjgjlaaTwr
namespace Go.Proofs.Ytgjkeccopjgjlaa
open Go.ChangeShapes Go.WideShapes Go.ChangeAt Go.RowKit Go.Maps
set_option linter.unusedVariables false
set_option linter.unusedSimpArgs false

theorem upT_le (most over : Nat) (b : List Nat) : (Tm.upT most over b).1 ≤ most := by
  unfold Tm.upT
  split
  · exact Nat.zero_le _
  split
  · exact Nat.zero_le _
  · simp only; omega
theorem takeD_le {ks : List ByteArray} {e : Nat} {b : List Nat} (h256 : ∀ x ∈ b, x < 256) : (Dm.takeD ks e b).2.1 ≤ b.length := by
  unfold Dm.takeD
  split
  · exact Nat.zero_le _
  · next h =>
    obtain ⟨⟨z, k, f⟩, ht⟩ : ∃ r, Vm.take b = r := ⟨_, rfl⟩
    rw [ht] at h ⊢
    simp only at h ⊢
    obtain rfl : f = 0 := by omega
    obtain ⟨h1, h2, h3, -⟩ := Vm.take_ok ht h256
    split
    · exact Nat.zero_le _
    split
    · exact h2
    split
    · exact Nat.zero_le _
    · have := newD_le ks (b.drop k) (fun x hx => h256 x (List.mem_of_mem_drop hx))
      rw [List.length_drop] at this
      simp only
      omega
theorem only3 (w : World) (g : Nat) (x y z : Value) : Only (fun j => j = g) w (((w.setCell ⟨g, 0, none⟩ x).setCell ⟨g, 1, none⟩ y).setCell ⟨g, 2, none⟩ z) :=
  (((Only.refl (fun j => j = g) w).set (g := g) rfl 0 x).set (g := g) rfl 1 y).set (g := g) rfl 2 z
set_option maxHeartbeats 2000000 in
set_option maxRecDepth 100000 in
theorem write_any (w : World) (B q d : Nat) (S : Nat → Prop) (ks : List ByteArray) (e : Nat) (b : List Nat) (h : RdS w B q d S ks e b) :
    Calls Try.prog 80 #[.pointer (some ⟨q, 0, none⟩)] w (WrPost w B q d S (Tm.takeW ks e b)) := by
  have hnS : ¬ S w.heap.size := fun hs => by have := h.lt _ hs; omega
  have hB0 := (Below.refl w.heap.size w).alloc (Nat.le_refl _) (.cells (wrc Wr0) 73)
  have hT0 := (Turned.refl w S).below hB0
  have hF0 := Blk.new w 73 (wrc Wr0)
  obtain ⟨A, n, c, T, h1, h2, h3, h4, ⟨h5n, h5⟩, h6, h7, h8, h9, h10, h11⟩ := h.below hB0
  have hBw : B ≤ w.heap.size := by obtain ⟨_, _, _, _, _, _, _, _, _, _, _, _, _, _, hh⟩ := h; exact hh
  obtain ⟨W, hW⟩ : ∃ W, w.alloc (.cells (wrc Wr0) 73) = W := ⟨_, rfl⟩
  rw [hW] at hB0 hT0 hF0 h1 h2 h3 h11
  have a0 : W.cell? ⟨q, 0, none⟩ = some (.slice A n c) := h1.cell 0
  have a1 : W.cell? ⟨q, 1, none⟩ = some (.pointer (some ⟨d, 0, none⟩)) := h1.cell 1
  obtain ⟨⟨key, kn, d1, ks1, e1⟩, htd⟩ : ∃ r, Dm.takeD ks e b = r := ⟨_, rfl⟩
  have HD := Lib.hid (DTake_any W.drew d T ks e A n c b (h2.below (Below.refl _ _).drew) ((h3.drew).more (by show B ≤ W.heap.size; omega)) h8 h4 (by omega) h6 h7)
  have hkn := takeD_le (ks := ks) (e := e) h8
  rw [htd] at HD hkn
  simp only at hkn
  have HTD := Lib.hid htd
  have HS := Lib.hid (And.intro h1 (And.intro h2 (And.intro h3 (And.intro h4 (And.intro (And.intro h5n h5) (And.intro h6 (And.intro h7 (And.intro h8 (And.intro h9 (And.intro h10 h11))))))))))
  have HF0 := Lib.hid hF0; have HT0 := Lib.hid hT0; have HNS := Lib.hid hnS
  clear h h1 h2 h3 h4 h5n h5 h6 h7 h8 h9 h10 h11 hB0 hT0 hF0 hnS htd
  go_enter Try.func80, Try.ntmps80
  go_wp2
  clear hW
  go_region_with (first
    | (go_at_call 83; refine HD.out.mono ?_; rintro en1 w3 ⟨T3, rfl, hd3, ht3⟩)
    | fail)
  all_goals (
    try simp only at hd3
    obtain ⟨h1, h2, h3, h4, ⟨h5n, h5⟩, h6, h7, h8, h9, h10, h11⟩ := HS.out
    obtain ⟨k1, k3, k10, kt, k11⟩ := RdS.turn (w := W.drew) h1.drew (h2.below (Below.refl _ _).drew) h3.drew h4 h5 h6 h7 h8 h9 h10 h11 hd3 ht3
    have hF3 := blk_turn (w := W.drew) HF0.out.drew HNS.out kt
    have HT3 := Lib.hid (HT0.out.trans (b := W) (c := w3) ⟨kt.1, kt.2⟩)
    have a0 : w3.cell? ⟨q, 0, none⟩ = some (.slice A n c) := k1.cell 0
    have a1 : w3.cell? ⟨q, 1, none⟩ = some (.pointer (some ⟨d, 0, none⟩)) := k1.cell 1
    have qf := k1.frozen 0
    have hql := k1.lt
    have hrl := hF3.1.lt
    have hqr : q ≠ w.heap.size := fun hh => hF3.2 (.inl hh.symm)
    have hrq : w.heap.size ≠ q := fun hh => hqr hh.symm
    have f0 : w3.cell? ⟨w.heap.size, 0, none⟩ = some (.string ⟨#[]⟩) := hF3.1.cell 0
    have f1 : w3.cell? ⟨w.heap.size, 1, none⟩ = some (.string ⟨#[]⟩) := hF3.1.cell 1
    have f2 : w3.cell? ⟨w.heap.size, 2, none⟩ = some (.bool false) := hF3.1.cell 2
    have g0 := hF3.1.frozen 0
    have g1 := hF3.1.frozen 1
    have g2 := hF3.1.frozen 2
    have HF3 := Lib.hid hF3
    have hR3 : RdS w3 B q d (fun j => j = q ∨ T3 j) ks1 e1 b := ⟨A, n, c, T3, k1, hd3, k3, h4, ⟨h5n, h5⟩, h6, h7, h8, fun j => Iff.rfl, k10, k11⟩
    have HR3 := Lib.hid hR3
    by_cases hd1 : d1 = 0
    · subst hd1
      obtain ⟨A4, q1, q2, q4⟩ := slice_from (P := Try.prog) 39 5 Try.underlying39 sizeOfU8 A n c kn (kn : Int) rfl (by omega) h6
      have q3 := q2 w3 B (u8s b) (by simp [h4]) k3
      rw [show (u8s b).drop kn = u8s (b.drop kn) by simp [u8s, List.map_drop]] at q3
      have HS4 := RdS.set (S := fun j => j = q ∨ T3 j) k1 hd3 (fun j => Iff.rfl) k10 k11 q3 (by rw [List.length_drop, h4]) (q4 h5n) (by omega) (c' := c - kn) (by omega) (by omega) (fun x hx => h8 x (List.mem_of_mem_drop hx))
      obtain ⟨w4, hw4⟩ : ∃ x, w3.setCell ⟨q, 0, none⟩ (.slice A4 (n - kn) (c - kn)) = x := ⟨_, rfl⟩
      rw [hw4] at HS4
      have HU := Lib.hid (upTo_any w4 B q d _ ks1 e1 (b.drop kn) 257 4 HS4.1 (by decide))
      have hup := upT_le 257 4 (b.drop kn)
      obtain ⟨⟨z, d2, r2⟩, hupe⟩ : ∃ r, Tm.upT 257 4 (b.drop kn) = r := ⟨_, rfl⟩
      rw [hupe] at HU hup
      simp only at hup
      have HUP := Lib.hid hupe
      have hF4 := blk_turn hF3.1 hF3.2 HS4.2
      have HF4 := Lib.hid hF4
      have HT4 := Lib.hid (HT3.out.trans HS4.2)
      have hkI : (kn : Int) ≤ (n : Int) := by omega
      clear h1 h2 h3 h4 h5n h5 h6 h7 h8 h9 h10 h11 k1 k3 k10 kt k11 hF3 hR3 hd3 ht3 q2 q3 q4 hF4 HS4 hupe
      go_wp2_with fail
      refine HU.out.mono ?_
      rintro en2 w5 ⟨rfl, hr5, ht5⟩
      have hF5 := blk_turn HF4.out.1 HF4.out.2 ht5
      have HF5 := Lib.hid hF5
      have HT5 := Lib.hid (HT4.out.trans ht5)
      have HR5 := Lib.hid hr5
      try simp only at hr5
      obtain ⟨A5, n5, c5, T5, h1, h2, h3, h4, ⟨h5n, h5⟩, h6, h7, h8, h9, h10, h11⟩ := hr5
      have b0 : w5.cell? ⟨q, 0, none⟩ = some (.slice A5 n5 c5) := h1.cell 0
      have bf := h1.frozen 0
      have p0 : w5.cell? ⟨w.heap.size, 0, none⟩ = some (.string ⟨#[]⟩) := hF5.1.cell 0
      have p1 : w5.cell? ⟨w.heap.size, 1, none⟩ = some (.string ⟨#[]⟩) := hF5.1.cell 1
      have p2 : w5.cell? ⟨w.heap.size, 2, none⟩ = some (.bool false) := hF5.1.cell 2
      have y0 := hF5.1.frozen 0
      have y1 := hF5.1.frozen 1
      have y2 := hF5.1.frozen 2
      have hql5 := h1.lt
      have hrl5 := hF5.1.lt
      have hq5 : ¬ (w.heap.size = q) := hrq
      clear a0 a1 qf f0 f1 f2 g0 g1 g2 ht5 hF5 hw4 HU
      by_cases hd2 : d2 = 0
      · subst hd2
        by_cases hz : z = 0
        · subst hz
          have HP : Hid (∀ w2, Only (fun j => j = w.heap.size) w5 w2 → WrPost w B q d S (Tm.takeW ks e b) (.returned (.tuple #[.agg #[.string key, .string ⟨#[]⟩, .bool true], .int .i64 (0 : Int)])) w2) := Lib.hid (fun w2 ho => by
            unfold Tm.takeW; rw [HTD.out]; simp only; rw [if_neg (by simp), HUP.out]; unfold Tm.takeV; simp only; rw [if_neg (by simp), if_pos trivial]
            exact wr_end HR5.out HF5.out.2 HT5.out hBw (x := (key, ⟨#[]⟩, true)) ho)
          clear h1 h2 h3 h4 h5n h5 h6 h7 h8 h9 h10 h11
          go_wp2
          try simp only [Exit.inBlock, Exit.then]
          refine bodyPost_ret (v := .tuple #[.agg #[.string key, .string ⟨#[]⟩, .bool true], .int .i64 0]) (by simp [results, Try.results80, go_sem, *]) rfl (HP.out _ (only3 _ _ _ _ _))
        · have hzI : (z : Int) ≠ 0 := by omega
          have hzb : ((z : Int) == 0) = false := by simp; omega
          by_cases hs : r2.length < z - 1
          · have hsI : (n5 : Int) < (z : Int) - 1 := by omega
            have HP : Hid (∀ w2, Only (fun j => j = w.heap.size) w5 w2 → WrPost w B q d S (Tm.takeW ks e b) (.returned (.tuple #[.agg #[.string ⟨#[]⟩, .string ⟨#[]⟩, .bool false], .int .i64 (2 : Int)])) w2) := Lib.hid (fun w2 ho => by
              unfold Tm.takeW; rw [HTD.out]; simp only; rw [if_neg (by simp), HUP.out]; unfold Tm.takeV; simp only; rw [if_neg (by simp), if_neg hz, if_pos hs]
              exact wr_end HR5.out HF5.out.2 HT5.out hBw (x := Wr0) ho)
            clear h1 h2 h3 h4 h5n h5 h6 h7 h8 h9 h10 h11
            go_wp2
            try simp only [Exit.inBlock, Exit.then]
            refine bodyPost_ret (v := .tuple #[.agg #[.string ⟨#[]⟩, .string ⟨#[]⟩, .bool false], .int .i64 2]) (by simp [results, Try.results80, go_sem, *]) rfl (HP.out _ (only3 _ _ _ _ _))
          · have hzs : z - 1 ≤ n5 := by omega
            have hsI : ¬ (n5 : Int) < (z : Int) - 1 := by omega
            have hz1 : (1 : Int) ≤ (z : Int) := by omega
            obtain ⟨A6, s1, s2, -⟩ := slice_h (P := Try.prog) 39 5 Try.underlying39 sizeOfU8 A5 n5 c5 (z - 1) ((z : Int) - 1) (by omega) (by omega)
            have s3 := s2 w5 B (u8s r2) (by simp [u8s]; omega) h3
            rw [show (u8s r2).take (z - 1) = u8s (r2.take (z - 1)) by simp [u8s, List.map_take]] at s3
            have s4 := run_str (P := Try.prog) w5 (src := 39) (dst := 9) (e := 5) (n := z - 1) (c := c5) Try.underlying39 Try.underlying5 Try.underlying9 s3 (by rw [List.length_take]; omega)
            obtain ⟨A7, q1, q2, q4⟩ := slice_from (P := Try.prog) 39 5 Try.underlying39 sizeOfU8 A5 n5 c5 (z - 1) ((z : Int) - 1) (by omega) (by omega) h6
            have q3 := q2 w5 B (u8s r2) (by simp [h4]) h3
            rw [show (u8s r2).drop (z - 1) = u8s (r2.drop (z - 1)) by simp [u8s, List.map_drop]] at q3
            have HS6 := RdS.set (S := fun j => j = q ∨ T3 j) h1 h2 h9 h10 h11 q3 (by rw [List.length_drop, h4]) (q4 h5n) (by omega) (c' := c5 - (z - 1)) (by omega) (by omega) (fun x hx => h8 x (List.mem_of_mem_drop hx))
            obtain ⟨w6, hw6⟩ : ∃ x, w5.setCell ⟨q, 0, none⟩ (.slice A7 (n5 - (z - 1)) (c5 - (z - 1))) = x := ⟨_, rfl⟩
            rw [hw6] at HS6
            have hF6 := blk_turn HF5.out.1 HF5.out.2 HS6.2
            obtain ⟨tx, htx⟩ : ∃ x, str (r2.take (z - 1)) = x := ⟨_, rfl⟩
            rw [htx] at s4
            have HTX := Lib.hid htx
            have HP : Hid (∀ w2, Only (fun j => j = w.heap.size) w6 w2 → WrPost w B q d S (Tm.takeW ks e b) (.returned (.tuple #[.agg #[.string key, .string tx, .bool false], .int .i64 (0 : Int)])) w2) := Lib.hid (fun w2 ho => by
              unfold Tm.takeW; rw [HTD.out]; simp only; rw [if_neg (by simp), HUP.out]; unfold Tm.takeV; simp only; rw [if_neg (by simp), if_neg hz, if_neg hs, HTX.out]
              exact wr_end HS6.1 hF6.2 (HT5.out.trans HS6.2) hBw (x := (key, tx, false)) ho)
            have v0 : w6.cell? ⟨w.heap.size, 0, none⟩ = some (.string ⟨#[]⟩) := hF6.1.cell 0
            have v1 : w6.cell? ⟨w.heap.size, 1, none⟩ = some (.string ⟨#[]⟩) := hF6.1.cell 1
            have v2 : w6.cell? ⟨w.heap.size, 2, none⟩ = some (.bool false) := hF6.1.cell 2
            have r0 := hF6.1.frozen 0
            have r1 := hF6.1.frozen 1
            have r2' := hF6.1.frozen 2
            clear h1 h2 h3 h4 h5n h5 h6 h7 h8 h9 h10 h11 s2 s3 q2 q3 q4 HS6 hF6 htx
            go_wp2
            try simp only [Exit.inBlock, Exit.then]
            refine bodyPost_ret (v := .tuple #[.agg #[.string key, .string tx, .bool false], .int .i64 0]) (by simp [results, Try.results80, go_sem, *]) rfl (HP.out _ (only3 _ _ _ _ _))
      · have hdI : (d2 : Int) ≠ 0 := by omega
        have HP : Hid (∀ w2, Only (fun j => j = w.heap.size) w5 w2 → WrPost w B q d S (Tm.takeW ks e b) (.returned (.tuple #[.agg #[.string ⟨#[]⟩, .string ⟨#[]⟩, .bool false], .int .i64 (d2 : Int)])) w2) := Lib.hid (fun w2 ho => by
          unfold Tm.takeW; rw [HTD.out]; simp only; rw [if_neg (by simp), HUP.out]; unfold Tm.takeV; simp only; rw [if_pos hd2]
          exact wr_end HR5.out HF5.out.2 HT5.out hBw (x := Wr0) ho)
        clear h1 h2 h3 h4 h5n h5 h6 h7 h8 h9 h10 h11
        go_wp2
        try simp only [Exit.inBlock, Exit.then]
        refine bodyPost_ret (v := .tuple #[.agg #[.string ⟨#[]⟩, .string ⟨#[]⟩, .bool false], .int .i64 (d2 : Int)]) (by simp [results, Try.results80, go_sem, *]) rfl (HP.out _ (only3 _ _ _ _ _))
    · have hdI : (d1 : Int) ≠ 0 := by omega
      have HP : Hid (∀ w2, Only (fun j => j = w.heap.size) w3 w2 → WrPost w B q d S (Tm.takeW ks e b) (.returned (.tuple #[.agg #[.string ⟨#[]⟩, .string ⟨#[]⟩, .bool false], .int .i64 (d1 : Int)])) w2) := Lib.hid (fun w2 ho => by
        unfold Tm.takeW; rw [HTD.out]; simp only; rw [if_pos hd1]
        exact wr_end HR3.out HF3.out.2 HT3.out hBw (x := Wr0) ho)
      clear h1 h2 h3 h4 h5n h5 h6 h7 h8 h9 h10 h11 k1 k3 k10 kt k11 hF3 hR3 hd3 ht3
      go_wp2
      try simp only [Exit.inBlock, Exit.then]
      refine bodyPost_ret (v := .tuple #[.agg #[.string ⟨#[]⟩, .string ⟨#[]⟩, .bool false], .int .i64 (d1 : Int)]) (by simp [results, Try.results80, go_sem, *]) rfl (HP.out _ (only3 _ _ _ _ _)))
end Go.Proofs.Ytgjkeccopjgjlaa

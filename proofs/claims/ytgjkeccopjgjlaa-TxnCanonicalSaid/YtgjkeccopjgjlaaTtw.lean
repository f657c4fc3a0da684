/- txn.reader.txn: the walk. -/
import Derived.Test.YtgjkeccopjgjlaaTtx
import Derived.Test.YtgjkeccopjgjlaaBk4m
import Derived.Deep.RegionWith
namespace Go.Proofs.Ytgjkeccopjgjlaa
open Go.ChangeShapes Go.WideShapes Go.ChangeAt Go.RowKit Go.Maps
set_option linter.unusedVariables false
set_option linter.unusedSimpArgs false

theorem RdS.not_blk {w : World} {B q d : Nat} {S : Nat → Prop} {ks : List ByteArray} {e : Nat} {b : List Nat} (h : RdS w B q d S ks e b) {g : Nat} {t : TypeId} {cs : Array Value} (hb : Blk w g t cs) (h1t : t ≠ 90) (h2t : t ≠ 106) (h3t : t ≠ 9) : ¬ S g := by
  obtain ⟨A, n, c, T, h1, h2, h3, h4, h5, h6, h7, h8, h9, h10, h11⟩ := h
  intro hs
  rcases (h9 g).1 hs with rfl | ht
  · exact h1t (blk_type hb h1)
  · exact h2.not_blk hb h2t h3t ht
theorem own_slice {w : World} {base : Nat} {e : TypeId} {s : Nat} {v : Value} {n : Nat} {xs : List Value} (h : w.ownsRow base e s v n xs) : ∃ A c, v = .slice A n c := by
  rcases h.2 with ⟨rfl, rfl⟩ | ⟨g, cap, cur, rfl, _⟩
  · exact ⟨none, 0, rfl⟩
  · exact ⟨_, _, rfl⟩
theorem zc3 {w2 w3 : World} {t : TypeId} {cs : Array Value} (hb : Below (w2.alloc (.cells cs t)).drew.heap.size (w2.alloc (.cells cs t)).drew w3) : Blk w3 w2.heap.size t cs := (Blk.new w2 t cs).drew.below hb (by simp)
set_option maxHeartbeats 4000000 in
set_option maxRecDepth 100000 in
theorem rtxn_any (w : World) (B q d : Nat) (S : Nat → Prop) (ks : List ByteArray) (e : Nat) (b : List Nat) (c0 c1 c2 : Int) (h : RdS w B q d S ks e b) :
    Calls Try.prog 55 #[.pointer (some ⟨q, 0, none⟩), .agg #[.int .i64 c0, .int .i64 c1, .int .i64 c2]] w (TxPost w B q d S (Tm.readT (c0, c1, c2) ks e b)) := by
  have hBw : B ≤ w.heap.size := by obtain ⟨_, _, _, _, _, _, _, _, _, _, _, _, _, _, hh⟩ := h; exact hh
  have hn0 : ¬ S w.heap.size := fun hs => by have := h.lt _ hs; omega
  have hn1 : ¬ S (w.heap.size + 1) := fun hs => by have := h.lt _ hs; omega
  have hB0 := (Below.refl w.heap.size w).alloc (Nat.le_refl _) (.cells #[.int .i64 c0, .int .i64 c1, .int .i64 c2] 29)
  have hB1 := hB0.alloc hB0.size (.cells tz 38)
  have hF0 : Blk ((w.alloc (.cells #[.int .i64 c0, .int .i64 c1, .int .i64 c2] 29)).alloc (.cells tz 38)) w.heap.size 29 #[.int .i64 c0, .int .i64 c1, .int .i64 c2] := (Blk.new w _ _).alloc _
  have hF1 : Blk ((w.alloc (.cells #[.int .i64 c0, .int .i64 c1, .int .i64 c2] 29)).alloc (.cells tz 38)) (w.heap.size + 1) 38 tz := Blk.new' _ _ _ (by simp)
  have HS := h.below hB1
  have HT0 := (Turned.refl w S).below hB1
  obtain ⟨W, hW⟩ : ∃ W, (w.alloc (.cells #[.int .i64 c0, .int .i64 c1, .int .i64 c2] 29)).alloc (.cells tz 38) = W := ⟨_, rfl⟩
  rw [hW] at hF0 hF1 HS HT0
  have HU := Lib.hid (upTo_any W B q d S ks e b 4611686018427387903 1 HS (by decide))
  obtain ⟨⟨n1, d1, b1⟩, hu1⟩ : ∃ r, Tm.upT 4611686018427387903 1 b = r := ⟨_, rfl⟩
  rw [hu1] at HU
  have HF0 := Lib.hid hF0; have HF1 := Lib.hid hF1; have HTT := Lib.hid HT0
  clear h HS hB0 hB1 hF0 hF1 HT0
  go_enter Try.func55, Try.ntmps55
  go_wp2_with fail
  refine HU.out.mono ?_
  rintro en1 w1 ⟨rfl, hr1, ht1⟩
  try simp only at hr1
  have k0 := blk_turn HF0.out hn0 ht1
  have k1 := blk_turn HF1.out hn1 ht1
  have T1 := Lib.hid (HTT.out.trans ht1)
  have R1 := Lib.hid hr1
  clear hW HU HF0 HF1 HTT ht1 hr1
  by_cases hd1 : d1 = 0
  · subst hd1
    have HU := Lib.hid (upTo_any w1 B q d S ks e b1 4611686018427387903 1 R1.out (by decide))
    obtain ⟨⟨n2, d2, b2⟩, hu2⟩ : ∃ r, Tm.upT 4611686018427387903 1 b1 = r := ⟨_, rfl⟩
    rw [hu2] at HU
    have K0 := Lib.hid k0; have K1 := Lib.hid k1
    clear k0 k1
    go_wp2_with fail
    refine HU.out.mono ?_
    rintro en2 w2 ⟨rfl, hr2, ht2⟩
    try simp only at hr2
    have k0 := blk_turn K0.out.1 K0.out.2 ht2
    have k1 := blk_turn K1.out.1 K1.out.2 ht2
    have T2 := Lib.hid (T1.out.trans ht2)
    have R2 := Lib.hid hr2
    clear HU K0 K1 T1 R1 ht2 hr2
    by_cases hd2 : d2 = 0
    · subst hd2
      obtain ⟨⟨⟨x, y, z⟩, sz, d3⟩, hu3⟩ : ∃ r, takeC (c0, c1, c2) b2 = r := ⟨_, rfl⟩
      obtain ⟨A, n, c, T, h1, h2, h3, h4, ⟨h5n, h5⟩, h6, h7, h8, h9, h10, h11⟩ := R2.out
      have HC := Lib.hid (fun (X : World) (hX : Below w2.heap.size w2 X) => hu3 ▸ Ctake_any X c0 c1 c2 A n c b2 ((h3.below (hX.mono h11)).more (Nat.le_trans h11 hX.size)) h8 h4 h6 h7 h5n)
      have a0 : w2.cell? ⟨q, 0, none⟩ = some (.slice A n c) := h1.cell 0
      have e0 : w2.cell? ⟨w.heap.size, 0, none⟩ = some (.int .i64 c0) := k0.1.cell 0
      have e1 : w2.cell? ⟨w.heap.size, 1, none⟩ = some (.int .i64 c1) := k0.1.cell 1
      have e2 : w2.cell? ⟨w.heap.size, 2, none⟩ = some (.int .i64 c2) := k0.1.cell 2
      have hql := h1.lt
      have hl0 := k0.1.lt
      have K0 := Lib.hid k0; have K1 := Lib.hid k1
      clear h1 h2 h3 h4 h5n h5 h6 h7 h8 h9 h10 h11 k0 k1
      go_wp2
      go_region_with (first
        | (go_at_call 71; refine (HC.out _ (by first | exact (Below.refl _ _).drew | exact ((Below.refl _ _).alloc (Nat.le_refl _) _).drew)).mono ?_; rintro en3 w3 ⟨rfl, hb3⟩; try (have hz := zc3 hb3; have z0 : w3.cell? ⟨w2.heap.size, 0, none⟩ = some (.int .i64 0) := hz.cell 0; have z1 : w3.cell? ⟨w2.heap.size, 1, none⟩ = some (.int .i64 0) := hz.cell 1; have z2 : w3.cell? ⟨w2.heap.size, 2, none⟩ = some (.int .i64 0) := hz.cell 2; have zf0 := hz.frozen 0; have zf1 := hz.frozen 1; have zf2 := hz.frozen 2))
        | fail)
      all_goals (first
        | (have hX : Below w2.heap.size w2 (w3.alloc (.cells #[.int .i64 x, .int .i64 y, .int .i64 z] 29)) := (((Below.refl w2.heap.size w2).drew).trans hb3).alloc (((Below.refl w2.heap.size w2).drew).trans hb3).size _
           have hZ := Blk.new w3 29 #[.int .i64 x, .int .i64 y, .int .i64 z]
           generalize hwf : w3.alloc (.cells #[.int .i64 x, .int .i64 y, .int .i64 z] 29) = wf at hX hZ ⊢
           generalize hg9 : w3.heap.size = g9 at hZ ⊢
           clear hwf hg9 hb3)
        | (have hX0 : Below w2.heap.size w2 w3 := (((Below.refl w2.heap.size w2).alloc (Nat.le_refl _) (.cells #[.int .i64 0, .int .i64 0, .int .i64 0] 29)).drew).trans (hb3.mono (by simp))
           have hX : Below w2.heap.size w2 (((w3.setCell ⟨w2.heap.size, 0, none⟩ (.int .i64 x)).setCell ⟨w2.heap.size, 1, none⟩ (.int .i64 y)).setCell ⟨w2.heap.size, 2, none⟩ (.int .i64 z)) := ((hX0.setCell (Nat.le_refl _) _).setCell (Nat.le_refl _) _).setCell (Nat.le_refl _) _
           have hZ : Blk (((w3.setCell ⟨w2.heap.size, 0, none⟩ (.int .i64 x)).setCell ⟨w2.heap.size, 1, none⟩ (.int .i64 y)).setCell ⟨w2.heap.size, 2, none⟩ (.int .i64 z)) w2.heap.size 29 #[.int .i64 x, .int .i64 y, .int .i64 z] := ((hz.set 0 (.int .i64 x)).set 1 (.int .i64 y)).set 2 (.int .i64 z)
           generalize hwf : (((w3.setCell ⟨w2.heap.size, 0, none⟩ (.int .i64 x)).setCell ⟨w2.heap.size, 1, none⟩ (.int .i64 y)).setCell ⟨w2.heap.size, 2, none⟩ (.int .i64 z)) = wf at hX hZ ⊢
           generalize hg9 : w2.heap.size = g9 at hZ ⊢
           clear hwf hg9 hX0 hz z0 z1 z2 zf0 zf1 zf2 hb3))
      all_goals (
        have hR := R2.out.below hX
        have hT := T2.out.below hX
        have k1 : Blk wf (w.heap.size + 1) 38 tz ∧ ¬ S (w.heap.size + 1) := ⟨K1.out.1.below hX K1.out.1.lt, K1.out.2⟩
        have RF := Lib.hid hR; have TF := Lib.hid hT; have K1F := Lib.hid k1
        clear hX a0 e0 e1 e2
        by_cases hd3 : d3 = 0
        · subst hd3
          have hZS := hR.not_blk hZ (by decide) (by decide) (by decide)
          obtain ⟨A4, n4, c4, T4, h1, h2, h3, h4, ⟨h5n, h5⟩, h6, h7, h8, h9, h10, h11⟩ := hR
          obtain ⟨-, -, hs3, hsl, -⟩ := takeC_back hu3 h8
          have a0 : wf.cell? ⟨q, 0, none⟩ = some (.slice A4 n4 c4) := h1.cell 0
          have qf := h1.frozen 0
          have hql5 := h1.lt
          have hkI : (sz : Int) ≤ (n4 : Int) := by omega
          obtain ⟨A5, q1, q2, q4⟩ := slice_from (P := Try.prog) 39 5 Try.underlying39 sizeOfU8 A4 n4 c4 sz (sz : Int) rfl (by omega) h6
          have q3 := q2 wf B (u8s b2) (by simp [h4]) h3
          rw [show (u8s b2).drop sz = u8s (b2.drop sz) by simp [u8s, List.map_drop]] at q3
          have HS5 := RdS.set (S := S) h1 h2 h9 h10 h11 q3 (by rw [List.length_drop, h4]) (q4 h5n) (by omega) (c' := c4 - sz) (by omega) (by omega) (fun x hx => h8 x (List.mem_of_mem_drop hx))
          obtain ⟨w5, hw5⟩ : ∃ x, wf.setCell ⟨q, 0, none⟩ (.slice A5 (n4 - sz) (c4 - sz)) = x := ⟨_, rfl⟩
          rw [hw5] at HS5
          have k5 := blk_turn k1.1 k1.2 HS5.2
          have z5 := blk_turn hZ hZS HS5.2
          have HWs := Lib.hid (writes_any w5 B q d S ks e (b2.drop sz) HS5.1)
          obtain ⟨⟨⟨l, dn⟩, ks', e', b'⟩, hrw⟩ : ∃ r, Tm.readWs ks e (b2.drop sz) = r := ⟨_, rfl⟩
          rw [hrw] at HWs
          have K5 := Lib.hid k5; have Z5 := Lib.hid z5; have H5 := Lib.hid HS5
          clear h1 h2 h3 h4 h5n h5 h6 h7 h8 h9 h10 h11 q2 q3 q4 HS5 k5 z5 hZ hZS hT k1
          go_wp2_with fail
          refine HWs.out.mono ?_
          rintro en4 w6 ⟨v6, S6, rfl, ho6, hr6, ht6⟩
          try simp only at ho6 hr6
          obtain ⟨A6, c6, rfl⟩ := own_slice ho6
          obtain ⟨nl, hnl⟩ : ∃ x, l.length = x := ⟨_, rfl⟩
          rw [hnl] at ho6
          have HNL := Lib.hid hnl
          try rw [hnl]
          clear hnl
          have k6 := blk_turn K5.out.1 K5.out.2 ht6
          have z6 := blk_turn Z5.out.1 Z5.out.2 ht6
          have hw6 := TF.out.2.size
          have hw65 := H5.out.2.2.size
          have ho7 := own_base (B' := w.heap.size) ho6 (by omega)
          have hT6 := (TF.out.trans H5.out.2).trans ht6
          clear a0 qf hw5 HWs
          have f0 : w6.cell? ⟨w.heap.size + 1, 0, none⟩ = some (.int .i64 0) := k6.1.cell 0
          have f1 : w6.cell? ⟨w.heap.size + 1, 1, none⟩ = some (.int .i64 0) := k6.1.cell 1
          have f2 : w6.cell? ⟨w.heap.size + 1, 2, none⟩ = some (.int .i64 0) := k6.1.cell 2
          have f3 : w6.cell? ⟨w.heap.size + 1, 3, none⟩ = some (.int .i64 0) := k6.1.cell 3
          have f4 : w6.cell? ⟨w.heap.size + 1, 4, none⟩ = some (.int .i64 0) := k6.1.cell 4
          have f5 : w6.cell? ⟨w.heap.size + 1, 5, none⟩ = some (.slice none 0 0) := k6.1.cell 5
          have g0 := k6.1.frozen 0
          have g1 := k6.1.frozen 1
          have g2 := k6.1.frozen 2
          have g3 := k6.1.frozen 3
          have g4 := k6.1.frozen 4
          have g5 := k6.1.frozen 5
          have y0 : w6.cell? ⟨g9, 0, none⟩ = some (.int .i64 x) := z6.1.cell 0
          have y1 : w6.cell? ⟨g9, 1, none⟩ = some (.int .i64 y) := z6.1.cell 1
          have y2 : w6.cell? ⟨g9, 2, none⟩ = some (.int .i64 z) := z6.1.cell 2
          have HP : Hid (∀ w7, Only (fun j => j = w.heap.size + 1) w6 w7 → TxPost w B q d S (Tm.readT (c0, c1, c2) ks e b) (.returned (.tuple #[.agg #[.int .i64 (n1 : Int), .int .i64 (n2 : Int), .int .i64 x, .int .i64 y, .int .i64 z, .slice A6 nl c6], .int .i64 (dn : Int)])) w7) := Lib.hid (fun w7 ho => by
            rw [Tm.readT_4 hu1 hu2 hu3, hrw]
            exact tx_end (l := l) hr6 (by omega) k6.1 k6.2 hT6 hBw (by rw [HNL.out]; exact ho7) ho)
          clear k6 z6 ho6 ho7 hr6 ht6 hT6
          go_wp2
          try simp only [Exit.inBlock, Exit.then]
          refine bodyPost_ret (v := .tuple #[.agg #[.int .i64 (n1 : Int), .int .i64 (n2 : Int), .int .i64 x, .int .i64 y, .int .i64 z, .slice A6 nl c6], .int .i64 (dn : Int)]) (by simp [results, Try.results55, go_sem, *]) rfl (HP.out _ (only6 _ _ _ _ _ _ _ _))
        · have hdI : (d3 : Int) ≠ 0 := by omega
          have f0 : wf.cell? ⟨w.heap.size + 1, 0, none⟩ = some (.int .i64 0) := k1.1.cell 0
          have f1 : wf.cell? ⟨w.heap.size + 1, 1, none⟩ = some (.int .i64 0) := k1.1.cell 1
          have f2 : wf.cell? ⟨w.heap.size + 1, 2, none⟩ = some (.int .i64 0) := k1.1.cell 2
          have f3 : wf.cell? ⟨w.heap.size + 1, 3, none⟩ = some (.int .i64 0) := k1.1.cell 3
          have f4 : wf.cell? ⟨w.heap.size + 1, 4, none⟩ = some (.int .i64 0) := k1.1.cell 4
          have f5 : wf.cell? ⟨w.heap.size + 1, 5, none⟩ = some (.slice none 0 0) := k1.1.cell 5
          have g0 := k1.1.frozen 0
          have g1 := k1.1.frozen 1
          have g2 := k1.1.frozen 2
          have g3 := k1.1.frozen 3
          have g4 := k1.1.frozen 4
          have g5 := k1.1.frozen 5
          have HP : Hid (∀ w3, Only (fun j => j = w.heap.size + 1) wf w3 → TxPost w B q d S (Tm.readT (c0, c1, c2) ks e b) (.returned (.tuple #[.agg #[.int .i64 0, .int .i64 0, .int .i64 0, .int .i64 0, .int .i64 0, .slice none 0 0], .int .i64 (d3 : Int)])) w3) := Lib.hid (fun w3 ho => by
            rw [Tm.readT_3 hu1 hu2 hu3 hd3]
            exact tx_end (o := 0) (s := 0) (x := 0) (y := 0) (z := 0) (l := []) RF.out (by omega) K1F.out.1 K1F.out.2 TF.out hBw (World.ownsRow_nil _ _ _ _) ho)
          clear k1 hR hT hZ
          go_wp2
          try simp only [Exit.inBlock, Exit.then]
          refine bodyPost_ret (v := .tuple #[.agg #[.int .i64 0, .int .i64 0, .int .i64 0, .int .i64 0, .int .i64 0, .slice none 0 0], .int .i64 (d3 : Int)]) (by simp [results, Try.results55, go_sem, *]) rfl (HP.out _ (only6 _ _ _ _ _ _ _ _)))
    · have hdI : (d2 : Int) ≠ 0 := by omega
      have f0 : w2.cell? ⟨w.heap.size + 1, 0, none⟩ = some (.int .i64 0) := k1.1.cell 0
      have f1 : w2.cell? ⟨w.heap.size + 1, 1, none⟩ = some (.int .i64 0) := k1.1.cell 1
      have f2 : w2.cell? ⟨w.heap.size + 1, 2, none⟩ = some (.int .i64 0) := k1.1.cell 2
      have f3 : w2.cell? ⟨w.heap.size + 1, 3, none⟩ = some (.int .i64 0) := k1.1.cell 3
      have f4 : w2.cell? ⟨w.heap.size + 1, 4, none⟩ = some (.int .i64 0) := k1.1.cell 4
      have f5 : w2.cell? ⟨w.heap.size + 1, 5, none⟩ = some (.slice none 0 0) := k1.1.cell 5
      have g0 := k1.1.frozen 0
      have g1 := k1.1.frozen 1
      have g2 := k1.1.frozen 2
      have g3 := k1.1.frozen 3
      have g4 := k1.1.frozen 4
      have g5 := k1.1.frozen 5
      have HP : Hid (∀ w3, Only (fun j => j = w.heap.size + 1) w2 w3 → TxPost w B q d S (Tm.readT (c0, c1, c2) ks e b) (.returned (.tuple #[.agg #[.int .i64 0, .int .i64 0, .int .i64 0, .int .i64 0, .int .i64 0, .slice none 0 0], .int .i64 (d2 : Int)])) w3) := Lib.hid (fun w3 ho => by
        rw [Tm.readT_2 hu1 hu2 hd2]
        exact tx_end (o := 0) (s := 0) (x := 0) (y := 0) (z := 0) (l := []) R2.out (by omega) k1.1 k1.2 T2.out hBw (World.ownsRow_nil _ _ _ _) ho)
      clear k0 k1
      go_wp2
      try simp only [Exit.inBlock, Exit.then]
      refine bodyPost_ret (v := .tuple #[.agg #[.int .i64 0, .int .i64 0, .int .i64 0, .int .i64 0, .int .i64 0, .slice none 0 0], .int .i64 (d2 : Int)]) (by simp [results, Try.results55, go_sem, *]) rfl (HP.out _ (only6 _ _ _ _ _ _ _ _))
  · have hdI : (d1 : Int) ≠ 0 := by omega
    have f0 : w1.cell? ⟨w.heap.size + 1, 0, none⟩ = some (.int .i64 0) := k1.1.cell 0
    have f1 : w1.cell? ⟨w.heap.size + 1, 1, none⟩ = some (.int .i64 0) := k1.1.cell 1
    have f2 : w1.cell? ⟨w.heap.size + 1, 2, none⟩ = some (.int .i64 0) := k1.1.cell 2
    have f3 : w1.cell? ⟨w.heap.size + 1, 3, none⟩ = some (.int .i64 0) := k1.1.cell 3
    have f4 : w1.cell? ⟨w.heap.size + 1, 4, none⟩ = some (.int .i64 0) := k1.1.cell 4
    have f5 : w1.cell? ⟨w.heap.size + 1, 5, none⟩ = some (.slice none 0 0) := k1.1.cell 5
    have g0 := k1.1.frozen 0
    have g1 := k1.1.frozen 1
    have g2 := k1.1.frozen 2
    have g3 := k1.1.frozen 3
    have g4 := k1.1.frozen 4
    have g5 := k1.1.frozen 5
    have HP : Hid (∀ w2, Only (fun j => j = w.heap.size + 1) w1 w2 → TxPost w B q d S (Tm.readT (c0, c1, c2) ks e b) (.returned (.tuple #[.agg #[.int .i64 0, .int .i64 0, .int .i64 0, .int .i64 0, .int .i64 0, .slice none 0 0], .int .i64 (d1 : Int)])) w2) := Lib.hid (fun w2 ho => by
      rw [Tm.readT_1 hu1 hd1]
      exact tx_end (o := 0) (s := 0) (x := 0) (y := 0) (z := 0) (l := []) R1.out (by omega) k1.1 k1.2 T1.out hBw (World.ownsRow_nil _ _ _ _) ho)
    clear k0 k1
    go_wp2
    try simp only [Exit.inBlock, Exit.then]
    refine bodyPost_ret (v := .tuple #[.agg #[.int .i64 0, .int .i64 0, .int .i64 0, .int .i64 0, .int .i64 0, .slice none 0 0], .int .i64 (d1 : Int)]) (by simp [results, Try.results55, go_sem, *]) rfl (HP.out _ (only6 _ _ _ _ _ _ _ _))
end Go.Proofs.Ytgjkeccopjgjlaa

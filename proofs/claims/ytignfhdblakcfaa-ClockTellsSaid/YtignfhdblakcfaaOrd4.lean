/- The statement ClockOrder: its walk. -/
import Derived.Test.YtignfhdblakcfaaAwake4b
namespace Go.Proofs.Ytignfhdblakcfaa
open Go.ChangeShapes Go.WideShapes Go.ChangeAt Go.RowKit
set_option linter.unusedVariables false
set_option linter.unusedSimpArgs false

/-- where the three clocks and the merged one lie -/
def CO (w0 : World) (ga gb gc gm : Nat) (a b c x y z p q r : Int) (w : World) : Prop :=
  Below w0.heap.size w0 w ∧ Blk w ga 23 #[.int .i64 a, .int .i64 b, .int .i64 c] ∧ Blk w gb 23 #[.int .i64 x, .int .i64 y, .int .i64 z] ∧ Blk w gc 23 #[.int .i64 p, .int .i64 q, .int .i64 r] ∧ Blk w gm 23 #[.int .i64 (max a x), .int .i64 (max b y), .int .i64 (max c z)]
theorem CO.keep {w0 w w' : World} {ga gb gc gm : Nat} {a b c x y z p q r : Int} (h : CO w0 ga gb gc gm a b c x y z p q r w) (hb : Below w.heap.size w w') : CO w0 ga gb gc gm a b c x y z p q r w' :=
  ⟨h.1.trans (hb.mono h.1.size), h.2.1.below hb h.2.1.lt, h.2.2.1.below hb h.2.2.1.lt, h.2.2.2.1.below hb h.2.2.2.1.lt, h.2.2.2.2.below hb h.2.2.2.2.lt⟩
theorem eqcB_of {a b c x y z : Int} (h1 : a = x) (h2 : b = y) (h3 : c = z) : eqcB a b c x y z = true := by simp [eqcB, h1, h2, h3]
theorem covB_iff {a b c x y z : Int} : covB a b c x y z = true ↔ (x ≤ a ∧ y ≤ b ∧ z ≤ c) := by simp [covB]
theorem cov_both {a b c x y z p q r : Int} (h : covB p q r a b c = true) : covB p q r x y z = covB p q r (max a x) (max b y) (max c z) := by
  have h1 := covB_iff.1 h
  rw [Bool.eq_iff_iff, covB_iff, covB_iff]; omega
theorem cov_trans {a b c x y z p q r : Int} (h1 : covB a b c x y z = true) (h2 : covB x y z p q r = true) : covB a b c p q r = true := by
  have h1 := covB_iff.1 h1
  have h2 := covB_iff.1 h2
  exact covB_iff.2 (by omega)
theorem cov_eq {a b c x y z : Int} (h1 : covB a b c x y z = true) : covB x y z a b c = eqcB a b c x y z := by
  have h1 := covB_iff.1 h1
  rw [Bool.eq_iff_iff, covB_iff]
  simp only [eqcB, decide_eq_true_eq]
  omega
theorem step_cov {a b c k x y z : Int} (h : stepL a b c k = ((x, y, z), 0)) : covB x y z a b c = true ∧ covB a b c x y z = false := by
  unfold stepL at h
  split at h
  · simp at h
  split at h
  · simp at h
  split at h
  · split at h
    · simp at h
    · simp at h; obtain ⟨rfl, rfl, rfl⟩ := h; exact ⟨covB_iff.2 (by omega), covB_f (by omega)⟩
  split at h
  · split at h
    · simp at h
    · simp at h; obtain ⟨rfl, rfl, rfl⟩ := h; exact ⟨covB_iff.2 (by omega), covB_f (by omega)⟩
  · split at h
    · simp at h
    · simp at h; obtain ⟨rfl, rfl, rfl⟩ := h; exact ⟨covB_iff.2 (by omega), covB_f (by omega)⟩

set_option maxRecDepth 100000 in
set_option maxHeartbeats 4000000 in
theorem ClockOrder_walk (w : World) (a b c : Int) (wa0 : (Lit.int .i64 a).wf = true) (wb0 : (Lit.int .i64 b).wf = true) (wc0 : (Lit.int .i64 c).wf = true) (x y z : Int) (wx : (Lit.int .i64 x).wf = true) (wy : (Lit.int .i64 y).wf = true) (wz : (Lit.int .i64 z).wf = true) (p q r : Int) (wp : (Lit.int .i64 p).wf = true) (wq : (Lit.int .i64 q).wf = true) (wr : (Lit.int .i64 r).wf = true) (k : Int) (wk : (Lit.int .u8 k).wf = true) :
    Calls Try.prog 5 #[.agg #[.int .i64 a, .int .i64 b, .int .i64 c], .agg #[.int .i64 x, .int .i64 y, .int .i64 z], .agg #[.int .i64 p, .int .i64 q, .int .i64 r], .int .u8 k] w (TruePost w) := by
  obtain ⟨k0, k1⟩ : 0 ≤ k ∧ k ≤ 255 := by simpa [Lit.wf, IntKind.min, IntKind.max, IntKind.signed, IntKind.bits] using wk
  clear wa0 wb0 wc0 wx wy wz wp wq wr wk
  have K1 : ∀ w1, Below (((w.alloc (.cells #[.int .i64 a, .int .i64 b, .int .i64 c] 23)).alloc (.cells #[.int .i64 x, .int .i64 y, .int .i64 z] 23)).alloc (.cells #[.int .i64 p, .int .i64 q, .int .i64 r] 23)).heap.size (((w.alloc (.cells #[.int .i64 a, .int .i64 b, .int .i64 c] 23)).alloc (.cells #[.int .i64 x, .int .i64 y, .int .i64 z] 23)).alloc (.cells #[.int .i64 p, .int .i64 q, .int .i64 r] 23)) w1 →
      Blk w1 w.heap.size 23 #[.int .i64 a, .int .i64 b, .int .i64 c] ∧ Blk w1 (w.heap.size + 1) 23 #[.int .i64 x, .int .i64 y, .int .i64 z] ∧ Blk w1 (w.heap.size + 2) 23 #[.int .i64 p, .int .i64 q, .int .i64 r] ∧ Below w.heap.size w w1 := fun w1 hb =>
    ⟨(((Blk.new w _ _).alloc _).alloc _).below hb (by first | (simp; done) | (simp; omega)), (((Blk.new' _ _ _ (by simp)).alloc _).below hb (by first | (simp; done) | (simp; omega))), (Blk.new' _ _ _ (by simp)).below hb (by simp), ((((Below.refl _ _).alloc (Nat.le_refl _) _).alloc (by simp) _).alloc (by first | (simp; done) | (simp; omega)) _).trans (hb.mono (by first | (simp; done) | (simp; omega)))⟩
  have HK1 := Lib.hid K1; clear K1
  go_enter Try.func5, Try.ntmps5
  go_wp2_with fail
  refine (awake_any _).mono ?_
  rintro e w1 ⟨rfl, hb1⟩
  obtain ⟨ka, kb, kc, hbw⟩ := HK1.out _ hb1
  clear hb1 HK1
  obtain ⟨a0, a1, a2, af⟩ := ka.three
  obtain ⟨b0, b1, b2, bf⟩ := kb.three
  have s1 := ka.lt
  have s2 := kb.lt
  go_wp2_with fail
  refine (Merge2_at _ _ a b c x y z (Rd.atv _ _ _ _ rfl _ (by simp)) (by simp)).mono ?_
  rintro e w2 ⟨rfl, hb2⟩
  have hb12 : Below w1.heap.size w1 w2 := ((Below.refl _ _).alloc (Nat.le_refl _) _).trans (hb2.mono (by simp))
  have HC0 : ∀ w', Below (w2.alloc (.cells #[.int .i64 (max a x), .int .i64 (max b y), .int .i64 (max c z)] 23)).heap.size (w2.alloc (.cells #[.int .i64 (max a x), .int .i64 (max b y), .int .i64 (max c z)] 23)) w' → CO w w.heap.size (w.heap.size + 1) (w.heap.size + 2) w2.heap.size a b c x y z p q r w' := fun w' hb =>
    CO.keep ⟨(hbw.trans (hb12.mono hbw.size)).alloc (Nat.le_trans hbw.size hb12.size) _, (ka.below hb12 ka.lt).alloc _, (kb.below hb12 kb.lt).alloc _, (kc.below hb12 kc.lt).alloc _, Blk.new _ _ _⟩ hb
  obtain ⟨gm, hgm⟩ : ∃ g, g = w2.heap.size := ⟨_, rfl⟩
  rw [← hgm] at HC0
  have HC := Lib.hid HC0
  have HGM := Lib.hid hgm
  clear HC0 hb2 hb12 hbw ka kb kc a0 a1 a2 af b0 b1 b2 bf s1 s2 hgm
  go_wp2
  rw [← HGM.out]
  refine Inv.region_below (fun i v w' => match i with
      | 0 => v = .agg #[.int .i64 (max a x), .int .i64 (max b y), .int .i64 (max c z)]
      | 1 => v = .agg #[.int .i64 a, .int .i64 b, .int .i64 c]
      | 2 => v = .bool true
      | 3 => v = .bool false
      | 4 => v = .bool false
      | 5 => v = .agg #[.int .i64 (max a x), .int .i64 (max b y), .int .i64 (max c z)]
      | 6 => v = .agg #[.int .i64 x, .int .i64 y, .int .i64 z]
      | 7 => v = .bool true
      | 8 => v = .bool false
      | 9 => v = .bool false
      | 10 => v = .bool false
      | 11 => v = .agg #[.int .i64 a, .int .i64 b, .int .i64 c]
      | 12 => v = .agg #[.int .i64 a, .int .i64 b, .int .i64 c]
      | 13 => v = .bool true
      | 14 => v = .bool false
      | 15 => v = .bool false
      | 16 => v = .bool false
      | 17 => v = .agg #[.int .i64 (max a x), .int .i64 (max b y), .int .i64 (max c z)]
      | 18 => v = .agg #[.int .i64 x, .int .i64 y, .int .i64 z]
      | 19 => v = .agg #[.int .i64 a, .int .i64 b, .int .i64 c]
      | 20 => ∃ g, v = .slice (some ⟨g, 0, none⟩) 2 2 ∧ g < w'.heap.size ∧ Rd w' (g + 1) (some ⟨g, 0, none⟩) (cells3 [(x, y, z), (a, b, c)])
      | 21 => v = .agg #[.int .i64 (max x a), .int .i64 (max y b), .int .i64 (max z c)]
      | 22 => v = .bool false
      | 23 => v = .bool false
      | 24 => v = .bool false
      | 25 => v = .agg #[.int .i64 (max a x), .int .i64 (max b y), .int .i64 (max c z)]
      | 26 => v = .agg #[.int .i64 p, .int .i64 q, .int .i64 r]
      | 27 => ∃ g, v = .slice (some ⟨g, 0, none⟩) 2 2 ∧ g < w'.heap.size ∧ Rd w' (g + 1) (some ⟨g, 0, none⟩) (cells3 [(max a x, max b y, max c z), (p, q, r)])
      | 28 => v = .agg #[.int .i64 (max (max a x) p), .int .i64 (max (max b y) q), .int .i64 (max (max c z) r)]
      | 29 => v = .agg #[.int .i64 a, .int .i64 b, .int .i64 c]
      | 30 => v = .agg #[.int .i64 x, .int .i64 y, .int .i64 z]
      | 31 => v = .agg #[.int .i64 p, .int .i64 q, .int .i64 r]
      | 32 => ∃ g, v = .slice (some ⟨g, 0, none⟩) 2 2 ∧ g < w'.heap.size ∧ Rd w' (g + 1) (some ⟨g, 0, none⟩) (cells3 [(x, y, z), (p, q, r)])
      | 33 => v = .agg #[.int .i64 (max x p), .int .i64 (max y q), .int .i64 (max z r)]
      | 34 => ∃ g, v = .slice (some ⟨g, 0, none⟩) 2 2 ∧ g < w'.heap.size ∧ Rd w' (g + 1) (some ⟨g, 0, none⟩) (cells3 [(a, b, c), (max x p, max y q, max z r)])
      | 35 => v = .agg #[.int .i64 (max a (max x p)), .int .i64 (max b (max y q)), .int .i64 (max c (max z r))]
      | 36 => v = .bool false
      | 37 => v = .bool false
      | _ => True)
    (fun w' => CO w w.heap.size (w.heap.size + 1) (w.heap.size + 2) gm a b c x y z p q r w') 117 [18, 19, 20, 21, 22, 23, 24, 25, 26, 27, 28, 29, 30, 31, 32, 33, 34, 35, 36, 37, 38, 39, 40, 41, 42, 43, 44, 45, 46, 47, 48, 49, 50, 51, 52, 53, 54, 55] (by kernel_rfl) rfl (by kernel_rfl) (by kernel_rfl) ?_ ?_ ?_ ?_
  · intro v v' hC hb
    obtain ⟨hB, hA, hBB, hCC, hMM⟩ := hC
    exact CO.keep ⟨hB, hA, hBB, hCC, hMM⟩ hb
  · exact HC.out _ (Below.refl _ _).drew
  · refine ⟨⟨fun _ _ _ h _ => h, ?_⟩, ⟨fun _ _ _ h _ => h, ?_⟩, ⟨fun _ _ _ h _ => h, ?_⟩, ⟨fun _ _ _ h _ => h, ?_⟩, ⟨fun _ _ _ h _ => h, ?_⟩, ⟨fun _ _ _ h _ => h, ?_⟩, ⟨fun _ _ _ h _ => h, ?_⟩, ⟨fun _ _ _ h _ => h, ?_⟩, ⟨fun _ _ _ h _ => h, ?_⟩, ⟨fun _ _ _ h _ => h, ?_⟩, ⟨fun _ _ _ h _ => h, ?_⟩, ⟨fun _ _ _ h _ => h, ?_⟩, ⟨fun _ _ _ h _ => h, ?_⟩, ⟨fun _ _ _ h _ => h, ?_⟩, ⟨fun _ _ _ h _ => h, ?_⟩, ⟨fun _ _ _ h _ => h, ?_⟩, ⟨fun _ _ _ h _ => h, ?_⟩, ⟨fun _ _ _ h _ => h, ?_⟩, ⟨fun _ _ _ h _ => h, ?_⟩, ⟨fun _ _ _ h _ => h, ?_⟩, ⟨fun v w w' ⟨g, h1, h2, h3⟩ hb => ⟨g, h1, Nat.lt_of_lt_of_le h2 hb.size, h3.below (hb.mono (by omega))⟩, ?_⟩, ⟨fun _ _ _ h _ => h, ?_⟩, ⟨fun _ _ _ h _ => h, ?_⟩, ⟨fun _ _ _ h _ => h, ?_⟩, ⟨fun _ _ _ h _ => h, ?_⟩, ⟨fun _ _ _ h _ => h, ?_⟩, ⟨fun _ _ _ h _ => h, ?_⟩, ⟨fun v w w' ⟨g, h1, h2, h3⟩ hb => ⟨g, h1, Nat.lt_of_lt_of_le h2 hb.size, h3.below (hb.mono (by omega))⟩, ?_⟩, ⟨fun _ _ _ h _ => h, ?_⟩, ⟨fun _ _ _ h _ => h, ?_⟩, ⟨fun _ _ _ h _ => h, ?_⟩, ⟨fun _ _ _ h _ => h, ?_⟩, ⟨fun v w w' ⟨g, h1, h2, h3⟩ hb => ⟨g, h1, Nat.lt_of_lt_of_le h2 hb.size, h3.below (hb.mono (by omega))⟩, ?_⟩, ⟨fun _ _ _ h _ => h, ?_⟩, ⟨fun v w w' ⟨g, h1, h2, h3⟩ hb => ⟨g, h1, Nat.lt_of_lt_of_le h2 hb.size, h3.below (hb.mono (by omega))⟩, ?_⟩, ⟨fun _ _ _ h _ => h, ?_⟩, ⟨fun _ _ _ h _ => h, ?_⟩, ⟨fun _ _ _ h _ => h, ?_⟩, trivial⟩
    · intro act wa hC hd H O K hK
      clear hd
      obtain ⟨hB, hA, hBB, hCC, hMM⟩ := hC
      have h9 := O 9 (by kernel_rfl)
      have g9 := Array.getD_eq_getD_getElem?.symm.trans h9
      clear H O
      obtain ⟨a0, a1, a2, af⟩ := hA.three
      obtain ⟨b0, b1, b2, bf⟩ := hBB.three
      obtain ⟨c0, c1, c2, cf⟩ := hCC.three
      obtain ⟨m0, m1, m2, mf⟩ := hMM.three
      go_simp
      exact hK _ _ (Below.refl _ _) (fun _ => rfl)
    · intro act wa hC hd H O K hK
      clear hd
      obtain ⟨hB, hA, hBB, hCC, hMM⟩ := hC
      have h4 := O 4 (by kernel_rfl)
      have g4 := Array.getD_eq_getD_getElem?.symm.trans h4
      clear H O
      obtain ⟨a0, a1, a2, af⟩ := hA.three
      obtain ⟨b0, b1, b2, bf⟩ := hBB.three
      obtain ⟨c0, c1, c2, cf⟩ := hCC.three
      obtain ⟨m0, m1, m2, mf⟩ := hMM.three
      go_simp
      exact hK _ _ (Below.refl _ _) (fun _ => rfl)
    · intro act wa hC hd H O K hK
      clear hd
      obtain ⟨hB, hA, hBB, hCC, hMM⟩ := hC
      have h18 : act.tmps.getD 18 undef = .agg #[.int .i64 (max a x), .int .i64 (max b y), .int .i64 (max c z)] := H 1 0 18 (by kernel_rfl) rfl
      have g18 := Array.getD_eq_getD_getElem?.symm.trans h18
      have h19 : act.tmps.getD 19 undef = .agg #[.int .i64 a, .int .i64 b, .int .i64 c] := H 1 1 19 (by kernel_rfl) rfl
      have g19 := Array.getD_eq_getD_getElem?.symm.trans h19
      clear H O
      obtain ⟨a0, a1, a2, af⟩ := hA.three
      obtain ⟨b0, b1, b2, bf⟩ := hBB.three
      obtain ⟨c0, c1, c2, cf⟩ := hCC.three
      obtain ⟨m0, m1, m2, mf⟩ := hMM.three
      go_simp
      refine (Covers_any _ (max a x) (max b y) (max c z) a b c).mono ?_
      rintro e w1 ⟨rfl, hb⟩
      rw [show covB (max a x) (max b y) (max c z) a b c = true from covB_iff.2 (by omega)]
      exact hK _ _ hb (fun _ => rfl)
    · intro act wa hC hd H O K hK
      clear hd
      obtain ⟨hB, hA, hBB, hCC, hMM⟩ := hC
      have h20 : act.tmps.getD 20 undef = .bool true := H 1 2 20 (by kernel_rfl) rfl
      have g20 := Array.getD_eq_getD_getElem?.symm.trans h20
      clear H O
      obtain ⟨a0, a1, a2, af⟩ := hA.three
      obtain ⟨b0, b1, b2, bf⟩ := hBB.three
      obtain ⟨c0, c1, c2, cf⟩ := hCC.three
      obtain ⟨m0, m1, m2, mf⟩ := hMM.three
      go_simp
      exact hK _ _ (Below.refl _ _) (fun _ => rfl)
    · intro act wa hC hd H O K hK
      clear hd
      obtain ⟨hB, hA, hBB, hCC, hMM⟩ := hC
      have h21 : act.tmps.getD 21 undef = .bool false := H 1 3 21 (by kernel_rfl) rfl
      have g21 := Array.getD_eq_getD_getElem?.symm.trans h21
      clear H O
      obtain ⟨a0, a1, a2, af⟩ := hA.three
      obtain ⟨b0, b1, b2, bf⟩ := hBB.three
      obtain ⟨c0, c1, c2, cf⟩ := hCC.three
      obtain ⟨m0, m1, m2, mf⟩ := hMM.three
      go_simp
      exact hK _ _ (Below.refl _ _) (fun _ => rfl)
    · intro act wa hC hd H O K hK
      clear hd
      obtain ⟨hB, hA, hBB, hCC, hMM⟩ := hC
      have h9 := O 9 (by kernel_rfl)
      have g9 := Array.getD_eq_getD_getElem?.symm.trans h9
      have h22 : act.tmps.getD 22 undef = .bool false := H 1 4 22 (by kernel_rfl) rfl
      have g22 := Array.getD_eq_getD_getElem?.symm.trans h22
      have k22 := Inv.some_bool g22
      clear H O
      obtain ⟨a0, a1, a2, af⟩ := hA.three
      obtain ⟨b0, b1, b2, bf⟩ := hBB.three
      obtain ⟨c0, c1, c2, cf⟩ := hCC.three
      obtain ⟨m0, m1, m2, mf⟩ := hMM.three
      go_simp
      exact hK _ _ (Below.refl _ _) (fun _ => rfl)
    · intro act wa hC hd H O K hK
      clear hd
      obtain ⟨hB, hA, hBB, hCC, hMM⟩ := hC
      have h5 := O 5 (by kernel_rfl)
      have g5 := Array.getD_eq_getD_getElem?.symm.trans h5
      have h22 : act.tmps.getD 22 undef = .bool false := H 1 4 22 (by kernel_rfl) rfl
      have g22 := Array.getD_eq_getD_getElem?.symm.trans h22
      have k22 := Inv.some_bool g22
      clear H O
      obtain ⟨a0, a1, a2, af⟩ := hA.three
      obtain ⟨b0, b1, b2, bf⟩ := hBB.three
      obtain ⟨c0, c1, c2, cf⟩ := hCC.three
      obtain ⟨m0, m1, m2, mf⟩ := hMM.three
      go_simp
      exact hK _ _ (Below.refl _ _) (fun _ => rfl)
    · intro act wa hC hd H O K hK
      clear hd
      obtain ⟨hB, hA, hBB, hCC, hMM⟩ := hC
      have h23 : act.tmps.getD 23 undef = .agg #[.int .i64 (max a x), .int .i64 (max b y), .int .i64 (max c z)] := H 1 5 23 (by kernel_rfl) rfl
      have g23 := Array.getD_eq_getD_getElem?.symm.trans h23
      have h24 : act.tmps.getD 24 undef = .agg #[.int .i64 x, .int .i64 y, .int .i64 z] := H 1 6 24 (by kernel_rfl) rfl
      have g24 := Array.getD_eq_getD_getElem?.symm.trans h24
      have h22 : act.tmps.getD 22 undef = .bool false := H 1 4 22 (by kernel_rfl) rfl
      have g22 := Array.getD_eq_getD_getElem?.symm.trans h22
      have k22 := Inv.some_bool g22
      clear H O
      obtain ⟨a0, a1, a2, af⟩ := hA.three
      obtain ⟨b0, b1, b2, bf⟩ := hBB.three
      obtain ⟨c0, c1, c2, cf⟩ := hCC.three
      obtain ⟨m0, m1, m2, mf⟩ := hMM.three
      go_simp
      refine (Covers_any _ (max a x) (max b y) (max c z) x y z).mono ?_
      rintro e w1 ⟨rfl, hb⟩
      rw [show covB (max a x) (max b y) (max c z) x y z = true from covB_iff.2 (by omega)]
      exact hK _ _ hb (fun _ => rfl)
    · intro act wa hC hd H O K hK
      clear hd
      obtain ⟨hB, hA, hBB, hCC, hMM⟩ := hC
      have h25 : act.tmps.getD 25 undef = .bool true := H 1 7 25 (by kernel_rfl) rfl
      have g25 := Array.getD_eq_getD_getElem?.symm.trans h25
      have h22 : act.tmps.getD 22 undef = .bool false := H 1 4 22 (by kernel_rfl) rfl
      have g22 := Array.getD_eq_getD_getElem?.symm.trans h22
      have k22 := Inv.some_bool g22
      clear H O
      obtain ⟨a0, a1, a2, af⟩ := hA.three
      obtain ⟨b0, b1, b2, bf⟩ := hBB.three
      obtain ⟨c0, c1, c2, cf⟩ := hCC.three
      obtain ⟨m0, m1, m2, mf⟩ := hMM.three
      go_simp
      exact hK _ _ (Below.refl _ _) (fun _ => rfl)
    · intro act wa hC hd H O K hK
      clear hd
      obtain ⟨hB, hA, hBB, hCC, hMM⟩ := hC
      have h22 : act.tmps.getD 22 undef = .bool false := H 1 4 22 (by kernel_rfl) rfl
      have g22 := Array.getD_eq_getD_getElem?.symm.trans h22
      have h26 : act.tmps.getD 26 undef = .bool false := H 1 8 26 (by kernel_rfl) rfl
      have g26 := Array.getD_eq_getD_getElem?.symm.trans h26
      clear H O
      obtain ⟨a0, a1, a2, af⟩ := hA.three
      obtain ⟨b0, b1, b2, bf⟩ := hBB.three
      obtain ⟨c0, c1, c2, cf⟩ := hCC.three
      obtain ⟨m0, m1, m2, mf⟩ := hMM.three
      go_simp
      exact hK _ _ (Below.refl _ _) (fun _ => rfl)
    · intro act wa hC hd H O K hK
      clear hd
      obtain ⟨hB, hA, hBB, hCC, hMM⟩ := hC
      have h27 : act.tmps.getD 27 undef = .bool false := H 1 9 27 (by kernel_rfl) rfl
      have g27 := Array.getD_eq_getD_getElem?.symm.trans h27
      clear H O
      obtain ⟨a0, a1, a2, af⟩ := hA.three
      obtain ⟨b0, b1, b2, bf⟩ := hBB.three
      obtain ⟨c0, c1, c2, cf⟩ := hCC.three
      obtain ⟨m0, m1, m2, mf⟩ := hMM.three
      go_simp
      exact hK _ _ (Below.refl _ _) (fun _ => rfl)
    · intro act wa hC hd H O K hK
      clear hd
      obtain ⟨hB, hA, hBB, hCC, hMM⟩ := hC
      have h4 := O 4 (by kernel_rfl)
      have g4 := Array.getD_eq_getD_getElem?.symm.trans h4
      have h28 : act.tmps.getD 28 undef = .bool false := H 1 10 28 (by kernel_rfl) rfl
      have g28 := Array.getD_eq_getD_getElem?.symm.trans h28
      have k28 := Inv.some_bool g28
      clear H O
      obtain ⟨a0, a1, a2, af⟩ := hA.three
      obtain ⟨b0, b1, b2, bf⟩ := hBB.three
      obtain ⟨c0, c1, c2, cf⟩ := hCC.three
      obtain ⟨m0, m1, m2, mf⟩ := hMM.three
      go_simp
      exact hK _ _ (Below.refl _ _) (fun _ => rfl)
    · intro act wa hC hd H O K hK
      clear hd
      obtain ⟨hB, hA, hBB, hCC, hMM⟩ := hC
      have h4 := O 4 (by kernel_rfl)
      have g4 := Array.getD_eq_getD_getElem?.symm.trans h4
      have h28 : act.tmps.getD 28 undef = .bool false := H 1 10 28 (by kernel_rfl) rfl
      have g28 := Array.getD_eq_getD_getElem?.symm.trans h28
      have k28 := Inv.some_bool g28
      clear H O
      obtain ⟨a0, a1, a2, af⟩ := hA.three
      obtain ⟨b0, b1, b2, bf⟩ := hBB.three
      obtain ⟨c0, c1, c2, cf⟩ := hCC.three
      obtain ⟨m0, m1, m2, mf⟩ := hMM.three
      go_simp
      exact hK _ _ (Below.refl _ _) (fun _ => rfl)
    · intro act wa hC hd H O K hK
      clear hd
      obtain ⟨hB, hA, hBB, hCC, hMM⟩ := hC
      have h29 : act.tmps.getD 29 undef = .agg #[.int .i64 a, .int .i64 b, .int .i64 c] := H 1 11 29 (by kernel_rfl) rfl
      have g29 := Array.getD_eq_getD_getElem?.symm.trans h29
      have h30 : act.tmps.getD 30 undef = .agg #[.int .i64 a, .int .i64 b, .int .i64 c] := H 1 12 30 (by kernel_rfl) rfl
      have g30 := Array.getD_eq_getD_getElem?.symm.trans h30
      have h28 : act.tmps.getD 28 undef = .bool false := H 1 10 28 (by kernel_rfl) rfl
      have g28 := Array.getD_eq_getD_getElem?.symm.trans h28
      have k28 := Inv.some_bool g28
      clear H O
      obtain ⟨a0, a1, a2, af⟩ := hA.three
      obtain ⟨b0, b1, b2, bf⟩ := hBB.three
      obtain ⟨c0, c1, c2, cf⟩ := hCC.three
      obtain ⟨m0, m1, m2, mf⟩ := hMM.three
      go_simp
      refine (Covers_any _ a b c a b c).mono ?_
      rintro e w1 ⟨rfl, hb⟩
      rw [show covB a b c a b c = true from covB_iff.2 (by omega)]
      exact hK _ _ hb (fun _ => rfl)
    · intro act wa hC hd H O K hK
      clear hd
      obtain ⟨hB, hA, hBB, hCC, hMM⟩ := hC
      have h31 : act.tmps.getD 31 undef = .bool true := H 1 13 31 (by kernel_rfl) rfl
      have g31 := Array.getD_eq_getD_getElem?.symm.trans h31
      have h28 : act.tmps.getD 28 undef = .bool false := H 1 10 28 (by kernel_rfl) rfl
      have g28 := Array.getD_eq_getD_getElem?.symm.trans h28
      have k28 := Inv.some_bool g28
      clear H O
      obtain ⟨a0, a1, a2, af⟩ := hA.three
      obtain ⟨b0, b1, b2, bf⟩ := hBB.three
      obtain ⟨c0, c1, c2, cf⟩ := hCC.three
      obtain ⟨m0, m1, m2, mf⟩ := hMM.three
      go_simp
      exact hK _ _ (Below.refl _ _) (fun _ => rfl)
    · intro act wa hC hd H O K hK
      clear hd
      obtain ⟨hB, hA, hBB, hCC, hMM⟩ := hC
      have h28 : act.tmps.getD 28 undef = .bool false := H 1 10 28 (by kernel_rfl) rfl
      have g28 := Array.getD_eq_getD_getElem?.symm.trans h28
      have h32 : act.tmps.getD 32 undef = .bool false := H 1 14 32 (by kernel_rfl) rfl
      have g32 := Array.getD_eq_getD_getElem?.symm.trans h32
      clear H O
      obtain ⟨a0, a1, a2, af⟩ := hA.three
      obtain ⟨b0, b1, b2, bf⟩ := hBB.three
      obtain ⟨c0, c1, c2, cf⟩ := hCC.three
      obtain ⟨m0, m1, m2, mf⟩ := hMM.three
      go_simp
      exact hK _ _ (Below.refl _ _) (fun _ => rfl)
    · intro act wa hC hd H O K hK
      clear hd
      obtain ⟨hB, hA, hBB, hCC, hMM⟩ := hC
      have h33 : act.tmps.getD 33 undef = .bool false := H 1 15 33 (by kernel_rfl) rfl
      have g33 := Array.getD_eq_getD_getElem?.symm.trans h33
      clear H O
      obtain ⟨a0, a1, a2, af⟩ := hA.three
      obtain ⟨b0, b1, b2, bf⟩ := hBB.three
      obtain ⟨c0, c1, c2, cf⟩ := hCC.three
      obtain ⟨m0, m1, m2, mf⟩ := hMM.three
      go_simp
      exact hK _ _ (Below.refl _ _) (fun _ => rfl)
    · intro act wa hC hd H O K hK
      clear hd
      obtain ⟨hB, hA, hBB, hCC, hMM⟩ := hC
      have h9 := O 9 (by kernel_rfl)
      have g9 := Array.getD_eq_getD_getElem?.symm.trans h9
      have h34 : act.tmps.getD 34 undef = .bool false := H 1 16 34 (by kernel_rfl) rfl
      have g34 := Array.getD_eq_getD_getElem?.symm.trans h34
      have k34 := Inv.some_bool g34
      clear H O
      obtain ⟨a0, a1, a2, af⟩ := hA.three
      obtain ⟨b0, b1, b2, bf⟩ := hBB.three
      obtain ⟨c0, c1, c2, cf⟩ := hCC.three
      obtain ⟨m0, m1, m2, mf⟩ := hMM.three
      go_simp
      exact hK _ _ (Below.refl _ _) (fun _ => rfl)
    · intro act wa hC hd H O K hK
      clear hd
      obtain ⟨hB, hA, hBB, hCC, hMM⟩ := hC
      have h5 := O 5 (by kernel_rfl)
      have g5 := Array.getD_eq_getD_getElem?.symm.trans h5
      have h34 : act.tmps.getD 34 undef = .bool false := H 1 16 34 (by kernel_rfl) rfl
      have g34 := Array.getD_eq_getD_getElem?.symm.trans h34
      have k34 := Inv.some_bool g34
      clear H O
      obtain ⟨a0, a1, a2, af⟩ := hA.three
      obtain ⟨b0, b1, b2, bf⟩ := hBB.three
      obtain ⟨c0, c1, c2, cf⟩ := hCC.three
      obtain ⟨m0, m1, m2, mf⟩ := hMM.three
      go_simp
      exact hK _ _ (Below.refl _ _) (fun _ => rfl)
    · intro act wa hC hd H O K hK
      clear hd
      obtain ⟨hB, hA, hBB, hCC, hMM⟩ := hC
      have h4 := O 4 (by kernel_rfl)
      have g4 := Array.getD_eq_getD_getElem?.symm.trans h4
      have h34 : act.tmps.getD 34 undef = .bool false := H 1 16 34 (by kernel_rfl) rfl
      have g34 := Array.getD_eq_getD_getElem?.symm.trans h34
      have k34 := Inv.some_bool g34
      clear H O
      obtain ⟨a0, a1, a2, af⟩ := hA.three
      obtain ⟨b0, b1, b2, bf⟩ := hBB.three
      obtain ⟨c0, c1, c2, cf⟩ := hCC.three
      obtain ⟨m0, m1, m2, mf⟩ := hMM.three
      go_simp
      exact hK _ _ (Below.refl _ _) (fun _ => rfl)
    · intro act wa hC hd H O K hK
      clear hd
      obtain ⟨hB, hA, hBB, hCC, hMM⟩ := hC
      have h36 : act.tmps.getD 36 undef = .agg #[.int .i64 x, .int .i64 y, .int .i64 z] := H 1 18 36 (by kernel_rfl) rfl
      have g36 := Array.getD_eq_getD_getElem?.symm.trans h36
      have h37 : act.tmps.getD 37 undef = .agg #[.int .i64 a, .int .i64 b, .int .i64 c] := H 1 19 37 (by kernel_rfl) rfl
      have g37 := Array.getD_eq_getD_getElem?.symm.trans h37
      have h34 : act.tmps.getD 34 undef = .bool false := H 1 16 34 (by kernel_rfl) rfl
      have g34 := Array.getD_eq_getD_getElem?.symm.trans h34
      have k34 := Inv.some_bool g34
      clear H O
      obtain ⟨a0, a1, a2, af⟩ := hA.three
      obtain ⟨b0, b1, b2, bf⟩ := hBB.three
      obtain ⟨c0, c1, c2, cf⟩ := hCC.three
      obtain ⟨m0, m1, m2, mf⟩ := hMM.three
      go_simp
      exact hK _ _ ((Below.refl _ _).alloc (Nat.le_refl _) _) (fun _ => ⟨wa.heap.size, rfl, by simp, Rd.new wa _ _⟩)
    · intro act wa hC hd H O K hK
      clear hd
      obtain ⟨hB, hA, hBB, hCC, hMM⟩ := hC
      have h38 : ∃ g, act.tmps.getD 38 undef = .slice (some ⟨g, 0, none⟩) 2 2 ∧ g < wa.heap.size ∧ Rd wa (g + 1) (some ⟨g, 0, none⟩) (cells3 [(x, y, z), (a, b, c)]) := H 1 20 38 (by kernel_rfl) rfl
      obtain ⟨g, hv, hg, hr⟩ := h38
      have h34 : act.tmps.getD 34 undef = .bool false := H 1 16 34 (by kernel_rfl) rfl
      have g34 := Array.getD_eq_getD_getElem?.symm.trans h34
      have k34 := Inv.some_bool g34
      clear H O
      obtain ⟨a0, a1, a2, af⟩ := hA.three
      obtain ⟨b0, b1, b2, bf⟩ := hBB.three
      obtain ⟨c0, c1, c2, cf⟩ := hCC.three
      obtain ⟨m0, m1, m2, mf⟩ := hMM.three
      go_simp
      refine (Merge2_at wa g x y z a b c hr hg).mono ?_
      rintro e w1 ⟨rfl, hb⟩
      exact hK _ _ hb (fun _ => rfl)
    · intro act wa hC hd H O K hK
      clear hd
      obtain ⟨hB, hA, hBB, hCC, hMM⟩ := hC
      have h35 : act.tmps.getD 35 undef = .agg #[.int .i64 (max a x), .int .i64 (max b y), .int .i64 (max c z)] := H 1 17 35 (by kernel_rfl) rfl
      have g35 := Array.getD_eq_getD_getElem?.symm.trans h35
      have h39 : act.tmps.getD 39 undef = .agg #[.int .i64 (max x a), .int .i64 (max y b), .int .i64 (max z c)] := H 1 21 39 (by kernel_rfl) rfl
      have g39 := Array.getD_eq_getD_getElem?.symm.trans h39
      have h34 : act.tmps.getD 34 undef = .bool false := H 1 16 34 (by kernel_rfl) rfl
      have g34 := Array.getD_eq_getD_getElem?.symm.trans h34
      have k34 := Inv.some_bool g34
      clear H O
      obtain ⟨a0, a1, a2, af⟩ := hA.three
      obtain ⟨b0, b1, b2, bf⟩ := hBB.three
      obtain ⟨c0, c1, c2, cf⟩ := hCC.three
      obtain ⟨m0, m1, m2, mf⟩ := hMM.three
      have qq := eqc_in (max a x) (max b y) (max c z) (max x a) (max y b) (max z c) wa
      rw [eqcB_of (by omega) (by omega) (by omega)] at qq
      go_simp
      exact hK _ _ (Below.refl _ _) (fun _ => rfl)
    · intro act wa hC hd H O K hK
      clear hd
      obtain ⟨hB, hA, hBB, hCC, hMM⟩ := hC
      have h34 : act.tmps.getD 34 undef = .bool false := H 1 16 34 (by kernel_rfl) rfl
      have g34 := Array.getD_eq_getD_getElem?.symm.trans h34
      have h40 : act.tmps.getD 40 undef = .bool false := H 1 22 40 (by kernel_rfl) rfl
      have g40 := Array.getD_eq_getD_getElem?.symm.trans h40
      clear H O
      obtain ⟨a0, a1, a2, af⟩ := hA.three
      obtain ⟨b0, b1, b2, bf⟩ := hBB.three
      obtain ⟨c0, c1, c2, cf⟩ := hCC.three
      obtain ⟨m0, m1, m2, mf⟩ := hMM.three
      go_simp
      exact hK _ _ (Below.refl _ _) (fun _ => rfl)
    · intro act wa hC hd H O K hK
      clear hd
      obtain ⟨hB, hA, hBB, hCC, hMM⟩ := hC
      have h41 : act.tmps.getD 41 undef = .bool false := H 1 23 41 (by kernel_rfl) rfl
      have g41 := Array.getD_eq_getD_getElem?.symm.trans h41
      clear H O
      obtain ⟨a0, a1, a2, af⟩ := hA.three
      obtain ⟨b0, b1, b2, bf⟩ := hBB.three
      obtain ⟨c0, c1, c2, cf⟩ := hCC.three
      obtain ⟨m0, m1, m2, mf⟩ := hMM.three
      go_simp
      exact hK _ _ (Below.refl _ _) (fun _ => rfl)
    · intro act wa hC hd H O K hK
      clear hd
      obtain ⟨hB, hA, hBB, hCC, hMM⟩ := hC
      have h9 := O 9 (by kernel_rfl)
      have g9 := Array.getD_eq_getD_getElem?.symm.trans h9
      have h42 : act.tmps.getD 42 undef = .bool false := H 1 24 42 (by kernel_rfl) rfl
      have g42 := Array.getD_eq_getD_getElem?.symm.trans h42
      have k42 := Inv.some_bool g42
      clear H O
      obtain ⟨a0, a1, a2, af⟩ := hA.three
      obtain ⟨b0, b1, b2, bf⟩ := hBB.three
      obtain ⟨c0, c1, c2, cf⟩ := hCC.three
      obtain ⟨m0, m1, m2, mf⟩ := hMM.three
      go_simp
      exact hK _ _ (Below.refl _ _) (fun _ => rfl)
    · intro act wa hC hd H O K hK
      clear hd
      obtain ⟨hB, hA, hBB, hCC, hMM⟩ := hC
      have h6 := O 6 (by kernel_rfl)
      have g6 := Array.getD_eq_getD_getElem?.symm.trans h6
      have h42 : act.tmps.getD 42 undef = .bool false := H 1 24 42 (by kernel_rfl) rfl
      have g42 := Array.getD_eq_getD_getElem?.symm.trans h42
      have k42 := Inv.some_bool g42
      clear H O
      obtain ⟨a0, a1, a2, af⟩ := hA.three
      obtain ⟨b0, b1, b2, bf⟩ := hBB.three
      obtain ⟨c0, c1, c2, cf⟩ := hCC.three
      obtain ⟨m0, m1, m2, mf⟩ := hMM.three
      go_simp
      exact hK _ _ (Below.refl _ _) (fun _ => rfl)
    · intro act wa hC hd H O K hK
      clear hd
      obtain ⟨hB, hA, hBB, hCC, hMM⟩ := hC
      have h43 : act.tmps.getD 43 undef = .agg #[.int .i64 (max a x), .int .i64 (max b y), .int .i64 (max c z)] := H 1 25 43 (by kernel_rfl) rfl
      have g43 := Array.getD_eq_getD_getElem?.symm.trans h43
      have h44 : act.tmps.getD 44 undef = .agg #[.int .i64 p, .int .i64 q, .int .i64 r] := H 1 26 44 (by kernel_rfl) rfl
      have g44 := Array.getD_eq_getD_getElem?.symm.trans h44
      have h42 : act.tmps.getD 42 undef = .bool false := H 1 24 42 (by kernel_rfl) rfl
      have g42 := Array.getD_eq_getD_getElem?.symm.trans h42
      have k42 := Inv.some_bool g42
      clear H O
      obtain ⟨a0, a1, a2, af⟩ := hA.three
      obtain ⟨b0, b1, b2, bf⟩ := hBB.three
      obtain ⟨c0, c1, c2, cf⟩ := hCC.three
      obtain ⟨m0, m1, m2, mf⟩ := hMM.three
      go_simp
      exact hK _ _ ((Below.refl _ _).alloc (Nat.le_refl _) _) (fun _ => ⟨wa.heap.size, rfl, by simp, Rd.new wa _ _⟩)
    · intro act wa hC hd H O K hK
      clear hd
      obtain ⟨hB, hA, hBB, hCC, hMM⟩ := hC
      have h45 : ∃ g, act.tmps.getD 45 undef = .slice (some ⟨g, 0, none⟩) 2 2 ∧ g < wa.heap.size ∧ Rd wa (g + 1) (some ⟨g, 0, none⟩) (cells3 [(max a x, max b y, max c z), (p, q, r)]) := H 1 27 45 (by kernel_rfl) rfl
      obtain ⟨g, hv, hg, hr⟩ := h45
      have h42 : act.tmps.getD 42 undef = .bool false := H 1 24 42 (by kernel_rfl) rfl
      have g42 := Array.getD_eq_getD_getElem?.symm.trans h42
      have k42 := Inv.some_bool g42
      clear H O
      obtain ⟨a0, a1, a2, af⟩ := hA.three
      obtain ⟨b0, b1, b2, bf⟩ := hBB.three
      obtain ⟨c0, c1, c2, cf⟩ := hCC.three
      obtain ⟨m0, m1, m2, mf⟩ := hMM.three
      go_simp
      refine (Merge2_at wa g _ _ _ p q r hr hg).mono ?_
      rintro e w1 ⟨rfl, hb⟩
      exact hK _ _ hb (fun _ => rfl)
    · intro act wa hC hd H O K hK
      clear hd
      obtain ⟨hB, hA, hBB, hCC, hMM⟩ := hC
      have h4 := O 4 (by kernel_rfl)
      have g4 := Array.getD_eq_getD_getElem?.symm.trans h4
      have h42 : act.tmps.getD 42 undef = .bool false := H 1 24 42 (by kernel_rfl) rfl
      have g42 := Array.getD_eq_getD_getElem?.symm.trans h42
      have k42 := Inv.some_bool g42
      clear H O
      obtain ⟨a0, a1, a2, af⟩ := hA.three
      obtain ⟨b0, b1, b2, bf⟩ := hBB.three
      obtain ⟨c0, c1, c2, cf⟩ := hCC.three
      obtain ⟨m0, m1, m2, mf⟩ := hMM.three
      go_simp
      exact hK _ _ (Below.refl _ _) (fun _ => rfl)
    · intro act wa hC hd H O K hK
      clear hd
      obtain ⟨hB, hA, hBB, hCC, hMM⟩ := hC
      have h5 := O 5 (by kernel_rfl)
      have g5 := Array.getD_eq_getD_getElem?.symm.trans h5
      have h42 : act.tmps.getD 42 undef = .bool false := H 1 24 42 (by kernel_rfl) rfl
      have g42 := Array.getD_eq_getD_getElem?.symm.trans h42
      have k42 := Inv.some_bool g42
      clear H O
      obtain ⟨a0, a1, a2, af⟩ := hA.three
      obtain ⟨b0, b1, b2, bf⟩ := hBB.three
      obtain ⟨c0, c1, c2, cf⟩ := hCC.three
      obtain ⟨m0, m1, m2, mf⟩ := hMM.three
      go_simp
      exact hK _ _ (Below.refl _ _) (fun _ => rfl)
    · intro act wa hC hd H O K hK
      clear hd
      obtain ⟨hB, hA, hBB, hCC, hMM⟩ := hC
      have h6 := O 6 (by kernel_rfl)
      have g6 := Array.getD_eq_getD_getElem?.symm.trans h6
      have h42 : act.tmps.getD 42 undef = .bool false := H 1 24 42 (by kernel_rfl) rfl
      have g42 := Array.getD_eq_getD_getElem?.symm.trans h42
      have k42 := Inv.some_bool g42
      clear H O
      obtain ⟨a0, a1, a2, af⟩ := hA.three
      obtain ⟨b0, b1, b2, bf⟩ := hBB.three
      obtain ⟨c0, c1, c2, cf⟩ := hCC.three
      obtain ⟨m0, m1, m2, mf⟩ := hMM.three
      go_simp
      exact hK _ _ (Below.refl _ _) (fun _ => rfl)
    · intro act wa hC hd H O K hK
      clear hd
      obtain ⟨hB, hA, hBB, hCC, hMM⟩ := hC
      have h48 : act.tmps.getD 48 undef = .agg #[.int .i64 x, .int .i64 y, .int .i64 z] := H 1 30 48 (by kernel_rfl) rfl
      have g48 := Array.getD_eq_getD_getElem?.symm.trans h48
      have h49 : act.tmps.getD 49 undef = .agg #[.int .i64 p, .int .i64 q, .int .i64 r] := H 1 31 49 (by kernel_rfl) rfl
      have g49 := Array.getD_eq_getD_getElem?.symm.trans h49
      have h42 : act.tmps.getD 42 undef = .bool false := H 1 24 42 (by kernel_rfl) rfl
      have g42 := Array.getD_eq_getD_getElem?.symm.trans h42
      have k42 := Inv.some_bool g42
      clear H O
      obtain ⟨a0, a1, a2, af⟩ := hA.three
      obtain ⟨b0, b1, b2, bf⟩ := hBB.three
      obtain ⟨c0, c1, c2, cf⟩ := hCC.three
      obtain ⟨m0, m1, m2, mf⟩ := hMM.three
      go_simp
      exact hK _ _ ((Below.refl _ _).alloc (Nat.le_refl _) _) (fun _ => ⟨wa.heap.size, rfl, by simp, Rd.new wa _ _⟩)
    · intro act wa hC hd H O K hK
      clear hd
      obtain ⟨hB, hA, hBB, hCC, hMM⟩ := hC
      have h50 : ∃ g, act.tmps.getD 50 undef = .slice (some ⟨g, 0, none⟩) 2 2 ∧ g < wa.heap.size ∧ Rd wa (g + 1) (some ⟨g, 0, none⟩) (cells3 [(x, y, z), (p, q, r)]) := H 1 32 50 (by kernel_rfl) rfl
      obtain ⟨g, hv, hg, hr⟩ := h50
      have h42 : act.tmps.getD 42 undef = .bool false := H 1 24 42 (by kernel_rfl) rfl
      have g42 := Array.getD_eq_getD_getElem?.symm.trans h42
      have k42 := Inv.some_bool g42
      clear H O
      obtain ⟨a0, a1, a2, af⟩ := hA.three
      obtain ⟨b0, b1, b2, bf⟩ := hBB.three
      obtain ⟨c0, c1, c2, cf⟩ := hCC.three
      obtain ⟨m0, m1, m2, mf⟩ := hMM.three
      go_simp
      refine (Merge2_at wa g x y z p q r hr hg).mono ?_
      rintro e w1 ⟨rfl, hb⟩
      exact hK _ _ hb (fun _ => rfl)
    · intro act wa hC hd H O K hK
      clear hd
      obtain ⟨hB, hA, hBB, hCC, hMM⟩ := hC
      have h47 : act.tmps.getD 47 undef = .agg #[.int .i64 a, .int .i64 b, .int .i64 c] := H 1 29 47 (by kernel_rfl) rfl
      have g47 := Array.getD_eq_getD_getElem?.symm.trans h47
      have h51 : act.tmps.getD 51 undef = .agg #[.int .i64 (max x p), .int .i64 (max y q), .int .i64 (max z r)] := H 1 33 51 (by kernel_rfl) rfl
      have g51 := Array.getD_eq_getD_getElem?.symm.trans h51
      have h42 : act.tmps.getD 42 undef = .bool false := H 1 24 42 (by kernel_rfl) rfl
      have g42 := Array.getD_eq_getD_getElem?.symm.trans h42
      have k42 := Inv.some_bool g42
      clear H O
      obtain ⟨a0, a1, a2, af⟩ := hA.three
      obtain ⟨b0, b1, b2, bf⟩ := hBB.three
      obtain ⟨c0, c1, c2, cf⟩ := hCC.three
      obtain ⟨m0, m1, m2, mf⟩ := hMM.three
      go_simp
      exact hK _ _ ((Below.refl _ _).alloc (Nat.le_refl _) _) (fun _ => ⟨wa.heap.size, rfl, by simp, Rd.new wa _ _⟩)
    · intro act wa hC hd H O K hK
      clear hd
      obtain ⟨hB, hA, hBB, hCC, hMM⟩ := hC
      have h52 : ∃ g, act.tmps.getD 52 undef = .slice (some ⟨g, 0, none⟩) 2 2 ∧ g < wa.heap.size ∧ Rd wa (g + 1) (some ⟨g, 0, none⟩) (cells3 [(a, b, c), (max x p, max y q, max z r)]) := H 1 34 52 (by kernel_rfl) rfl
      obtain ⟨g, hv, hg, hr⟩ := h52
      have h42 : act.tmps.getD 42 undef = .bool false := H 1 24 42 (by kernel_rfl) rfl
      have g42 := Array.getD_eq_getD_getElem?.symm.trans h42
      have k42 := Inv.some_bool g42
      clear H O
      obtain ⟨a0, a1, a2, af⟩ := hA.three
      obtain ⟨b0, b1, b2, bf⟩ := hBB.three
      obtain ⟨c0, c1, c2, cf⟩ := hCC.three
      obtain ⟨m0, m1, m2, mf⟩ := hMM.three
      go_simp
      refine (Merge2_at wa g a b c _ _ _ hr hg).mono ?_
      rintro e w1 ⟨rfl, hb⟩
      exact hK _ _ hb (fun _ => rfl)
    · intro act wa hC hd H O K hK
      clear hd
      obtain ⟨hB, hA, hBB, hCC, hMM⟩ := hC
      have h46 : act.tmps.getD 46 undef = .agg #[.int .i64 (max (max a x) p), .int .i64 (max (max b y) q), .int .i64 (max (max c z) r)] := H 1 28 46 (by kernel_rfl) rfl
      have g46 := Array.getD_eq_getD_getElem?.symm.trans h46
      have h53 : act.tmps.getD 53 undef = .agg #[.int .i64 (max a (max x p)), .int .i64 (max b (max y q)), .int .i64 (max c (max z r))] := H 1 35 53 (by kernel_rfl) rfl
      have g53 := Array.getD_eq_getD_getElem?.symm.trans h53
      have h42 : act.tmps.getD 42 undef = .bool false := H 1 24 42 (by kernel_rfl) rfl
      have g42 := Array.getD_eq_getD_getElem?.symm.trans h42
      have k42 := Inv.some_bool g42
      clear H O
      obtain ⟨a0, a1, a2, af⟩ := hA.three
      obtain ⟨b0, b1, b2, bf⟩ := hBB.three
      obtain ⟨c0, c1, c2, cf⟩ := hCC.three
      obtain ⟨m0, m1, m2, mf⟩ := hMM.three
      have qq := eqc_in (max (max a x) p) (max (max b y) q) (max (max c z) r) (max a (max x p)) (max b (max y q)) (max c (max z r)) wa
      rw [eqcB_of (by omega) (by omega) (by omega)] at qq
      have qr := eqc_in (max a (max x p)) (max b (max y q)) (max c (max z r)) (max a (max x p)) (max b (max y q)) (max c (max z r)) wa
      rw [eqcB_of rfl rfl rfl] at qr
      go_simp
      exact hK _ _ (Below.refl _ _) (fun _ => rfl)
    · intro act wa hC hd H O K hK
      clear hd
      obtain ⟨hB, hA, hBB, hCC, hMM⟩ := hC
      have h42 : act.tmps.getD 42 undef = .bool false := H 1 24 42 (by kernel_rfl) rfl
      have g42 := Array.getD_eq_getD_getElem?.symm.trans h42
      have h54 : act.tmps.getD 54 undef = .bool false := H 1 36 54 (by kernel_rfl) rfl
      have g54 := Array.getD_eq_getD_getElem?.symm.trans h54
      clear H O
      obtain ⟨a0, a1, a2, af⟩ := hA.three
      obtain ⟨b0, b1, b2, bf⟩ := hBB.three
      obtain ⟨c0, c1, c2, cf⟩ := hCC.three
      obtain ⟨m0, m1, m2, mf⟩ := hMM.three
      go_simp
      exact hK _ _ (Below.refl _ _) (fun _ => rfl)
  · intro us w' hC hF
    obtain ⟨hB, hA, hBB, hCC, hMM⟩ := hC
    have u55 : us 55 = .bool false := hF 37 55 rfl
    clear hF
    simp only [List.foldl]
    go_simp
    go_wp2
    obtain ⟨u, HU⟩ : ∃ u, u = covB p q r a b c := ⟨_, rfl⟩
    have HCA := Lib.hid HU; clear HU
    clear u55
    have HC4 := Lib.hid (show CO w w.heap.size (w.heap.size + 1) (w.heap.size + 2) gm a b c x y z p q r w' from ⟨hB, hA, hBB, hCC, hMM⟩)
    clear hB hA hBB hCC hMM HC
    obtain ⟨w4, hw4⟩ : ∃ w4, w4 = w' := ⟨_, rfl⟩
    rw [← hw4] at HC4 ⊢
    clear hw4
    refine Inv.region_below (fun i v w' => match i with
        | 0 => v = .agg #[.int .i64 p, .int .i64 q, .int .i64 r]
        | 1 => v = .agg #[.int .i64 a, .int .i64 b, .int .i64 c]
        | 2 => v = .bool u
        | 3 => v = .bool u
        | 4 => v = cond u (.agg #[.int .i64 p, .int .i64 q, .int .i64 r]) undef
        | 5 => v = cond u (.agg #[.int .i64 x, .int .i64 y, .int .i64 z]) undef
        | 6 => v = cond u (.bool (covB p q r x y z)) undef
        | 7 => v = cond u (.agg #[.int .i64 p, .int .i64 q, .int .i64 r]) undef
        | 8 => v = cond u (.agg #[.int .i64 (max a x), .int .i64 (max b y), .int .i64 (max c z)]) undef
        | 9 => v = cond u (.bool (covB p q r x y z)) undef
        | 10 => v = cond u (.bool false) undef
        | 11 => v = .bool false
        | _ => True)
      (fun w' => CO w w.heap.size (w.heap.size + 1) (w.heap.size + 2) gm a b c x y z p q r w') 117 [56, 57, 58, 59, 60, 61, 62, 63, 64, 65, 66, 67] (by kernel_rfl) rfl (by kernel_rfl) (by kernel_rfl) ?_ ?_ ?_ ?_
    · intro v v' hC hb
      obtain ⟨hB, hA, hBB, hCC, hMM⟩ := hC
      exact CO.keep ⟨hB, hA, hBB, hCC, hMM⟩ hb
    · exact CO.keep HC4.out (Below.refl _ _).drew
    · refine ⟨⟨fun _ _ _ h _ => h, ?_⟩, ⟨fun _ _ _ h _ => h, ?_⟩, ⟨fun _ _ _ h _ => h, ?_⟩, ⟨fun _ _ _ h _ => h, ?_⟩, ⟨fun _ _ _ h _ => h, ?_⟩, ⟨fun _ _ _ h _ => h, ?_⟩, ⟨fun _ _ _ h _ => h, ?_⟩, ⟨fun _ _ _ h _ => h, ?_⟩, ⟨fun _ _ _ h _ => h, ?_⟩, ⟨fun _ _ _ h _ => h, ?_⟩, ⟨fun _ _ _ h _ => h, ?_⟩, ⟨fun _ _ _ h _ => h, ?_⟩, trivial⟩
      · intro act wa hC hd H O K hK
        clear hd
        obtain ⟨hB, hA, hBB, hCC, hMM⟩ := hC
        have h6 := O 6 (by kernel_rfl)
        have g6 := Array.getD_eq_getD_getElem?.symm.trans h6
        clear H O
        obtain ⟨a0, a1, a2, af⟩ := hA.three
        obtain ⟨b0, b1, b2, bf⟩ := hBB.three
        obtain ⟨c0, c1, c2, cf⟩ := hCC.three
        obtain ⟨m0, m1, m2, mf⟩ := hMM.three
        go_simp
        exact hK _ _ (Below.refl _ _) (fun _ => rfl)
      · intro act wa hC hd H O K hK
        clear hd
        obtain ⟨hB, hA, hBB, hCC, hMM⟩ := hC
        have h4 := O 4 (by kernel_rfl)
        have g4 := Array.getD_eq_getD_getElem?.symm.trans h4
        clear H O
        obtain ⟨a0, a1, a2, af⟩ := hA.three
        obtain ⟨b0, b1, b2, bf⟩ := hBB.three
        obtain ⟨c0, c1, c2, cf⟩ := hCC.three
        obtain ⟨m0, m1, m2, mf⟩ := hMM.three
        go_simp
        exact hK _ _ (Below.refl _ _) (fun _ => rfl)
      · intro act wa hC hd H O K hK
        clear hd
        obtain ⟨hB, hA, hBB, hCC, hMM⟩ := hC
        have h56 : act.tmps.getD 56 undef = .agg #[.int .i64 p, .int .i64 q, .int .i64 r] := H 1 0 56 (by kernel_rfl) rfl
        have g56 := Array.getD_eq_getD_getElem?.symm.trans h56
        have h57 : act.tmps.getD 57 undef = .agg #[.int .i64 a, .int .i64 b, .int .i64 c] := H 1 1 57 (by kernel_rfl) rfl
        have g57 := Array.getD_eq_getD_getElem?.symm.trans h57
        clear H O
        obtain ⟨a0, a1, a2, af⟩ := hA.three
        obtain ⟨b0, b1, b2, bf⟩ := hBB.three
        obtain ⟨c0, c1, c2, cf⟩ := hCC.three
        obtain ⟨m0, m1, m2, mf⟩ := hMM.three
        go_simp
        refine (Covers_any _ p q r a b c).mono ?_
        rintro e w1 ⟨rfl, hb⟩
        rw [← HCA.out]
        exact hK _ _ hb (fun _ => rfl)
      · intro act wa hC hd H O K hK
        clear hd
        obtain ⟨hB, hA, hBB, hCC, hMM⟩ := hC
        have h58 : act.tmps.getD 58 undef = .bool u := H 1 2 58 (by kernel_rfl) rfl
        have g58 := Array.getD_eq_getD_getElem?.symm.trans h58
        clear H O
        obtain ⟨a0, a1, a2, af⟩ := hA.three
        obtain ⟨b0, b1, b2, bf⟩ := hBB.three
        obtain ⟨c0, c1, c2, cf⟩ := hCC.three
        obtain ⟨m0, m1, m2, mf⟩ := hMM.three
        go_simp
        exact hK _ _ (Below.refl _ _) (fun _ => rfl)
      · intro act wa hC hd H O K hK
        clear hd
        obtain ⟨hB, hA, hBB, hCC, hMM⟩ := hC
        have h6 := O 6 (by kernel_rfl)
        have g6 := Array.getD_eq_getD_getElem?.symm.trans h6
        have h59 : act.tmps.getD 59 undef = .bool u := H 1 3 59 (by kernel_rfl) rfl
        have g59 := Array.getD_eq_getD_getElem?.symm.trans h59
        clear H O
        obtain ⟨a0, a1, a2, af⟩ := hA.three
        obtain ⟨b0, b1, b2, bf⟩ := hBB.three
        obtain ⟨c0, c1, c2, cf⟩ := hCC.three
        obtain ⟨m0, m1, m2, mf⟩ := hMM.three
        cases u
        all_goals try simp only [cond_true, cond_false, Bool.and_true, Bool.and_false, Bool.true_and, Bool.false_and, Bool.and_self, Bool.not_true, Bool.not_false] at h6 g6 h59 g59
        all_goals have k59 := Inv.some_bool g59
        all_goals (first | done | skip)
        all_goals (skip)
        all_goals go_simp
        all_goals first | exact hK _ _ (Below.refl _ _) (fun _ => rfl) | exact hK undef _ (Below.refl _ _) (fun _ => rfl)
      · intro act wa hC hd H O K hK
        clear hd
        obtain ⟨hB, hA, hBB, hCC, hMM⟩ := hC
        have h5 := O 5 (by kernel_rfl)
        have g5 := Array.getD_eq_getD_getElem?.symm.trans h5
        have h59 : act.tmps.getD 59 undef = .bool u := H 1 3 59 (by kernel_rfl) rfl
        have g59 := Array.getD_eq_getD_getElem?.symm.trans h59
        clear H O
        obtain ⟨a0, a1, a2, af⟩ := hA.three
        obtain ⟨b0, b1, b2, bf⟩ := hBB.three
        obtain ⟨c0, c1, c2, cf⟩ := hCC.three
        obtain ⟨m0, m1, m2, mf⟩ := hMM.three
        cases u
        all_goals try simp only [cond_true, cond_false, Bool.and_true, Bool.and_false, Bool.true_and, Bool.false_and, Bool.and_self, Bool.not_true, Bool.not_false] at h5 g5 h59 g59
        all_goals have k59 := Inv.some_bool g59
        all_goals (first | done | skip)
        all_goals (skip)
        all_goals go_simp
        all_goals first | exact hK _ _ (Below.refl _ _) (fun _ => rfl) | exact hK undef _ (Below.refl _ _) (fun _ => rfl)
      · intro act wa hC hd H O K hK
        clear hd
        obtain ⟨hB, hA, hBB, hCC, hMM⟩ := hC
        have h60 : act.tmps.getD 60 undef = cond u (.agg #[.int .i64 p, .int .i64 q, .int .i64 r]) undef := H 1 4 60 (by kernel_rfl) rfl
        have g60 := Array.getD_eq_getD_getElem?.symm.trans h60
        have h61 : act.tmps.getD 61 undef = cond u (.agg #[.int .i64 x, .int .i64 y, .int .i64 z]) undef := H 1 5 61 (by kernel_rfl) rfl
        have g61 := Array.getD_eq_getD_getElem?.symm.trans h61
        have h59 : act.tmps.getD 59 undef = .bool u := H 1 3 59 (by kernel_rfl) rfl
        have g59 := Array.getD_eq_getD_getElem?.symm.trans h59
        clear H O
        obtain ⟨a0, a1, a2, af⟩ := hA.three
        obtain ⟨b0, b1, b2, bf⟩ := hBB.three
        obtain ⟨c0, c1, c2, cf⟩ := hCC.three
        obtain ⟨m0, m1, m2, mf⟩ := hMM.three
        cases u
        all_goals try simp only [cond_true, cond_false, Bool.and_true, Bool.and_false, Bool.true_and, Bool.false_and, Bool.and_self, Bool.not_true, Bool.not_false] at h60 g60 h61 g61 h59 g59
        all_goals have k59 := Inv.some_bool g59
        all_goals (first | done | skip)
        all_goals (skip)
        all_goals go_simp
        all_goals first | exact hK _ _ (Below.refl _ _) (fun _ => rfl) | exact hK undef _ (Below.refl _ _) (fun _ => rfl) | (refine (Covers_any _ p q r x y z).mono ?_; rintro e w1 ⟨rfl, hb⟩; exact hK _ _ hb (fun _ => rfl))
      · intro act wa hC hd H O K hK
        clear hd
        obtain ⟨hB, hA, hBB, hCC, hMM⟩ := hC
        have h6 := O 6 (by kernel_rfl)
        have g6 := Array.getD_eq_getD_getElem?.symm.trans h6
        have h59 : act.tmps.getD 59 undef = .bool u := H 1 3 59 (by kernel_rfl) rfl
        have g59 := Array.getD_eq_getD_getElem?.symm.trans h59
        clear H O
        obtain ⟨a0, a1, a2, af⟩ := hA.three
        obtain ⟨b0, b1, b2, bf⟩ := hBB.three
        obtain ⟨c0, c1, c2, cf⟩ := hCC.three
        obtain ⟨m0, m1, m2, mf⟩ := hMM.three
        cases u
        all_goals try simp only [cond_true, cond_false, Bool.and_true, Bool.and_false, Bool.true_and, Bool.false_and, Bool.and_self, Bool.not_true, Bool.not_false] at h6 g6 h59 g59
        all_goals have k59 := Inv.some_bool g59
        all_goals (first | done | skip)
        all_goals (skip)
        all_goals go_simp
        all_goals first | exact hK _ _ (Below.refl _ _) (fun _ => rfl) | exact hK undef _ (Below.refl _ _) (fun _ => rfl)
      · intro act wa hC hd H O K hK
        clear hd
        obtain ⟨hB, hA, hBB, hCC, hMM⟩ := hC
        have h9 := O 9 (by kernel_rfl)
        have g9 := Array.getD_eq_getD_getElem?.symm.trans h9
        have h59 : act.tmps.getD 59 undef = .bool u := H 1 3 59 (by kernel_rfl) rfl
        have g59 := Array.getD_eq_getD_getElem?.symm.trans h59
        clear H O
        obtain ⟨a0, a1, a2, af⟩ := hA.three
        obtain ⟨b0, b1, b2, bf⟩ := hBB.three
        obtain ⟨c0, c1, c2, cf⟩ := hCC.three
        obtain ⟨m0, m1, m2, mf⟩ := hMM.three
        cases u
        all_goals try simp only [cond_true, cond_false, Bool.and_true, Bool.and_false, Bool.true_and, Bool.false_and, Bool.and_self, Bool.not_true, Bool.not_false] at h9 g9 h59 g59
        all_goals have k59 := Inv.some_bool g59
        all_goals (first | done | skip)
        all_goals (skip)
        all_goals go_simp
        all_goals first | exact hK _ _ (Below.refl _ _) (fun _ => rfl) | exact hK undef _ (Below.refl _ _) (fun _ => rfl)
      · intro act wa hC hd H O K hK
        clear hd
        obtain ⟨hB, hA, hBB, hCC, hMM⟩ := hC
        have h63 : act.tmps.getD 63 undef = cond u (.agg #[.int .i64 p, .int .i64 q, .int .i64 r]) undef := H 1 7 63 (by kernel_rfl) rfl
        have g63 := Array.getD_eq_getD_getElem?.symm.trans h63
        have h64 : act.tmps.getD 64 undef = cond u (.agg #[.int .i64 (max a x), .int .i64 (max b y), .int .i64 (max c z)]) undef := H 1 8 64 (by kernel_rfl) rfl
        have g64 := Array.getD_eq_getD_getElem?.symm.trans h64
        have h59 : act.tmps.getD 59 undef = .bool u := H 1 3 59 (by kernel_rfl) rfl
        have g59 := Array.getD_eq_getD_getElem?.symm.trans h59
        clear H O
        obtain ⟨a0, a1, a2, af⟩ := hA.three
        obtain ⟨b0, b1, b2, bf⟩ := hBB.three
        obtain ⟨c0, c1, c2, cf⟩ := hCC.three
        obtain ⟨m0, m1, m2, mf⟩ := hMM.three
        cases u
        all_goals try simp only [cond_true, cond_false, Bool.and_true, Bool.and_false, Bool.true_and, Bool.false_and, Bool.and_self, Bool.not_true, Bool.not_false] at h63 g63 h64 g64 h59 g59
        all_goals have k59 := Inv.some_bool g59
        all_goals (first | done | skip)
        all_goals (skip)
        all_goals go_simp
        all_goals first | exact hK _ _ (Below.refl _ _) (fun _ => rfl) | exact hK undef _ (Below.refl _ _) (fun _ => rfl) | (refine (Covers_any _ p q r _ _ _).mono ?_; rintro e w1 ⟨rfl, hb⟩; rw [← cov_both HCA.out.symm]; exact hK _ _ hb (fun _ => rfl))
      · intro act wa hC hd H O K hK
        clear hd
        obtain ⟨hB, hA, hBB, hCC, hMM⟩ := hC
        have h62 : act.tmps.getD 62 undef = cond u (.bool (covB p q r x y z)) undef := H 1 6 62 (by kernel_rfl) rfl
        have g62 := Array.getD_eq_getD_getElem?.symm.trans h62
        have h65 : act.tmps.getD 65 undef = cond u (.bool (covB p q r x y z)) undef := H 1 9 65 (by kernel_rfl) rfl
        have g65 := Array.getD_eq_getD_getElem?.symm.trans h65
        have h59 : act.tmps.getD 59 undef = .bool u := H 1 3 59 (by kernel_rfl) rfl
        have g59 := Array.getD_eq_getD_getElem?.symm.trans h59
        clear H O
        obtain ⟨a0, a1, a2, af⟩ := hA.three
        obtain ⟨b0, b1, b2, bf⟩ := hBB.three
        obtain ⟨c0, c1, c2, cf⟩ := hCC.three
        obtain ⟨m0, m1, m2, mf⟩ := hMM.three
        cases u
        all_goals try simp only [cond_true, cond_false, Bool.and_true, Bool.and_false, Bool.true_and, Bool.false_and, Bool.and_self, Bool.not_true, Bool.not_false] at h62 g62 h65 g65 h59 g59
        all_goals have k59 := Inv.some_bool g59
        all_goals (first | done | skip)
        all_goals (skip)
        all_goals go_simp
        all_goals first | exact hK _ _ (Below.refl _ _) (fun _ => rfl) | exact hK undef _ (Below.refl _ _) (fun _ => rfl)
      · intro act wa hC hd H O K hK
        clear hd
        obtain ⟨hB, hA, hBB, hCC, hMM⟩ := hC
        have h59 : act.tmps.getD 59 undef = .bool u := H 1 3 59 (by kernel_rfl) rfl
        have g59 := Array.getD_eq_getD_getElem?.symm.trans h59
        have h66 : act.tmps.getD 66 undef = cond u (.bool false) undef := H 1 10 66 (by kernel_rfl) rfl
        have g66 := Array.getD_eq_getD_getElem?.symm.trans h66
        clear H O
        obtain ⟨a0, a1, a2, af⟩ := hA.three
        obtain ⟨b0, b1, b2, bf⟩ := hBB.three
        obtain ⟨c0, c1, c2, cf⟩ := hCC.three
        obtain ⟨m0, m1, m2, mf⟩ := hMM.three
        cases u
        all_goals try simp only [cond_true, cond_false, Bool.and_true, Bool.and_false, Bool.true_and, Bool.false_and, Bool.and_self, Bool.not_true, Bool.not_false] at h59 g59 h66 g66
        all_goals (first | done | skip)
        all_goals (skip)
        all_goals go_simp
        all_goals first | exact hK _ _ (Below.refl _ _) (fun _ => rfl) | exact hK undef _ (Below.refl _ _) (fun _ => rfl)
    · intro us w' hC hF
      obtain ⟨hB, hA, hBB, hCC, hMM⟩ := hC
      have u67 : us 67 = .bool false := hF 11 67 rfl
      clear hF
      simp only [List.foldl]
      go_simp
      go_wp2
      obtain ⟨u8, HU⟩ : ∃ u, u = covB a b c x y z := ⟨_, rfl⟩
      have HP8 := Lib.hid HU; clear HU
      obtain ⟨v8, HU⟩ : ∃ u, u = covB x y z p q r := ⟨_, rfl⟩
      have HQ8 := Lib.hid HU; clear HU
      obtain ⟨e8, HU⟩ : ∃ u, u = eqcB a b c x y z := ⟨_, rfl⟩
      have HE8 := Lib.hid HU; clear HU
      clear u67 HC4
      have HC4 := Lib.hid (show CO w w.heap.size (w.heap.size + 1) (w.heap.size + 2) gm a b c x y z p q r w' from ⟨hB, hA, hBB, hCC, hMM⟩)
      clear hB hA hBB hCC hMM
      obtain ⟨w5, hw5⟩ : ∃ w5, w5 = w' := ⟨_, rfl⟩
      rw [← hw5] at HC4 ⊢
      clear hw5
      refine Inv.region_below (fun i v w' => match i with
          | 0 => v = .agg #[.int .i64 a, .int .i64 b, .int .i64 c]
          | 1 => v = .agg #[.int .i64 x, .int .i64 y, .int .i64 z]
          | 2 => v = .bool u8
          | 3 => v = .bool u8
          | 4 => v = cond u8 (.agg #[.int .i64 x, .int .i64 y, .int .i64 z]) undef
          | 5 => v = cond u8 (.agg #[.int .i64 p, .int .i64 q, .int .i64 r]) undef
          | 6 => v = cond u8 (.bool v8) undef
          | 7 => v = .bool (u8 && v8)
          | 8 => v = .bool (u8 && v8)
          | 9 => v = cond (u8 && v8) (.agg #[.int .i64 a, .int .i64 b, .int .i64 c]) undef
          | 10 => v = cond (u8 && v8) (.agg #[.int .i64 p, .int .i64 q, .int .i64 r]) undef
          | 11 => v = cond (u8 && v8) (.bool true) undef
          | 12 => v = cond (u8 && v8) (.bool false) undef
          | 13 => v = .bool false
          | 14 => v = .bool false
          | 15 => v = .agg #[.int .i64 a, .int .i64 b, .int .i64 c]
          | 16 => v = .agg #[.int .i64 x, .int .i64 y, .int .i64 z]
          | 17 => v = .bool u8
          | 18 => v = .bool u8
          | 19 => v = cond u8 (.agg #[.int .i64 x, .int .i64 y, .int .i64 z]) undef
          | 20 => v = cond u8 (.agg #[.int .i64 a, .int .i64 b, .int .i64 c]) undef
          | 21 => v = cond u8 (.bool e8) undef
          | 22 => v = cond u8 (.agg #[.int .i64 a, .int .i64 b, .int .i64 c]) undef
          | 23 => v = cond u8 (.agg #[.int .i64 x, .int .i64 y, .int .i64 z]) undef
          | 24 => v = cond u8 (.bool e8) undef
          | 25 => v = cond u8 (.bool false) undef
          | 26 => v = .bool false
          | 27 => v = .bool false
          | _ => True)
        (fun w' => CO w w.heap.size (w.heap.size + 1) (w.heap.size + 2) gm a b c x y z p q r w') 117 [68, 69, 70, 71, 72, 73, 74, 75, 76, 77, 78, 79, 80, 81, 82, 83, 84, 85, 86, 87, 88, 89, 90, 91, 92, 93, 94, 95] (by kernel_rfl) rfl (by kernel_rfl) (by kernel_rfl) ?_ ?_ ?_ ?_
      · intro v v' hC hb
        obtain ⟨hB, hA, hBB, hCC, hMM⟩ := hC
        exact CO.keep ⟨hB, hA, hBB, hCC, hMM⟩ hb
      · exact CO.keep HC4.out (Below.refl _ _).drew
      · refine ⟨⟨fun _ _ _ h _ => h, ?_⟩, ⟨fun _ _ _ h _ => h, ?_⟩, ⟨fun _ _ _ h _ => h, ?_⟩, ⟨fun _ _ _ h _ => h, ?_⟩, ⟨fun _ _ _ h _ => h, ?_⟩, ⟨fun _ _ _ h _ => h, ?_⟩, ⟨fun _ _ _ h _ => h, ?_⟩, ⟨fun _ _ _ h _ => h, ?_⟩, ⟨fun _ _ _ h _ => h, ?_⟩, ⟨fun _ _ _ h _ => h, ?_⟩, ⟨fun _ _ _ h _ => h, ?_⟩, ⟨fun _ _ _ h _ => h, ?_⟩, ⟨fun _ _ _ h _ => h, ?_⟩, ⟨fun _ _ _ h _ => h, ?_⟩, ⟨fun _ _ _ h _ => h, ?_⟩, ⟨fun _ _ _ h _ => h, ?_⟩, ⟨fun _ _ _ h _ => h, ?_⟩, ⟨fun _ _ _ h _ => h, ?_⟩, ⟨fun _ _ _ h _ => h, ?_⟩, ⟨fun _ _ _ h _ => h, ?_⟩, ⟨fun _ _ _ h _ => h, ?_⟩, ⟨fun _ _ _ h _ => h, ?_⟩, ⟨fun _ _ _ h _ => h, ?_⟩, ⟨fun _ _ _ h _ => h, ?_⟩, ⟨fun _ _ _ h _ => h, ?_⟩, ⟨fun _ _ _ h _ => h, ?_⟩, ⟨fun _ _ _ h _ => h, ?_⟩, ⟨fun _ _ _ h _ => h, ?_⟩, trivial⟩
        · intro act wa hC hd H O K hK
          clear hd
          obtain ⟨hB, hA, hBB, hCC, hMM⟩ := hC
          have h4 := O 4 (by kernel_rfl)
          have g4 := Array.getD_eq_getD_getElem?.symm.trans h4
          clear H O
          obtain ⟨a0, a1, a2, af⟩ := hA.three
          obtain ⟨b0, b1, b2, bf⟩ := hBB.three
          obtain ⟨c0, c1, c2, cf⟩ := hCC.three
          go_simp
          exact hK _ _ (Below.refl _ _) (fun _ => rfl)
        · intro act wa hC hd H O K hK
          clear hd
          obtain ⟨hB, hA, hBB, hCC, hMM⟩ := hC
          have h5 := O 5 (by kernel_rfl)
          have g5 := Array.getD_eq_getD_getElem?.symm.trans h5
          clear H O
          obtain ⟨a0, a1, a2, af⟩ := hA.three
          obtain ⟨b0, b1, b2, bf⟩ := hBB.three
          obtain ⟨c0, c1, c2, cf⟩ := hCC.three
          go_simp
          exact hK _ _ (Below.refl _ _) (fun _ => rfl)
        · intro act wa hC hd H O K hK
          clear hd
          obtain ⟨hB, hA, hBB, hCC, hMM⟩ := hC
          have h68 : act.tmps.getD 68 undef = .agg #[.int .i64 a, .int .i64 b, .int .i64 c] := H 1 0 68 (by kernel_rfl) rfl
          have g68 := Array.getD_eq_getD_getElem?.symm.trans h68
          have h69 : act.tmps.getD 69 undef = .agg #[.int .i64 x, .int .i64 y, .int .i64 z] := H 1 1 69 (by kernel_rfl) rfl
          have g69 := Array.getD_eq_getD_getElem?.symm.trans h69
          clear H O
          obtain ⟨a0, a1, a2, af⟩ := hA.three
          obtain ⟨b0, b1, b2, bf⟩ := hBB.three
          obtain ⟨c0, c1, c2, cf⟩ := hCC.three
          go_simp
          refine (Covers_any _ a b c x y z).mono ?_
          rintro e w1 ⟨rfl, hb⟩
          rw [← HP8.out]
          exact hK _ _ hb (fun _ => rfl)
        · intro act wa hC hd H O K hK
          clear hd
          obtain ⟨hB, hA, hBB, hCC, hMM⟩ := hC
          have h70 : act.tmps.getD 70 undef = .bool u8 := H 1 2 70 (by kernel_rfl) rfl
          have g70 := Array.getD_eq_getD_getElem?.symm.trans h70
          clear H O
          obtain ⟨a0, a1, a2, af⟩ := hA.three
          obtain ⟨b0, b1, b2, bf⟩ := hBB.three
          obtain ⟨c0, c1, c2, cf⟩ := hCC.three
          go_simp
          exact hK _ _ (Below.refl _ _) (fun _ => rfl)
        · intro act wa hC hd H O K hK
          clear hd
          obtain ⟨hB, hA, hBB, hCC, hMM⟩ := hC
          have h5 := O 5 (by kernel_rfl)
          have g5 := Array.getD_eq_getD_getElem?.symm.trans h5
          have h71 : act.tmps.getD 71 undef = .bool u8 := H 1 3 71 (by kernel_rfl) rfl
          have g71 := Array.getD_eq_getD_getElem?.symm.trans h71
          clear H O
          obtain ⟨a0, a1, a2, af⟩ := hA.three
          obtain ⟨b0, b1, b2, bf⟩ := hBB.three
          obtain ⟨c0, c1, c2, cf⟩ := hCC.three
          cases u8 <;> cases v8
          all_goals try simp only [cond_true, cond_false, Bool.and_true, Bool.and_false, Bool.true_and, Bool.false_and, Bool.and_self, Bool.not_true, Bool.not_false] at h5 g5 h71 g71
          all_goals have k71 := Inv.some_bool g71
          all_goals (first | done | skip)
          all_goals (skip)
          all_goals go_simp
          all_goals first | exact hK _ _ (Below.refl _ _) (fun _ => rfl) | exact hK undef _ (Below.refl _ _) (fun _ => rfl)
        · intro act wa hC hd H O K hK
          clear hd
          obtain ⟨hB, hA, hBB, hCC, hMM⟩ := hC
          have h6 := O 6 (by kernel_rfl)
          have g6 := Array.getD_eq_getD_getElem?.symm.trans h6
          have h71 : act.tmps.getD 71 undef = .bool u8 := H 1 3 71 (by kernel_rfl) rfl
          have g71 := Array.getD_eq_getD_getElem?.symm.trans h71
          clear H O
          obtain ⟨a0, a1, a2, af⟩ := hA.three
          obtain ⟨b0, b1, b2, bf⟩ := hBB.three
          obtain ⟨c0, c1, c2, cf⟩ := hCC.three
          cases u8 <;> cases v8
          all_goals try simp only [cond_true, cond_false, Bool.and_true, Bool.and_false, Bool.true_and, Bool.false_and, Bool.and_self, Bool.not_true, Bool.not_false] at h6 g6 h71 g71
          all_goals have k71 := Inv.some_bool g71
          all_goals (first | done | skip)
          all_goals (skip)
          all_goals go_simp
          all_goals first | exact hK _ _ (Below.refl _ _) (fun _ => rfl) | exact hK undef _ (Below.refl _ _) (fun _ => rfl)
        · intro act wa hC hd H O K hK
          clear hd
          obtain ⟨hB, hA, hBB, hCC, hMM⟩ := hC
          have h72 : act.tmps.getD 72 undef = cond u8 (.agg #[.int .i64 x, .int .i64 y, .int .i64 z]) undef := H 1 4 72 (by kernel_rfl) rfl
          have g72 := Array.getD_eq_getD_getElem?.symm.trans h72
          have h73 : act.tmps.getD 73 undef = cond u8 (.agg #[.int .i64 p, .int .i64 q, .int .i64 r]) undef := H 1 5 73 (by kernel_rfl) rfl
          have g73 := Array.getD_eq_getD_getElem?.symm.trans h73
          have h71 : act.tmps.getD 71 undef = .bool u8 := H 1 3 71 (by kernel_rfl) rfl
          have g71 := Array.getD_eq_getD_getElem?.symm.trans h71
          clear H O
          obtain ⟨a0, a1, a2, af⟩ := hA.three
          obtain ⟨b0, b1, b2, bf⟩ := hBB.three
          obtain ⟨c0, c1, c2, cf⟩ := hCC.three
          cases u8 <;> cases v8
          all_goals try simp only [cond_true, cond_false, Bool.and_true, Bool.and_false, Bool.true_and, Bool.false_and, Bool.and_self, Bool.not_true, Bool.not_false] at h72 g72 h73 g73 h71 g71
          all_goals have k71 := Inv.some_bool g71
          all_goals (first | done | skip)
          all_goals (skip)
          all_goals go_simp
          all_goals first | exact hK _ _ (Below.refl _ _) (fun _ => rfl) | exact hK undef _ (Below.refl _ _) (fun _ => rfl) | (refine (Covers_any _ x y z p q r).mono ?_; rintro e w1 ⟨rfl, hb⟩; rw [← HQ8.out]; exact hK _ _ hb (fun _ => rfl))
        · intro act wa hC hd H O K hK
          clear hd
          obtain ⟨hB, hA, hBB, hCC, hMM⟩ := hC
          have h71 : act.tmps.getD 71 undef = .bool u8 := H 1 3 71 (by kernel_rfl) rfl
          have g71 := Array.getD_eq_getD_getElem?.symm.trans h71
          have h74 : act.tmps.getD 74 undef = cond u8 (.bool v8) undef := H 1 6 74 (by kernel_rfl) rfl
          have g74 := Array.getD_eq_getD_getElem?.symm.trans h74
          clear H O
          obtain ⟨a0, a1, a2, af⟩ := hA.three
          obtain ⟨b0, b1, b2, bf⟩ := hBB.three
          obtain ⟨c0, c1, c2, cf⟩ := hCC.three
          cases u8 <;> cases v8
          all_goals try simp only [cond_true, cond_false, Bool.and_true, Bool.and_false, Bool.true_and, Bool.false_and, Bool.and_self, Bool.not_true, Bool.not_false] at h71 g71 h74 g74
          all_goals (first | done | skip)
          all_goals (skip)
          all_goals go_simp
          all_goals first | exact hK _ _ (Below.refl _ _) (fun _ => rfl) | exact hK undef _ (Below.refl _ _) (fun _ => rfl)
        · intro act wa hC hd H O K hK
          clear hd
          obtain ⟨hB, hA, hBB, hCC, hMM⟩ := hC
          have h75 : act.tmps.getD 75 undef = .bool (u8 && v8) := H 1 7 75 (by kernel_rfl) rfl
          have g75 := Array.getD_eq_getD_getElem?.symm.trans h75
          clear H O
          obtain ⟨a0, a1, a2, af⟩ := hA.three
          obtain ⟨b0, b1, b2, bf⟩ := hBB.three
          obtain ⟨c0, c1, c2, cf⟩ := hCC.three
          cases u8 <;> cases v8
          all_goals try simp only [cond_true, cond_false, Bool.and_true, Bool.and_false, Bool.true_and, Bool.false_and, Bool.and_self, Bool.not_true, Bool.not_false] at h75 g75
          all_goals (first | done | skip)
          all_goals (skip)
          all_goals go_simp
          all_goals first | exact hK _ _ (Below.refl _ _) (fun _ => rfl) | exact hK undef _ (Below.refl _ _) (fun _ => rfl)
        · intro act wa hC hd H O K hK
          clear hd
          obtain ⟨hB, hA, hBB, hCC, hMM⟩ := hC
          have h4 := O 4 (by kernel_rfl)
          have g4 := Array.getD_eq_getD_getElem?.symm.trans h4
          have h76 : act.tmps.getD 76 undef = .bool (u8 && v8) := H 1 8 76 (by kernel_rfl) rfl
          have g76 := Array.getD_eq_getD_getElem?.symm.trans h76
          clear H O
          obtain ⟨a0, a1, a2, af⟩ := hA.three
          obtain ⟨b0, b1, b2, bf⟩ := hBB.three
          obtain ⟨c0, c1, c2, cf⟩ := hCC.three
          cases u8 <;> cases v8
          all_goals try simp only [cond_true, cond_false, Bool.and_true, Bool.and_false, Bool.true_and, Bool.false_and, Bool.and_self, Bool.not_true, Bool.not_false] at h4 g4 h76 g76
          all_goals have k76 := Inv.some_bool g76
          all_goals (first | done | skip)
          all_goals (skip)
          all_goals go_simp
          all_goals first | exact hK _ _ (Below.refl _ _) (fun _ => rfl) | exact hK undef _ (Below.refl _ _) (fun _ => rfl)
        · intro act wa hC hd H O K hK
          clear hd
          obtain ⟨hB, hA, hBB, hCC, hMM⟩ := hC
          have h6 := O 6 (by kernel_rfl)
          have g6 := Array.getD_eq_getD_getElem?.symm.trans h6
          have h76 : act.tmps.getD 76 undef = .bool (u8 && v8) := H 1 8 76 (by kernel_rfl) rfl
          have g76 := Array.getD_eq_getD_getElem?.symm.trans h76
          clear H O
          obtain ⟨a0, a1, a2, af⟩ := hA.three
          obtain ⟨b0, b1, b2, bf⟩ := hBB.three
          obtain ⟨c0, c1, c2, cf⟩ := hCC.three
          cases u8 <;> cases v8
          all_goals try simp only [cond_true, cond_false, Bool.and_true, Bool.and_false, Bool.true_and, Bool.false_and, Bool.and_self, Bool.not_true, Bool.not_false] at h6 g6 h76 g76
          all_goals have k76 := Inv.some_bool g76
          all_goals (first | done | skip)
          all_goals (skip)
          all_goals go_simp
          all_goals first | exact hK _ _ (Below.refl _ _) (fun _ => rfl) | exact hK undef _ (Below.refl _ _) (fun _ => rfl)
        · intro act wa hC hd H O K hK
          clear hd
          obtain ⟨hB, hA, hBB, hCC, hMM⟩ := hC
          have h77 : act.tmps.getD 77 undef = cond (u8 && v8) (.agg #[.int .i64 a, .int .i64 b, .int .i64 c]) undef := H 1 9 77 (by kernel_rfl) rfl
          have g77 := Array.getD_eq_getD_getElem?.symm.trans h77
          have h78 : act.tmps.getD 78 undef = cond (u8 && v8) (.agg #[.int .i64 p, .int .i64 q, .int .i64 r]) undef := H 1 10 78 (by kernel_rfl) rfl
          have g78 := Array.getD_eq_getD_getElem?.symm.trans h78
          have h76 : act.tmps.getD 76 undef = .bool (u8 && v8) := H 1 8 76 (by kernel_rfl) rfl
          have g76 := Array.getD_eq_getD_getElem?.symm.trans h76
          clear H O
          obtain ⟨a0, a1, a2, af⟩ := hA.three
          obtain ⟨b0, b1, b2, bf⟩ := hBB.three
          obtain ⟨c0, c1, c2, cf⟩ := hCC.three
          cases u8 <;> cases v8
          all_goals try simp only [cond_true, cond_false, Bool.and_true, Bool.and_false, Bool.true_and, Bool.false_and, Bool.and_self, Bool.not_true, Bool.not_false] at h77 g77 h78 g78 h76 g76
          all_goals have k76 := Inv.some_bool g76
          all_goals (first | done | skip)
          all_goals (skip)
          all_goals go_simp
          all_goals first | exact hK _ _ (Below.refl _ _) (fun _ => rfl) | exact hK undef _ (Below.refl _ _) (fun _ => rfl) | (refine (Covers_any _ a b c p q r).mono ?_; rintro e w1 ⟨rfl, hb⟩; rw [cov_trans HP8.out.symm HQ8.out.symm]; exact hK _ _ hb (fun _ => rfl))
        · intro act wa hC hd H O K hK
          clear hd
          obtain ⟨hB, hA, hBB, hCC, hMM⟩ := hC
          have h79 : act.tmps.getD 79 undef = cond (u8 && v8) (.bool true) undef := H 1 11 79 (by kernel_rfl) rfl
          have g79 := Array.getD_eq_getD_getElem?.symm.trans h79
          have h76 : act.tmps.getD 76 undef = .bool (u8 && v8) := H 1 8 76 (by kernel_rfl) rfl
          have g76 := Array.getD_eq_getD_getElem?.symm.trans h76
          clear H O
          obtain ⟨a0, a1, a2, af⟩ := hA.three
          obtain ⟨b0, b1, b2, bf⟩ := hBB.three
          obtain ⟨c0, c1, c2, cf⟩ := hCC.three
          cases u8 <;> cases v8
          all_goals try simp only [cond_true, cond_false, Bool.and_true, Bool.and_false, Bool.true_and, Bool.false_and, Bool.and_self, Bool.not_true, Bool.not_false] at h79 g79 h76 g76
          all_goals have k76 := Inv.some_bool g76
          all_goals (first | done | skip)
          all_goals (skip)
          all_goals go_simp
          all_goals first | exact hK _ _ (Below.refl _ _) (fun _ => rfl) | exact hK undef _ (Below.refl _ _) (fun _ => rfl)
        · intro act wa hC hd H O K hK
          clear hd
          obtain ⟨hB, hA, hBB, hCC, hMM⟩ := hC
          have h76 : act.tmps.getD 76 undef = .bool (u8 && v8) := H 1 8 76 (by kernel_rfl) rfl
          have g76 := Array.getD_eq_getD_getElem?.symm.trans h76
          have h80 : act.tmps.getD 80 undef = cond (u8 && v8) (.bool false) undef := H 1 12 80 (by kernel_rfl) rfl
          have g80 := Array.getD_eq_getD_getElem?.symm.trans h80
          clear H O
          obtain ⟨a0, a1, a2, af⟩ := hA.three
          obtain ⟨b0, b1, b2, bf⟩ := hBB.three
          obtain ⟨c0, c1, c2, cf⟩ := hCC.three
          cases u8 <;> cases v8
          all_goals try simp only [cond_true, cond_false, Bool.and_true, Bool.and_false, Bool.true_and, Bool.false_and, Bool.and_self, Bool.not_true, Bool.not_false] at h76 g76 h80 g80
          all_goals (first | done | skip)
          all_goals (skip)
          all_goals go_simp
          all_goals first | exact hK _ _ (Below.refl _ _) (fun _ => rfl) | exact hK undef _ (Below.refl _ _) (fun _ => rfl)
        · intro act wa hC hd H O K hK
          clear hd
          obtain ⟨hB, hA, hBB, hCC, hMM⟩ := hC
          have h81 : act.tmps.getD 81 undef = .bool false := H 1 13 81 (by kernel_rfl) rfl
          have g81 := Array.getD_eq_getD_getElem?.symm.trans h81
          clear H O
          obtain ⟨a0, a1, a2, af⟩ := hA.three
          obtain ⟨b0, b1, b2, bf⟩ := hBB.three
          obtain ⟨c0, c1, c2, cf⟩ := hCC.three
          go_simp
          exact hK _ _ (Below.refl _ _) (fun _ => rfl)
        · intro act wa hC hd H O K hK
          clear hd
          obtain ⟨hB, hA, hBB, hCC, hMM⟩ := hC
          have h4 := O 4 (by kernel_rfl)
          have g4 := Array.getD_eq_getD_getElem?.symm.trans h4
          have h82 : act.tmps.getD 82 undef = .bool false := H 1 14 82 (by kernel_rfl) rfl
          have g82 := Array.getD_eq_getD_getElem?.symm.trans h82
          clear H O
          obtain ⟨a0, a1, a2, af⟩ := hA.three
          obtain ⟨b0, b1, b2, bf⟩ := hBB.three
          obtain ⟨c0, c1, c2, cf⟩ := hCC.three
          cases u8 <;> cases v8
          all_goals try simp only [cond_true, cond_false, Bool.and_true, Bool.and_false, Bool.true_and, Bool.false_and, Bool.and_self, Bool.not_true, Bool.not_false] at h4 g4 h82 g82
          all_goals have k82 := Inv.some_bool g82
          all_goals (first | done | skip)
          all_goals (skip)
          all_goals go_simp
          all_goals first | exact hK _ _ (Below.refl _ _) (fun _ => rfl) | exact hK undef _ (Below.refl _ _) (fun _ => rfl)
        · intro act wa hC hd H O K hK
          clear hd
          obtain ⟨hB, hA, hBB, hCC, hMM⟩ := hC
          have h5 := O 5 (by kernel_rfl)
          have g5 := Array.getD_eq_getD_getElem?.symm.trans h5
          have h82 : act.tmps.getD 82 undef = .bool false := H 1 14 82 (by kernel_rfl) rfl
          have g82 := Array.getD_eq_getD_getElem?.symm.trans h82
          clear H O
          obtain ⟨a0, a1, a2, af⟩ := hA.three
          obtain ⟨b0, b1, b2, bf⟩ := hBB.three
          obtain ⟨c0, c1, c2, cf⟩ := hCC.three
          cases u8 <;> cases v8
          all_goals try simp only [cond_true, cond_false, Bool.and_true, Bool.and_false, Bool.true_and, Bool.false_and, Bool.and_self, Bool.not_true, Bool.not_false] at h5 g5 h82 g82
          all_goals have k82 := Inv.some_bool g82
          all_goals (first | done | skip)
          all_goals (skip)
          all_goals go_simp
          all_goals first | exact hK _ _ (Below.refl _ _) (fun _ => rfl) | exact hK undef _ (Below.refl _ _) (fun _ => rfl)
        · intro act wa hC hd H O K hK
          clear hd
          obtain ⟨hB, hA, hBB, hCC, hMM⟩ := hC
          have h83 : act.tmps.getD 83 undef = .agg #[.int .i64 a, .int .i64 b, .int .i64 c] := H 1 15 83 (by kernel_rfl) rfl
          have g83 := Array.getD_eq_getD_getElem?.symm.trans h83
          have h84 : act.tmps.getD 84 undef = .agg #[.int .i64 x, .int .i64 y, .int .i64 z] := H 1 16 84 (by kernel_rfl) rfl
          have g84 := Array.getD_eq_getD_getElem?.symm.trans h84
          have h82 : act.tmps.getD 82 undef = .bool false := H 1 14 82 (by kernel_rfl) rfl
          have g82 := Array.getD_eq_getD_getElem?.symm.trans h82
          clear H O
          obtain ⟨a0, a1, a2, af⟩ := hA.three
          obtain ⟨b0, b1, b2, bf⟩ := hBB.three
          obtain ⟨c0, c1, c2, cf⟩ := hCC.three
          cases u8 <;> cases v8
          all_goals try simp only [cond_true, cond_false, Bool.and_true, Bool.and_false, Bool.true_and, Bool.false_and, Bool.and_self, Bool.not_true, Bool.not_false] at h83 g83 h84 g84 h82 g82
          all_goals have k82 := Inv.some_bool g82
          all_goals (first | done | skip)
          all_goals (skip)
          all_goals go_simp
          all_goals first | exact hK _ _ (Below.refl _ _) (fun _ => rfl) | exact hK undef _ (Below.refl _ _) (fun _ => rfl) | (refine (Covers_any _ a b c x y z).mono ?_; rintro e w1 ⟨rfl, hb⟩; rw [← HP8.out]; exact hK _ _ hb (fun _ => rfl))
        · intro act wa hC hd H O K hK
          clear hd
          obtain ⟨hB, hA, hBB, hCC, hMM⟩ := hC
          have h85 : act.tmps.getD 85 undef = .bool u8 := H 1 17 85 (by kernel_rfl) rfl
          have g85 := Array.getD_eq_getD_getElem?.symm.trans h85
          have h82 : act.tmps.getD 82 undef = .bool false := H 1 14 82 (by kernel_rfl) rfl
          have g82 := Array.getD_eq_getD_getElem?.symm.trans h82
          clear H O
          obtain ⟨a0, a1, a2, af⟩ := hA.three
          obtain ⟨b0, b1, b2, bf⟩ := hBB.three
          obtain ⟨c0, c1, c2, cf⟩ := hCC.three
          cases u8 <;> cases v8
          all_goals try simp only [cond_true, cond_false, Bool.and_true, Bool.and_false, Bool.true_and, Bool.false_and, Bool.and_self, Bool.not_true, Bool.not_false] at h85 g85 h82 g82
          all_goals have k82 := Inv.some_bool g82
          all_goals (first | done | skip)
          all_goals (skip)
          all_goals go_simp
          all_goals first | exact hK _ _ (Below.refl _ _) (fun _ => rfl) | exact hK undef _ (Below.refl _ _) (fun _ => rfl)
        · intro act wa hC hd H O K hK
          clear hd
          obtain ⟨hB, hA, hBB, hCC, hMM⟩ := hC
          have h5 := O 5 (by kernel_rfl)
          have g5 := Array.getD_eq_getD_getElem?.symm.trans h5
          have h86 : act.tmps.getD 86 undef = .bool u8 := H 1 18 86 (by kernel_rfl) rfl
          have g86 := Array.getD_eq_getD_getElem?.symm.trans h86
          clear H O
          obtain ⟨a0, a1, a2, af⟩ := hA.three
          obtain ⟨b0, b1, b2, bf⟩ := hBB.three
          obtain ⟨c0, c1, c2, cf⟩ := hCC.three
          cases u8 <;> cases v8
          all_goals try simp only [cond_true, cond_false, Bool.and_true, Bool.and_false, Bool.true_and, Bool.false_and, Bool.and_self, Bool.not_true, Bool.not_false] at h5 g5 h86 g86
          all_goals have k86 := Inv.some_bool g86
          all_goals (first | done | skip)
          all_goals (skip)
          all_goals go_simp
          all_goals first | exact hK _ _ (Below.refl _ _) (fun _ => rfl) | exact hK undef _ (Below.refl _ _) (fun _ => rfl)
        · intro act wa hC hd H O K hK
          clear hd
          obtain ⟨hB, hA, hBB, hCC, hMM⟩ := hC
          have h4 := O 4 (by kernel_rfl)
          have g4 := Array.getD_eq_getD_getElem?.symm.trans h4
          have h86 : act.tmps.getD 86 undef = .bool u8 := H 1 18 86 (by kernel_rfl) rfl
          have g86 := Array.getD_eq_getD_getElem?.symm.trans h86
          clear H O
          obtain ⟨a0, a1, a2, af⟩ := hA.three
          obtain ⟨b0, b1, b2, bf⟩ := hBB.three
          obtain ⟨c0, c1, c2, cf⟩ := hCC.three
          cases u8 <;> cases v8
          all_goals try simp only [cond_true, cond_false, Bool.and_true, Bool.and_false, Bool.true_and, Bool.false_and, Bool.and_self, Bool.not_true, Bool.not_false] at h4 g4 h86 g86
          all_goals have k86 := Inv.some_bool g86
          all_goals (first | done | skip)
          all_goals (skip)
          all_goals go_simp
          all_goals first | exact hK _ _ (Below.refl _ _) (fun _ => rfl) | exact hK undef _ (Below.refl _ _) (fun _ => rfl)
        · intro act wa hC hd H O K hK
          clear hd
          obtain ⟨hB, hA, hBB, hCC, hMM⟩ := hC
          have h87 : act.tmps.getD 87 undef = cond u8 (.agg #[.int .i64 x, .int .i64 y, .int .i64 z]) undef := H 1 19 87 (by kernel_rfl) rfl
          have g87 := Array.getD_eq_getD_getElem?.symm.trans h87
          have h88 : act.tmps.getD 88 undef = cond u8 (.agg #[.int .i64 a, .int .i64 b, .int .i64 c]) undef := H 1 20 88 (by kernel_rfl) rfl
          have g88 := Array.getD_eq_getD_getElem?.symm.trans h88
          have h86 : act.tmps.getD 86 undef = .bool u8 := H 1 18 86 (by kernel_rfl) rfl
          have g86 := Array.getD_eq_getD_getElem?.symm.trans h86
          clear H O
          obtain ⟨a0, a1, a2, af⟩ := hA.three
          obtain ⟨b0, b1, b2, bf⟩ := hBB.three
          obtain ⟨c0, c1, c2, cf⟩ := hCC.three
          cases u8 <;> cases v8
          all_goals try simp only [cond_true, cond_false, Bool.and_true, Bool.and_false, Bool.true_and, Bool.false_and, Bool.and_self, Bool.not_true, Bool.not_false] at h87 g87 h88 g88 h86 g86
          all_goals have k86 := Inv.some_bool g86
          all_goals (first | done | skip)
          all_goals (skip)
          all_goals go_simp
          all_goals first | exact hK _ _ (Below.refl _ _) (fun _ => rfl) | exact hK undef _ (Below.refl _ _) (fun _ => rfl) | (refine (Covers_any _ x y z a b c).mono ?_; rintro e w1 ⟨rfl, hb⟩; rw [cov_eq HP8.out.symm, ← HE8.out]; exact hK _ _ hb (fun _ => rfl))
        · intro act wa hC hd H O K hK
          clear hd
          obtain ⟨hB, hA, hBB, hCC, hMM⟩ := hC
          have h4 := O 4 (by kernel_rfl)
          have g4 := Array.getD_eq_getD_getElem?.symm.trans h4
          have h86 : act.tmps.getD 86 undef = .bool u8 := H 1 18 86 (by kernel_rfl) rfl
          have g86 := Array.getD_eq_getD_getElem?.symm.trans h86
          clear H O
          obtain ⟨a0, a1, a2, af⟩ := hA.three
          obtain ⟨b0, b1, b2, bf⟩ := hBB.three
          obtain ⟨c0, c1, c2, cf⟩ := hCC.three
          cases u8 <;> cases v8
          all_goals try simp only [cond_true, cond_false, Bool.and_true, Bool.and_false, Bool.true_and, Bool.false_and, Bool.and_self, Bool.not_true, Bool.not_false] at h4 g4 h86 g86
          all_goals have k86 := Inv.some_bool g86
          all_goals (first | done | skip)
          all_goals (skip)
          all_goals go_simp
          all_goals first | exact hK _ _ (Below.refl _ _) (fun _ => rfl) | exact hK undef _ (Below.refl _ _) (fun _ => rfl)
        · intro act wa hC hd H O K hK
          clear hd
          obtain ⟨hB, hA, hBB, hCC, hMM⟩ := hC
          have h5 := O 5 (by kernel_rfl)
          have g5 := Array.getD_eq_getD_getElem?.symm.trans h5
          have h86 : act.tmps.getD 86 undef = .bool u8 := H 1 18 86 (by kernel_rfl) rfl
          have g86 := Array.getD_eq_getD_getElem?.symm.trans h86
          clear H O
          obtain ⟨a0, a1, a2, af⟩ := hA.three
          obtain ⟨b0, b1, b2, bf⟩ := hBB.three
          obtain ⟨c0, c1, c2, cf⟩ := hCC.three
          cases u8 <;> cases v8
          all_goals try simp only [cond_true, cond_false, Bool.and_true, Bool.and_false, Bool.true_and, Bool.false_and, Bool.and_self, Bool.not_true, Bool.not_false] at h5 g5 h86 g86
          all_goals have k86 := Inv.some_bool g86
          all_goals (first | done | skip)
          all_goals (skip)
          all_goals go_simp
          all_goals first | exact hK _ _ (Below.refl _ _) (fun _ => rfl) | exact hK undef _ (Below.refl _ _) (fun _ => rfl)
        · intro act wa hC hd H O K hK
          clear hd
          obtain ⟨hB, hA, hBB, hCC, hMM⟩ := hC
          have h90 : act.tmps.getD 90 undef = cond u8 (.agg #[.int .i64 a, .int .i64 b, .int .i64 c]) undef := H 1 22 90 (by kernel_rfl) rfl
          have g90 := Array.getD_eq_getD_getElem?.symm.trans h90
          have h91 : act.tmps.getD 91 undef = cond u8 (.agg #[.int .i64 x, .int .i64 y, .int .i64 z]) undef := H 1 23 91 (by kernel_rfl) rfl
          have g91 := Array.getD_eq_getD_getElem?.symm.trans h91
          have h86 : act.tmps.getD 86 undef = .bool u8 := H 1 18 86 (by kernel_rfl) rfl
          have g86 := Array.getD_eq_getD_getElem?.symm.trans h86
          clear H O
          obtain ⟨a0, a1, a2, af⟩ := hA.three
          obtain ⟨b0, b1, b2, bf⟩ := hBB.three
          obtain ⟨c0, c1, c2, cf⟩ := hCC.three
          cases u8 <;> cases v8
          all_goals try simp only [cond_true, cond_false, Bool.and_true, Bool.and_false, Bool.true_and, Bool.false_and, Bool.and_self, Bool.not_true, Bool.not_false] at h90 g90 h91 g91 h86 g86
          all_goals have k86 := Inv.some_bool g86
          all_goals (first | done | skip)
          all_goals (have qq := eqc_in a b c x y z wa; rw [← HE8.out] at qq)
          all_goals go_simp
          all_goals first | exact hK _ _ (Below.refl _ _) (fun _ => rfl) | exact hK undef _ (Below.refl _ _) (fun _ => rfl)
        · intro act wa hC hd H O K hK
          clear hd
          obtain ⟨hB, hA, hBB, hCC, hMM⟩ := hC
          have h89 : act.tmps.getD 89 undef = cond u8 (.bool e8) undef := H 1 21 89 (by kernel_rfl) rfl
          have g89 := Array.getD_eq_getD_getElem?.symm.trans h89
          have h92 : act.tmps.getD 92 undef = cond u8 (.bool e8) undef := H 1 24 92 (by kernel_rfl) rfl
          have g92 := Array.getD_eq_getD_getElem?.symm.trans h92
          have h86 : act.tmps.getD 86 undef = .bool u8 := H 1 18 86 (by kernel_rfl) rfl
          have g86 := Array.getD_eq_getD_getElem?.symm.trans h86
          clear H O
          obtain ⟨a0, a1, a2, af⟩ := hA.three
          obtain ⟨b0, b1, b2, bf⟩ := hBB.three
          obtain ⟨c0, c1, c2, cf⟩ := hCC.three
          cases u8 <;> cases e8
          all_goals try simp only [cond_true, cond_false, Bool.and_true, Bool.and_false, Bool.true_and, Bool.false_and, Bool.and_self, Bool.not_true, Bool.not_false] at h89 g89 h92 g92 h86 g86
          all_goals have k86 := Inv.some_bool g86
          all_goals (first | done | skip)
          all_goals (skip)
          all_goals go_simp
          all_goals first | exact hK _ _ (Below.refl _ _) (fun _ => rfl) | exact hK undef _ (Below.refl _ _) (fun _ => rfl)
        · intro act wa hC hd H O K hK
          clear hd
          obtain ⟨hB, hA, hBB, hCC, hMM⟩ := hC
          have h86 : act.tmps.getD 86 undef = .bool u8 := H 1 18 86 (by kernel_rfl) rfl
          have g86 := Array.getD_eq_getD_getElem?.symm.trans h86
          have h93 : act.tmps.getD 93 undef = cond u8 (.bool false) undef := H 1 25 93 (by kernel_rfl) rfl
          have g93 := Array.getD_eq_getD_getElem?.symm.trans h93
          have h82 : act.tmps.getD 82 undef = .bool false := H 1 14 82 (by kernel_rfl) rfl
          have g82 := Array.getD_eq_getD_getElem?.symm.trans h82
          clear H O
          obtain ⟨a0, a1, a2, af⟩ := hA.three
          obtain ⟨b0, b1, b2, bf⟩ := hBB.three
          obtain ⟨c0, c1, c2, cf⟩ := hCC.three
          cases u8 <;> cases v8
          all_goals try simp only [cond_true, cond_false, Bool.and_true, Bool.and_false, Bool.true_and, Bool.false_and, Bool.and_self, Bool.not_true, Bool.not_false] at h86 g86 h93 g93 h82 g82
          all_goals have k82 := Inv.some_bool g82
          all_goals (first | done | skip)
          all_goals (skip)
          all_goals go_simp
          all_goals first | exact hK _ _ (Below.refl _ _) (fun _ => rfl) | exact hK undef _ (Below.refl _ _) (fun _ => rfl)
        · intro act wa hC hd H O K hK
          clear hd
          obtain ⟨hB, hA, hBB, hCC, hMM⟩ := hC
          have h82 : act.tmps.getD 82 undef = .bool false := H 1 14 82 (by kernel_rfl) rfl
          have g82 := Array.getD_eq_getD_getElem?.symm.trans h82
          have h94 : act.tmps.getD 94 undef = .bool false := H 1 26 94 (by kernel_rfl) rfl
          have g94 := Array.getD_eq_getD_getElem?.symm.trans h94
          clear H O
          obtain ⟨a0, a1, a2, af⟩ := hA.three
          obtain ⟨b0, b1, b2, bf⟩ := hBB.three
          obtain ⟨c0, c1, c2, cf⟩ := hCC.three
          cases u8
          all_goals try simp only [cond_true, cond_false, Bool.and_true, Bool.and_false, Bool.true_and, Bool.false_and, Bool.and_self, Bool.not_true, Bool.not_false] at h82 g82 h94 g94
          all_goals (first | done | skip)
          all_goals (skip)
          all_goals go_simp
          all_goals first | exact hK _ _ (Below.refl _ _) (fun _ => rfl) | exact hK undef _ (Below.refl _ _) (fun _ => rfl)
      · intro us w' hC hF
        obtain ⟨hB, hA, hBB, hCC, hMM⟩ := hC
        have u95 : us 95 = .bool false := hF 27 95 rfl
        clear hF
        simp only [List.foldl]
        go_simp
        obtain ⟨sx, sy, sz, sd, hst⟩ : ∃ sx sy sz sd, stepL a b c (k % 3) = ((sx, sy, sz), sd) := ⟨_, _, _, _, rfl⟩
        have HST := Lib.hid hst; clear hst
        clear u95 HC4
        obtain ⟨a0, a1, a2, af⟩ := hA.three
        have la := hA.lt
        have HBW := Lib.hid hB
        clear hB hBB hCC hMM
        go_wp2_with fail
        refine (Step_at _ a b c _ sx sy sz sd HST.out).mono ?_
        rintro e w6 ⟨rfl, hb6⟩
        have kA := hA.below hb6 la
        have hs6 := hb6.size
        have HBW6 := Lib.hid (HBW.out.trans (hb6.mono HBW.out.size))
        by_cases hd : sd = 0
        · subst hd
          have hcs := step_cov HST.out
          have kA2 := kA.alloc (.cells #[.int .i64 sx, .int .i64 sy, .int .i64 sz] 23)
          have kS2 := Blk.new w6 23 #[.int .i64 sx, .int .i64 sy, .int .i64 sz]
          clear a0 a1 a2 af
          obtain ⟨a0, a1, a2, af⟩ := kA.three
          have la6 : w.heap.size < w6.heap.size := by omega
          go_wp2_with fail
          refine (Covers_any _ sx sy sz a b c).mono ?_
          rintro e w7 ⟨rfl, hb7⟩
          rw [hcs.1]
          have kA7 := kA2.below hb7 kA2.lt
          have kS7 := kS2.below hb7 kS2.lt
          obtain ⟨s0, s1, s2, sf⟩ := kS7.three
          obtain ⟨c0, c1, c2, cf⟩ := kA7.three
          go_wp2_with fail
          refine (Covers_any _ a b c sx sy sz).mono ?_
          rintro e w8 ⟨rfl, hb8⟩
          rw [hcs.2]
          go_wp2
          go_ret
          refine ⟨rfl, ?_⟩
          have h67 : Below w6.heap.size w6 w7 := ((Below.refl _ _).alloc (Nat.le_refl _) _).trans (hb7.mono (by simp))
          exact (HBW6.out.trans (h67.mono HBW6.out.size)).trans (hb8.mono (Nat.le_trans HBW6.out.size h67.size))
        · have hdn : (sd != 0) = true := by simp; exact hd
          have HD := Lib.hid hd; clear hd
          go_wp2
          go_ret
          exact ⟨rfl, HBW6.out.alloc HBW6.out.size _⟩
end Go.Proofs.Ytignfhdblakcfaa

/- law 10's awake. -/
import Derived.Test.YtjaifieakcnlmaaMh
namespace Go.Proofs.Ytjaifieakcnlmaa
open Go.ChangeShapes Go.WideShapes Go.ChangeAt Go.RowKit Go.Maps
set_option linter.unusedVariables false
set_option linter.unusedSimpArgs false

theorem Ris_of {ms : List Mk} (h1 : ∀ m ∈ ms, 1 ≤ m.1 ∧ m.1 ≤ 4611686018427387903) (h2 : ms.Pairwise (fun a b => a.1 < b.1)) : Ris ms := by
  refine ⟨h1, fun i j a b hij ha hb => ?_⟩
  obtain ⟨hi, ea⟩ := List.getElem?_eq_some_iff.1 ha
  obtain ⟨hj, eb⟩ := List.getElem?_eq_some_iff.1 hb
  rw [← ea, ← eb]
  exact List.pairwise_iff_getElem.1 h2 i j hi hj hij
theorem MRes_at {w w' : World} {S : Nat → Prop} {g : Nat} {r : (Bool × Nat) × List Mk × Int} {en : Ending} (h : MRes w S g r en w') {b : Bool} {n : Int} {ms : List Mk} {most : Int} (hr : r.1.1 = b ∧ (r.1.2 : Int) = n ∧ r.2 = (ms, most)) : en = .returned (.tuple #[.bool b, .int .i64 n]) ∧ ∃ S', IM w' S' g ms most ∧ Turned w S S' w' := by
  obtain ⟨h1, h2, h3⟩ := hr
  obtain ⟨e, S', h4, h5⟩ := h
  rw [h1, h2] at e
  rw [h3] at h4
  exact ⟨e, S', h4, h5⟩
theorem rd_flm1 {w : World} {g : Nat} {t : TypeId} {a b c : Int} (h : Blk w g t #[.int .i64 a, .int .i64 b, .int .i64 c]) : Rd w w.heap.size (some ⟨g, 0, none⟩) (flm [(a, b, c)]) := by
  have := rd_blk (xs := [a, b, c]) h (by simp [i64i])
  simpa [i64i, flm, mkv] using this
theorem own_one {w : World} {base c : Nat} {e : TypeId} {s : Nat} {A : Option Addr} {xs : List Value} (h : w.ownsRow base e s (.slice A 1 c) 1 xs) : ∃ q, A = some ⟨q, 0, none⟩ ∧ 1 ≤ c ∧ c ≤ maxLen := by
  obtain ⟨_, ⟨_, h0⟩ | ⟨g, cap, cur, e1, _, _, h1, h2, _⟩⟩ := h
  · omega
  · injection e1 with e1 e2 e3
    subst e1 e3
    exact ⟨g, rfl, h1, h2⟩
def TrueM (w : World) (e : Ending) (w' : World) : Prop := e = .returned (.bool true) ∧ Below w.heap.size w w'
def L1 : List Mk := [(1, 4, 0)]
def L2 : List Mk := [(1, 4, 0), (3, 4, 17)]
def L3 : List Mk := [(1, 4, 0), (3, 4, 17), (4, 5, 0)]
theorem ris0 : Ris [] := Ris_of (by simp) (by simp)
theorem ris1 : Ris L1 := Ris_of (by decide) (by decide)
theorem ris2 : Ris L2 := Ris_of (by decide) (by decide)
theorem ris3 : Ris L3 := Ris_of (by decide) (by decide)
set_option maxRecDepth 100000 in
set_option maxHeartbeats 8000000 in
theorem awake10_any (w : World) : Calls Try.prog 4 #[] w (TrueM w) := by
  go_enter Try.func4, Try.ntmps4
  go_wp2_with fail
  refine (MNew_any w).mono ?_
  rintro en w1 ⟨rfl, hd, hb⟩
  obtain ⟨g, hg⟩ : ∃ g, g = w.heap.size := ⟨_, rfl⟩
  rw [← hg] at hd ⊢
  have D1 := Lib.hid hd
  have A1 : Hid (∀ j, j = g → w.heap.size ≤ j) := Lib.hid (fun j hj => by omega)
  have B1 := Lib.hid hb
  clear hd hb hg
  go_wp2_with fail
  refine (Add_any w1 (fun j => j = g) g [] 0 1 4 0 D1.out ris0 (by decide)).mono ?_
  intro en w2 hres
  obtain ⟨rfl, S2, hd, hT⟩ := MRes_at hres (b := true) (n := 0) (ms := L1) (most := 1) (by decide +kernel)
  have D2 := Lib.hid hd; have A2 := Lib.hid (hT.1.above B1.out.size A1.out); have B2 := Lib.hid (B1.out.trans (hT.2.to_below B1.out.size A1.out))
  clear hres hd hT
  go_wp2_with fail
  refine (Add_any w2 S2 g L1 1 2 4 9 D2.out ris1 (by decide)).mono ?_
  intro en w3 hres
  obtain ⟨rfl, S3, hd, hT⟩ := MRes_at hres (b := false) (n := 0) (ms := L1) (most := 2) (by decide +kernel)
  have D3 := Lib.hid hd; have A3 := Lib.hid (hT.1.above B2.out.size A2.out); have B3 := Lib.hid (B2.out.trans (hT.2.to_below B2.out.size A2.out))
  clear hres hd hT
  go_wp2_with fail
  refine (Add_any w3 S3 g L1 2 3 4 17 D3.out ris1 (by decide)).mono ?_
  intro en w4 hres
  obtain ⟨rfl, S4, hd, hT⟩ := MRes_at hres (b := true) (n := 0) (ms := L2) (most := 3) (by decide +kernel)
  have D4 := Lib.hid hd; have A4 := Lib.hid (hT.1.above B3.out.size A3.out); have B4 := Lib.hid (B3.out.trans (hT.2.to_below B3.out.size A3.out))
  clear hres hd hT
  go_wp2_with fail
  refine (Add_any w4 S4 g L2 3 4 5 0 D4.out ris2 (by decide)).mono ?_
  intro en w5 hres
  obtain ⟨rfl, S5, hd, hT⟩ := MRes_at hres (b := true) (n := 0) (ms := L3) (most := 4) (by decide +kernel)
  have D5 := Lib.hid hd; have A5 := Lib.hid (hT.1.above B4.out.size A4.out); have B5 := Lib.hid (B4.out.trans (hT.2.to_below B4.out.size A4.out))
  clear hres hd hT
  go_wp2_with fail
  refine (Add_any w5 S5 g L3 4 4 5 0 D5.out ris3 (by decide)).mono ?_
  intro en w6 hres
  obtain ⟨rfl, S6, hd, hT⟩ := MRes_at hres (b := false) (n := 6) (ms := L3) (most := 4) (by decide +kernel)
  have D6 := Lib.hid hd; have A6 := Lib.hid (hT.1.above B5.out.size A5.out); have B6 := Lib.hid (B5.out.trans (hT.2.to_below B5.out.size A5.out))
  clear hres hd hT
  go_wp2_with fail
  refine (Add_any w6 S6 g L3 4 5 64 0 D6.out ris3 (by decide)).mono ?_
  intro en w7 hres
  obtain ⟨rfl, S7, hd, hT⟩ := MRes_at hres (b := false) (n := 1) (ms := L3) (most := 4) (by decide +kernel)
  have D7 := Lib.hid hd; have A7 := Lib.hid (hT.1.above B6.out.size A6.out); have B7 := Lib.hid (B6.out.trans (hT.2.to_below B6.out.size A6.out))
  clear hres hd hT
  go_wp2_with fail
  refine (Find_any w7 S7 g L3 4 2 D7.out ris3 (by decide)).mono ?_
  rintro en w8 ⟨rfl, hb⟩
  rw [show findP L3 2 = ((1, 4, 0), true) from by decide +kernel]
  simp only [mkA]
  have D8 := Lib.hid (D7.out.below hb); have A8 := A7; have B8 := Lib.hid (B7.out.trans (hb.mono B7.out.size))
  clear hb
  go_wp2_with fail
  generalize hW : w8.alloc (.cells #[.int .i64 1, .int .i64 4, .int .i64 0] 29) = w9
  have hb : Below w8.heap.size w8 w9 := by rw [← hW]; exact (Below.refl _ w8).alloc (Nat.le_refl _) _
  have D9 := Lib.hid (D8.out.below hb); have A9 := A8; have B9 := Lib.hid (B8.out.trans (hb.mono B8.out.size))
  have K9 : Hid (Blk w9 w8.heap.size 29 #[.int .i64 1, .int .i64 4, .int .i64 0]) := Lib.hid (by rw [← hW]; exact Blk.new _ _ _)
  have NK : Hid (¬ S7 w8.heap.size) := Lib.hid (fun h => by have := D8.out.lt _ h; omega)
  obtain ⟨qK, hqK⟩ : ∃ q, w8.heap.size = q := ⟨_, rfl⟩
  rw [hqK] at K9 NK
  try rw [hqK]
  clear hqK
  clear hb hW
  go_wp2_with fail
  refine (Find_any w9 S7 g L3 4 0 D9.out ris3 (by decide)).mono ?_
  rintro en w10 ⟨rfl, hb⟩
  rw [show findP L3 0 = ((0, 0, 0), false) from by decide +kernel]
  simp only [mkA]
  have K10 := Lib.hid (K9.out.below hb K9.out.lt)
  have D10 := Lib.hid (D9.out.below hb); have A10 := A9; have B10 := Lib.hid (B9.out.trans (hb.mono B9.out.size))
  clear hb
  go_wp2_with fail
  generalize hW : w10.alloc (.cells #[.int .i64 0, .int .i64 0, .int .i64 0] 29) = w11
  have hb : Below w10.heap.size w10 w11 := by rw [← hW]; exact (Below.refl _ w10).alloc (Nat.le_refl _) _
  have K11 := Lib.hid (K10.out.below hb K10.out.lt)
  have D11 := Lib.hid (D10.out.below hb); have A11 := A10; have B11 := Lib.hid (B10.out.trans (hb.mono B10.out.size))
  clear hb hW
  refine (MFiles_any w11 S7 g L3 4 D11.out (by decide)).mono ?_
  rintro en w12 ⟨AF, cF, rfl, hrf, hnf, hb⟩
  rw [show Lib.compact (filesM L3) = [4, 5] from by decide +kernel] at hrf ⊢
  have K12 := Lib.hid (K11.out.below hb K11.out.lt)
  have D12 := Lib.hid (D11.out.below hb); have A12 := A11; have B12 := Lib.hid (B11.out.trans (hb.mono B11.out.size))
  have RF12 := Lib.hid hrf
  have NF : Hid (∀ q o, AF = some ⟨q, o, none⟩ → ¬ S7 q) := Lib.hid (fun q o h hS => by have := hnf q o h; have := D11.out.lt _ hS; omega)
  obtain ⟨zz, hzz⟩ : ∃ zz, zz = w12.heap.size := ⟨_, rfl⟩
  have SZ12 : Hid (zz ≤ w12.heap.size) := Lib.hid (by omega)
  have LF : Hid (∀ q o, AF = some ⟨q, o, none⟩ → q < zz) := Lib.hid (fun q o h => by obtain ⟨q', o', e, hlt, _⟩ := hrf (by simp [i64i]); rw [h] at e; injection e with e; injection e with e1 e2; omega)
  clear hrf hnf hb hzz
  go_wp2_with fail
  refine (MCut_any w12 S7 g L3 4 3 D12.out ris3 (by decide)).mono ?_
  intro en w13 hres
  rw [show cutM L3 4 3 = (1, L2, 3) from by decide +kernel] at hres
  obtain ⟨rfl, hd, hT⟩ := hres
  have K13 := Lib.hid (hT.2.blk K12.out (NK.out))
  have RF13 := Lib.hid ((hT.2.rd RF12.out (Nat.le_refl _) (fun q o h _ => NF.out q o h)).more hT.2.size)
  have D13 := Lib.hid hd; have A13 := A12; have B13 := Lib.hid (B12.out.trans (hT.2.to_below B12.out.size A12.out)); have SZ13 := Lib.hid (Nat.le_trans SZ12.out hT.2.size)
  clear hd hT
  go_wp2_with fail
  refine (Add_any w13 S7 g L2 3 4 4 30 D13.out ris2 (by decide)).mono ?_
  intro en w14 hres
  obtain ⟨rfl, S14, hd, hT⟩ := MRes_at hres (b := false) (n := 0) (ms := L2) (most := 4) (by decide +kernel)
  have K14 := Lib.hid (hT.2.blk K13.out (NK.out))
  have RF14 := Lib.hid ((hT.2.rd RF13.out (Nat.le_refl _) (fun q o h _ => NF.out q o h)).more hT.2.size)
  have NK := Lib.hid (fun h => by rcases hT.1 _ h with h1 | h1; exact NK.out h1; exact absurd K13.out.lt (by omega))
  have NF := Lib.hid (fun q o h hS => by rcases hT.1 _ hS with h1 | h1; exact NF.out q o h h1; have := LF.out q o h; have := B13.out.size; have := SZ13.out; omega)
  have D14 := Lib.hid hd; have A14 := Lib.hid (hT.1.above B13.out.size A13.out); have B14 := Lib.hid (B13.out.trans (hT.2.to_below B13.out.size A13.out))
  have SZ14 := Lib.hid (Nat.le_trans SZ13.out hT.2.size)
  clear hres hd hT
  go_wp2_with fail
  refine (Drop21 w14 S14 g 4 3 1 4 0 3 4 17 D14.out ris2 (by decide +kernel)).mono ?_
  rintro en w15 ⟨rfl, hd, hT⟩
  have K15 := Lib.hid (hT.2.blk K14.out (NK.out))
  have RF15 := Lib.hid ((hT.2.rd RF14.out (Nat.le_refl _) (fun q o h _ => NF.out q o h)).more hT.2.size)
  have D15 := Lib.hid hd; have A15 := A14; have B15 := Lib.hid (B14.out.trans (hT.2.to_below B14.out.size A14.out)); have SZ15 := Lib.hid (Nat.le_trans SZ14.out hT.2.size)
  clear hd hT
  have qm := fun w => eqm_in 1 4 0 1 4 0 w
  simp at qm
  have k0 := K15.out.cell 0; have k1 := K15.out.cell 1; have k2 := K15.out.cell 2
  simp at k0 k1 k2
  have kl := K15.out.lt
  go_wp2_with fail
  generalize hW : w15.alloc (.cells #[.int .i64 4, .int .i64 5] 3) = w16
  have hb : Below w15.heap.size w15 w16 := by rw [← hW]; exact (Below.refl _ w15).alloc (Nat.le_refl _) _
  have LB : Hid (Blk w16 w15.heap.size 3 #[.int .i64 4, .int .i64 5]) := Lib.hid (by rw [← hW]; exact Blk.new _ _ _)
  have RF16 := Lib.hid (RF15.out.below hb)
  have D16 := Lib.hid (D15.out.below hb); have B16 := Lib.hid (B15.out.trans (hb.mono B15.out.size))
  clear hb hW
  refine (ints_at w16 AF _ cF 2 [4, 5] [4, 5] _ _ 2 2 true RF16.out (rd_blk LB.out (by simp [i64i])) (by simp [maxLen]) rfl rfl (by decide)).mono ?_
  rintro en w17 ⟨rfl, qd, hw⟩
  have hb : Below w16.heap.size w16 w17 := by rw [hw]; exact below_drewN (Below.refl _ w16) qd
  have D17 := Lib.hid (D16.out.below hb); have B17 := Lib.hid (B16.out.trans (hb.mono B16.out.size))
  clear hb hw
  go_wp2_with fail
  refine (All_any w17 S14 g [(3, 4, 17)] 4 D17.out (by simp)).mono ?_
  rintro en w18 ⟨A', c', rfl, ho, hb⟩
  have hrd := rd_of_own3 ho
  obtain ⟨qa, rfl, hc1, hc2⟩ := own_one ho
  have D18 := Lib.hid (D17.out.below hb); have B18 := Lib.hid (B17.out.trans (hb.mono B17.out.size))
  have RA := Lib.hid hrd; have HC1 := Lib.hid hc1; have HC2 := Lib.hid hc2
  clear hb ho hrd hc1 hc2
  go_wp2_with fail
  refine (Mown1 w18 qa 0 c' _ 3 4 17 RA.out (Nat.le_refl _) HC1.out HC2.out).mono ?_
  rintro en w19 ⟨A2, c2, rfl, hrd, hb⟩
  have D19 := Lib.hid (D18.out.below hb); have B19 := Lib.hid (B18.out.trans (hb.mono B18.out.size))
  have RB := Lib.hid hrd; clear hb hrd
  go_wp2_with fail
  generalize hW : w19.alloc (.cells #[.int .i64 3, .int .i64 4, .int .i64 17] 42) = w20
  have hb : Below w19.heap.size w19 w20 := by rw [← hW]; exact (Below.refl _ w19).alloc (Nat.le_refl _) _
  have LM : Hid (Blk w20 w19.heap.size 42 #[.int .i64 3, .int .i64 4, .int .i64 17]) := Lib.hid (by rw [← hW]; exact Blk.new _ _ _)
  have RC := Lib.hid (RB.out.below hb)
  have D20 := Lib.hid (D19.out.below hb); have B20 := Lib.hid (B19.out.trans (hb.mono B19.out.size))
  clear hb hW
  refine (RSame1 w20 A2 _ c2 1 _ _ 3 4 17 RC.out (rd_flm1 LM.out)).mono ?_
  rintro en w21 ⟨rfl, hb⟩
  have B21 := Lib.hid (B20.out.trans (hb.mono B20.out.size))
  clear hb
  go_wp2
  go_ret
  exact ⟨rfl, by first | exact B21.out | exact B21.out.drew⟩
end Go.Proofs.Ytjaifieakcnlmaa

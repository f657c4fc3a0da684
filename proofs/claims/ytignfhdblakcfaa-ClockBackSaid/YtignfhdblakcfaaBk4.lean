/- The statement ClockBack: its walk. -/
import Derived.Test.YtignfhdblakcfaaAwake4b
import Derived.Test.YtignfhdblakcfaaBk4m
import Derived.Test.YtignfhdblakcfaaOrd4
import Derived.Test.YtignfhdblakcfaaApp
namespace Go.Proofs.Ytignfhdblakcfaa
open Go.ChangeShapes Go.WideShapes Go.ChangeAt Go.RowKit
set_option linter.unusedVariables false
set_option linter.unusedSimpArgs false

/-- what holds of the world in the statement 'd, n, e = clock.Take(prev, append(append([]byte{}, b...), s...))' -/
def CB (w : World) (B gD : Nat) (A : Option Addr) (ss : List Nat) (p0 p1 p2 c0 c1 c2 : Int) (gb ob : Nat) (bs : List Nat) (w' : World) : Prop :=
  Below w.heap.size w w' ∧ B ≤ w'.heap.size ∧ Blk w' w.heap.size 23 #[.int .i64 p0, .int .i64 p1, .int .i64 p2] ∧ Blk w' (w.heap.size + 1) 23 #[.int .i64 c0, .int .i64 c1, .int .i64 c2] ∧ (∃ x y z : Int, Blk w' gD 23 #[.int .i64 x, .int .i64 y, .int .i64 z]) ∧ Rd w' B (some ⟨gb, ob, none⟩) (u8s bs) ∧ Rd w' w.heap.size A (u8s ss)
theorem CB.keep {w w1 w' : World} {B gD : Nat} {A : Option Addr} {ss : List Nat} {p0 p1 p2 c0 c1 c2 : Int} {gb ob : Nat} {bs : List Nat} (hB : w.heap.size + 1 < B) (h7 : gD < B) (h : CB w B gD A ss p0 p1 p2 c0 c1 c2 gb ob bs w1) (hb : Below B w1 w') : CB w B gD A ss p0 p1 p2 c0 c1 c2 gb ob bs w' := by
  obtain ⟨h1, h2, h3, h4, ⟨x, y, z, h5⟩, h6, h8⟩ := h
  exact ⟨h1.trans (hb.mono (by omega)), Nat.le_trans h2 hb.size, h3.below hb (by omega), h4.below hb (by omega), ⟨x, y, z, h5.below hb h7⟩, h6.below hb, h8.below (hb.mono (by omega))⟩
def FB (B : Nat) (p0 p1 p2 c0 c1 c2 : Int) (A : Option Addr) (len cap : Nat) (ss : List Nat) (gb ob cb : Nat) (bs : List Nat) (gD : Nat) : Nat → (Nat → Bool) → Value → World → Prop
  | 0, _, v, _ => v = .agg #[.int .i64 p0, .int .i64 p1, .int .i64 p2]
  | 1, L, v, w => ∃ g, v = .slice (some ⟨g, 0, none⟩) 0 0 ∧ (L 3 = false → B ≤ g ∧ Blk w g 5 #[])
  | 2, _, v, _ => v = .slice (some ⟨gb, ob, none⟩) bs.length cb
  | 3, L, v, w => L 5 = false → w.ownsRow B 5 1 v bs.length (u8s bs)
  | 4, _, v, _ => v = .slice A len cap
  | 5, L, v, w => L 6 = false → w.ownsRow B 5 1 v (bs.length + len) (u8s bs ++ u8s ss)
  | 6, _, v, _ => v = .tuple #[.agg #[.int .i64 c0, .int .i64 c1, .int .i64 c2], .int .i64 (bs.length : Int), .int .i64 0]
  | 7, _, v, _ => v = .tuple #[.agg #[.int .i64 c0, .int .i64 c1, .int .i64 c2], .int .i64 (bs.length : Int), .int .i64 0]
  | 8, L, v, w => v = .agg #[.int .i64 c0, .int .i64 c1, .int .i64 c2] ∧ (L 11 = true → Blk w gD 23 #[.int .i64 c0, .int .i64 c1, .int .i64 c2])
  | 9, _, v, _ => v = .int .i64 (bs.length : Int)
  | 10, _, v, _ => v = .int .i64 0
  | 12, _, v, _ => v = .int .i64 (bs.length : Int)
  | 13, _, v, _ => v = .int .i64 0
  | _, _, _, _ => True
section
variable {B : Nat} {p0 p1 p2 c0 c1 c2 : Int} {A : Option Addr} {len cap : Nat} {ss : List Nat} {gb ob cb : Nat} {bs : List Nat} {gD : Nat}
/-- behind an operation that only makes memory -/
theorem FB.st {i : Nat} (h11 : 11 ≠ i) {w w' : World} (hb : Below w.heap.size w w') (L : Nat → Bool) : ∀ j u, FB B p0 p1 p2 c0 c1 c2 A len cap ss gb ob cb bs gD j L u w → FB B p0 p1 p2 c0 c1 c2 A len cap ss gb ob cb bs gD j (Inv.upd L i) u w' := by
  intro j u h
  match j, h with
  | 0, h => exact h
  | 1, ⟨g, h1, h2⟩ => exact ⟨g, h1, fun hl => ⟨(h2 (Inv.upd_f hl)).1, (h2 (Inv.upd_f hl)).2.below hb (h2 (Inv.upd_f hl)).2.lt⟩⟩
  | 2, h => exact h
  | 3, h => exact fun hl => own_below (h (Inv.upd_f hl)) hb
  | 4, h => exact h
  | 5, h => exact fun hl => own_below (h (Inv.upd_f hl)) hb
  | 6, h => exact h
  | 7, h => exact h
  | 8, ⟨h1, h2⟩ => exact ⟨h1, fun hl => (h2 (Inv.upd_t h11 hl)).below hb (h2 (Inv.upd_t h11 hl)).lt⟩
  | 9, h => exact h
  | 10, h => exact h
  | 11, h => exact h
  | 12, h => exact h
  | 13, h => exact h
  | n + 14, h => exact h
/-- behind an append -/
theorem FB.row {w w' : World} {i : Nat} (hi : i = 3 ∨ i = 5) (hb : Below B w w') (h7 : gD < B) {L : Nat → Bool} (h3 : i = 5 → L 3 = true) (h5 : i = 3 → L 5 = false) : ∀ j u, j ≠ i → L j = true → FB B p0 p1 p2 c0 c1 c2 A len cap ss gb ob cb bs gD j L u w → FB B p0 p1 p2 c0 c1 c2 A len cap ss gb ob cb bs gD j (Inv.upd L i) u w' := by
  intro j u hj hLj h
  have e3 : Inv.upd L i 3 = true := by
    unfold Inv.upd
    split
    · rfl
    · exact h3 (by omega)
  match j, h with
  | 0, h => exact h
  | 1, ⟨g, h1, h2⟩ => exact ⟨g, h1, fun hl => by rw [e3] at hl; cases hl⟩
  | 2, h => exact h
  | 3, h =>
    have e5 : i = 5 := by omega
    subst e5
    exact fun hl => by rw [Inv.upd_same] at hl; cases hl
  | 4, h => exact h
  | 5, h =>
    have e5 : i = 3 := by omega
    rw [h5 e5] at hLj; cases hLj
  | 6, h => exact h
  | 7, h => exact h
  | 8, ⟨h1, h2⟩ => exact ⟨h1, fun hl => (h2 (Inv.upd_t (by omega) hl)).below hb h7⟩
  | 9, h => exact h
  | 10, h => exact h
  | 11, h => exact h
  | 12, h => exact h
  | 13, h => exact h
  | n + 14, h => exact h
/-- behind the store -/
theorem FB.store {w w' : World} (hblk : Blk w' gD 23 #[.int .i64 c0, .int .i64 c1, .int .i64 c2]) {L : Nat → Bool} (h3 : L 3 = true) (h5 : L 5 = true) (h6 : L 6 = true) : ∀ j u, FB B p0 p1 p2 c0 c1 c2 A len cap ss gb ob cb bs gD j L u w → FB B p0 p1 p2 c0 c1 c2 A len cap ss gb ob cb bs gD j (Inv.upd L 11) u w' := by
  intro j u h
  match j, h with
  | 0, h => exact h
  | 1, ⟨g, h1, h2⟩ => exact ⟨g, h1, fun hl => by rw [Inv.upd_f hl] at h3; cases h3⟩
  | 2, h => exact h
  | 3, h => exact fun hl => by rw [Inv.upd_f hl] at h5; cases h5
  | 4, h => exact h
  | 5, h => exact fun hl => by rw [Inv.upd_f hl] at h6; cases h6
  | 6, h => exact h
  | 7, h => exact h
  | 8, ⟨h1, h2⟩ => exact ⟨h1, fun _ => hblk⟩
  | 9, h => exact h
  | 10, h => exact h
  | 11, h => exact h
  | 12, h => exact h
  | 13, h => exact h
  | n + 14, h => exact h
end

set_option maxRecDepth 100000 in
set_option maxHeartbeats 4000000 in
theorem ClockBack_walk (w : World) (p0 p1 p2 : Int) (wp0 : (Lit.int .i64 p0).wf = true) (wp1 : (Lit.int .i64 p1).wf = true) (wp2 : (Lit.int .i64 p2).wf = true) (c0 c1 c2 : Int) (wc0 : (Lit.int .i64 c0).wf = true) (wc1 : (Lit.int .i64 c1).wf = true) (wc2 : (Lit.int .i64 c2).wf = true) (A : Option Addr) (len cap : Nat) (zs : List Int)
    (hz : (A = none ∧ len = 0 ∧ cap = 0 ∧ zs = []) ∨ ∃ x, A = some x ∧ len ≤ cap ∧ cap ≤ maxLen ∧ zs.length = cap ∧ (∀ i, i < zs.length → w.cell? (x.add i) = some (.int .u8 (zs.getD i 0))) ∧ ∀ n ∈ zs, (Lit.int .u8 n).wf = true) :
    Calls Try.prog 4 #[.agg #[.int .i64 p0, .int .i64 p1, .int .i64 p2], .agg #[.int .i64 c0, .int .i64 c1, .int .i64 c2], .slice A len cap] w (TruePost w) := by
  obtain ⟨ss, hl, h256, hr, hlc, hcm, hnone⟩ := row8 hz
  clear hz wp0 wp1 wp2 wc0 wc1 wc2
  obtain ⟨i0, hi, hz0, hz1, hz2⟩ := info_parts Try.infoB
  have K1 : ∀ w1, Below ((w.alloc (.cells #[.int .i64 p0, .int .i64 p1, .int .i64 p2] 23)).alloc (.cells #[.int .i64 c0, .int .i64 c1, .int .i64 c2] 23)).heap.size ((w.alloc (.cells #[.int .i64 p0, .int .i64 p1, .int .i64 p2] 23)).alloc (.cells #[.int .i64 c0, .int .i64 c1, .int .i64 c2] 23)) w1 →
      Blk w1 w.heap.size 23 #[.int .i64 p0, .int .i64 p1, .int .i64 p2] ∧ Blk w1 (w.heap.size + 1) 23 #[.int .i64 c0, .int .i64 c1, .int .i64 c2] ∧ Below w.heap.size w w1 := fun w1 hb =>
    ⟨((Blk.new w _ _).alloc _).below hb (by simp; omega), (Blk.new' _ _ _ (by simp)).below hb (by simp), (((Below.refl _ _).alloc (Nat.le_refl _) _).alloc (by simp) _).trans (hb.mono (by simp; omega))⟩
  have HK1 := Lib.hid K1; clear K1
  have H256 := Lib.hid h256; clear h256
  have HL := Lib.hid hl; clear hl
  by_cases hlong : 500 < len
  · go_enter Try.func4, Try.ntmps4
    go_wp2_with fail
    refine (awake_any _).mono ?_
    rintro e w1 ⟨rfl, hb1⟩
    go_wp2
    go_ret
    exact ⟨rfl, (HK1.out _ hb1).2.2⟩
  · obtain ⟨x, y, z, n, d, htk⟩ : ∃ x y z n d, takeC (p0, p1, p2) ss = ((x, y, z), n, d) := ⟨_, _, _, _, _, rfl⟩
    have HTK := Lib.hid htk; clear htk
    go_enter Try.func4, Try.ntmps4
    go_wp2_with fail
    refine (awake_any _).mono ?_
    rintro e w1 ⟨rfl, hb1⟩
    obtain ⟨ka, kc, hbw⟩ := HK1.out _ hb1
    clear hb1 HK1
    obtain ⟨a0, a1, a2, af⟩ := ka.three
    go_wp2_with fail
    refine (Ctake_at _ p0 p1 p2 A len cap ss x y z n d _ _ ((hr.below hbw).more hbw.size) H256.out HL.out hlc hcm hnone HTK.out rfl rfl).mono ?_
    rintro e w2 ⟨rfl, hb2⟩
    have ka2 := ka.below hb2 ka.lt
    have kc2 := kc.below hb2 kc.lt
    have hbw2 := hbw.trans (hb2.mono hbw.size)
    clear a0 a1 a2 af hb2 hbw ka kc
    obtain ⟨gD, hg7⟩ : ∃ g, g = w2.heap.size := ⟨_, rfl⟩
    have HG7 := Lib.hid hg7
    have l7 : w.heap.size + 1 < gD := by rw [hg7]; exact kc2.lt
    have k70 : Blk (w2.alloc (.cells #[.int .i64 x, .int .i64 y, .int .i64 z] 23)) gD 23 #[.int .i64 x, .int .i64 y, .int .i64 z] := Blk.new' _ _ _ hg7
    have ka3 := ka2.alloc (.cells #[.int .i64 x, .int .i64 y, .int .i64 z] 23)
    have kc3 := kc2.alloc (.cells #[.int .i64 x, .int .i64 y, .int .i64 z] 23)
    have hbw3 := hbw2.alloc hbw2.size (.cells #[.int .i64 x, .int .i64 y, .int .i64 z] 23)
    obtain ⟨w3, hw3⟩ : ∃ w3, w3 = w2.alloc (.cells #[.int .i64 x, .int .i64 y, .int .i64 z] 23) := ⟨_, rfl⟩
    have HW3 := Lib.hid hw3
    rw [← hw3] at k70 ka3 kc3 hbw3
    obtain ⟨a0, a1, a2, af⟩ := ka2.three
    obtain ⟨b0, b1, b2, bf⟩ := kc2.three
    have m2 : w.heap.size < w2.heap.size := ka2.lt
    have m3 : w.heap.size + 1 < w2.heap.size := kc2.lt
    clear hw3 hg7 ka2 kc2 hbw2
    have HBW := Lib.hid hbw3
    have l3 : gD < w3.heap.size := k70.lt
    clear hbw3
    by_cases hd : d = 0
    · subst hd
      obtain ⟨hrp, hrx, hn3, hnl, hput⟩ := takeC_back HTK.out H256.out
      rw [HL.out] at hnl
      have HPUT := Lib.hid hput; clear hput
      have hn3' : (3 : Int) ≤ (n : Int) := by omega
      have hnl' : (n : Int) ≤ (cap : Int) := by omega
      have hnl2 : (n : Int) ≤ (len : Int) := by omega
      obtain ⟨gA, oA, rfl⟩ := hr.at_ (by intro h; have h2 := congrArg List.length h; simp [HL.out] at h2; omega)
      go_wp2_with fail
      rw [← HW3.out, ← HG7.out]
      refine (Cput_at _ p0 p1 p2 x y z (ss.take n) n ⟨hrp, hrx⟩ HPUT.out (by simp [HL.out]; omega)).mono ?_
      rintro e w4 ⟨gq, oq, cq, rfl, hrq, hcq, hmq, hb4⟩
      have hbw4 := HBW.out.trans (hb4.mono HBW.out.size)
      have hr4 := hr.below hbw4
      have ka4 := ka3.below hb4 ka3.lt
      have kc4 := kc3.below hb4 kc3.lt
      have k74 := k70.below hb4 k70.lt
      clear hb4 a0 a1 a2 af b0 b1 b2 bf m2 m3 HBW ka3 kc3 k70
      obtain ⟨d0, d1, d2, df⟩ := k74.three
      go_wp2_with fail
      refine (same_at _ _ _ _ _ (ss.take n) (ss.take n) _ _ n n true hrq (by rw [show u8s (ss.take n) = (u8s ss).take n by simp [u8s, List.map_take]]; exact hr4.take n) (by simp [HL.out]; unfold maxLen; omega) (by simp [HL.out]; omega) (by simp [HL.out]; omega) (by simp)).mono ?_
      rintro e w5 ⟨rfl, qd, hq⟩
      have hb5 : Below w4.heap.size w4 w5 := by rw [hq]; exact below_drewN (Below.refl _ _) qd
      clear hq
      have ka5 := ka4.below hb5 ka4.lt
      have kc5 := kc4.below hb5 kc4.lt
      have k75 := k74.below hb5 k74.lt
      have hbw5 := hbw4.trans (hb5.mono hbw4.size)
      clear hb5 hr4 hrq d0 d1 d2 df hbw4 ka4 kc4 k74
      obtain ⟨d0, d1, d2, df⟩ := k75.three
      go_wp2_with fail
      refine (Right_any _ x y z).mono ?_
      rintro e w5b ⟨rfl, hb5⟩
      rw [hrx]
      have ka := ka5.below hb5 ka5.lt
      have kc := kc5.below hb5 kc5.lt
      have k7 := k75.below hb5 k75.lt
      have HBW := Lib.hid (hbw5.trans (hb5.mono hbw5.size))
      clear hb5 d0 d1 d2 df hbw5 ka5 kc5 k75
      obtain ⟨a0, a1, a2, af⟩ := ka.three
      obtain ⟨b0, b1, b2, bf⟩ := kc.three
      obtain ⟨d0, d1, d2, df⟩ := k7.three
      -- the rest: from the world w5b on
      by_cases hrc : rightB p0 p1 p2 = true ∧ rightB c0 c1 c2 = true
      · obtain ⟨bs, hbs⟩ : ∃ bs, bs = putC (p0, p1, p2) (c0, c1, c2) := ⟨_, rfl⟩
        have HBS := Lib.hid hbs; clear hbs
        have hbl : bs.length ≤ 30 := by
          have h1 := put1_le p0 c0
          have h2 := put1_le p1 c1
          have h3 := put1_le p2 c2
          rw [HBS.out]; simp [putC]; omega
        have hb256 : ∀ b ∈ bs, b < 256 := by
          obtain ⟨⟨_, _⟩, ⟨_, _⟩, ⟨_, _⟩⟩ := right_le hrc.1
          obtain ⟨⟨_, _⟩, ⟨_, _⟩, ⟨_, _⟩⟩ := right_le hrc.2
          intro b hb
          rw [HBS.out] at hb
          simp only [putC, List.mem_append] at hb
          rcases hb with (hb | hb) | hb
          · exact put1_byte ‹_› ‹_› ‹_› ‹_› b hb
          · exact put1_byte ‹_› ‹_› ‹_› ‹_› b hb
          · exact put1_byte ‹_› ‹_› ‹_› ‹_› b hb
        have HB256 := Lib.hid hb256; clear hb256
        have HBK := Lib.hid (show takeC (p0, p1, p2) (bs ++ ss) = ((c0, c1, c2), bs.length, 0) by rw [HBS.out]; exact takeC_put ss hrc.1 hrc.2)
        go_wp2_with fail
        refine (Cput_at _ p0 p1 p2 c0 c1 c2 bs bs.length hrc HBS.out.symm rfl).mono ?_
        rintro e w6 ⟨gb, ob, cb, rfl, hrb, hcb, hmb, hb6⟩
        have HBW6 := Lib.hid (HBW.out.trans (hb6.mono HBW.out.size))
        have ka6 := ka.below hb6 ka.lt
        have kc6 := kc.below hb6 kc.lt
        have k76 := k7.below hb6 k7.lt
        have hr6 := hr.below HBW6.out
        have l6 : gD < w6.heap.size := k76.lt
        have l6' : w.heap.size + 1 < w6.heap.size := kc6.lt
        have hne7 : gb ≠ gD := rd_ne hrb (by intro h; have := Vm.enc_pos (Vm.zig (c0 - p0)); have h2 := congrArg List.length HBS.out; rw [h] at h2; simp [putC, put1] at h2; omega) k76 (by intro v hv; simp at hv; rcases hv with h | h | h <;> exact ⟨_, h⟩)
        clear hb6 ka kc k7 a0 a1 a2 af b0 b1 b2 bf d0 d1 d2 df
        go_wp2
        refine Inv.region_gen (FB w6.heap.size p0 p1 p2 c0 c1 c2 (some ⟨gA, oA, none⟩) len cap ss gb ob cb bs gD) (CB w w6.heap.size gD (some ⟨gA, oA, none⟩) ss p0 p1 p2 c0 c1 c2 gb ob bs) 98 [75, 76, 77, 78, 79, 80, 81, 74, 82, 83, 84, 8, 9] (by kernel_rfl) rfl (by kernel_rfl) (by kernel_rfl) ?_ ?_ ?_
        · exact ⟨HBW6.out.drew, Nat.le_refl _, ka6, kc6, ⟨_, _, _, k76⟩, hrb, hr6⟩
        · refine ⟨?_, ?_, ?_, ?_, ?_, ?_, ?_, ?_, ?_, ?_, ?_, ?_, ?_, ?_, trivial⟩
          · intro act wa L hC hd hLi hLa hLb HF O K hK
            clear hd
            obtain ⟨x0, x1, x2, xf⟩ := hC.2.2.1.three
            have h3 := O 3 (by kernel_rfl)
            try have g3 := Array.getD_eq_getD_getElem?.symm.trans h3
            go_simp
            exact hK _ _ (hC.keep l6' l6 ((Below.refl wa.heap.size wa).mono hC.2.1)) (fun j d _ _ _ h => FB.st (by decide) (Below.refl wa.heap.size wa) L j _ h) (fun _ => rfl)
          · intro act wa L hC hd hLi hLa hLb HF O K hK
            clear hd
            obtain ⟨x0, x1, x2, xf⟩ := hC.2.2.1.three
            go_simp
            exact hK _ _ (hC.keep l6' l6 (((Below.refl wa.heap.size wa).alloc (Nat.le_refl _) _).mono hC.2.1)) (fun j d _ _ _ h => FB.st (by decide) ((Below.refl wa.heap.size wa).alloc (Nat.le_refl _) _) L j _ h) (fun _ => ⟨wa.heap.size, rfl, fun _ => ⟨hC.2.1, Blk.new wa _ _⟩⟩)
          · intro act wa L hC hd hLi hLa hLb HF O K hK
            clear hd
            obtain ⟨x0, x1, x2, xf⟩ := hC.2.2.1.three
            have h12 := O 12 (by kernel_rfl)
            try have g12 := Array.getD_eq_getD_getElem?.symm.trans h12
            go_simp
            exact hK _ _ (hC.keep l6' l6 ((Below.refl wa.heap.size wa).mono hC.2.1)) (fun j d _ _ _ h => FB.st (by decide) (Below.refl wa.heap.size wa) L j _ h) (fun _ => rfl)
          · intro act wa L hC hd hLi hLa hLb HF O K hK
            clear hd
            obtain ⟨x0, x1, x2, xf⟩ := hC.2.2.1.three
            have h76 := HF 1 76 (hLa 1 1 (by kernel_rfl)) rfl
            dsimp only [FB] at h76
            try have g76 := Array.getD_eq_getD_getElem?.symm.trans h76
            have h77 := HF 2 77 (hLa 1 2 (by kernel_rfl)) rfl
            dsimp only [FB] at h77
            try have g77 := Array.getD_eq_getD_getElem?.symm.trans h77
            obtain ⟨g, hv, hg⟩ := h76
            obtain ⟨hBg, hblk⟩ := hg hLi
            have hS := hC.2.1
            refine step_app_own (w := wa) rfl (.tmp 76) (.tmp 77) _ rfl w6.heap.size 5 i0 (.int .u8 0) 1 Try.underlying25 hi hz0 hz1 hz2 rfl _ 0 [] hv (own_of_empty hBg hblk) _ (some ⟨gb, ob, none⟩) bs.length cb (u8s bs) h77 (by simp) hC.2.2.2.2.2.1 (fun h => by cases h) (u8s_one _) (by unfold maxLen; omega) (by omega) hS ?_
            intro v' w' ho hgr
            have hB3 : Below w6.heap.size wa w' := (Below.refl _ _).grown hgr hS (fun k hk => by simp [Value.ownBlock] at hk; omega)
            exact hK _ _ (hC.keep l6' l6 hB3) (fun j d hj hLj _ h => FB.row (.inl rfl) hB3 l6 (by omega) (fun _ => hLb 1 5 (by kernel_rfl)) j _ hj hLj h) (fun _ _ => by simpa using ho)
          · intro act wa L hC hd hLi hLa hLb HF O K hK
            clear hd
            obtain ⟨x0, x1, x2, xf⟩ := hC.2.2.1.three
            have h2 := O 2 (by kernel_rfl)
            try have g2 := Array.getD_eq_getD_getElem?.symm.trans h2
            go_simp
            exact hK _ _ (hC.keep l6' l6 ((Below.refl wa.heap.size wa).mono hC.2.1)) (fun j d _ _ _ h => FB.st (by decide) (Below.refl wa.heap.size wa) L j _ h) (fun _ => rfl)
          · intro act wa L hC hd hLi hLa hLb HF O K hK
            clear hd
            obtain ⟨x0, x1, x2, xf⟩ := hC.2.2.1.three
            have h78 := HF 3 78 (hLa 1 3 (by kernel_rfl)) rfl
            dsimp only [FB] at h78
            try have g78 := Array.getD_eq_getD_getElem?.symm.trans h78
            have h79 := HF 4 79 (hLa 1 4 (by kernel_rfl)) rfl
            dsimp only [FB] at h79
            try have g79 := Array.getD_eq_getD_getElem?.symm.trans h79
            have hown := h78 hLi
            have hS := hC.2.1
            refine step_app_own (w := wa) rfl (.tmp 78) (.tmp 79) _ rfl w6.heap.size 5 i0 (.int .u8 0) 1 Try.underlying25 hi hz0 hz1 hz2 rfl _ bs.length (u8s bs) rfl hown _ (some ⟨gA, oA, none⟩) len cap (u8s ss) h79 (by simp [HL.out]) hC.2.2.2.2.2.2 hnone (u8s_one _) (by unfold maxLen; omega) (by omega) hS ?_
            intro v' w' ho hgr
            have hB3 : Below w6.heap.size wa w' := (Below.refl _ _).grown hgr hS (fun k hk => (hown.lt k hk).1)
            exact hK _ _ (hC.keep l6' l6 hB3) (fun j d hj hLj _ h => FB.row (.inr rfl) hB3 l6 (fun _ => hLa 1 3 (by kernel_rfl)) (by omega) j _ hj hLj h) (fun _ _ => ho)
          · intro act wa L hC hd hLi hLa hLb HF O K hK
            clear hd
            obtain ⟨x0, x1, x2, xf⟩ := hC.2.2.1.three
            have h75 := HF 0 75 (hLa 1 0 (by kernel_rfl)) rfl
            dsimp only [FB] at h75
            try have g75 := Array.getD_eq_getD_getElem?.symm.trans h75
            have h80 := HF 5 80 (hLa 1 5 (by kernel_rfl)) rfl
            dsimp only [FB] at h80
            try have g80 := Array.getD_eq_getD_getElem?.symm.trans h80
            obtain ⟨A5, c5, hv, hc5, hm5, _, hr5, hn5⟩ := own_form (h80 hLi)
            go_simp
            refine (Ctake_at _ p0 p1 p2 A5 (bs.length + len) c5 (bs ++ ss) c0 c1 c2 bs.length 0 bs.length 0 (by rw [u8s_append]; exact hr5) (fun b hb => by rcases List.mem_append.1 hb with h | h; exact HB256.out b h; exact H256.out b h) (by simp [HL.out]) hc5 hm5 hn5 HBK.out rfl rfl).mono ?_
            rintro e w2 ⟨rfl, hb⟩
            exact hK _ _ (hC.keep l6' l6 (hb.mono hC.2.1)) (fun j d _ _ _ h => FB.st (by decide) hb L j _ h) (fun _ => rfl)
          · intro act wa L hC hd hLi hLa hLb HF O K hK
            clear hd
            obtain ⟨x0, x1, x2, xf⟩ := hC.2.2.1.three
            have h81 := HF 6 81 (hLa 1 6 (by kernel_rfl)) rfl
            dsimp only [FB] at h81
            try have g81 := Array.getD_eq_getD_getElem?.symm.trans h81
            go_simp
            exact hK _ _ (hC.keep l6' l6 ((Below.refl wa.heap.size wa).mono hC.2.1)) (fun j d _ _ _ h => FB.st (by decide) (Below.refl wa.heap.size wa) L j _ h) (fun _ => rfl)
          · intro act wa L hC hd hLi hLa hLb HF O K hK
            clear hd
            obtain ⟨x0, x1, x2, xf⟩ := hC.2.2.1.three
            have h74 := HF 7 74 (hLa 1 7 (by kernel_rfl)) rfl
            dsimp only [FB] at h74
            try have g74 := Array.getD_eq_getD_getElem?.symm.trans h74
            go_simp
            exact hK _ _ (hC.keep l6' l6 ((Below.refl wa.heap.size wa).mono hC.2.1)) (fun j d _ _ _ h => FB.st (by decide) (Below.refl wa.heap.size wa) L j _ h) (fun _ => ⟨rfl, fun hl => by have := hLb 2 11 (by kernel_rfl); rw [Inv.upd_t (by decide) hl] at this; cases this⟩)
          · intro act wa L hC hd hLi hLa hLb HF O K hK
            clear hd
            obtain ⟨x0, x1, x2, xf⟩ := hC.2.2.1.three
            have h74 := HF 7 74 (hLa 1 7 (by kernel_rfl)) rfl
            dsimp only [FB] at h74
            try have g74 := Array.getD_eq_getD_getElem?.symm.trans h74
            go_simp
            exact hK _ _ (hC.keep l6' l6 ((Below.refl wa.heap.size wa).mono hC.2.1)) (fun j d _ _ _ h => FB.st (by decide) (Below.refl wa.heap.size wa) L j _ h) (fun _ => rfl)
          · intro act wa L hC hd hLi hLa hLb HF O K hK
            clear hd
            obtain ⟨x0, x1, x2, xf⟩ := hC.2.2.1.three
            have h74 := HF 7 74 (hLa 1 7 (by kernel_rfl)) rfl
            dsimp only [FB] at h74
            try have g74 := Array.getD_eq_getD_getElem?.symm.trans h74
            go_simp
            exact hK _ _ (hC.keep l6' l6 ((Below.refl wa.heap.size wa).mono hC.2.1)) (fun j d _ _ _ h => FB.st (by decide) (Below.refl wa.heap.size wa) L j _ h) (fun _ => rfl)
          · intro act wa L hC hd hLi hLa hLb HF O K hK
            clear hd
            obtain ⟨x0, x1, x2, xf⟩ := hC.2.2.1.three
            have h7 := O 7 (by kernel_rfl)
            try have g7 := Array.getD_eq_getD_getElem?.symm.trans h7
            have h82 := HF 8 82 (hLa 1 8 (by kernel_rfl)) rfl
            dsimp only [FB] at h82
            try have g82 := Array.getD_eq_getD_getElem?.symm.trans h82
            obtain ⟨x, y, z, hz⟩ := hC.2.2.2.2.1
            obtain ⟨hv82, _⟩ := h82
            have g82 := Array.getD_eq_getD_getElem?.symm.trans hv82
            obtain ⟨y0, y1, y2, yf⟩ := hz.three
            have hbk := ((hz.set 0 (.int .i64 c0)).set 1 (.int .i64 c1)).set 2 (.int .i64 c2)
            go_simp
            have e1 : w.heap.size ≠ gD := by omega
            have e2 : w.heap.size + 1 ≠ gD := by omega
            have hCn : CB w w6.heap.size gD (some ⟨gA, oA, none⟩) ss p0 p1 p2 c0 c1 c2 gb ob bs (((wa.setCell ⟨gD, 0, none⟩ (.int .i64 c0)).setCell ⟨gD, 1, none⟩ (.int .i64 c1)).setCell ⟨gD, 2, none⟩ (.int .i64 c2)) := ⟨((hC.1.setCell (by simp; omega) _).setCell (by simp; omega) _).setCell (by simp; omega) _, (by simpa [World.setCell] using hC.2.1), ((hC.2.2.1.far e1 _).far e1 _).far e1 _, ((hC.2.2.2.1.far e2 _).far e2 _).far e2 _, ⟨c0, c1, c2, hbk⟩, rd_far (rd_far (rd_far hC.2.2.2.2.2.1 (fun g o h => by injection h with h; injection h with h; subst h; exact hne7) _) (fun g o h => by injection h with h; injection h with h; subst h; exact hne7) _) (fun g o h => by injection h with h; injection h with h; subst h; exact hne7) _, ((hC.2.2.2.2.2.2.below ((Below.refl _ _).setCell (p := ⟨gD, 0, none⟩) (by simp; omega) _)).below ((Below.refl _ _).setCell (p := ⟨gD, 1, none⟩) (by simp; omega) _)).below ((Below.refl _ _).setCell (p := ⟨gD, 2, none⟩) (by simp; omega) _)⟩
            exact hK undef _ hCn (fun j d hj _ hd h => FB.store hbk (hLa 5 3 (by kernel_rfl)) (hLa 5 5 (by kernel_rfl)) (hLa 5 6 (by kernel_rfl)) j _ h) (fun _ => trivial)
          · intro act wa L hC hd hLi hLa hLb HF O K hK
            clear hd
            obtain ⟨x0, x1, x2, xf⟩ := hC.2.2.1.three
            have h83 := HF 9 83 (hLa 1 9 (by kernel_rfl)) rfl
            dsimp only [FB] at h83
            try have g83 := Array.getD_eq_getD_getElem?.symm.trans h83
            go_simp
            exact hK _ _ (hC.keep l6' l6 ((Below.refl wa.heap.size wa).mono hC.2.1)) (fun j d _ _ _ h => FB.st (by decide) (Below.refl wa.heap.size wa) L j _ h) (fun _ => rfl)
          · intro act wa L hC hd hLi hLa hLb HF O K hK
            clear hd
            obtain ⟨x0, x1, x2, xf⟩ := hC.2.2.1.three
            have h84 := HF 10 84 (hLa 1 10 (by kernel_rfl)) rfl
            dsimp only [FB] at h84
            try have g84 := Array.getD_eq_getD_getElem?.symm.trans h84
            go_simp
            exact hK _ _ (hC.keep l6' l6 ((Below.refl wa.heap.size wa).mono hC.2.1)) (fun j d _ _ _ h => FB.st (by decide) (Below.refl wa.heap.size wa) L j _ h) (fun _ => rfl)
        · intro us w' hC HF
          obtain ⟨L82, hL82, u82⟩ := HF 8 82 rfl
          dsimp only [FB] at u82
          obtain ⟨L8, hL8, u8⟩ := HF 12 8 rfl
          dsimp only [FB] at u8
          obtain ⟨L9, hL9, u9⟩ := HF 13 9 rfl
          dsimp only [FB] at u9
          clear HF
          simp only [List.foldl]
          go_simp
          have k7n := u82.2 (hL82 11 (show 11 < 14 by omega))
          have e8 : us 8 = .int .i64 (bs.length : Int) := u8
          have e9 : us 9 = .int .i64 0 := u9
          rw [e8, e9]
          clear u82 u8 u9 e8 e9
          obtain ⟨x0, x1, x2, xf⟩ := k7n.three
          obtain ⟨y0, y1, y2, yf⟩ := hC.2.2.2.1.three
          have HBF := Lib.hid hC.1
          clear hC hL82 hL8 hL9
          have qe : ∀ w, (Op.equalIn 10000 23 (.agg #[.int .i64 c0, .int .i64 c1, .int .i64 c2]) (.agg #[.int .i64 c0, .int .i64 c1, .int .i64 c2])).run Try.prog w = .ok true w := fun w => by rw [eqc_in, eqcB_of rfl rfl rfl]
          go_wp2
          go_ret
          exact ⟨rfl, HBF.out⟩
      · go_wp2_with fail
        refine (Cput_no_at _ p0 p1 p2 c0 c1 c2 hrc).mono ?_
        rintro e w6 ⟨rfl, hb6⟩
        go_wp2
        go_ret
        exact ⟨rfl, HBW.out.trans (hb6.mono HBW.out.size)⟩
    · have hdn : ((d : Int) == 0) = false := by simp; exact hd
      have HD := Lib.hid hd; clear hd
      have ka := ka3
      have kc := kc3
      have k7 := k70
      go_wp2_with fail
      rw [← HW3.out, ← HG7.out]
      clear a0 a1 a2 af b0 b1 b2 bf m2 m3 ka3 kc3 k70
      obtain ⟨a0, a1, a2, af⟩ := ka.three
      obtain ⟨b0, b1, b2, bf⟩ := kc.three
      obtain ⟨d0, d1, d2, df⟩ := k7.three
      -- the rest: from the world w3 on
      by_cases hrc : rightB p0 p1 p2 = true ∧ rightB c0 c1 c2 = true
      · obtain ⟨bs, hbs⟩ : ∃ bs, bs = putC (p0, p1, p2) (c0, c1, c2) := ⟨_, rfl⟩
        have HBS := Lib.hid hbs; clear hbs
        have hbl : bs.length ≤ 30 := by
          have h1 := put1_le p0 c0
          have h2 := put1_le p1 c1
          have h3 := put1_le p2 c2
          rw [HBS.out]; simp [putC]; omega
        have hb256 : ∀ b ∈ bs, b < 256 := by
          obtain ⟨⟨_, _⟩, ⟨_, _⟩, ⟨_, _⟩⟩ := right_le hrc.1
          obtain ⟨⟨_, _⟩, ⟨_, _⟩, ⟨_, _⟩⟩ := right_le hrc.2
          intro b hb
          rw [HBS.out] at hb
          simp only [putC, List.mem_append] at hb
          rcases hb with (hb | hb) | hb
          · exact put1_byte ‹_› ‹_› ‹_› ‹_› b hb
          · exact put1_byte ‹_› ‹_› ‹_› ‹_› b hb
          · exact put1_byte ‹_› ‹_› ‹_› ‹_› b hb
        have HB256 := Lib.hid hb256; clear hb256
        have HBK := Lib.hid (show takeC (p0, p1, p2) (bs ++ ss) = ((c0, c1, c2), bs.length, 0) by rw [HBS.out]; exact takeC_put ss hrc.1 hrc.2)
        refine (Cput_at _ p0 p1 p2 c0 c1 c2 bs bs.length hrc HBS.out.symm rfl).mono ?_
        rintro e w6 ⟨gb, ob, cb, rfl, hrb, hcb, hmb, hb6⟩
        have HBW6 := Lib.hid (HBW.out.trans (hb6.mono HBW.out.size))
        have ka6 := ka.below hb6 ka.lt
        have kc6 := kc.below hb6 kc.lt
        have k76 := k7.below hb6 k7.lt
        have hr6 := hr.below HBW6.out
        have l6 : gD < w6.heap.size := k76.lt
        have l6' : w.heap.size + 1 < w6.heap.size := kc6.lt
        have hne7 : gb ≠ gD := rd_ne hrb (by intro h; have := Vm.enc_pos (Vm.zig (c0 - p0)); have h2 := congrArg List.length HBS.out; rw [h] at h2; simp [putC, put1] at h2; omega) k76 (by intro v hv; simp at hv; rcases hv with h | h | h <;> exact ⟨_, h⟩)
        clear hb6 ka kc k7 a0 a1 a2 af b0 b1 b2 bf d0 d1 d2 df
        go_wp2
        refine Inv.region_gen (FB w6.heap.size p0 p1 p2 c0 c1 c2 A len cap ss gb ob cb bs gD) (CB w w6.heap.size gD A ss p0 p1 p2 c0 c1 c2 gb ob bs) 98 [75, 76, 77, 78, 79, 80, 81, 74, 82, 83, 84, 8, 9] (by kernel_rfl) rfl (by kernel_rfl) (by kernel_rfl) ?_ ?_ ?_
        · exact ⟨HBW6.out.drew, Nat.le_refl _, ka6, kc6, ⟨_, _, _, k76⟩, hrb, hr6⟩
        · refine ⟨?_, ?_, ?_, ?_, ?_, ?_, ?_, ?_, ?_, ?_, ?_, ?_, ?_, ?_, trivial⟩
          · intro act wa L hC hd hLi hLa hLb HF O K hK
            clear hd
            obtain ⟨x0, x1, x2, xf⟩ := hC.2.2.1.three
            have h3 := O 3 (by kernel_rfl)
            try have g3 := Array.getD_eq_getD_getElem?.symm.trans h3
            go_simp
            exact hK _ _ (hC.keep l6' l6 ((Below.refl wa.heap.size wa).mono hC.2.1)) (fun j d _ _ _ h => FB.st (by decide) (Below.refl wa.heap.size wa) L j _ h) (fun _ => rfl)
          · intro act wa L hC hd hLi hLa hLb HF O K hK
            clear hd
            obtain ⟨x0, x1, x2, xf⟩ := hC.2.2.1.three
            go_simp
            exact hK _ _ (hC.keep l6' l6 (((Below.refl wa.heap.size wa).alloc (Nat.le_refl _) _).mono hC.2.1)) (fun j d _ _ _ h => FB.st (by decide) ((Below.refl wa.heap.size wa).alloc (Nat.le_refl _) _) L j _ h) (fun _ => ⟨wa.heap.size, rfl, fun _ => ⟨hC.2.1, Blk.new wa _ _⟩⟩)
          · intro act wa L hC hd hLi hLa hLb HF O K hK
            clear hd
            obtain ⟨x0, x1, x2, xf⟩ := hC.2.2.1.three
            have h12 := O 12 (by kernel_rfl)
            try have g12 := Array.getD_eq_getD_getElem?.symm.trans h12
            go_simp
            exact hK _ _ (hC.keep l6' l6 ((Below.refl wa.heap.size wa).mono hC.2.1)) (fun j d _ _ _ h => FB.st (by decide) (Below.refl wa.heap.size wa) L j _ h) (fun _ => rfl)
          · intro act wa L hC hd hLi hLa hLb HF O K hK
            clear hd
            obtain ⟨x0, x1, x2, xf⟩ := hC.2.2.1.three
            have h76 := HF 1 76 (hLa 1 1 (by kernel_rfl)) rfl
            dsimp only [FB] at h76
            try have g76 := Array.getD_eq_getD_getElem?.symm.trans h76
            have h77 := HF 2 77 (hLa 1 2 (by kernel_rfl)) rfl
            dsimp only [FB] at h77
            try have g77 := Array.getD_eq_getD_getElem?.symm.trans h77
            obtain ⟨g, hv, hg⟩ := h76
            obtain ⟨hBg, hblk⟩ := hg hLi
            have hS := hC.2.1
            refine step_app_own (w := wa) rfl (.tmp 76) (.tmp 77) _ rfl w6.heap.size 5 i0 (.int .u8 0) 1 Try.underlying25 hi hz0 hz1 hz2 rfl _ 0 [] hv (own_of_empty hBg hblk) _ (some ⟨gb, ob, none⟩) bs.length cb (u8s bs) h77 (by simp) hC.2.2.2.2.2.1 (fun h => by cases h) (u8s_one _) (by unfold maxLen; omega) (by omega) hS ?_
            intro v' w' ho hgr
            have hB3 : Below w6.heap.size wa w' := (Below.refl _ _).grown hgr hS (fun k hk => by simp [Value.ownBlock] at hk; omega)
            exact hK _ _ (hC.keep l6' l6 hB3) (fun j d hj hLj _ h => FB.row (.inl rfl) hB3 l6 (by omega) (fun _ => hLb 1 5 (by kernel_rfl)) j _ hj hLj h) (fun _ _ => by simpa using ho)
          · intro act wa L hC hd hLi hLa hLb HF O K hK
            clear hd
            obtain ⟨x0, x1, x2, xf⟩ := hC.2.2.1.three
            have h2 := O 2 (by kernel_rfl)
            try have g2 := Array.getD_eq_getD_getElem?.symm.trans h2
            go_simp
            exact hK _ _ (hC.keep l6' l6 ((Below.refl wa.heap.size wa).mono hC.2.1)) (fun j d _ _ _ h => FB.st (by decide) (Below.refl wa.heap.size wa) L j _ h) (fun _ => rfl)
          · intro act wa L hC hd hLi hLa hLb HF O K hK
            clear hd
            obtain ⟨x0, x1, x2, xf⟩ := hC.2.2.1.three
            have h78 := HF 3 78 (hLa 1 3 (by kernel_rfl)) rfl
            dsimp only [FB] at h78
            try have g78 := Array.getD_eq_getD_getElem?.symm.trans h78
            have h79 := HF 4 79 (hLa 1 4 (by kernel_rfl)) rfl
            dsimp only [FB] at h79
            try have g79 := Array.getD_eq_getD_getElem?.symm.trans h79
            have hown := h78 hLi
            have hS := hC.2.1
            refine step_app_own (w := wa) rfl (.tmp 78) (.tmp 79) _ rfl w6.heap.size 5 i0 (.int .u8 0) 1 Try.underlying25 hi hz0 hz1 hz2 rfl _ bs.length (u8s bs) rfl hown _ A len cap (u8s ss) h79 (by simp [HL.out]) hC.2.2.2.2.2.2 hnone (u8s_one _) (by unfold maxLen; omega) (by omega) hS ?_
            intro v' w' ho hgr
            have hB3 : Below w6.heap.size wa w' := (Below.refl _ _).grown hgr hS (fun k hk => (hown.lt k hk).1)
            exact hK _ _ (hC.keep l6' l6 hB3) (fun j d hj hLj _ h => FB.row (.inr rfl) hB3 l6 (fun _ => hLa 1 3 (by kernel_rfl)) (by omega) j _ hj hLj h) (fun _ _ => ho)
          · intro act wa L hC hd hLi hLa hLb HF O K hK
            clear hd
            obtain ⟨x0, x1, x2, xf⟩ := hC.2.2.1.three
            have h75 := HF 0 75 (hLa 1 0 (by kernel_rfl)) rfl
            dsimp only [FB] at h75
            try have g75 := Array.getD_eq_getD_getElem?.symm.trans h75
            have h80 := HF 5 80 (hLa 1 5 (by kernel_rfl)) rfl
            dsimp only [FB] at h80
            try have g80 := Array.getD_eq_getD_getElem?.symm.trans h80
            obtain ⟨A5, c5, hv, hc5, hm5, _, hr5, hn5⟩ := own_form (h80 hLi)
            go_simp
            refine (Ctake_at _ p0 p1 p2 A5 (bs.length + len) c5 (bs ++ ss) c0 c1 c2 bs.length 0 bs.length 0 (by rw [u8s_append]; exact hr5) (fun b hb => by rcases List.mem_append.1 hb with h | h; exact HB256.out b h; exact H256.out b h) (by simp [HL.out]) hc5 hm5 hn5 HBK.out rfl rfl).mono ?_
            rintro e w2 ⟨rfl, hb⟩
            exact hK _ _ (hC.keep l6' l6 (hb.mono hC.2.1)) (fun j d _ _ _ h => FB.st (by decide) hb L j _ h) (fun _ => rfl)
          · intro act wa L hC hd hLi hLa hLb HF O K hK
            clear hd
            obtain ⟨x0, x1, x2, xf⟩ := hC.2.2.1.three
            have h81 := HF 6 81 (hLa 1 6 (by kernel_rfl)) rfl
            dsimp only [FB] at h81
            try have g81 := Array.getD_eq_getD_getElem?.symm.trans h81
            go_simp
            exact hK _ _ (hC.keep l6' l6 ((Below.refl wa.heap.size wa).mono hC.2.1)) (fun j d _ _ _ h => FB.st (by decide) (Below.refl wa.heap.size wa) L j _ h) (fun _ => rfl)
          · intro act wa L hC hd hLi hLa hLb HF O K hK
            clear hd
            obtain ⟨x0, x1, x2, xf⟩ := hC.2.2.1.three
            have h74 := HF 7 74 (hLa 1 7 (by kernel_rfl)) rfl
            dsimp only [FB] at h74
            try have g74 := Array.getD_eq_getD_getElem?.symm.trans h74
            go_simp
            exact hK _ _ (hC.keep l6' l6 ((Below.refl wa.heap.size wa).mono hC.2.1)) (fun j d _ _ _ h => FB.st (by decide) (Below.refl wa.heap.size wa) L j _ h) (fun _ => ⟨rfl, fun hl => by have := hLb 2 11 (by kernel_rfl); rw [Inv.upd_t (by decide) hl] at this; cases this⟩)
          · intro act wa L hC hd hLi hLa hLb HF O K hK
            clear hd
            obtain ⟨x0, x1, x2, xf⟩ := hC.2.2.1.three
            have h74 := HF 7 74 (hLa 1 7 (by kernel_rfl)) rfl
            dsimp only [FB] at h74
            try have g74 := Array.getD_eq_getD_getElem?.symm.trans h74
            go_simp
            exact hK _ _ (hC.keep l6' l6 ((Below.refl wa.heap.size wa).mono hC.2.1)) (fun j d _ _ _ h => FB.st (by decide) (Below.refl wa.heap.size wa) L j _ h) (fun _ => rfl)
          · intro act wa L hC hd hLi hLa hLb HF O K hK
            clear hd
            obtain ⟨x0, x1, x2, xf⟩ := hC.2.2.1.three
            have h74 := HF 7 74 (hLa 1 7 (by kernel_rfl)) rfl
            dsimp only [FB] at h74
            try have g74 := Array.getD_eq_getD_getElem?.symm.trans h74
            go_simp
            exact hK _ _ (hC.keep l6' l6 ((Below.refl wa.heap.size wa).mono hC.2.1)) (fun j d _ _ _ h => FB.st (by decide) (Below.refl wa.heap.size wa) L j _ h) (fun _ => rfl)
          · intro act wa L hC hd hLi hLa hLb HF O K hK
            clear hd
            obtain ⟨x0, x1, x2, xf⟩ := hC.2.2.1.three
            have h7 := O 7 (by kernel_rfl)
            try have g7 := Array.getD_eq_getD_getElem?.symm.trans h7
            have h82 := HF 8 82 (hLa 1 8 (by kernel_rfl)) rfl
            dsimp only [FB] at h82
            try have g82 := Array.getD_eq_getD_getElem?.symm.trans h82
            obtain ⟨x, y, z, hz⟩ := hC.2.2.2.2.1
            obtain ⟨hv82, _⟩ := h82
            have g82 := Array.getD_eq_getD_getElem?.symm.trans hv82
            obtain ⟨y0, y1, y2, yf⟩ := hz.three
            have hbk := ((hz.set 0 (.int .i64 c0)).set 1 (.int .i64 c1)).set 2 (.int .i64 c2)
            go_simp
            have e1 : w.heap.size ≠ gD := by omega
            have e2 : w.heap.size + 1 ≠ gD := by omega
            have hCn : CB w w6.heap.size gD A ss p0 p1 p2 c0 c1 c2 gb ob bs (((wa.setCell ⟨gD, 0, none⟩ (.int .i64 c0)).setCell ⟨gD, 1, none⟩ (.int .i64 c1)).setCell ⟨gD, 2, none⟩ (.int .i64 c2)) := ⟨((hC.1.setCell (by simp; omega) _).setCell (by simp; omega) _).setCell (by simp; omega) _, (by simpa [World.setCell] using hC.2.1), ((hC.2.2.1.far e1 _).far e1 _).far e1 _, ((hC.2.2.2.1.far e2 _).far e2 _).far e2 _, ⟨c0, c1, c2, hbk⟩, rd_far (rd_far (rd_far hC.2.2.2.2.2.1 (fun g o h => by injection h with h; injection h with h; subst h; exact hne7) _) (fun g o h => by injection h with h; injection h with h; subst h; exact hne7) _) (fun g o h => by injection h with h; injection h with h; subst h; exact hne7) _, ((hC.2.2.2.2.2.2.below ((Below.refl _ _).setCell (p := ⟨gD, 0, none⟩) (by simp; omega) _)).below ((Below.refl _ _).setCell (p := ⟨gD, 1, none⟩) (by simp; omega) _)).below ((Below.refl _ _).setCell (p := ⟨gD, 2, none⟩) (by simp; omega) _)⟩
            exact hK undef _ hCn (fun j d hj _ hd h => FB.store hbk (hLa 5 3 (by kernel_rfl)) (hLa 5 5 (by kernel_rfl)) (hLa 5 6 (by kernel_rfl)) j _ h) (fun _ => trivial)
          · intro act wa L hC hd hLi hLa hLb HF O K hK
            clear hd
            obtain ⟨x0, x1, x2, xf⟩ := hC.2.2.1.three
            have h83 := HF 9 83 (hLa 1 9 (by kernel_rfl)) rfl
            dsimp only [FB] at h83
            try have g83 := Array.getD_eq_getD_getElem?.symm.trans h83
            go_simp
            exact hK _ _ (hC.keep l6' l6 ((Below.refl wa.heap.size wa).mono hC.2.1)) (fun j d _ _ _ h => FB.st (by decide) (Below.refl wa.heap.size wa) L j _ h) (fun _ => rfl)
          · intro act wa L hC hd hLi hLa hLb HF O K hK
            clear hd
            obtain ⟨x0, x1, x2, xf⟩ := hC.2.2.1.three
            have h84 := HF 10 84 (hLa 1 10 (by kernel_rfl)) rfl
            dsimp only [FB] at h84
            try have g84 := Array.getD_eq_getD_getElem?.symm.trans h84
            go_simp
            exact hK _ _ (hC.keep l6' l6 ((Below.refl wa.heap.size wa).mono hC.2.1)) (fun j d _ _ _ h => FB.st (by decide) (Below.refl wa.heap.size wa) L j _ h) (fun _ => rfl)
        · intro us w' hC HF
          obtain ⟨L82, hL82, u82⟩ := HF 8 82 rfl
          dsimp only [FB] at u82
          obtain ⟨L8, hL8, u8⟩ := HF 12 8 rfl
          dsimp only [FB] at u8
          obtain ⟨L9, hL9, u9⟩ := HF 13 9 rfl
          dsimp only [FB] at u9
          clear HF
          simp only [List.foldl]
          go_simp
          have k7n := u82.2 (hL82 11 (show 11 < 14 by omega))
          have e8 : us 8 = .int .i64 (bs.length : Int) := u8
          have e9 : us 9 = .int .i64 0 := u9
          rw [e8, e9]
          clear u82 u8 u9 e8 e9
          obtain ⟨x0, x1, x2, xf⟩ := k7n.three
          obtain ⟨y0, y1, y2, yf⟩ := hC.2.2.2.1.three
          have HBF := Lib.hid hC.1
          clear hC hL82 hL8 hL9
          have qe : ∀ w, (Op.equalIn 10000 23 (.agg #[.int .i64 c0, .int .i64 c1, .int .i64 c2]) (.agg #[.int .i64 c0, .int .i64 c1, .int .i64 c2])).run Try.prog w = .ok true w := fun w => by rw [eqc_in, eqcB_of rfl rfl rfl]
          go_wp2
          go_ret
          exact ⟨rfl, HBF.out⟩
      · refine (Cput_no_at _ p0 p1 p2 c0 c1 c2 hrc).mono ?_
        rintro e w6 ⟨rfl, hb6⟩
        go_wp2
        go_ret
        exact ⟨rfl, HBW.out.trans (hb6.mono HBW.out.size)⟩
end Go.Proofs.Ytignfhdblakcfaa

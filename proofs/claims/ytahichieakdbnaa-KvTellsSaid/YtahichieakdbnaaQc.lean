/- ref16: Text. -/
import Derived.Test.YtahichieakdbnaaQb
import Derived.Test.YtahichieakdbnaaInw
import Derived.Test.YtahichieakdbnaaAz
namespace Go.Proofs.Ytahichieakdbnaa
open Go.ChangeShapes Go.WideShapes Go.ChangeAt Go.RowKit Go.Maps
set_option linter.unusedVariables false
set_option linter.unusedSimpArgs false

theorem updK_ne {L : Nat → Bool} {i k : Nat} (h : i ≠ k) : Inv.upd L i k = L k := by unfold Inv.upd; rw [if_neg (fun e => h e.symm)]
theorem updK_up {L : Nat → Bool} {i k : Nat} (h : L k = true) : Inv.upd L i k = true := by
  by_cases hik : i = k
  · subst hik; exact Inv.upd_same L i
  · rw [updK_ne hik]; exact h
theorem madeB {w w' : World} {v : Value} {bs : List Nat} {k : Nat} (h : Made w v bs k) (hb : Below w.heap.size w w') : Made w' v bs k := (MadeO.below (S := fun _ => False) ⟨h, fun _ _ _ _ _ _ h => h⟩ hb).1
/-- what the operations of 'out = append(append(out, text(K[i])...), text(V[i])...)' have told -/
def FX (r qk qv k n cK cV : Nat) (kb vb : ByteArray) (B : Nat) (vo : Value) (m : Nat) (xs : List Nat) (i : Nat) (L : Nat → Bool) (v : Value) (w : World) : Prop := match i with
  | 0 => v = vo
  | 1 => v = .pointer (some ⟨r, 0, none⟩)
  | 2 => v = .pointer (some ⟨r, 0, none⟩)
  | 3 => v = .pointer (some ⟨r, 0, none⟩)
  | 4 => v = .slice (some ⟨qk, 0, none⟩) n cK
  | 5 => v = .int .i64 (k : Int)
  | 6 => v = .pointer (some ⟨qk, k, none⟩)
  | 7 => v = .string kb
  | 8 => L 9 = true ∨ Made w v (txtB kb) (txtB kb).length
  | 9 => L 18 = true ∨ w.ownsRow B 5 1 v (m + (txtB kb).length) (u8s (xs ++ txtB kb))
  | 10 => v = .pointer (some ⟨r, 0, none⟩)
  | 11 => v = .pointer (some ⟨r, 0, none⟩)
  | 12 => v = .pointer (some ⟨r, 1, none⟩)
  | 13 => v = .slice (some ⟨qv, 0, none⟩) n cV
  | 14 => v = .int .i64 (k : Int)
  | 15 => v = .pointer (some ⟨qv, k, none⟩)
  | 16 => v = .string vb
  | 17 => L 18 = true ∨ MadeO w (fun j => vo.ownBlock = some j) v (txtB vb) (txtB vb).length
  | 18 => w.ownsRow B 5 1 v (m + (txtB kb).length + (txtB vb).length) (u8s (xs ++ txtB kb ++ txtB vb))
  | 19 => w.ownsRow B 5 1 v (m + (txtB kb).length + (txtB vb).length) (u8s (xs ++ txtB kb ++ txtB vb))
  | _ => True
namespace FX
variable {r qk qv k n cK cV : Nat} {kb vb : ByteArray} {B : Nat} {vo : Value} {m : Nat} {xs : List Nat} {L : Nat → Bool} {v : Value} {w w' : World}
theorem keep (i : Nat) (hb : Below w.heap.size w w') (j : Nat) (h : FX r qk qv k n cK cV kb vb B vo m xs j L v w) : FX r qk qv k n cK cV kb vb B vo m xs j (Inv.upd L i) v w' := by
  unfold FX at h ⊢
  split at h
  case h_9 =>
    rcases h with h | h
    · exact .inl (updK_up h)
    · exact .inr (madeB h hb)
  case h_10 =>
    rcases h with h | h
    · exact .inl (updK_up h)
    · exact .inr (own_below h hb)
  case h_18 =>
    rcases h with h | h
    · exact .inl (updK_up h)
    · exact .inr (h.below hb)
  case h_19 => exact own_below h hb
  case h_20 => exact own_below h hb
  all_goals exact h
theorem nine (hO : Only (fun j => vo.ownBlock = some j) w w') (j : Nat) (h9 : j ≠ 9) (h18 : j ≠ 18) (h19 : j ≠ 19) (h : FX r qk qv k n cK cV kb vb B vo m xs j L v w) : FX r qk qv k n cK cV kb vb B vo m xs j (Inv.upd L 9) v w' := by
  unfold FX at h ⊢
  split at h
  case h_9 => exact .inl (Inv.upd_same L 9)
  case h_10 => exact absurd rfl h9
  case h_18 =>
    rcases h with h | h
    · exact .inl (updK_up h)
    · exact .inr (h.other hO (fun g o n c hv hn hs => h.2 g o n c hv hn hs))
  case h_19 => exact absurd rfl h18
  case h_20 => exact absurd rfl h19
  all_goals exact h
theorem last (l9 : L 9 = true) (j : Nat) (h18 : j ≠ 18) (h19 : j ≠ 19) (h : FX r qk qv k n cK cV kb vb B vo m xs j L v w) : FX r qk qv k n cK cV kb vb B vo m xs j (Inv.upd L 18) v w' := by
  unfold FX at h ⊢
  split at h
  case h_9 => exact .inl (updK_up l9)
  case h_10 => exact .inl (Inv.upd_same L 18)
  case h_18 => exact .inl (Inv.upd_same L 18)
  case h_19 => exact absurd rfl h18
  case h_20 => exact absurd rfl h19
  all_goals exact h
end FX
def CX (B : Nat) (W : World) (vo : Value) (m : Nat) (xs : List Nat) (L : Nat → Bool) (w : World) : Prop := Below B W w ∧ B ≤ w.heap.size ∧ (L 9 = false → w.ownsRow B 5 1 vo m (u8s xs))
theorem CX.keep {B : Nat} {W w w' : World} {vo : Value} {m : Nat} {xs : List Nat} {L : Nat → Bool} (i : Nat) (hi : i ≠ 9) (h : CX B W vo m xs L w) (hb : Below w.heap.size w w') : CX B W vo m xs (Inv.upd L i) w' :=
  ⟨h.1.trans (hb.mono h.2.1), Nat.le_trans h.2.1 hb.size, fun hl => own_below (h.2.2 (by rw [updK_ne hi] at hl; exact hl)) hb⟩
set_option maxHeartbeats 4000000 in
set_option maxRecDepth 100000 in
theorem RText_any (w : World) (r M : Nat) (vK vV : Value) (st : St) (h : RS w r vK vV st) (hstn : st.length ≤ 1000000) (hM : ∀ p ∈ st, p.1.length ≤ M ∧ p.2.length ≤ M) (hM2 : M ≤ 100000) :
    Calls Try.prog 48 #[.pointer (some ⟨r, 0, none⟩)] w (KTextPost w st) := by
  obtain ⟨i0, hi, hz0, hz1, hz2⟩ := info_parts Try.infoB
  have H0 := Lib.hid h; have HM := Lib.hid hM
  obtain ⟨h1, h2, h3, h4⟩ := h
  obtain ⟨AK, cK, rfl⟩ := own_sl h2
  obtain ⟨AV, cV, rfl⟩ := own_sl h3
  have HK := Lib.hid h1
  obtain ⟨ns, hns⟩ : ∃ q, st.length = q := ⟨_, rfl⟩
  have HNS := Lib.hid hns
  rw [hns] at h2 h3 hstn HK H0
  have H2 := Lib.hid h2; have H3 := Lib.hid h3
  have hrl := h1.lt
  have hb0 : Below w.heap.size w (w.alloc (.cells #[] 5)) := (Below.refl _ w).alloc (Nat.le_refl _) _
  have hlit := own_lit0 w 5 w.heap.size (Nat.le_refl _)
  have HLIT := Lib.hid hlit; have HB0 := Lib.hid hb0
  clear h1 h2 h3 h4 hM hns hlit hb0
  go_enter Try.func48, Try.ntmps48
  go_wp2
  go_loopw [3, 4] (fun s3 s4 wr => ∃ j : Nat, s4 = .int .i64 (j : Int) ∧ j ≤ ns ∧ wr.ownsRow w.heap.size 5 1 s3 (Km.txt (st.take j)).length (u8s (Km.txt (st.take j))) ∧ Below w.heap.size w wr) (fun _ s4 _ => ns - (intOf s4).toNat)
  case atStart => exact ⟨0, rfl, Nat.zero_le _, by simpa [Km.txt, u8s] using HLIT.out, HB0.out⟩
  case round =>
    clear HLIT HB0
    obtain ⟨j, rfl, hj, ho, hb⟩ := hrel
    have HB := Lib.hid hb
    have kr := (HK.out.below hb hrl)
    have a0 := kr.cell 0
    have a1 := kr.cell 1
    have krl := kr.lt
    simp at a0 a1
    by_cases hlt : j < ns
    · have hltI : (j : Int) < (ns : Int) := by omega
      have HLT := Lib.hid hlt
      obtain ⟨⟨key, val⟩, hp⟩ : ∃ p, st[j]? = some p := ⟨_, List.getElem?_eq_getElem (by rw [HNS.out]; exact hlt)⟩
      have hmem := List.mem_of_getElem? hp
      obtain ⟨hk1', hk2'⟩ := HM.out _ hmem
      simp only at hk1' hk2'
      obtain ⟨qk, rfl, y0, hqk⟩ := strs_cell H2.out (k := j) (x := key) (by rw [List.getElem?_map, hp]; rfl) hlt
      obtain ⟨qv, rfl, z0, hqv⟩ := strs_cell H3.out (k := j) (x := val) (by rw [List.getElem?_map, hp]; rfl) hlt
      obtain ⟨A3, c3, rfl⟩ := own_sl ho
      obtain ⟨m3, hm3⟩ : ∃ q, (Km.txt (st.take j)).length = q := ⟨_, rfl⟩
      obtain ⟨xs, hxs⟩ : ∃ q, Km.txt (st.take j) = q := ⟨_, rfl⟩
      have hml : m3 ≤ 200020000000 := by
        rw [← hm3]
        have h1 := txt_le (M := M) (st := st.take j) (fun p hp => HM.out p (List.mem_of_mem_take hp))
        have h2 : (st.take j).length ≤ 1000000 := by rw [List.length_take]; omega
        have h3 : (st.take j).length * (2 * M + 20) ≤ 1000000 * (2 * 100000 + 20) := Nat.mul_le_mul h2 (by omega)
        omega
      rw [hm3, hxs] at ho
      have HXS := Lib.hid hxs; have HM3 := Lib.hid hm3; have HPJ := Lib.hid hp
      obtain ⟨kb, hkb⟩ : ∃ kb, Km.ba key = kb := ⟨_, rfl⟩
      obtain ⟨vb, hvb⟩ : ∃ kb, Km.ba val = kb := ⟨_, rfl⟩
      have hkbs : kb.size = key.length := by rw [← hkb, Km.ba_size]
      have hvbs : vb.size = val.length := by rw [← hvb, Km.ba_size]
      have HKB := Lib.hid hkb; have HVB := Lib.hid hvb
      rw [hkb] at y0
      rw [hvb] at z0
      have Y0 := Lib.hid y0; have Z0 := Lib.hid z0
      have htk1 : (txtB kb).length ≤ 100010 := by rw [← hkb, txtB_ba]; have := txt1_le key; omega
      have htv1 : (txtB vb).length ≤ 100010 := by rw [← hvb, txtB_ba]; have := txt1_le val; omega
      have HO := Lib.hid ho
      rw [hm3]
      clear ho hp hxs hm3 hkb hvb y0 z0 hmem
      go_wp2
      obtain ⟨W, hW⟩ : ∃ W, wr = W := ⟨_, rfl⟩
      rw [hW] at HB HO hb ⊢
      clear hW
      refine Inw.region_genL (FX r qk qv j ns cK cV kb vb w.heap.size (.slice A3 m3 c3) m3 xs) (CX w.heap.size W (.slice A3 m3 c3) m3 xs) 35 [15, 16, 17, 18, 19, 20, 21, 22, 23, 24, 25, 26, 27, 28, 29, 30, 31, 32, 33, 3] (by kernel_rfl) rfl (by kernel_rfl) (by kernel_rfl) ?_ ?_ ?_
      · exact ⟨(Below.refl _ W).drew.mono hb.size, hb.size, fun _ => HO.out⟩
      · refine ⟨?_, ?_, ?_, ?_, ?_, ?_, ?_, ?_, ?_, ?_, ?_, ?_, ?_, ?_, ?_, ?_, ?_, ?_, ?_, ?_, trivial⟩
        · intro act wa L hC hd hLi hLa hLb HF O NN K hK
          clear hd
          have hbw := HB.out.trans hC.1
          have kw := HK.out.below hbw hrl
          have kwl := kw.lt
          have k0 := kw.cell 0
          have k1 := kw.cell 1
          have y0 := (hbw.cell (p := ⟨qk, j, none⟩) hqk).trans Y0.out
          have z0 := (hbw.cell (p := ⟨qv, j, none⟩) hqv).trans Z0.out
          have qkl := Nat.lt_of_lt_of_le hqk hbw.size
          have qvl := Nat.lt_of_lt_of_le hqv hbw.size
          simp at k0 k1
          have h3 := NN 19 3 (hLb 12 19 (by kernel_rfl)) rfl
          try have g3 := Array.getD_eq_getD_getElem?.symm.trans h3
          go_simp
          exact hK _ _ (hC.keep 0 (by decide) (Below.refl wa.heap.size wa)) (fun j d _ _ _ h => FX.keep 0 (Below.refl wa.heap.size wa) _ h) (fun _ => rfl)
        · intro act wa L hC hd hLi hLa hLb HF O NN K hK
          clear hd
          have hbw := HB.out.trans hC.1
          have kw := HK.out.below hbw hrl
          have kwl := kw.lt
          have k0 := kw.cell 0
          have k1 := kw.cell 1
          have y0 := (hbw.cell (p := ⟨qk, j, none⟩) hqk).trans Y0.out
          have z0 := (hbw.cell (p := ⟨qv, j, none⟩) hqv).trans Z0.out
          have qkl := Nat.lt_of_lt_of_le hqk hbw.size
          have qvl := Nat.lt_of_lt_of_le hqv hbw.size
          simp at k0 k1
          have h0 := O 0 (by kernel_rfl)
          try have g0 := Array.getD_eq_getD_getElem?.symm.trans h0
          go_simp
          exact hK _ _ (hC.keep 1 (by decide) (Below.refl wa.heap.size wa)) (fun j d _ _ _ h => FX.keep 1 (Below.refl wa.heap.size wa) _ h) (fun _ => rfl)
        · intro act wa L hC hd hLi hLa hLb HF O NN K hK
          clear hd
          have hbw := HB.out.trans hC.1
          have kw := HK.out.below hbw hrl
          have kwl := kw.lt
          have k0 := kw.cell 0
          have k1 := kw.cell 1
          have y0 := (hbw.cell (p := ⟨qk, j, none⟩) hqk).trans Y0.out
          have z0 := (hbw.cell (p := ⟨qv, j, none⟩) hqv).trans Z0.out
          have qkl := Nat.lt_of_lt_of_le hqk hbw.size
          have qvl := Nat.lt_of_lt_of_le hqv hbw.size
          simp at k0 k1
          have h16 := HF 1 16 (hLa 1 1 (by kernel_rfl)) rfl
          dsimp only [FX] at h16
          try have g16 := Array.getD_eq_getD_getElem?.symm.trans h16
          go_simp
          exact hK _ _ (hC.keep 2 (by decide) (Below.refl wa.heap.size wa)) (fun j d _ _ _ h => FX.keep 2 (Below.refl wa.heap.size wa) _ h) (fun _ => rfl)
        · intro act wa L hC hd hLi hLa hLb HF O NN K hK
          clear hd
          have hbw := HB.out.trans hC.1
          have kw := HK.out.below hbw hrl
          have kwl := kw.lt
          have k0 := kw.cell 0
          have k1 := kw.cell 1
          have y0 := (hbw.cell (p := ⟨qk, j, none⟩) hqk).trans Y0.out
          have z0 := (hbw.cell (p := ⟨qv, j, none⟩) hqv).trans Z0.out
          have qkl := Nat.lt_of_lt_of_le hqk hbw.size
          have qvl := Nat.lt_of_lt_of_le hqv hbw.size
          simp at k0 k1
          have h17 := HF 2 17 (hLa 1 2 (by kernel_rfl)) rfl
          dsimp only [FX] at h17
          try have g17 := Array.getD_eq_getD_getElem?.symm.trans h17
          go_simp
          exact hK _ _ (hC.keep 3 (by decide) (Below.refl wa.heap.size wa)) (fun j d _ _ _ h => FX.keep 3 (Below.refl wa.heap.size wa) _ h) (fun _ => rfl)
        · intro act wa L hC hd hLi hLa hLb HF O NN K hK
          clear hd
          have hbw := HB.out.trans hC.1
          have kw := HK.out.below hbw hrl
          have kwl := kw.lt
          have k0 := kw.cell 0
          have k1 := kw.cell 1
          have y0 := (hbw.cell (p := ⟨qk, j, none⟩) hqk).trans Y0.out
          have z0 := (hbw.cell (p := ⟨qv, j, none⟩) hqv).trans Z0.out
          have qkl := Nat.lt_of_lt_of_le hqk hbw.size
          have qvl := Nat.lt_of_lt_of_le hqv hbw.size
          simp at k0 k1
          have h18 := HF 3 18 (hLa 1 3 (by kernel_rfl)) rfl
          dsimp only [FX] at h18
          try have g18 := Array.getD_eq_getD_getElem?.symm.trans h18
          go_simp
          exact hK _ _ (hC.keep 4 (by decide) (Below.refl wa.heap.size wa)) (fun j d _ _ _ h => FX.keep 4 (Below.refl wa.heap.size wa) _ h) (fun _ => rfl)
        · intro act wa L hC hd hLi hLa hLb HF O NN K hK
          clear hd
          have hbw := HB.out.trans hC.1
          have kw := HK.out.below hbw hrl
          have kwl := kw.lt
          have k0 := kw.cell 0
          have k1 := kw.cell 1
          have y0 := (hbw.cell (p := ⟨qk, j, none⟩) hqk).trans Y0.out
          have z0 := (hbw.cell (p := ⟨qv, j, none⟩) hqv).trans Z0.out
          have qkl := Nat.lt_of_lt_of_le hqk hbw.size
          have qvl := Nat.lt_of_lt_of_le hqv hbw.size
          simp at k0 k1
          have h4 := O 4 (by kernel_rfl)
          try have g4 := Array.getD_eq_getD_getElem?.symm.trans h4
          go_simp
          exact hK _ _ (hC.keep 5 (by decide) (Below.refl wa.heap.size wa)) (fun j d _ _ _ h => FX.keep 5 (Below.refl wa.heap.size wa) _ h) (fun _ => rfl)
        · intro act wa L hC hd hLi hLa hLb HF O NN K hK
          clear hd
          have hbw := HB.out.trans hC.1
          have kw := HK.out.below hbw hrl
          have kwl := kw.lt
          have k0 := kw.cell 0
          have k1 := kw.cell 1
          have y0 := (hbw.cell (p := ⟨qk, j, none⟩) hqk).trans Y0.out
          have z0 := (hbw.cell (p := ⟨qv, j, none⟩) hqv).trans Z0.out
          have qkl := Nat.lt_of_lt_of_le hqk hbw.size
          have qvl := Nat.lt_of_lt_of_le hqv hbw.size
          simp at k0 k1
          have h19 := HF 4 19 (hLa 1 4 (by kernel_rfl)) rfl
          dsimp only [FX] at h19
          try have g19 := Array.getD_eq_getD_getElem?.symm.trans h19
          have h20 := HF 5 20 (hLa 1 5 (by kernel_rfl)) rfl
          dsimp only [FX] at h20
          try have g20 := Array.getD_eq_getD_getElem?.symm.trans h20
          go_simp
          exact hK _ _ (hC.keep 6 (by decide) (Below.refl wa.heap.size wa)) (fun j d _ _ _ h => FX.keep 6 (Below.refl wa.heap.size wa) _ h) (fun _ => rfl)
        · intro act wa L hC hd hLi hLa hLb HF O NN K hK
          clear hd
          have hbw := HB.out.trans hC.1
          have kw := HK.out.below hbw hrl
          have kwl := kw.lt
          have k0 := kw.cell 0
          have k1 := kw.cell 1
          have y0 := (hbw.cell (p := ⟨qk, j, none⟩) hqk).trans Y0.out
          have z0 := (hbw.cell (p := ⟨qv, j, none⟩) hqv).trans Z0.out
          have qkl := Nat.lt_of_lt_of_le hqk hbw.size
          have qvl := Nat.lt_of_lt_of_le hqv hbw.size
          simp at k0 k1
          have h21 := HF 6 21 (hLa 1 6 (by kernel_rfl)) rfl
          dsimp only [FX] at h21
          try have g21 := Array.getD_eq_getD_getElem?.symm.trans h21
          go_simp
          exact hK _ _ (hC.keep 7 (by decide) (Below.refl wa.heap.size wa)) (fun j d _ _ _ h => FX.keep 7 (Below.refl wa.heap.size wa) _ h) (fun _ => rfl)
        · intro act wa L hC hd hLi hLa hLb HF O NN K hK
          clear hd
          have hbw := HB.out.trans hC.1
          have kw := HK.out.below hbw hrl
          have kwl := kw.lt
          have k0 := kw.cell 0
          have k1 := kw.cell 1
          have y0 := (hbw.cell (p := ⟨qk, j, none⟩) hqk).trans Y0.out
          have z0 := (hbw.cell (p := ⟨qv, j, none⟩) hqv).trans Z0.out
          have qkl := Nat.lt_of_lt_of_le hqk hbw.size
          have qvl := Nat.lt_of_lt_of_le hqv hbw.size
          simp at k0 k1
          have h22 := HF 7 22 (hLa 1 7 (by kernel_rfl)) rfl
          dsimp only [FX] at h22
          try have g22 := Array.getD_eq_getD_getElem?.symm.trans h22
          go_simp
          refine (Rtext_any wa kb (by omega)).mono ?_
          rintro e w1 ⟨v, rfl, hm, -, hb1⟩
          exact hK _ _ (hC.keep 8 (by decide) hb1) (fun j d _ _ _ h => FX.keep 8 hb1 _ h) (fun _ => .inr hm)
        · intro act wa L hC hd hLi hLa hLb HF O NN K hK
          clear hd
          have hbw := HB.out.trans hC.1
          have kw := HK.out.below hbw hrl
          have kwl := kw.lt
          have k0 := kw.cell 0
          have k1 := kw.cell 1
          have y0 := (hbw.cell (p := ⟨qk, j, none⟩) hqk).trans Y0.out
          have z0 := (hbw.cell (p := ⟨qv, j, none⟩) hqv).trans Z0.out
          have qkl := Nat.lt_of_lt_of_le hqk hbw.size
          have qvl := Nat.lt_of_lt_of_le hqv hbw.size
          simp at k0 k1
          have h15 := HF 0 15 (hLa 1 0 (by kernel_rfl)) rfl
          dsimp only [FX] at h15
          try have g15 := Array.getD_eq_getD_getElem?.symm.trans h15
          have h23 := HF 8 23 (hLa 1 8 (by kernel_rfl)) rfl
          dsimp only [FX] at h23
          try have g23 := Array.getD_eq_getD_getElem?.symm.trans h23
          have l18 : L 18 = false := hLb 6 18 (by kernel_rfl)
          have l19 : L 19 = false := hLb 6 19 (by kernel_rfl)
          rcases h23 with hh | hm
          · rw [hLi] at hh; cases hh
          obtain ⟨A8, c8, hv8, hr8, -, -, -, -, hn8⟩ := hm
          refine step_app_own (w := wa) rfl (.tmp 15) (.tmp 23) 32 rfl w.heap.size 5 i0 (.int .u8 0) 1 Try.underlying32 hi hz0 hz1 hz2 rfl (.slice A3 m3 c3) m3 (u8s xs) h15 (hC.2.2 hLi) _ A8 (txtB kb).length c8 (u8s (txtB kb)) hv8 (by simp) hr8 hn8 (u8s_one _) (by unfold maxLen; omega) (by omega) hC.2.1 ?_
          intro v' w' ho hg
          exact hK _ _ ⟨hC.1.trans (below_own (hC.2.2 hLi) hg (Nat.le_refl _) hC.2.1), Nat.le_trans hC.2.1 hg.size, fun hh => by rw [Inv.upd_same] at hh; cases hh⟩ (fun j d hne hj _ h => FX.nine (Only.of_grown hg (fun j hj => hj)) j hne (fun e => by rw [e, l18] at hj; cases hj) (fun e => by rw [e, l19] at hj; cases hj) h) (fun _ => by
              refine Or.inr ?_
              simpa [u8s] using ho)
        · intro act wa L hC hd hLi hLa hLb HF O NN K hK
          clear hd
          have hbw := HB.out.trans hC.1
          have kw := HK.out.below hbw hrl
          have kwl := kw.lt
          have k0 := kw.cell 0
          have k1 := kw.cell 1
          have y0 := (hbw.cell (p := ⟨qk, j, none⟩) hqk).trans Y0.out
          have z0 := (hbw.cell (p := ⟨qv, j, none⟩) hqv).trans Z0.out
          have qkl := Nat.lt_of_lt_of_le hqk hbw.size
          have qvl := Nat.lt_of_lt_of_le hqv hbw.size
          simp at k0 k1
          have h0 := O 0 (by kernel_rfl)
          try have g0 := Array.getD_eq_getD_getElem?.symm.trans h0
          go_simp
          exact hK _ _ (hC.keep 10 (by decide) (Below.refl wa.heap.size wa)) (fun j d _ _ _ h => FX.keep 10 (Below.refl wa.heap.size wa) _ h) (fun _ => rfl)
        · intro act wa L hC hd hLi hLa hLb HF O NN K hK
          clear hd
          have hbw := HB.out.trans hC.1
          have kw := HK.out.below hbw hrl
          have kwl := kw.lt
          have k0 := kw.cell 0
          have k1 := kw.cell 1
          have y0 := (hbw.cell (p := ⟨qk, j, none⟩) hqk).trans Y0.out
          have z0 := (hbw.cell (p := ⟨qv, j, none⟩) hqv).trans Z0.out
          have qkl := Nat.lt_of_lt_of_le hqk hbw.size
          have qvl := Nat.lt_of_lt_of_le hqv hbw.size
          simp at k0 k1
          have h25 := HF 10 25 (hLa 1 10 (by kernel_rfl)) rfl
          dsimp only [FX] at h25
          try have g25 := Array.getD_eq_getD_getElem?.symm.trans h25
          go_simp
          exact hK _ _ (hC.keep 11 (by decide) (Below.refl wa.heap.size wa)) (fun j d _ _ _ h => FX.keep 11 (Below.refl wa.heap.size wa) _ h) (fun _ => rfl)
        · intro act wa L hC hd hLi hLa hLb HF O NN K hK
          clear hd
          have hbw := HB.out.trans hC.1
          have kw := HK.out.below hbw hrl
          have kwl := kw.lt
          have k0 := kw.cell 0
          have k1 := kw.cell 1
          have y0 := (hbw.cell (p := ⟨qk, j, none⟩) hqk).trans Y0.out
          have z0 := (hbw.cell (p := ⟨qv, j, none⟩) hqv).trans Z0.out
          have qkl := Nat.lt_of_lt_of_le hqk hbw.size
          have qvl := Nat.lt_of_lt_of_le hqv hbw.size
          simp at k0 k1
          have h26 := HF 11 26 (hLa 1 11 (by kernel_rfl)) rfl
          dsimp only [FX] at h26
          try have g26 := Array.getD_eq_getD_getElem?.symm.trans h26
          go_simp
          exact hK _ _ (hC.keep 12 (by decide) (Below.refl wa.heap.size wa)) (fun j d _ _ _ h => FX.keep 12 (Below.refl wa.heap.size wa) _ h) (fun _ => rfl)
        · intro act wa L hC hd hLi hLa hLb HF O NN K hK
          clear hd
          have hbw := HB.out.trans hC.1
          have kw := HK.out.below hbw hrl
          have kwl := kw.lt
          have k0 := kw.cell 0
          have k1 := kw.cell 1
          have y0 := (hbw.cell (p := ⟨qk, j, none⟩) hqk).trans Y0.out
          have z0 := (hbw.cell (p := ⟨qv, j, none⟩) hqv).trans Z0.out
          have qkl := Nat.lt_of_lt_of_le hqk hbw.size
          have qvl := Nat.lt_of_lt_of_le hqv hbw.size
          simp at k0 k1
          have h27 := HF 12 27 (hLa 1 12 (by kernel_rfl)) rfl
          dsimp only [FX] at h27
          try have g27 := Array.getD_eq_getD_getElem?.symm.trans h27
          go_simp
          exact hK _ _ (hC.keep 13 (by decide) (Below.refl wa.heap.size wa)) (fun j d _ _ _ h => FX.keep 13 (Below.refl wa.heap.size wa) _ h) (fun _ => rfl)
        · intro act wa L hC hd hLi hLa hLb HF O NN K hK
          clear hd
          have hbw := HB.out.trans hC.1
          have kw := HK.out.below hbw hrl
          have kwl := kw.lt
          have k0 := kw.cell 0
          have k1 := kw.cell 1
          have y0 := (hbw.cell (p := ⟨qk, j, none⟩) hqk).trans Y0.out
          have z0 := (hbw.cell (p := ⟨qv, j, none⟩) hqv).trans Z0.out
          have qkl := Nat.lt_of_lt_of_le hqk hbw.size
          have qvl := Nat.lt_of_lt_of_le hqv hbw.size
          simp at k0 k1
          have h4 := O 4 (by kernel_rfl)
          try have g4 := Array.getD_eq_getD_getElem?.symm.trans h4
          go_simp
          exact hK _ _ (hC.keep 14 (by decide) (Below.refl wa.heap.size wa)) (fun j d _ _ _ h => FX.keep 14 (Below.refl wa.heap.size wa) _ h) (fun _ => rfl)
        · intro act wa L hC hd hLi hLa hLb HF O NN K hK
          clear hd
          have hbw := HB.out.trans hC.1
          have kw := HK.out.below hbw hrl
          have kwl := kw.lt
          have k0 := kw.cell 0
          have k1 := kw.cell 1
          have y0 := (hbw.cell (p := ⟨qk, j, none⟩) hqk).trans Y0.out
          have z0 := (hbw.cell (p := ⟨qv, j, none⟩) hqv).trans Z0.out
          have qkl := Nat.lt_of_lt_of_le hqk hbw.size
          have qvl := Nat.lt_of_lt_of_le hqv hbw.size
          simp at k0 k1
          have h28 := HF 13 28 (hLa 1 13 (by kernel_rfl)) rfl
          dsimp only [FX] at h28
          try have g28 := Array.getD_eq_getD_getElem?.symm.trans h28
          have h29 := HF 14 29 (hLa 1 14 (by kernel_rfl)) rfl
          dsimp only [FX] at h29
          try have g29 := Array.getD_eq_getD_getElem?.symm.trans h29
          go_simp
          exact hK _ _ (hC.keep 15 (by decide) (Below.refl wa.heap.size wa)) (fun j d _ _ _ h => FX.keep 15 (Below.refl wa.heap.size wa) _ h) (fun _ => rfl)
        · intro act wa L hC hd hLi hLa hLb HF O NN K hK
          clear hd
          have hbw := HB.out.trans hC.1
          have kw := HK.out.below hbw hrl
          have kwl := kw.lt
          have k0 := kw.cell 0
          have k1 := kw.cell 1
          have y0 := (hbw.cell (p := ⟨qk, j, none⟩) hqk).trans Y0.out
          have z0 := (hbw.cell (p := ⟨qv, j, none⟩) hqv).trans Z0.out
          have qkl := Nat.lt_of_lt_of_le hqk hbw.size
          have qvl := Nat.lt_of_lt_of_le hqv hbw.size
          simp at k0 k1
          have h30 := HF 15 30 (hLa 1 15 (by kernel_rfl)) rfl
          dsimp only [FX] at h30
          try have g30 := Array.getD_eq_getD_getElem?.symm.trans h30
          go_simp
          exact hK _ _ (hC.keep 16 (by decide) (Below.refl wa.heap.size wa)) (fun j d _ _ _ h => FX.keep 16 (Below.refl wa.heap.size wa) _ h) (fun _ => rfl)
        · intro act wa L hC hd hLi hLa hLb HF O NN K hK
          clear hd
          have hbw := HB.out.trans hC.1
          have kw := HK.out.below hbw hrl
          have kwl := kw.lt
          have k0 := kw.cell 0
          have k1 := kw.cell 1
          have y0 := (hbw.cell (p := ⟨qk, j, none⟩) hqk).trans Y0.out
          have z0 := (hbw.cell (p := ⟨qv, j, none⟩) hqv).trans Z0.out
          have qkl := Nat.lt_of_lt_of_le hqk hbw.size
          have qvl := Nat.lt_of_lt_of_le hqv hbw.size
          simp at k0 k1
          have h31 := HF 16 31 (hLa 1 16 (by kernel_rfl)) rfl
          dsimp only [FX] at h31
          try have g31 := Array.getD_eq_getD_getElem?.symm.trans h31
          go_simp
          refine (Rtext_any wa vb (by omega)).mono ?_
          rintro e w1 ⟨v, rfl, hm, hf, hb1⟩
          exact hK _ _ (hC.keep 17 (by decide) hb1) (fun j d _ _ _ h => FX.keep 17 hb1 _ h) (fun _ => .inr ⟨hm, fun g o n c hv hn hs => by
              have h1 := (HO.out.lt g hs).2
              have h2 := (hf g o n c hv).1
              have h3 := hC.1.size
              omega⟩)
        · intro act wa L hC hd hLi hLa hLb HF O NN K hK
          clear hd
          have hbw := HB.out.trans hC.1
          have kw := HK.out.below hbw hrl
          have kwl := kw.lt
          have k0 := kw.cell 0
          have k1 := kw.cell 1
          have y0 := (hbw.cell (p := ⟨qk, j, none⟩) hqk).trans Y0.out
          have z0 := (hbw.cell (p := ⟨qv, j, none⟩) hqv).trans Z0.out
          have qkl := Nat.lt_of_lt_of_le hqk hbw.size
          have qvl := Nat.lt_of_lt_of_le hqv hbw.size
          simp at k0 k1
          have h24 := HF 9 24 (hLa 1 9 (by kernel_rfl)) rfl
          dsimp only [FX] at h24
          try have g24 := Array.getD_eq_getD_getElem?.symm.trans h24
          have h32 := HF 17 32 (hLa 1 17 (by kernel_rfl)) rfl
          dsimp only [FX] at h32
          try have g32 := Array.getD_eq_getD_getElem?.symm.trans h32
          have l9 : L 9 = true := hLa 6 9 (by kernel_rfl)
          have l19 : L 19 = false := hLb 6 19 (by kernel_rfl)
          rcases h24 with hh | ho0
          · rw [hLi] at hh; cases hh
          rcases h32 with hh | hm
          · rw [hLi] at hh; cases hh
          obtain ⟨A8, c8, hv8, hr8, -, -, -, -, hn8⟩ := hm.1
          refine step_app_own (w := wa) rfl (.tmp 24) (.tmp 32) 32 rfl w.heap.size 5 i0 (.int .u8 0) 1 Try.underlying32 hi hz0 hz1 hz2 rfl _ (m3 + (txtB kb).length) (u8s (xs ++ txtB kb)) rfl ho0 _ A8 (txtB vb).length c8 (u8s (txtB vb)) hv8 (by simp) hr8 hn8 (u8s_one _) (by unfold maxLen; omega) (by omega) hC.2.1 ?_
          intro v' w' ho hg
          exact hK _ _ ⟨hC.1.trans (below_own ho0 hg (Nat.le_refl _) hC.2.1), Nat.le_trans hC.2.1 hg.size, fun hh => by rw [updK_up l9] at hh; cases hh⟩ (fun j d hne hj _ h => FX.last l9 j hne (fun e => by rw [e, l19] at hj; cases hj) h) (fun _ => by
              show World.ownsRow _ _ _ _ _ _ _
              simpa [u8s] using ho)
        · intro act wa L hC hd hLi hLa hLb HF O NN K hK
          clear hd
          have hbw := HB.out.trans hC.1
          have kw := HK.out.below hbw hrl
          have kwl := kw.lt
          have k0 := kw.cell 0
          have k1 := kw.cell 1
          have y0 := (hbw.cell (p := ⟨qk, j, none⟩) hqk).trans Y0.out
          have z0 := (hbw.cell (p := ⟨qv, j, none⟩) hqv).trans Z0.out
          have qkl := Nat.lt_of_lt_of_le hqk hbw.size
          have qvl := Nat.lt_of_lt_of_le hqv hbw.size
          simp at k0 k1
          have h33 := HF 18 33 (hLa 1 18 (by kernel_rfl)) rfl
          dsimp only [FX] at h33
          try have g33 := Array.getD_eq_getD_getElem?.symm.trans h33
          go_simp
          have h33' : World.ownsRow _ _ _ _ _ _ _ := h33
          rw [Array.getD_eq_getD_getElem?] at h33'
          exact hK _ _ (hC.keep 19 (by decide) (Below.refl _ _)) (fun j d _ _ _ h => FX.keep 19 (Below.refl _ _) _ h) (fun _ => h33')
      · intro us w' hC HF
        obtain ⟨L3, hL3, u3⟩ := HF 19 3 rfl
        dsimp only [FX] at u3
        clear HF
        simp only [List.foldl]
        go_simp
        obtain ⟨LL, hLL, hCC⟩ := hC
        obtain ⟨A9, c9, hv9⟩ := own_sl u3
        rw [hv9] at u3
        have R := Lib.hid (show ∃ j' : Nat, (Value.int .i64 ((j : Int) + 1)) = .int .i64 (j' : Int) ∧ j' ≤ ns ∧ w'.ownsRow w.heap.size 5 1 (.slice A9 (m3 + (txtB kb).length + (txtB vb).length) c9) (Km.txt (st.take j')).length (u8s (Km.txt (st.take j'))) ∧ Below w.heap.size w w' from by
          have e1 : Km.txt (st.take (j + 1)) = xs ++ txtB kb ++ txtB vb := by
            rw [List.take_add_one, HPJ.out, Option.toList_some, txt_snoc, HXS.out, ← HKB.out, ← HVB.out, txtB_ba, txtB_ba, List.append_assoc]
          have e2 : (Km.txt (st.take (j + 1))).length = m3 + (txtB kb).length + (txtB vb).length := by rw [e1, List.length_append, List.length_append, ← HM3.out, HXS.out]
          exact ⟨j + 1, by go_num, HLT.out, by rw [e2, e1]; exact u3, HB.out.trans hCC.1⟩)
        try rw [hv9]
        clear u3 hCC hv9 hLL hL3
        go_wp2
        go_roundw
        case rel => exact R.out
        case measure => simp [intOf]; have := HLT.out; omega
    · obtain rfl : j = ns := by omega
      have htk : st.take j = st := List.take_of_length_le (by rw [HNS.out]; exact Nat.le_refl _)
      rw [htk] at ho
      obtain ⟨A3, c3, rfl⟩ := own_sl ho
      have HP := Lib.hid (show KTextPost w st (.returned (.slice A3 (Km.txt st).length c3)) wr from ⟨_, rfl, made_of_own (own_base0K ho) rfl (txt_byte (fun p hp => by have := HM.out p hp; omega)), fun g o n c hv => ⟨(ho.lt g (by rw [hv]; rfl)).1, fun h => h⟩, HB.out⟩)
      clear ho hb
      go_wp2
      go_ret
      exact HP.out
end Go.Proofs.Ytahichieakdbnaa

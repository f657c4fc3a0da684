/- ref21.Net: Send. -/
import Derived.Test.YtahichieakdbnaaRn
namespace Go.Proofs.Ytahichieakdbnaa
open Go.ChangeShapes Go.WideShapes Go.ChangeAt Go.RowKit Go.Maps
set_option linter.unusedVariables false
set_option linter.unusedSimpArgs false

/-- what the operations of 'n.L = append(append([]Letter{}, n.L...), l)' have told -/
def FS (r H : Nat) (vL : Value) (n : Nat) (xs : List Value) (x1 x2 : Value) (i : Nat) (L : Nat → Bool) (v : Value) (w : World) : Prop := match i with
  | 0 => v = .pointer (some ⟨r, 0, none⟩)
  | 1 => L 6 = true ∨ ∃ b, v = .slice (some ⟨b, 0, none⟩) 0 0 ∧ H ≤ b ∧ Blk w b 103 #[]
  | 2 => v = .pointer (some ⟨r, 0, none⟩)
  | 3 => v = .pointer (some ⟨r, 0, none⟩)
  | 4 => v = .pointer (some ⟨r, 0, none⟩)
  | 5 => v = vL
  | 6 => L 9 = true ∨ w.ownsRow H 103 2 v n xs
  | 7 => v = .agg #[x1, x2]
  | 8 => L 9 = true ∨ ∃ b, v = .slice (some ⟨b, 0, none⟩) 1 1 ∧ Blk w b 103 #[x1, x2]
  | 9 => L 12 = true ∨ w.ownsRow H 103 2 v (n + 1) (xs ++ [x1, x2])
  | 10 => v = .pointer (some ⟨r, 0, none⟩)
  | 11 => v = .pointer (some ⟨r, 0, none⟩)
  | _ => True
namespace FS
variable {r H : Nat} {vL : Value} {n : Nat} {xs : List Value} {x1 x2 : Value} {L : Nat → Bool} {v : Value} {w w' : World}
theorem keep (i : Nat) (hb : Below w.heap.size w w') (j : Nat) (h : FS r H vL n xs x1 x2 j L v w) : FS r H vL n xs x1 x2 j (Inv.upd L i) v w' := by
  unfold FS at h ⊢
  split at h
  case h_2 =>
    rcases h with h | ⟨b, h1, h2, h3⟩
    · exact .inl (upd_up h)
    · exact .inr ⟨b, h1, h2, h3.below hb h3.lt⟩
  case h_7 =>
    rcases h with h | h
    · exact .inl (upd_up h)
    · exact .inr (own_below h hb)
  case h_9 =>
    rcases h with h | ⟨b, h1, h3⟩
    · exact .inl (upd_up h)
    · exact .inr ⟨b, h1, h3.below hb h3.lt⟩
  case h_10 =>
    rcases h with h | h
    · exact .inl (upd_up h)
    · exact .inr (own_below h hb)
  all_goals exact h
/-- the second append, and the store: what has been done tells nothing of memory -/
theorem late (i : Nat) (h6 : Inv.upd L i 6 = true) (h9 : Inv.upd L i 9 = true) (j : Nat) (hj : j = 9 → Inv.upd L i 12 = true) (h : FS r H vL n xs x1 x2 j L v w) : FS r H vL n xs x1 x2 j (Inv.upd L i) v w' := by
  unfold FS at h ⊢
  split at h
  case h_2 => exact .inl h6
  case h_7 => exact .inl h9
  case h_9 => exact .inl h9
  case h_10 => exact .inl (hj rfl)
  all_goals exact h
end FS
set_option maxHeartbeats 3000000 in
set_option maxRecDepth 100000 in
theorem RSend_any (w : World) (r : Nat) (X : Nat → Prop) (vL vSp : Value) (row : List Snt) (to : Int) (A : Option Addr) (n c : Nat) (bs : List Nat) (h : RN w r X vL vSp row) (hXr : X r) (hXl : ∀ j, X j → j < w.heap.size) (hm : MadeO w X (.slice A n c) bs n) (hn : bs.length = n) (hrl : row.length ≤ 64) :
    Calls Try.prog 55 #[.pointer (some ⟨r, 0, none⟩), .agg #[.int .i64 to, .slice A n c]] w (RRes w r X vL (Nm.send row (to, bs)).1 (Nm.send row (to, bs)).2) := by
  obtain ⟨v0, hv0⟩ : ∃ v0, vL = v0 := ⟨_, rfl⟩
  have HV0 := Lib.hid hv0
  rw [hv0]
  clear hv0
  obtain ⟨i0, hi, hz0, hz1, hz2⟩ := info_parts infoRLet
  obtain ⟨j0, hj, hy0, hy1, hy2⟩ := info_parts infoBool
  have hB := (Below.refl w.heap.size w).alloc (Nat.le_refl _) (.cells #[.int .i64 to, .slice A n c] 103)
  have HB := Lib.hid hB
  have HK := Lib.hid h.1
  have H1 := Lib.hid (h.below hB)
  have HM := Lib.hid hm; have HNN := Lib.hid hn
  have HZ := Lib.hid (Blk.new w 103 #[.int .i64 to, .slice A n c])
  have hrw : r < w.heap.size := h.1.lt
  obtain ⟨ms, hms, h2⟩ := h.ms
  obtain ⟨AL, cL, hvL⟩ := own_sl h2
  subst hvL
  have h3 := h.2.2
  obtain ⟨AS, cS, rfl⟩ := own_sl h3
  have hneL := h.neL
  have hneS := h.neS
  obtain ⟨nr, hnr⟩ : ∃ q, row.length = q := ⟨_, rfl⟩
  have HNR := Lib.hid hnr
  rw [hnr] at h2 h3 H1 HK hneL hneS hrl HV0
  have H2 := Lib.hid h2; have H3 := Lib.hid h3; have HMS := Lib.hid hms; have HNL := Lib.hid hneL; have HNS := Lib.hid hneS
  have k0 := (HK.out.below hB hrw).cell 0
  have k1 := (HK.out.below hB hrw).cell 1
  simp at k0 k1
  have hrwI : r < (w.alloc (.cells #[.int .i64 to, .slice A n c] 103)).heap.size := by simp; omega
  clear h hB hm hn h2 h3 hms hneL hneS hnr
  by_cases h1 : to < 0
  · have HP := Lib.hid (show RRes w r X v0 (Nm.send row (to, bs)).1 (Nm.send row (to, bs)).2 (.returned (.bool false)) (w.alloc (.cells #[.int .i64 to, .slice A n c] 103)) from by
      unfold Nm.send
      rw [if_pos (.inl h1)]
      exact ⟨rfl, _, _, H1.out, Only.of_below HB.out, fun h => (by cases h), fun j hj => .inl (by rw [← HV0.out]; exact hj)⟩)
    go_enter Try.func55, Try.ntmps55
    go_wp2
    go_ret
    exact HP.out
  · by_cases h2 : 3 < to
    · have HP := Lib.hid (show RRes w r X v0 (Nm.send row (to, bs)).1 (Nm.send row (to, bs)).2 (.returned (.bool false)) (w.alloc (.cells #[.int .i64 to, .slice A n c] 103)) from by
        unfold Nm.send
        rw [if_pos (.inr h2)]
        exact ⟨rfl, _, _, H1.out, Only.of_below HB.out, fun h => (by cases h), fun j hj => .inl (by rw [← HV0.out]; exact hj)⟩)
      go_enter Try.func55, Try.ntmps55
      go_wp2
      go_ret
      exact HP.out
    · by_cases h64 : 64 ≤ nr
      · have h64I : (64 : Int) ≤ (nr : Int) := by omega
        have HP := Lib.hid (show RRes w r X v0 (Nm.send row (to, bs)).1 (Nm.send row (to, bs)).2 (.returned (.bool false)) (w.alloc (.cells #[.int .i64 to, .slice A n c] 103)) from by
          unfold Nm.send Nm.put
          rw [if_neg (by simp only; omega), if_pos (by rw [HNR.out]; exact h64)]
          exact ⟨rfl, _, _, H1.out, Only.of_below HB.out, fun h => (by cases h), fun j hj => .inl (by rw [← HV0.out]; exact hj)⟩)
        go_enter Try.func55, Try.ntmps55
        go_wp2
        go_ret
        exact HP.out
      · have h64I : ¬ (64 : Int) ≤ (nr : Int) := by omega
        go_enter Try.func55, Try.ntmps55
        go_wp2
        obtain ⟨W, hW⟩ : ∃ W, w.alloc (.cells #[.int .i64 to, .slice A n c] 103) = W := ⟨_, rfl⟩
        rw [hW] at H1 HB HZ k0 k1 hrwI ⊢
        have HWS : Hid (W.heap.size = w.heap.size + 1) := Lib.hid (by rw [← hW]; simp)
        have O2 := Lib.hid (own_below H2.out HB.out); have O3 := Lib.hid (own_below H3.out HB.out)
        have KW := Lib.hid (H1.out.1)
        have hzr : w.heap.size ≠ r := by omega
        clear hW
        refine Inv.region_genL (FS r W.heap.size (.slice AL nr cL) nr (fl2 ms) (.int .i64 to) (.slice A n c)) (CK W r 12 0 95 #[.slice AL nr cL, .slice AS nr cS] W.heap.size 103 2 (nr + 1) (fl2 ms ++ [.int .i64 to, .slice A n c])) 44 [21, 22, 23, 24, 25, 26, 27, 28, 29, 30, 31, 32] (by kernel_rfl) rfl (by kernel_rfl) (by kernel_rfl) ?_ ?_ ?_
        · exact CK.start KW.out
        · refine ⟨?_, ?_, ?_, ?_, ?_, ?_, ?_, ?_, ?_, ?_, ?_, ?_, ?_, trivial⟩
          · intro act wa L hC hd hLi hLa hLb HF O K hK
            clear hd
            have hsz := hC.1.size
            have h0 := O 0 (by kernel_rfl)
            try have g0 := Array.getD_eq_getD_getElem?.symm.trans h0
            go_simp
            exact hK _ _ (hC.keep 0 (by decide) (Below.refl wa.heap.size wa)) (fun j d _ _ _ h => FS.keep 0 (Below.refl wa.heap.size wa) _ h) (fun _ => rfl)
          · intro act wa L hC hd hLi hLa hLb HF O K hK
            clear hd
            have hsz := hC.1.size
            go_simp
            exact hK _ _ (hC.keep 1 (by decide) ((Below.refl wa.heap.size wa).alloc (Nat.le_refl _) _)) (fun j d _ _ _ h => FS.keep 1 ((Below.refl wa.heap.size wa).alloc (Nat.le_refl _) _) _ h) (fun _ => .inr ⟨wa.heap.size, rfl, hsz, Blk.new wa _ _⟩)
          · intro act wa L hC hd hLi hLa hLb HF O K hK
            clear hd
            have hsz := hC.1.size
            have h0 := O 0 (by kernel_rfl)
            try have g0 := Array.getD_eq_getD_getElem?.symm.trans h0
            go_simp
            exact hK _ _ (hC.keep 2 (by decide) (Below.refl wa.heap.size wa)) (fun j d _ _ _ h => FS.keep 2 (Below.refl wa.heap.size wa) _ h) (fun _ => rfl)
          · intro act wa L hC hd hLi hLa hLb HF O K hK
            clear hd
            have hsz := hC.1.size
            have h23 := HF 2 23 (hLa 1 2 (by kernel_rfl)) rfl
            dsimp only [FS] at h23
            try have g23 := Array.getD_eq_getD_getElem?.symm.trans h23
            go_simp
            exact hK _ _ (hC.keep 3 (by decide) (Below.refl wa.heap.size wa)) (fun j d _ _ _ h => FS.keep 3 (Below.refl wa.heap.size wa) _ h) (fun _ => rfl)
          · intro act wa L hC hd hLi hLa hLb HF O K hK
            clear hd
            have hsz := hC.1.size
            have h24 := HF 3 24 (hLa 1 3 (by kernel_rfl)) rfl
            dsimp only [FS] at h24
            try have g24 := Array.getD_eq_getD_getElem?.symm.trans h24
            go_simp
            exact hK _ _ (hC.keep 4 (by decide) (Below.refl wa.heap.size wa)) (fun j d _ _ _ h => FS.keep 4 (Below.refl wa.heap.size wa) _ h) (fun _ => rfl)
          · intro act wa L hC hd hLi hLa hLb HF O K hK
            clear hd
            have hsz := hC.1.size
            have h25 := HF 4 25 (hLa 1 4 (by kernel_rfl)) rfl
            dsimp only [FS] at h25
            try have g25 := Array.getD_eq_getD_getElem?.symm.trans h25
            have l12 : L 12 = false := hLb 6 12 (by kernel_rfl)
            have kk := (hC.2.1 l12).cell 0
            have kl := (hC.2.1 l12).lt
            simp at kk
            go_simp
            exact hK _ _ (hC.keep 5 (by decide) (Below.refl wa.heap.size wa)) (fun j d _ _ _ h => FS.keep 5 (Below.refl wa.heap.size wa) _ h) (fun _ => rfl)
          · intro act wa L hC hd hLi hLa hLb HF O K hK
            clear hd
            have hsz := hC.1.size
            have h22 := HF 1 22 (hLa 1 1 (by kernel_rfl)) rfl
            dsimp only [FS] at h22
            try have g22 := Array.getD_eq_getD_getElem?.symm.trans h22
            have h26 := HF 5 26 (hLa 1 5 (by kernel_rfl)) rfl
            dsimp only [FS] at h26
            try have g26 := Array.getD_eq_getD_getElem?.symm.trans h26
            rcases h22 with hh | ⟨b, hv22, hHb, hbk⟩
            · rw [hLi] at hh; cases hh
            refine step_app0 (w := wa) rfl (.tmp 22) (.tmp 26) 92 rfl W.heap.size 103 i0 (.agg #[.int .i64 0, .slice none 0 0]) 2 32 Try.underlying92 hi hz0 hz1 hz2 rfl (by decide) b hv22 hbk hHb AL nr cL (fl2 ms) h26 (by rw [fl2_length, HMS.out.1, List.length_map, HNR.out]) (Src.of_own (hC.1.own O2.out HNL.out)) HMS.out.one_cell (by unfold maxLen; omega) (by omega) ?_
            intro v' w' ho hb hne
            exact hK _ _ (hC.keep 6 (by decide) hb) (fun j d _ _ _ h => FS.keep 6 hb _ h) (fun _ => .inr ho)
          · intro act wa L hC hd hLi hLa hLb HF O K hK
            clear hd
            have hsz := hC.1.size
            have h3 := O 3 (by kernel_rfl)
            try have g3 := Array.getD_eq_getD_getElem?.symm.trans h3
            have hz := hC.1.blk HZ.out hzr
            have z0 := hz.cell 0
            have z1 := hz.cell 1
            simp at z0 z1
            go_simp
            exact hK _ _ (hC.keep 7 (by decide) (Below.refl wa.heap.size wa)) (fun j d _ _ _ h => FS.keep 7 (Below.refl wa.heap.size wa) _ h) (fun _ => rfl)
          · intro act wa L hC hd hLi hLa hLb HF O K hK
            clear hd
            have hsz := hC.1.size
            have h28 := HF 7 28 (hLa 1 7 (by kernel_rfl)) rfl
            dsimp only [FS] at h28
            try have g28 := Array.getD_eq_getD_getElem?.symm.trans h28
            go_simp
            exact hK _ _ (hC.keep 8 (by decide) ((Below.refl wa.heap.size wa).alloc (Nat.le_refl _) _)) (fun j d _ _ _ h => FS.keep 8 ((Below.refl wa.heap.size wa).alloc (Nat.le_refl _) _) _ h) (fun _ => .inr ⟨wa.heap.size, rfl, Blk.new wa _ _⟩)
          · intro act wa L hC hd hLi hLa hLb HF O K hK
            clear hd
            have hsz := hC.1.size
            have h27 := HF 6 27 (hLa 1 6 (by kernel_rfl)) rfl
            dsimp only [FS] at h27
            try have g27 := Array.getD_eq_getD_getElem?.symm.trans h27
            have h29 := HF 8 29 (hLa 1 8 (by kernel_rfl)) rfl
            dsimp only [FS] at h29
            try have g29 := Array.getD_eq_getD_getElem?.symm.trans h29
            have l12 : L 12 = false := hLb 6 12 (by kernel_rfl)
            have l6 : L 6 = true := hLa 6 6 (by kernel_rfl)
            rcases h27 with hh | ho0
            · rw [hLi] at hh; cases hh
            rcases h29 with hh | ⟨b, hv29, hbk⟩
            · rw [hLi] at hh; cases hh
            refine step_app_at (w := wa) rfl (.tmp 27) (.tmp 29) 92 rfl W.heap.size 103 i0 (.agg #[.int .i64 0, .slice none 0 0]) 2 32 Try.underlying92 hi hz0 hz1 hz2 rfl (by decide) _ nr (fl2 ms) rfl ho0 (some ⟨b, 0, none⟩) 1 1 [.int .i64 to, .slice A n c] hv29 rfl (.inr ⟨_, rfl, fun j u hu => by rw [addk, hbk.cell j]; simpa using hu⟩) (by intro u hu; simp at hu; rcases hu with rfl | rfl <;> rfl) (by unfold maxLen; omega) (by omega) hsz ?_
            intro v' w' ho hg hat
            exact hK _ _ (hC.app 9 (by decide) l12 ho0 hg hrwI (Nat.le_refl _)) (fun j d hne _ _ h => FS.late 9 (upd_up l6) (Inv.upd_same L 9) j (fun e => absurd e hne) h) (fun _ => .inr ho)
          · intro act wa L hC hd hLi hLa hLb HF O K hK
            clear hd
            have hsz := hC.1.size
            have h21 := HF 0 21 (hLa 1 0 (by kernel_rfl)) rfl
            dsimp only [FS] at h21
            try have g21 := Array.getD_eq_getD_getElem?.symm.trans h21
            go_simp
            exact hK _ _ (hC.keep 10 (by decide) (Below.refl wa.heap.size wa)) (fun j d _ _ _ h => FS.keep 10 (Below.refl wa.heap.size wa) _ h) (fun _ => rfl)
          · intro act wa L hC hd hLi hLa hLb HF O K hK
            clear hd
            have hsz := hC.1.size
            have h31 := HF 10 31 (hLa 1 10 (by kernel_rfl)) rfl
            dsimp only [FS] at h31
            try have g31 := Array.getD_eq_getD_getElem?.symm.trans h31
            go_simp
            exact hK _ _ (hC.keep 11 (by decide) (Below.refl wa.heap.size wa)) (fun j d _ _ _ h => FS.keep 11 (Below.refl wa.heap.size wa) _ h) (fun _ => rfl)
          · intro act wa L hC hd hLi hLa hLb HF O K hK
            clear hd
            have hsz := hC.1.size
            have h32 := HF 11 32 (hLa 1 11 (by kernel_rfl)) rfl
            dsimp only [FS] at h32
            try have g32 := Array.getD_eq_getD_getElem?.symm.trans h32
            have h30 := HF 9 30 (hLa 1 9 (by kernel_rfl)) rfl
            dsimp only [FS] at h30
            try have g30 := Array.getD_eq_getD_getElem?.symm.trans h30
            have l6 : L 6 = true := hLa 6 6 (by kernel_rfl)
            have l9 : L 9 = true := hLa 6 9 (by kernel_rfl)
            rcases h30 with hh | ho0
            · rw [hLi] at hh; cases hh
            obtain ⟨A9, c9, hv9⟩ := own_sl ho0
            have kf := (hC.2.1 hLi).frozen 0
            have kl := (hC.2.1 hLi).lt
            have kk := (hC.2.1 hLi).cell 0
            simp at kk
            try have g30 := Array.getD_eq_getD_getElem?.symm.trans hv9
            rw [hv9] at ho0
            go_simp
            exact hK undef _ (hC.store hLi ho0 hrwI) (fun j d hne _ _ h => FS.late 12 (upd_up l6) (upd_up l9) j (fun _ => Inv.upd_same L 12) h) (fun h => absurd rfl h)
        · intro us w' hC HF
          clear HF
          simp only [List.foldl]
          go_simp
          obtain ⟨LL, hLL, hO, -, hst⟩ := hC
          obtain ⟨v3, hk3, ho3⟩ := hst (hLL 12 (by decide))
          obtain ⟨A3, c3, rfl⟩ := own_sl ho3
          have hO4 := Lib.hid hO; have HO3 := Lib.hid ho3
          have K3 : Hid (Blk w' r 95 #[.slice A3 (nr + 1) c3, .slice AS nr cS]) := Lib.hid (by simpa using hk3)
          have o3 := Lib.hid (hO.own O3.out HNS.out)
          have kk := K3.out.cell 1
          have kl := K3.out.lt
          simp at kk
          clear hst hLL hk3 ho3 hO
          have ha1 : Below w'.heap.size w' (w'.alloc (.cells #[] 4)) := (Below.refl _ w').alloc (Nat.le_refl _) _
          have HA1 := Lib.hid ha1
          have HE := Lib.hid (Blk.new w' 4 #[])
          have S3 := Lib.hid (Src.of_own (own_below o3.out ha1))
          have hwle : Hid (W.heap.size ≤ w'.heap.size) := Lib.hid hO4.out.size
          clear ha1
          go_wp2_with (at_builtin; go_must (first
            | (refine wpList_app0 rfl (.tmp 34) (.tmp 38) 93 rfl w'.heap.size 4 j0 (.bool false) 1 1 Try.underlying93 hj hy0 hy1 hy2 rfl (by decide) w'.heap.size rfl HE.out (Nat.le_refl _) AS nr cS (bls row) rfl (by rw [bls_length, HNR.out]; omega) S3.out (bls_one row) (by unfold maxLen; omega) (by omega) ?_; intro v5 w5 ho5 hb5 hne5; have HO5 := Lib.hid ho5; have HB5 := Lib.hid hb5; have HE5 := Lib.hid (Blk.new w5 4 #[.bool false]); have HO5' := Lib.hid (own_below ho5 ((Below.refl _ w5).alloc (Nat.le_refl _) (.cells #[.bool false] 4))); have hs5 : Hid (w'.heap.size + 1 ≤ w5.heap.size) := Lib.hid (by have := hb5.size; simp at this; exact this); clear ho5 hb5 hne5)
            | (refine wpList_app_at rfl (.tmp 39) (.tmp 40) 93 rfl w'.heap.size 4 j0 (.bool false) 1 1 Try.underlying93 hj hy0 hy1 hy2 rfl (by decide) v5 nr (bls row) rfl HO5'.out (some ⟨w5.heap.size, 0, none⟩) 1 1 [.bool false] rfl rfl (.inr ⟨_, rfl, fun j u hu => by rw [addk, HE5.out.cell j]; simpa using hu⟩) (by intro u hu; simp at hu; subst hu; rfl) (by unfold maxLen; omega) (by omega) (by have := hs5.out; simp; omega) ?_; intro v7 w7 ho7 hg7 hat7; obtain ⟨A7, c7, rfl⟩ := own_sl ho7; have HO7 := Lib.hid ho7; have HG7 := Lib.hid hg7; have K7 : Hid (Blk w7 r 95 #[.slice A3 (nr + 1) c3, .slice AS nr cS]) := Lib.hid ((((K3.out.below HA1.out kl).below HB5.out (Nat.lt_of_lt_of_le kl HA1.out.size)).alloc (.cells #[.bool false] 4)).grown hg7 (fun hh => by have := (HO5'.out.lt r hh.symm).1; omega)); have kk7 := K7.out.cell 1; have kf7 := K7.out.frozen 1; have kl7 := K7.out.lt; simp at kk7; clear ho7 hg7 hat7)))
          go_ret
          have hval : (Nm.send row (to, bs)) = (true, row ++ [((to, bs), false)]) := by
            unfold Nm.send Nm.put
            rw [if_neg (by simp only; omega), if_neg (by rw [HNR.out]; exact h64)]
          rw [hval]
          have hO7 := Only.of_grown (S := fun q => v5.ownBlock = some q) HG7.out (fun q hq => hq)
          have hO57 : Only (fun q => v5.ownBlock = some q) w5 w7 := ((Only.refl (fun q => v5.ownBlock = some q) w5).alloc _).trans hO7 (Sub.refl _ _)
          have hb7 : Below w'.heap.size w' w7 := (HA1.out.trans (HB5.out.mono (HA1.out.size))).trans (hO57.to_below (by have := hs5.out; omega) (fun q hq => (HO5.out.lt q hq).1))
          have hOw7 : Only (fun q => q = r) w w7 := ((Only.of_below (S := fun q => q = r) HB.out).trans hO4.out (Sub.refl _ _)).trans (Only.of_below (S := fun q => q = r) hb7) (Sub.refl _ _)
          have hset := (Only.refl (fun q => q = r) w7).set rfl 1 (.slice A7 (nr + 1) c7)
          have hms := HMS.out.app (MsR.one (to := to) (bv := .slice A n c) (bs := bs) (by have := HM.out; rw [HNN.out]; exact this))
          have ho3 := HO3.out
          have e2 : fl2 (ms ++ [(to, Value.slice A n c)]) = fl2 ms ++ [.int .i64 to, .slice A n c] := by rw [fl2_append]; rfl
          refine ⟨rfl, .slice A3 (nr + 1) c3, (.slice A7 (nr + 1) c7), ⟨?_, ?_, ?_⟩, hOw7.trans hset (Sub.refl _ _), fun _ q hq => (by have := (HO7.out.lt q hq).1; have := hwle.out; have := HWS.out; omega), fun q hq => .inr (by have := (ho3.lt q hq).1; have := HWS.out; omega)⟩
          · have h9 := K7.out.set 1 (.slice A7 (nr + 1) c7)
            simpa using h9
          · have h9 : (w7.setCell ⟨r, 1, none⟩ (.slice A7 (nr + 1) c7)).ownsRow W.heap.size 103 2 (.slice A3 (nr + 1) c3) (nr + 1) (fl2 ms ++ [.int .i64 to, .slice A n c]) := hset.own (own_below ho3 hb7) (fun q hq hqr => by have := (ho3.lt q hq).1; omega)
            have h10 := hms.row (hOw7.trans hset (Sub.refl _ _)) hXr (H := W.heap.size) (v := .slice A3 (nr + 1) c3) (by have := HWS.out; omega) (by rw [e2, List.length_append, List.length_map, HNR.out]; exact h9) (T := fun q => (Value.slice A7 (nr + 1) c7).ownBlock = some q) (fun q hq => by have := (HO7.out.lt q hq).1; have := hwle.out; have := HWS.out; omega)
            simpa using h10
          · have h9 := own_base0 (hset.own HO7.out (fun q hq hqr => by have := (HO7.out.lt q hq).1; omega))
            have e3 : bls (row ++ [((to, bs), false)]) = bls row ++ [.bool false] := by simp [bls]
            rw [e3, List.length_append, HNR.out]
            exact h9
end Go.Proofs.Ytahichieakdbnaa

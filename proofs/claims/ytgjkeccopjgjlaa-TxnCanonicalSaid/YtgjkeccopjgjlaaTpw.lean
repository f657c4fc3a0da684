/- txn.Coder.Put: the walk. -/
import Derived.Test.YtgjkeccopjgjlaaTput
import Derived.Test.YtgjkeccopjgjlaaInv
namespace Go.Proofs.Ytgjkeccopjgjlaa
open Go.ChangeShapes Go.WideShapes Go.ChangeAt Go.RowKit Go.Maps
set_option linter.unusedVariables false
set_option linter.unusedSimpArgs false

set_option maxHeartbeats 2000000 in
set_option maxRecDepth 100000 in
theorem CPut_no (w : World) (g : Nat) (S : Nat → Prop) (ks : List ByteArray) (e : Nat) (c : Tri3) (o s d0 d1 d2 : Int) (ws : List Wr) (A : Option Addr) (len cap n : Nat) (h : CodM w g S ks e c) (hr : WrR w w.heap.size A ws) (hn : ws.length = len) (hl : len ≤ 1099511627776)
    (hk : Tm.check (o, s, (d0, d1, d2), ws) = n) (h0 : n ≠ 0) :
    Calls Try.prog 14 #[.pointer (some ⟨g, 0, none⟩), .agg #[.int .i64 o, .int .i64 s, .int .i64 d0, .int .i64 d1, .int .i64 d2, .slice A len cap]] w (CPutPost w g S (Tm.put ks e c (o, s, (d0, d1, d2), ws))) := by
  have hb0 := (Below.refl w.heap.size w).alloc (Nat.le_refl _) (.cells (tcs o s (d0, d1, d2) A len cap) 38)
  have HC := Check_any (w.alloc (.cells (tcs o s (d0, d1, d2) A len cap) 38)) o s d0 d1 d2 ws A len cap ((WrR.below hr hb0).more hb0.size) hn hl
  unfold CkP at HC
  rw [hk] at HC
  have HK := Lib.hid hk
  have HCK := Lib.hid HC
  have HM := Lib.hid h
  have HB := Lib.hid hb0
  have hni : (n : Int) ≠ 0 := by omega
  clear HC hr hn h hb0 hk
  go_enter Try.func14, Try.ntmps14
  go_wp2_with fail
  refine HCK.out.mono ?_
  rintro e1 w1 ⟨rfl, hb⟩
  have hb1 := HB.out.trans (hb.mono (by simp))
  have HP := Lib.hid (show CPutPost w g S (Tm.put ks e c (o, s, (d0, d1, d2), ws)) (.returned (.tuple #[.slice none 0 0, .int .i64 (n : Int)])) w1 from by
    unfold Tm.put
    rw [if_pos (by rw [HK.out]; exact h0)]
    refine ⟨_, S, by simp only [HK.out], made_none _, Fre.nil _ _, HM.out.below hb1, (Turned.refl _ _).below hb1⟩)
  clear hb hb1
  go_wp2
  go_ret2
  exact HP.out

set_option maxHeartbeats 4000000 in
set_option maxRecDepth 100000 in
theorem CPut_ok (w : World) (g d : Nat) (T : Nat → Prop) (ks : List ByteArray) (e : Nat) (c : Tri3) (on sn : Nat) (d0 d1 d2 : Int) (ws : List Wr) (A : Option Addr) (len cap : Nat)
    (h1 : Blk w g 78 (ccs d c)) (h2 : DictM w d T ks e) (hcr : rightT c) (hdr : rightB d0 d1 d2 = true)
    (hr : WrR w w.heap.size A ws) (hap : ∀ g' o', A = some ⟨g', o', none⟩ → ws ≠ [] → ¬ T g') (hn : ws.length = len) (hl : len ≤ 16) (ho : on ≤ 2) (hs : sn ≤ 4611686018427387903)
    (hsz : ∀ x ∈ ws, x.1.size ≤ 64 ∧ x.2.1.size ≤ 256)
    (hk : Tm.check ((on : Int), (sn : Int), (d0, d1, d2), ws) = 0) :
    Calls Try.prog 14 #[.pointer (some ⟨g, 0, none⟩), .agg #[.int .i64 (on : Int), .int .i64 (sn : Int), .int .i64 d0, .int .i64 d1, .int .i64 d2, .slice A len cap]] w (CPutPost w g (fun j => j = g ∨ T j) (Tm.put ks e c (((on : Int), (sn : Int), (d0, d1, d2), ws)))) := by
  subst hn
  obtain ⟨i0, hi, hz0, hz1, hz2⟩ := info_parts infoU8
  obtain ⟨p0, p1, p2⟩ := c
  have hb0 := (Below.refl w.heap.size w).alloc (Nat.le_refl _) (.cells (tcs (on : Int) (sn : Int) (d0, d1, d2) A ws.length cap) 38)
  have HC := Lib.hid (check_0 hk (Check_any (w.alloc (.cells (tcs (on : Int) (sn : Int) (d0, d1, d2) A ws.length cap) 38)) on sn d0 d1 d2 ws A ws.length cap ((WrR.below hr hb0).more hb0.size) rfl (by omega)))
  have hP0 : PI w g d (p0, p1, p2) (tcs (on : Int) (sn : Int) (d0, d1, d2) A ws.length cap) T T ks e (w.alloc (.cells (tcs (on : Int) (sn : Int) (d0, d1, d2) A ws.length cap) 38)) := ⟨h1.alloc _, Blk.new w _ _, h2.below ((Below.refl _ _).alloc (Nat.le_refl _) _), (Turned.refl w T).below ((Below.refl _ _).alloc (Nat.le_refl _) _)⟩
  have P0 := Lib.hid hP0
  have HR := Lib.hid hr; have HAP := Lib.hid hap; have HSZ := Lib.hid hsz; have HK := Lib.hid hk; have H2 := Lib.hid h2
  have HCP : ∀ w, Hid (Calls Try.prog 47 #[.agg #[.int .i64 p0, .int .i64 p1, .int .i64 p2], .agg #[.int .i64 d0, .int .i64 d1, .int .i64 d2]] w (fun e w' => ∃ v, e = .returned (.tuple #[v, .int .i64 0]) ∧ Made w' v (putC (p0, p1, p2) (d0, d1, d2)) (putC (p0, p1, p2) (d0, d1, d2)).length ∧ Below w.heap.size w w')) := fun w => Lib.hid (cput_fine w p0 p1 p2 d0 d1 d2 hcr hdr)
  have HPB := Lib.hid (putC_byte (p := (p0, p1, p2)) (c := (d0, d1, d2)) hcr hdr)
  have HPL := putC_len (p0, p1, p2) (d0, d1, d2)
  obtain ⟨dcs, hdcs⟩ : ∃ x, putC (p0, p1, p2) (d0, d1, d2) = x := ⟨_, rfl⟩
  obtain ⟨ld, hld⟩ : ∃ x, dcs.length = x := ⟨_, rfl⟩
  have HLD := Lib.hid hld
  have HDCS := Lib.hid hdcs
  rw [hdcs] at HPL HPB
  simp only [hdcs, hld] at HCP HPL
  clear hdcs hld hb0 hP0 hr hap hsz hk h1 h2
  go_enter Try.func14, Try.ntmps14
  go_wp2_with fail
  refine HC.out.mono ?_
  rintro e1 w1 ⟨rfl, hb⟩
  have P1 := Lib.hid (P0.out.below hb)
  clear hb HC P0
  obtain ⟨a0, a1, a2, a3⟩ := P1.out.cod
  obtain ⟨b0, b1, b2, b3, b4, b5⟩ := P1.out.txn
  have hw1 : w.heap.size + 1 ≤ w1.heap.size := by have := P1.out.2.1.lt; omega
  have cA := Lib.hid (All_any (w1.alloc (.cells #[.int .u64 (on : Int), .int .u64 (sn : Int)] 83)) (some ⟨w1.heap.size, 0, none⟩) 2 [on, sn] _ (Rd.new64 w1 83 [on, sn] #[.int .u64 (on : Int), .int .u64 (sn : Int)] rfl) (by simp) (by intro b hb; simp at hb; rcases hb with rfl | rfl <;> omega) (by simp))
  go_wp2_with fail
  refine cA.out.mono ?_
  rintro e1 w2 ⟨v2, rfl, ho2, hb2⟩
  obtain ⟨en, hen⟩ : ∃ x, Vm.encs [on, sn] = x := ⟨_, rfl⟩
  have hel : en.length ≤ 20 := by rw [← hen]; simp only [Vm.encs, List.length_append]; have := Vm.enc_le on; have := Vm.enc_le sn; simp; omega
  rw [hen] at ho2
  have HEN := Lib.hid hen
  clear hen
  have P2 := Lib.hid ((P1.out.alloc (.cells #[.int .u64 (on : Int), .int .u64 (sn : Int)] 83)).below hb2)
  have O2 := Lib.hid (own_base (B' := w.heap.size + 1) ho2 (by simp; omega))
  clear ho2 hb2 cA a0 a1 a2 a3 b0 b1 b2 b3 b4 b5
  obtain ⟨a0, a1, a2, a3⟩ := P2.out.cod
  obtain ⟨b0, b1, b2, b3, b4, b5⟩ := P2.out.txn
  have hw2 : w.heap.size + 1 ≤ w2.heap.size := by have := P2.out.2.1.lt; omega
  go_wp2
  refine Inv.region_below (fun i v w' => match i with
      | 0 => v = .pointer (some ⟨g, 0, none⟩)
      | 1 => v = .pointer (some ⟨g, 0, none⟩)
      | 2 => v = .pointer (some ⟨g, 1, none⟩)
      | 3 => v = .agg #[.int .i64 p0, .int .i64 p1, .int .i64 p2]
      | 4 => v = .pointer (some ⟨w.heap.size, 2, none⟩)
      | 5 => v = .agg #[.int .i64 d0, .int .i64 d1, .int .i64 d2]
      | 6 => ∃ A3 c3, v = .tuple #[.slice A3 ld c3, .int .i64 0] ∧ Made w' (.slice A3 ld c3) dcs ld
      | 7 => ∃ A3 c3, v = .tuple #[.slice A3 ld c3, .int .i64 0] ∧ Made w' (.slice A3 ld c3) dcs ld
      | 8 => ∃ A3 c3, v = .slice A3 ld c3 ∧ Made w' (.slice A3 ld c3) dcs ld
      | 9 => v = .int .i64 0
      | 10 => ∃ A3 c3, v = .slice A3 ld c3 ∧ Made w' (.slice A3 ld c3) dcs ld
      | 11 => v = .int .i64 0
      | _ => True)
    (fun w' => PI w g d (p0, p1, p2) (tcs (on : Int) (sn : Int) (d0, d1, d2) A ws.length cap) T T ks e w' ∧ w'.ownsRow (w.heap.size + 1) 5 1 v2 en.length (u8s en)) 84 [28, 29, 30, 31, 32, 33, 34, 27, 35, 36, 8, 9] (by kernel_rfl) rfl (by kernel_rfl) (by kernel_rfl) ?_ ?_ ?_ ?_
  · intro v v' hC hb
    obtain ⟨hP, hO⟩ := hC
    exact ⟨hP.below hb, own_below hO hb⟩
  · exact ⟨P2.out.drew, O2.out⟩
  · refine ⟨⟨fun _ _ _ h _ => h, ?_⟩, ⟨fun _ _ _ h _ => h, ?_⟩, ⟨fun _ _ _ h _ => h, ?_⟩, ⟨fun _ _ _ h _ => h, ?_⟩, ⟨fun _ _ _ h _ => h, ?_⟩, ⟨fun _ _ _ h _ => h, ?_⟩, ⟨fun v w w' ⟨x, y, h1, h2⟩ hb => ⟨x, y, h1, h2.keep hb⟩, ?_⟩, ⟨fun v w w' ⟨x, y, h1, h2⟩ hb => ⟨x, y, h1, h2.keep hb⟩, ?_⟩, ⟨fun v w w' ⟨x, y, h1, h2⟩ hb => ⟨x, y, h1, h2.keep hb⟩, ?_⟩, ⟨fun _ _ _ h _ => h, ?_⟩, ⟨fun v w w' ⟨x, y, h1, h2⟩ hb => ⟨x, y, h1, h2.keep hb⟩, ?_⟩, ⟨fun _ _ _ h _ => h, ?_⟩, trivial⟩
    · intro act wa hC hd H O K hK
      clear hd
      obtain ⟨hP, hO⟩ := hC
      have h0 := O 0 (by kernel_rfl)
      have g0 := Array.getD_eq_getD_getElem?.symm.trans h0
      clear H O
      obtain ⟨a0, a1, a2, a3⟩ := hP.cod
      obtain ⟨b0, b1, b2, b3, b4, b5⟩ := hP.txn
      go_simp
      exact hK _ _ (Below.refl _ _) (fun _ => rfl)
    · intro act wa hC hd H O K hK
      clear hd
      obtain ⟨hP, hO⟩ := hC
      have h28 : act.tmps.getD 28 undef = .pointer (some ⟨g, 0, none⟩) := H 1 0 28 (by kernel_rfl) rfl
      have g28 := Array.getD_eq_getD_getElem?.symm.trans h28
      clear H O
      obtain ⟨a0, a1, a2, a3⟩ := hP.cod
      obtain ⟨b0, b1, b2, b3, b4, b5⟩ := hP.txn
      go_simp
      exact hK _ _ (Below.refl _ _) (fun _ => rfl)
    · intro act wa hC hd H O K hK
      clear hd
      obtain ⟨hP, hO⟩ := hC
      have h29 : act.tmps.getD 29 undef = .pointer (some ⟨g, 0, none⟩) := H 1 1 29 (by kernel_rfl) rfl
      have g29 := Array.getD_eq_getD_getElem?.symm.trans h29
      clear H O
      obtain ⟨a0, a1, a2, a3⟩ := hP.cod
      obtain ⟨b0, b1, b2, b3, b4, b5⟩ := hP.txn
      go_simp
      exact hK _ _ (Below.refl _ _) (fun _ => rfl)
    · intro act wa hC hd H O K hK
      clear hd
      obtain ⟨hP, hO⟩ := hC
      have h30 : act.tmps.getD 30 undef = .pointer (some ⟨g, 1, none⟩) := H 1 2 30 (by kernel_rfl) rfl
      have g30 := Array.getD_eq_getD_getElem?.symm.trans h30
      clear H O
      obtain ⟨a0, a1, a2, a3⟩ := hP.cod
      obtain ⟨b0, b1, b2, b3, b4, b5⟩ := hP.txn
      go_simp
      exact hK _ _ (Below.refl _ _) (fun _ => rfl)
    · intro act wa hC hd H O K hK
      clear hd
      obtain ⟨hP, hO⟩ := hC
      have h3 := O 3 (by kernel_rfl)
      have g3 := Array.getD_eq_getD_getElem?.symm.trans h3
      clear H O
      obtain ⟨a0, a1, a2, a3⟩ := hP.cod
      obtain ⟨b0, b1, b2, b3, b4, b5⟩ := hP.txn
      go_simp
      exact hK _ _ (Below.refl _ _) (fun _ => rfl)
    · intro act wa hC hd H O K hK
      clear hd
      obtain ⟨hP, hO⟩ := hC
      have h32 : act.tmps.getD 32 undef = .pointer (some ⟨w.heap.size, 2, none⟩) := H 1 4 32 (by kernel_rfl) rfl
      have g32 := Array.getD_eq_getD_getElem?.symm.trans h32
      clear H O
      obtain ⟨a0, a1, a2, a3⟩ := hP.cod
      obtain ⟨b0, b1, b2, b3, b4, b5⟩ := hP.txn
      go_simp
      exact hK _ _ (Below.refl _ _) (fun _ => rfl)
    · intro act wa hC hd H O K hK
      clear hd
      obtain ⟨hP, hO⟩ := hC
      have h31 : act.tmps.getD 31 undef = .agg #[.int .i64 p0, .int .i64 p1, .int .i64 p2] := H 1 3 31 (by kernel_rfl) rfl
      have g31 := Array.getD_eq_getD_getElem?.symm.trans h31
      have h33 : act.tmps.getD 33 undef = .agg #[.int .i64 d0, .int .i64 d1, .int .i64 d2] := H 1 5 33 (by kernel_rfl) rfl
      have g33 := Array.getD_eq_getD_getElem?.symm.trans h33
      clear H O
      obtain ⟨a0, a1, a2, a3⟩ := hP.cod
      obtain ⟨b0, b1, b2, b3, b4, b5⟩ := hP.txn
      go_simp
      refine (HCP _).out.mono ?_
      rintro e1 w1 ⟨v3, rfl, hm, hb⟩
      obtain ⟨A3, c3, rfl, hz⟩ := hm
      exact hK _ _ hb (fun _ => ⟨A3, c3, rfl, ⟨A3, c3, rfl, hz⟩⟩)
    · intro act wa hC hd H O K hK
      clear hd
      obtain ⟨hP, hO⟩ := hC
      have h34 : ∃ A3 c3, act.tmps.getD 34 undef = .tuple #[.slice A3 ld c3, .int .i64 0] ∧ Made wa (.slice A3 ld c3) dcs ld := H 1 6 34 (by kernel_rfl) rfl
      obtain ⟨A3, c3, h34, hm3⟩ := h34
      clear H O
      obtain ⟨a0, a1, a2, a3⟩ := hP.cod
      obtain ⟨b0, b1, b2, b3, b4, b5⟩ := hP.txn
      have g34 := Array.getD_eq_getD_getElem?.symm.trans h34
      go_simp
      exact hK _ _ (Below.refl _ _) (fun _ => ⟨A3, c3, rfl, hm3⟩)
    · intro act wa hC hd H O K hK
      clear hd
      obtain ⟨hP, hO⟩ := hC
      have h27 : ∃ A3 c3, act.tmps.getD 27 undef = .tuple #[.slice A3 ld c3, .int .i64 0] ∧ Made wa (.slice A3 ld c3) dcs ld := H 1 7 27 (by kernel_rfl) rfl
      obtain ⟨A3, c3, h27, hm3⟩ := h27
      clear H O
      obtain ⟨a0, a1, a2, a3⟩ := hP.cod
      obtain ⟨b0, b1, b2, b3, b4, b5⟩ := hP.txn
      have g27 := Array.getD_eq_getD_getElem?.symm.trans h27
      go_simp
      exact hK _ _ (Below.refl _ _) (fun _ => ⟨A3, c3, rfl, hm3⟩)
    · intro act wa hC hd H O K hK
      clear hd
      obtain ⟨hP, hO⟩ := hC
      have h27 : ∃ A3 c3, act.tmps.getD 27 undef = .tuple #[.slice A3 ld c3, .int .i64 0] ∧ Made wa (.slice A3 ld c3) dcs ld := H 1 7 27 (by kernel_rfl) rfl
      obtain ⟨A3, c3, h27, hm3⟩ := h27
      clear H O
      obtain ⟨a0, a1, a2, a3⟩ := hP.cod
      obtain ⟨b0, b1, b2, b3, b4, b5⟩ := hP.txn
      have g27 := Array.getD_eq_getD_getElem?.symm.trans h27
      go_simp
      exact hK _ _ (Below.refl _ _) (fun _ => rfl)
    · intro act wa hC hd H O K hK
      clear hd
      obtain ⟨hP, hO⟩ := hC
      have h35 : ∃ A3 c3, act.tmps.getD 35 undef = .slice A3 ld c3 ∧ Made wa (.slice A3 ld c3) dcs ld := H 1 8 35 (by kernel_rfl) rfl
      obtain ⟨A3, c3, h35, hm3⟩ := h35
      clear H O
      obtain ⟨a0, a1, a2, a3⟩ := hP.cod
      obtain ⟨b0, b1, b2, b3, b4, b5⟩ := hP.txn
      have g35 := Array.getD_eq_getD_getElem?.symm.trans h35
      go_simp
      exact hK _ _ (Below.refl _ _) (fun _ => ⟨A3, c3, rfl, hm3⟩)
    · intro act wa hC hd H O K hK
      clear hd
      obtain ⟨hP, hO⟩ := hC
      have h36 : act.tmps.getD 36 undef = .int .i64 0 := H 1 9 36 (by kernel_rfl) rfl
      have g36 := Array.getD_eq_getD_getElem?.symm.trans h36
      clear H O
      obtain ⟨a0, a1, a2, a3⟩ := hP.cod
      obtain ⟨b0, b1, b2, b3, b4, b5⟩ := hP.txn
      go_simp
      exact hK _ _ (Below.refl _ _) (fun _ => rfl)
  · intro us w' hC hF
    obtain ⟨hP, hO⟩ := hC
    have u8 : ∃ A3 c3, us 8 = .slice A3 ld c3 ∧ Made w' (.slice A3 ld c3) dcs ld := hF 10 8 rfl
    obtain ⟨A3, c3, u8v, hm3⟩ := u8
    have u9 : us 9 = .int .i64 0 := hF 11 9 rfl
    clear hF
    simp only [List.foldl]
    go_simp
    have P3 := Lib.hid hP; have O3 := Lib.hid hO
    have e9 : us 9 = .int .i64 0 := u9
    obtain ⟨A3', c3', e3, hr3, hl3, -, -, -, hz3⟩ := hm3
    injection e3 with e31 e32 e33
    subst e31 e33
    have HR3 := Lib.hid hr3; have HZ3 := Lib.hid hz3; have HL3 := Lib.hid hl3
    obtain ⟨A2, c2, rfl, -⟩ := own_form hO
    have hw' : w.heap.size + 1 ≤ w'.heap.size := by have := P3.out.2.1.lt; omega
    clear hP hO hr3 hl3 hz3 u9 a0 a1 a2 a3 b0 b1 b2 b3 b4 b5
    go_wp2_with (at_builtin; go_must (refine app_own rfl (.tmp 40) (.tmp 41) 39 rfl (w.heap.size + 1) 5 i0 (.int .u8 0) 1 Try.underlying39 hi hz0 hz1 hz2 rfl (.slice A2 en.length c2) en.length (u8s en) rfl O3.out w'.heap.size A3 ld c3 (u8s dcs) rfl (by simp [HL3.out]) HR3.out HZ3.out (u8s_one _) (by unfold maxLen; omega) (by omega) hw' ?_; intro v4 w4 ho4 hg4 hne4; have P4 := Lib.hid (P3.out.grown O3.out (by omega) hg4); have O4 := Lib.hid ho4; obtain ⟨A4, c4, rfl, -⟩ := own_form ho4; obtain ⟨b0, b1, b2, b3, b4, b5⟩ := P4.out.txn; clear ho4 hg4 hne4))
    refine (Put_at w4 (ws.length : Int) (Vm.enc ws.length) _ (by omega) (by omega) (by simp) rfl).mono ?_
    rintro e1 w5 ⟨v5, rfl, hm5, hb5⟩
    have P5 := Lib.hid (P4.out.below hb5); have O5 := Lib.hid (own_below O4.out hb5)
    obtain ⟨A5, c5, rfl, hr5, hl5, -, -, -, hz5⟩ := hm5
    have HR5 := Lib.hid hr5; have HZ5 := Lib.hid hz5
    have hlw := Vm.enc_le ws.length
    obtain ⟨lw, hlw0⟩ : ∃ x, (Vm.enc ws.length).length = x := ⟨_, rfl⟩
    have HLW := Lib.hid hlw0
    rw [hlw0] at hlw
    have hw5 : w.heap.size + 1 ≤ w5.heap.size := by have := P5.out.2.1.lt; omega
    clear hr5 hl5 hz5 hb5 b0 b1 b2 b3 b4 b5
    obtain ⟨b0, b1, b2, b3, b4, b5⟩ := P5.out.txn
    try rw [hlw0]
    clear hlw0
    go_wp2_with (at_builtin; go_must (refine app_own rfl (.tmp 43) (.tmp 48) 39 rfl (w.heap.size + 1) 5 i0 (.int .u8 0) 1 Try.underlying39 hi hz0 hz1 hz2 rfl (.slice A4 (en.length + ld) c4) (en.length + ld) (u8s en ++ u8s dcs) rfl O5.out w5.heap.size A5 lw c5 (u8s (Vm.enc ws.length)) rfl (by simp [HLW.out]) HR5.out HZ5.out (u8s_one _) (by unfold maxLen; omega) (by omega) hw5 ?_; intro v6 w6 ho6 hg6 hne6; have P6 := Lib.hid (P5.out.grown O5.out (by omega) hg6); have O6 := Lib.hid ho6; clear b0 b1 b2 b3 b4 b5; obtain ⟨b0, b1, b2, b3, b4, b5⟩ := P6.out.txn; clear ho6 hg6 hne6))
    obtain ⟨pre, hpre⟩ : ∃ x, Tm.head ((on : Int), (sn : Int), (d0, d1, d2), ws) (p0, p1, p2) = x := ⟨_, rfl⟩
    have hpre2 : pre = en ++ dcs ++ Vm.enc ws.length := by rw [← hpre, ← HEN.out, ← HDCS.out]; rfl
    have hpl : pre.length = en.length + ld + lw := by rw [hpre2]; simp only [List.length_append, HLD.out, HLW.out]
    have hpb : pre.length ≤ 60 := by omega
    have hp256 : ∀ b ∈ pre, b < 256 := by
      rw [hpre2]
      intro b hb
      simp only [List.mem_append] at hb
      rcases hb with (hb | hb) | hb
      · rw [← HEN.out] at hb
        have h2 : Vm.encs [on, sn] = Vm.enc on ++ Vm.enc sn := by simp [Vm.encs]
        rw [h2] at hb
        rcases List.mem_append.1 hb with hb | hb
        · exact Vm.enc_byte (by omega) b hb
        · exact Vm.enc_byte (by omega) b hb
      · exact HPB.out b hb
      · exact Vm.enc_byte (by omega) b hb
    have hO : w6.ownsRow (w.heap.size + 1) 5 1 v6 pre.length (u8s pre) := by
      have h := O6.out
      rw [← u8s_append, ← u8s_append, ← hpre2, ← hpl] at h
      exact h
    have HPRE := Lib.hid hpre; have HP256 := Lib.hid hp256
    have START := Lib.hid (show TpRel w g d (p0, p1, p2) (tcs (on : Int) (sn : Int) (d0, d1, d2) A ws.length cap) T ks e ws pre v6 (.int .i64 0) w6 from ⟨0, [], ks, e, T, rfl, Nat.zero_le _, Lib.hid rfl, by simpa using hO, P6.out⟩)
    clear hpre hpre2 hpl hp256 hO b0 b1 b2 b3 b4 b5 HPB HEN HLD HLW O2 O3 O4 O5 O6 P1 P2 P3 P4 P5 HR3 HZ3 HR5 HZ5 HL3 HCP hw1 hw2 hw' hw5 HPL hel hlw
    go_loopw [7, 53] (fun s7 s53 wr => TpRel w g d (p0, p1, p2) (tcs (on : Int) (sn : Int) (d0, d1, d2) A ws.length cap) T ks e ws pre s7 s53 wr) (fun _ s53 _ => ws.length - (intOf s53).toNat)
    case atStart => exact START.out
    case round =>
      clear START P6
      obtain ⟨k, bs, ks', e', T', rfl, hk, hput, hown, hP⟩ := hrel
      obtain ⟨nb, hnb⟩ : ∃ x, (pre ++ bs).length = x := ⟨_, rfl⟩
      rw [hnb] at hown
      have HNB := Lib.hid hnb
      obtain ⟨A7, c7, rfl, -⟩ := own_form hown
      have HO := Lib.hid hown; have HP := Lib.hid hP
      have hwr : w.heap.size + 1 ≤ wr.heap.size := by have := hP.2.1.lt; omega
      have hbl : bs.length ≤ 6000 := by
        have h := (Tm.putWs_ok (ws.take k) ks e (H2.out.ok) (fun x hx => (HSZ.out x (List.mem_of_mem_take hx)).2)).1
        rw [hput.out] at h
        simp only [List.length_take] at h
        omega
      have hnl : nb ≤ 6060 := by rw [← HNB.out, List.length_append]; omega
      clear hnb
      by_cases hlt : k < ws.length
      · obtain ⟨g', o', ⟨xk, xv, xb⟩, rfl, hg', hx, c0, c1, c2'⟩ := (hP.wr HR.out HAP.out).row hlt
        simp only at c0 c1 c2'
        have hsx := HSZ.out _ (List.mem_of_getElem? hx)
        simp only at hsx
        obtain ⟨hkx, hvx⟩ := hsx
        have hltI : (k : Int) < (ws.length : Int) := by omega
        have P2 := Lib.hid ((hP.alloc (.cells #[.string xk, .string xv, .bool xb] 73)).drew)
        have hfin := Tm.putD_fine (ks := ks') (e := e') hkx
        obtain ⟨⟨pb, pe, pk, pn⟩, hpd⟩ : ∃ r, Dm.putD ks' e' xk = r := ⟨_, rfl⟩
        rw [hpd] at hfin
        simp only at hfin
        subst hfin
        have hpbl : pb.length ≤ 84 := by have := (Dm.put_len (k := xk) hP.2.2.1.ok).1; rw [hpd] at this; exact this
        have HD := Lib.hid (DPut_any _ d T' ks' e' xk (by unfold maxLen; omega) P2.out.2.2.1)
        rw [hpd] at HD
        have HSTEP := Lib.hid (Tm.putWs_step hx hput.out)
        simp only [hpd] at HSTEP
        have HV := fun w => Lib.hid (value_any w (xk, xv, xb) (by simp only; omega))
        have hvl := Tm.valB_len (xk, xv, xb)
        simp only at hvl
        obtain ⟨vb, hvb⟩ : ∃ x, Tm.valB (xk, xv, xb) = x := ⟨_, rfl⟩
        rw [hvb] at HSTEP hvl
        simp only [hvb] at HV
        obtain ⟨lv, hlv⟩ : ∃ x, vb.length = x := ⟨_, rfl⟩
        obtain ⟨lb, hlb⟩ : ∃ x, pb.length = x := ⟨_, rfl⟩
        have HLV := Lib.hid hlv; have HLB := Lib.hid hlb
        have hgw : g' < wr.heap.size := hg'
        obtain ⟨a0, a1, a2, a3⟩ := hP.cod
        have hgl := hP.1.lt
        have hgne : g ≠ wr.heap.size := by omega
        have HNT := Lib.hid (show ¬ T' wr.heap.size from fun h => by have := hP.2.2.1.lt _ h; omega)
        have HO2 : Hid ((wr.alloc (.cells #[.string xk, .string xv, .bool xb] 73)).drew.ownsRow (w.heap.size + 1) 5 1 (.slice A7 nb c7) nb (u8s (pre ++ bs))) := Lib.hid (own_below hown ((Below.refl _ wr).alloc (Nat.le_refl _) _).drew)
        have F2 : Hid (Blk (wr.alloc (.cells #[.string xk, .string xv, .bool xb] 73)).drew wr.heap.size 73 #[.string xk, .string xv, .bool xb]) := Lib.hid (Blk.new wr _ _)
        have HW : Hid (w.heap.size + 1 ≤ (wr.alloc (.cells #[.string xk, .string xv, .bool xb] 73)).drew.heap.size) := Lib.hid (by simp; omega)
        rw [hlb] at hpbl
        rw [hlv] at hvl
        clear hown hP hput hx hpd hvb hlb hlv
        go_wp2
        go_region_with (first
          | (go_at_call 49; refine HD.out.mono ?_; rintro e1 w3 ⟨v3, T3, rfl, hm3, hf3, hd3, ht3⟩)
          | fail)
        all_goals (
          simp only [HLB.out] at hm3
          obtain ⟨A9, c9, rfl, hr9, hl9, -, -, -, hz9⟩ := hm3
          have HR9 := Lib.hid hr9; have HZ9 := Lib.hid hz9; have HL9 := Lib.hid hl9
          have P3 := Lib.hid (P2.out.turn hd3 ht3)
          have O3 := Lib.hid (P2.out.own_turn HO2.out ht3)
          have F3 := Lib.hid (ht3.2.blk F2.out HNT.out)
          have hw3 : w.heap.size + 1 ≤ w3.heap.size := Nat.le_trans HW.out ht3.2.size
          clear hr9 hl9 hz9 hf3 hd3 ht3 a0 a1 a2 a3 c0 c1 c2'
          go_wp2_with (at_builtin; go_must (refine app_own rfl (.tmp 70) (.tmp 71) 39 rfl (w.heap.size + 1) 5 i0 (.int .u8 0) 1 Try.underlying39 hi hz0 hz1 hz2 rfl (.slice A7 nb c7) nb (u8s (pre ++ bs)) rfl O3.out w3.heap.size A9 lb c9 (u8s pb) rfl (by simp [HL9.out]) HR9.out HZ9.out (u8s_one _) (by unfold maxLen; omega) (by omega) hw3 ?_; intro x4 y4 ho4 hg4 hne4; have P4 := Lib.hid (P3.out.grown O3.out (by omega) hg4); have O4 := Lib.hid ho4; have F4 := Lib.hid (F3.out.grown hg4 (fun h => own_ne_blk O3.out F3.out (by decide) _ h.symm rfl)); obtain ⟨A10, c10, rfl, -⟩ := own_form ho4; obtain ⟨f0, f1, f2, -⟩ := Blk.three F4.out; clear ho4 hg4 hne4))
          refine (HV _).out.mono ?_
          rintro e1 y5 ⟨x5, rfl, hm5, hb5⟩
          simp only [HLV.out] at hm5
          obtain ⟨A11, c11, rfl, hr11, hl11, -, -, -, hz11⟩ := hm5
          have HR11 := Lib.hid hr11; have HZ11 := Lib.hid hz11; have HL11 := Lib.hid hl11
          have P5 := Lib.hid (P4.out.below hb5)
          have O5 := Lib.hid (own_below O4.out hb5)
          have hw5 : w.heap.size + 1 ≤ y5.heap.size := by have := P5.out.2.1.lt; omega
          clear hr11 hl11 hz11 hb5 f0 f1 f2
          go_wp2_with (at_builtin; go_must (refine app_own rfl (.tmp 73) (.tmp 75) 39 rfl (w.heap.size + 1) 5 i0 (.int .u8 0) 1 Try.underlying39 hi hz0 hz1 hz2 rfl (.slice A10 (nb + lb) c10) (nb + lb) (u8s (pre ++ bs) ++ u8s pb) rfl O5.out y5.heap.size A11 lv c11 (u8s vb) rfl (by simp [HL11.out]) HR11.out HZ11.out (u8s_one _) (by unfold maxLen; omega) (by omega) hw5 ?_; intro x6 y6 ho6 hg6 hne6; have P6 := Lib.hid (P5.out.grown O5.out (by omega) hg6); have O6 := Lib.hid ho6; clear ho6 hg6 hne6))
          go_roundw
          case rel =>
            refine ⟨k + 1, bs ++ (pb ++ vb), pk, pn, T3, by go_num, by omega, HSTEP, ?_, P6.out⟩
            have h := O6.out
            rw [← u8s_append, ← u8s_append] at h
            have hl : (pre ++ (bs ++ (pb ++ vb))).length = nb + lb + lv := by have := HNB.out; have := HLB.out; have := HLV.out; simp only [List.length_append] at *; omega
            rw [hl]
            simpa only [List.append_assoc] using h
          case measure => simp [intOf]; omega)
      · obtain rfl : k = ws.length := by omega
        have hput2 := hput.out
        rw [List.take_of_length_le (Nat.le_refl _)] at hput2
        obtain ⟨a0, a1, a2, a3⟩ := hP.cod
        obtain ⟨b0, b1, b2, b3, b4, b5⟩ := hP.txn
        have q1 := hP.1.frozen 1
        have q2 := hP.1.frozen 2
        have q3 := hP.1.frozen 3
        have hk1 := ((hP.1.set 1 (.int .i64 d0)).set 2 (.int .i64 d1)).set 3 (.int .i64 d2)
        have hO := (((Only.refl (fun j => j = g) wr).set rfl 1 (.int .i64 d0)).set rfl 2 (.int .i64 d1)).set rfl 3 (.int .i64 d2)
        have hng : ¬ T' g := hP.2.2.1.not_blk hP.1 (by decide) (by decide)
        have hrow := hO.own hown (fun j hj hjg => own_ne_blk hown hP.1 (by decide) _ hj hjg)
        have HEND := Lib.hid (show CPutPost w g (fun j => j = g ∨ T j) (Tm.put ks e (p0, p1, p2) ((on : Int), (sn : Int), (d0, d1, d2), ws)) (.returned (.tuple #[.slice A7 nb c7, .int .i64 0])) (((wr.setCell ⟨g, 1, none⟩ (.int .i64 d0)).setCell ⟨g, 2, none⟩ (.int .i64 d1)).setCell ⟨g, 3, none⟩ (.int .i64 d2)) from by
          unfold Tm.put
          rw [if_neg (by rw [HK.out]; simp)]
          simp only [hput2, HPRE.out]
          refine ⟨_, fun j => j = g ∨ T' j, rfl, made_of_own hrow rfl ?_, ?_, ⟨d, T', hk1, hP.2.2.1.only hO (fun j hj ht => hng (hj ▸ ht)), hng, hdr, fun j => Iff.rfl⟩, ?_, ?_⟩
          · intro b hb
            rcases List.mem_append.1 hb with hb | hb
            · exact HP256.out b hb
            · have h := (Tm.putWs_ok ws ks e (H2.out.ok) (fun x hx => (HSZ.out x hx).2)).2.1
              rw [hput2] at h
              exact h b hb
          · intro g1 o1 n1 c1 hv
            have hb1 : (Value.slice A7 nb c7).ownBlock = some g1 := by rw [hv]; rfl
            have h1 := (hown.lt g1 hb1).1
            refine ⟨by omega, fun hs => ?_⟩
            rcases hs with rfl | hs
            · exact own_ne_blk hown hP.1 (by decide) _ hb1 rfl
            · exact hP.2.2.1.not_own hown _ hb1 hs
          · intro j hj
            rcases hj with rfl | hj
            · exact .inl (.inl rfl)
            · rcases hP.2.2.2.1 j hj with h | h
              · exact .inl (.inr h)
              · exact .inr h
          · exact (hP.2.2.2.2.mono (fun j _ hj => .inr hj)).trans hO (fun j hj => .inl (.inl hj)))
        clear hk1 hO hrow hput2 hown hP
        go_wp2
        go_ret2
        exact HEND.out
/-- Put, whatever the transaction -/
theorem CPut_any (w : World) (g : Nat) (S : Nat → Prop) (ks : List ByteArray) (e : Nat) (c : Tri3) (o s d0 d1 d2 : Int) (ws : List Wr) (A : Option Addr) (len cap : Nat) (h : CodM w g S ks e c) (hr : WrR w w.heap.size A ws) (hap : ∀ g' o', A = some ⟨g', o', none⟩ → ws ≠ [] → ¬ S g') (hn : ws.length = len) (hl : len ≤ 1099511627776) :
    Calls Try.prog 14 #[.pointer (some ⟨g, 0, none⟩), .agg #[.int .i64 o, .int .i64 s, .int .i64 d0, .int .i64 d1, .int .i64 d2, .slice A len cap]] w (CPutPost w g S (Tm.put ks e c (o, s, (d0, d1, d2), ws))) := by
  by_cases hk : Tm.check (o, s, (d0, d1, d2), ws) = 0
  · obtain ⟨h0, h1, h2, h3, h4, h5, h6, h7, h8⟩ := Tm.check_ok hk
    simp only at h0 h1 h2 h3 h4 h5 h6 h7 h8
    obtain ⟨d, T, k1, k2, k3, k4, k5⟩ := h
    obtain rfl : S = fun j => j = g ∨ T j := funext fun j => propext (k5 j)
    obtain ⟨on, rfl⟩ := Int.eq_ofNat_of_zero_le h0
    obtain ⟨sn, rfl⟩ := Int.eq_ofNat_of_zero_le (a := s) (by omega)
    exact CPut_ok w g d T ks e c on sn d0 d1 d2 ws A len cap k1 k2 k4 h4 hr (fun g' o' hA hn ht => hap g' o' hA hn (.inr ht)) hn (by omega) (by omega) (by omega) h7 hk
  · exact CPut_no w g S ks e c o s d0 d1 d2 ws A len cap _ h hr hn hl rfl hk
end Go.Proofs.Ytgjkeccopjgjlaa

/- ref16: Load. (written by gen_rld.py) -/
import Derived.Test.YtahichieakdbnaaQh
import Derived.BigQuiet
namespace Go.Proofs.Ytahichieakdbnaa
open Go.ChangeShapes Go.WideShapes Go.ChangeAt Go.RowKit Go.Maps
set_option linter.unusedVariables false
set_option linter.unusedSimpArgs false

set_option maxHeartbeats 3000000 in
set_option maxRecDepth 100000 in
theorem RLoad_any (w : World) (A : Option Addr) (n c : Nat) (bs : List Nat) (B : Nat) (hr : Rd w B A (u8s bs)) (hB : B ≤ w.heap.size) (h256 : ∀ b ∈ bs, b < 256) (hn : bs.length = n) (hl : n ≤ 1000000) (hc : n ≤ c) (hcm : c ≤ maxLen) :
    Calls Try.prog 42 #[.slice A n c] w (RLdPost w n (Km.load bs)) := by
  obtain ⟨i0, hi, hz0, hz1, hz2⟩ := info_parts infoStrK
  have HR := Lib.hid hr; have H256 := Lib.hid h256; have HN := Lib.hid hn
  have H0 := Lib.hid (RP.start w)
  have hcm' : c ≤ 9223372036854775807 := hcm
  clear hr h256 hn
  go_enter Try.func42, Try.ntmps42
  go_wp2
  go_loopw [5] (fun s5 wr => ∃ (a ns f : Nat) (last : L8) (st : St) (vK vV : Value), s5 = .int .i64 (a : Int) ∧ a ≤ n ∧ n - a ≤ f ∧ ns ≤ a ∧ RP w wr vK vV vK vV ns ns (st.map (·.1)) (st.map (·.2)) ∧ Hid (LdI n bs a ns f last st)) (fun s5 _ => n - (intOf s5).toNat)
  case atStart => exact ⟨0, 0, n, [], [], _, _, rfl, Nat.zero_le _, Nat.sub_le _ _, Nat.le_refl _, by simpa using H0.out, Lib.hid ⟨rfl, List.Pairwise.nil, .inl rfl, fun p hp => by simp at hp, by unfold Km.load; rw [HN.out, List.drop_zero]⟩⟩
  case round =>
    clear H0
    obtain ⟨a, ns, f, last, st, vK, vV, rfl, ha, hf, hns, hrp, hLI⟩ := hrel
    obtain ⟨AK, cK, rfl⟩ := own_sl hrp.2.2.1
    obtain ⟨AV, cV, rfl⟩ := own_sl hrp.2.2.2.1
    have HRP := Lib.hid hrp
    by_cases hlt : a < n
    · have hltI : (a : Int) < (n : Int) := by omega
      have haI : (a : Int) ≤ (n : Int) := by omega
      obtain ⟨f, rfl⟩ : ∃ f', f = f' + 1 := ⟨f - 1, by omega⟩
      have hdl : (bs.drop a).length = n - a := by rw [List.length_drop, HN.out]
      have HNE : Hid (bs.drop a ≠ []) := Lib.hid (fun e => by rw [e] at hdl; simp at hdl; omega)
      obtain ⟨A1, q1, q2, q3⟩ := slice_from (P := Try.prog) 32 5 Try.underlying32 sizeOfU8K A n c a (a : Int) rfl ha hc
      have hd256 : ∀ b ∈ bs.drop a, b < 256 := fun b hb => H256.out b (List.mem_of_mem_drop hb)
      obtain ⟨⟨key, z1, e1⟩, ht1⟩ : ∃ r, Km.tk (bs.drop a) = r := ⟨_, rfl⟩
      have hT1 := fun (x : World) (hx : Below w.heap.size w x) => Rtake_any x A1 (n - a) (c - a) (bs.drop a) (by
        have h1 := q2 x B (u8s bs) (by simp [u8s, HN.out]) (HR.out.below (hx.mono hB))
        rw [show (u8s bs).drop a = u8s (bs.drop a) by simp [u8s, List.map_drop]] at h1
        exact h1.more (Nat.le_trans hB hx.size)) hd256 hdl (by omega) (by omega) (by unfold maxLen; omega)
      rw [ht1] at hT1
      simp only at hT1
      obtain ⟨kb, hkb⟩ : ∃ q, Km.ba key = q := ⟨_, rfl⟩
      rw [hkb] at hT1
      have T1 := Lib.hid hT1; have HT1 := Lib.hid ht1; have HKB := Lib.hid hkb
      by_cases he1 : e1 = 0
      · subst he1
        have hok1 := tk_ok (b := bs.drop a) (by rw [ht1]) hd256
        rw [ht1, hdl] at hok1
        simp only at hok1
        obtain ⟨hz1a, hz1b, hkl⟩ := hok1
        have hz1I : (a : Int) + (z1 : Int) ≤ (n : Int) := by omega
        obtain ⟨A2, p1, p2, p3⟩ := slice_from (P := Try.prog) 32 5 Try.underlying32 sizeOfU8K A n c (a + z1) ((a : Int) + (z1 : Int)) (by omega) (by omega) hc
        have hd2 : ∀ b ∈ bs.drop (a + z1), b < 256 := fun b hb => H256.out b (List.mem_of_mem_drop hb)
        have hdl2 : (bs.drop (a + z1)).length = n - (a + z1) := by rw [List.length_drop, HN.out]
        obtain ⟨⟨val, z2, e2⟩, ht2⟩ : ∃ r, Km.tk (bs.drop (a + z1)) = r := ⟨_, rfl⟩
        have hT2 := fun (x : World) (hx : Below w.heap.size w x) => Rtake_any x A2 (n - (a + z1)) (c - (a + z1)) (bs.drop (a + z1)) (by
          have h1 := p2 x B (u8s bs) (by simp [u8s, HN.out]) (HR.out.below (hx.mono hB))
          rw [show (u8s bs).drop (a + z1) = u8s (bs.drop (a + z1)) by simp [u8s, List.map_drop]] at h1
          exact h1.more (Nat.le_trans hB hx.size)) hd2 hdl2 (by omega) (by omega) (by unfold maxLen; omega)
        rw [ht2] at hT2
        simp only at hT2
        obtain ⟨vb, hvb⟩ : ∃ q, Km.ba val = q := ⟨_, rfl⟩
        rw [hvb] at hT2
        have T2 := Lib.hid hT2; have HT2 := Lib.hid ht2; have HVB := Lib.hid hvb
        have HOK2 : Hid (e2 = 0 → 1 ≤ z2 ∧ z2 ≤ n - (a + z1) ∧ val.length ≤ n - (a + z1)) := Lib.hid (fun he => by
          have h1 := tk_ok (b := bs.drop (a + z1)) (by rw [ht2]; exact he) hd2
          rw [ht2, hdl2] at h1
          exact h1)
        clear hT1 hT2 ht1 ht2 hkb hvb hdl hd256 hd2 hdl2 q2 q3 p2 p3 hrp
        by_cases hs0 : ns = 0
        · subst hs0
          have HC : Hid (¬ (st ≠ [] ∧ key ≤ last)) := Lib.hid (fun h => h.1 (List.eq_nil_of_length_eq_zero hLI.out.1))
          have a0 := HRP.out.1.cell 0
          simp at a0
          go_wp2_with fail
          refine (T1.out wr HRP.out.2.1).mono ?_
          rintro en w2 ⟨rfl, hb2⟩
          have HP2 := Lib.hid (HRP.out.below hb2)
          have b0 := HP2.out.1.cell 0
          have bl := HP2.out.1.lt
          simp at b0
          clear hb2 a0
          go_wp2
          go_quiet (fail)
          obtain ⟨w3, hw3⟩ : ∃ x, x = w2.drewN nq := ⟨_, rfl⟩
          have HP3 := Lib.hid (HP2.out.below (below_drewN (Below.refl _ w2) nq))
          rw [← hw3] at HP3 ⊢
          clear hw3 b0 bl
          go_wp2_with fail
          refine (T2.out w3 HP3.out.2.1).mono ?_
          rintro en w4 ⟨rfl, hb4⟩
          have HP4 := Lib.hid (HP3.out.below hb4)
          clear hb4
          by_cases he2 : e2 = 0
          · subst he2
            obtain ⟨hz2a, hz2b, hvl⟩ := HOK2.out rfl
            have d0 := HP4.out.1.cell 0
            have dl := HP4.out.1.lt
            simp at d0
            go_wp2_with (at_builtin; go_must (first
              | (refine wpList_app_at rfl (.tmp 69) (.tmp 71) 70 rfl w.heap.size 9 i0 (.string ⟨#[]⟩) 1 16 Try.underlying70 hi hz0 hz1 hz2 rfl (by decide) (.slice AK 0 cK) 0 ((st.map (·.1)).map encStr) rfl (HP4.out.below ((Below.refl _ w4).alloc (Nat.le_refl _) (.cells #[.string kb] 9))).2.2.1 (some ⟨w4.heap.size, 0, none⟩) 1 1 [.string kb] rfl rfl (.inr ⟨_, rfl, fun p u hu => by rw [addkK, (Blk.new' w4 9 #[.string kb] (g := w4.heap.size) (by simp)).cell p]; simpa using hu⟩) (by intro u hu; simp at hu; subst hu; rfl) (by unfold maxLen; omega) (by omega) (by have := HP4.out.2.1.size; simp at this ⊢; omega) ?_; intro v7 w7 ho hg hat; obtain ⟨A7, c7, rfl⟩ := own_sl ho; have HP7 : Hid (RP w w7 (.slice AK 0 cK) (.slice AV 0 cV) (.slice A7 1 c7) (.slice AV 0 cV) 1 0 ((st.map (·.1)) ++ [key]) (st.map (·.2))) := Lib.hid ((HP4.out.below ((Below.refl _ w4).alloc (Nat.le_refl _) (.cells #[.string kb] 9))).growK (by rw [List.map_append, List.map_singleton, Km.encStr_ba, HKB.out]; exact ho) hg hat); clear ho hg hat; have k7 := HP7.out.1.cell 0; have f7 := HP7.out.1.frozen 0; have l7 := HP7.out.1.lt; have HP7s := Lib.hid (HP7.out.setK (.slice A7 1 c7)); have ks7 := HP7s.out.1.cell 1; simp at k7 ks7)
              | (refine wpList_app_at rfl (.tmp 79) (.tmp 81) 70 rfl w.heap.size 9 i0 (.string ⟨#[]⟩) 1 16 Try.underlying70 hi hz0 hz1 hz2 rfl (by decide) (.slice AV 0 cV) 0 ((st.map (·.2)).map encStr) rfl (HP7s.out.below ((Below.refl _ (w7.setCell ⟨w.heap.size, 0, none⟩ (.slice A7 1 c7))).alloc (Nat.le_refl _) (.cells #[.string vb] 9))).2.2.2.1 (some ⟨w7.heap.size, 0, none⟩) 1 1 [.string vb] rfl rfl (.inr ⟨_, rfl, fun p u hu => by rw [addkK, (Blk.new' (w7.setCell ⟨w.heap.size, 0, none⟩ (.slice A7 1 c7)) 9 #[.string vb] (g := w7.heap.size) (by simp)).cell p]; simpa using hu⟩) (by intro u hu; simp at hu; subst hu; rfl) (by unfold maxLen; omega) (by omega) (by have := HP7s.out.2.1.size; simp at this ⊢; omega) ?_; intro v9 w9 ho hg hat; obtain ⟨A9, c9, rfl⟩ := own_sl ho; have HP9 : Hid (RP w w9 (.slice A7 1 c7) (.slice AV 0 cV) (.slice A7 1 c7) (.slice A9 1 c9) 1 1 ((st.map (·.1)) ++ [key]) ((st.map (·.2)) ++ [val])) := Lib.hid ((HP7s.out.below ((Below.refl _ (w7.setCell ⟨w.heap.size, 0, none⟩ (.slice A7 1 c7))).alloc (Nat.le_refl _) (.cells #[.string vb] 9))).growV (by rw [List.map_append, List.map_singleton, Km.encStr_ba, HVB.out]; exact ho) hg hat); clear ho hg hat; have k9 := HP9.out.1.cell 1; have f9 := HP9.out.1.frozen 1; have l9 := HP9.out.1.lt; have HP9s := Lib.hid (HP9.out.setV (.slice A9 1 c9)); simp at k9)))
            have R := Lib.hid (HP9s.out)
            have RL := Lib.hid (hLI.out.push HNE.out HT1.out HC.out HT2.out (by omega) (by omega))
            go_roundw
            case rel => exact ⟨a + z1 + z2, 1, f, key, st ++ [(key, val)], _, _, by go_num, by omega, by omega, by omega, by rw [List.map_append, List.map_append]; exact R.out, RL⟩
            case measure => simp [intOf]; omega
          · have hei : (e2 : Int) ≠ 0 := by omega
            have HP := Lib.hid (show RLdPost w n (Km.load bs) (.returned (.tuple #[.pointer none, .int .i64 (e2 : Int)])) w4 from ⟨HP4.out.2.1, .inr ⟨e2, he2, by rw [hLI.out.2.2.2.2]; exact Km.ld_t2 HNE.out HT1.out HC.out (by rw [List.drop_drop]; exact HT2.out) he2, rfl⟩⟩)
            go_wp2
            go_ret2
            exact HP.out
        · obtain ⟨m, hm⟩ : ∃ m, ns = m + 1 := ⟨ns - 1, by omega⟩
          have hnsI : (0 : Int) < (ns : Int) := by omega
          obtain ⟨lv, hlv⟩ : ∃ v, st[m]? = some (last, v) := by
            rcases hLI.out.2.2.1 with h | ⟨v, h⟩
            · have := hLI.out.1; rw [h] at this; simp at this; omega
            · exact ⟨v, by rw [hm] at h; exact h⟩
          obtain ⟨qk, rfl, z0, hqk⟩ := strs_cell HRP.out.2.2.1 (k := m) (x := last) (by rw [List.getElem?_map, hlv]; rfl) (by omega)
          obtain ⟨lb, hlb⟩ : ∃ q, Km.ba last = q := ⟨_, rfl⟩
          rw [hlb] at z0
          have hll : last.length ≤ n := (hLI.out.2.2.2.1 _ (List.mem_of_getElem? hlv)).1
          have hAB := Lib.hid (fun W => Above_any W key last (by omega) (by omega))
          rw [HKB.out, hlb] at hAB
          have HLB := Lib.hid hlb; have Z0 := Lib.hid z0
          have hs1 : (ns : Int) - 1 = (m : Int) := by omega
          have hs2 : IntKind.i64.wrap (m : Int) = (m : Int) := IntWalk.i64_in _ ⟨by omega, by omega⟩
          have hmn : (m : Int) < (ns : Int) := by omega
          have hmn2 : m < ns := by omega
          have hdn : decide (0 < ns) = true := decide_eq_true (by omega)
          obtain ⟨d, hd⟩ : ∃ d, decide (last < key) = d := ⟨_, rfl⟩
          have HD := Lib.hid hd
          have HSN : Hid (st ≠ []) := Lib.hid (fun e => by rw [e] at hlv; simp at hlv)
          clear hlb z0 hd hlv hm
          go_wp2_with fail
          refine (T1.out wr HRP.out.2.1).mono ?_
          rintro en w2 ⟨rfl, hb2⟩
          have HP2 := Lib.hid (HRP.out.below hb2)
          have hqk2 : qk < w2.heap.size := Nat.lt_of_lt_of_le hqk hb2.size
          have Z2 := Lib.hid ((hb2.cell (p := ⟨qk, m, none⟩) hqk).trans Z0.out)
          clear hb2
          cases d with
          | true =>
            have HC : Hid (¬ (st ≠ [] ∧ key ≤ last)) := Lib.hid (fun h => h.2 (of_decide_eq_true HD.out))
            go_wp2
            refine Inv.region_below (fun i v w' => match i with
                | 0 => v = .pointer (some ⟨w.heap.size, 0, none⟩)
                | 1 => v = .pointer (some ⟨w.heap.size, 0, none⟩)
                | 2 => v = .pointer (some ⟨w.heap.size, 0, none⟩)
                | 3 => v = .slice (some ⟨qk, 0, none⟩) ns cK
                | 4 => v = .int .i64 (ns : Int)
                | 5 => v = .bool true
                | 6 => v = .bool true
                | 7 => v = .string kb
                | 8 => v = .pointer (some ⟨w.heap.size, 0, none⟩)
                | 9 => v = .pointer (some ⟨w.heap.size, 0, none⟩)
                | 10 => v = .pointer (some ⟨w.heap.size, 0, none⟩)
                | 11 => v = .slice (some ⟨qk, 0, none⟩) ns cK
                | 12 => v = .pointer (some ⟨w.heap.size, 0, none⟩)
                | 13 => v = .pointer (some ⟨w.heap.size, 0, none⟩)
                | 14 => v = .pointer (some ⟨w.heap.size, 0, none⟩)
                | 15 => v = .slice (some ⟨qk, 0, none⟩) ns cK
                | 16 => v = .int .i64 (ns : Int)
                | 17 => v = .int .i64 (m : Int)
                | 18 => v = .pointer (some ⟨qk, m, none⟩)
                | 19 => v = .string lb
                | 20 => v = .bool true
                | 21 => v = .bool false
                | 22 => v = .bool false
                | _ => True)
              (fun w' => RP w w' (.slice (some ⟨qk, 0, none⟩) ns cK) (.slice AV ns cV) (.slice (some ⟨qk, 0, none⟩) ns cK) (.slice AV ns cV) ns ns (st.map (·.1)) (st.map (·.2)) ∧ Below w2.heap.size w2 w') 91 [29, 30, 31, 32, 33, 34, 35, 36, 37, 38, 39, 40, 41, 42, 43, 44, 45, 46, 47, 48, 49, 50, 51] (by kernel_rfl) rfl (by kernel_rfl) (by kernel_rfl) ?_ ?_ ?_ ?_
            · intro v v' hC hb
              obtain ⟨hC, hB2⟩ := hC
              exact ⟨hC.below hb, hB2.trans (hb.mono hB2.size)⟩
            · exact ⟨HP2.out.below ((Below.refl _ w2).drew), (Below.refl _ _).drew⟩
            · refine ⟨⟨fun _ _ _ h _ => h, ?_⟩, ⟨fun _ _ _ h _ => h, ?_⟩, ⟨fun _ _ _ h _ => h, ?_⟩, ⟨fun _ _ _ h _ => h, ?_⟩, ⟨fun _ _ _ h _ => h, ?_⟩, ⟨fun _ _ _ h _ => h, ?_⟩, ⟨fun _ _ _ h _ => h, ?_⟩, ⟨fun _ _ _ h _ => h, ?_⟩, ⟨fun _ _ _ h _ => h, ?_⟩, ⟨fun _ _ _ h _ => h, ?_⟩, ⟨fun _ _ _ h _ => h, ?_⟩, ⟨fun _ _ _ h _ => h, ?_⟩, ⟨fun _ _ _ h _ => h, ?_⟩, ⟨fun _ _ _ h _ => h, ?_⟩, ⟨fun _ _ _ h _ => h, ?_⟩, ⟨fun _ _ _ h _ => h, ?_⟩, ⟨fun _ _ _ h _ => h, ?_⟩, ⟨fun _ _ _ h _ => h, ?_⟩, ⟨fun _ _ _ h _ => h, ?_⟩, ⟨fun _ _ _ h _ => h, ?_⟩, ⟨fun _ _ _ h _ => h, ?_⟩, ⟨fun _ _ _ h _ => h, ?_⟩, ⟨fun _ _ _ h _ => h, ?_⟩, trivial⟩
              · intro act wa hC hd H O K hK
                clear hd
                obtain ⟨hC, hB2⟩ := hC
                have h4 := O 4 (by kernel_rfl)
                have g4 := Array.getD_eq_getD_getElem?.symm.trans h4
                clear H O
                have a0 := hC.1.cell 0
                have al := hC.1.lt
                have z0 := (hB2.cell (p := ⟨qk, m, none⟩) hqk2).trans Z2.out
                have hqk3 := Nat.lt_of_lt_of_le hqk2 hB2.size
                simp at a0
                go_simp
                exact hK _ _ (Below.refl _ _) (fun _ => rfl)
              · intro act wa hC hd H O K hK
                clear hd
                obtain ⟨hC, hB2⟩ := hC
                have h29 : act.tmps.getD 29 undef = .pointer (some ⟨w.heap.size, 0, none⟩) := H 1 0 29 (by kernel_rfl) rfl
                have g29 := Array.getD_eq_getD_getElem?.symm.trans h29
                clear H O
                have a0 := hC.1.cell 0
                have al := hC.1.lt
                have z0 := (hB2.cell (p := ⟨qk, m, none⟩) hqk2).trans Z2.out
                have hqk3 := Nat.lt_of_lt_of_le hqk2 hB2.size
                simp at a0
                go_simp
                exact hK _ _ (Below.refl _ _) (fun _ => rfl)
              · intro act wa hC hd H O K hK
                clear hd
                obtain ⟨hC, hB2⟩ := hC
                have h30 : act.tmps.getD 30 undef = .pointer (some ⟨w.heap.size, 0, none⟩) := H 1 1 30 (by kernel_rfl) rfl
                have g30 := Array.getD_eq_getD_getElem?.symm.trans h30
                clear H O
                have a0 := hC.1.cell 0
                have al := hC.1.lt
                have z0 := (hB2.cell (p := ⟨qk, m, none⟩) hqk2).trans Z2.out
                have hqk3 := Nat.lt_of_lt_of_le hqk2 hB2.size
                simp at a0
                go_simp
                exact hK _ _ (Below.refl _ _) (fun _ => rfl)
              · intro act wa hC hd H O K hK
                clear hd
                obtain ⟨hC, hB2⟩ := hC
                have h31 : act.tmps.getD 31 undef = .pointer (some ⟨w.heap.size, 0, none⟩) := H 1 2 31 (by kernel_rfl) rfl
                have g31 := Array.getD_eq_getD_getElem?.symm.trans h31
                clear H O
                have a0 := hC.1.cell 0
                have al := hC.1.lt
                have z0 := (hB2.cell (p := ⟨qk, m, none⟩) hqk2).trans Z2.out
                have hqk3 := Nat.lt_of_lt_of_le hqk2 hB2.size
                simp at a0
                go_simp
                exact hK _ _ (Below.refl _ _) (fun _ => rfl)
              · intro act wa hC hd H O K hK
                clear hd
                obtain ⟨hC, hB2⟩ := hC
                have h32 : act.tmps.getD 32 undef = .slice (some ⟨qk, 0, none⟩) ns cK := H 1 3 32 (by kernel_rfl) rfl
                have g32 := Array.getD_eq_getD_getElem?.symm.trans h32
                clear H O
                have a0 := hC.1.cell 0
                have al := hC.1.lt
                have z0 := (hB2.cell (p := ⟨qk, m, none⟩) hqk2).trans Z2.out
                have hqk3 := Nat.lt_of_lt_of_le hqk2 hB2.size
                simp at a0
                go_simp
                exact hK _ _ (Below.refl _ _) (fun _ => rfl)
              · intro act wa hC hd H O K hK
                clear hd
                obtain ⟨hC, hB2⟩ := hC
                have h33 : act.tmps.getD 33 undef = .int .i64 (ns : Int) := H 1 4 33 (by kernel_rfl) rfl
                have g33 := Array.getD_eq_getD_getElem?.symm.trans h33
                clear H O
                have a0 := hC.1.cell 0
                have al := hC.1.lt
                have z0 := (hB2.cell (p := ⟨qk, m, none⟩) hqk2).trans Z2.out
                have hqk3 := Nat.lt_of_lt_of_le hqk2 hB2.size
                simp at a0
                go_simp
                exact hK _ _ (Below.refl _ _) (fun _ => rfl)
              · intro act wa hC hd H O K hK
                clear hd
                obtain ⟨hC, hB2⟩ := hC
                have h34 : act.tmps.getD 34 undef = .bool true := H 1 5 34 (by kernel_rfl) rfl
                have g34 := Array.getD_eq_getD_getElem?.symm.trans h34
                clear H O
                have a0 := hC.1.cell 0
                have al := hC.1.lt
                have z0 := (hB2.cell (p := ⟨qk, m, none⟩) hqk2).trans Z2.out
                have hqk3 := Nat.lt_of_lt_of_le hqk2 hB2.size
                simp at a0
                go_simp
                exact hK _ _ (Below.refl _ _) (fun _ => rfl)
              · intro act wa hC hd H O K hK
                clear hd
                obtain ⟨hC, hB2⟩ := hC
                have h6 := O 6 (by kernel_rfl)
                have g6 := Array.getD_eq_getD_getElem?.symm.trans h6
                have h35 : act.tmps.getD 35 undef = .bool true := H 1 6 35 (by kernel_rfl) rfl
                have g35 := Array.getD_eq_getD_getElem?.symm.trans h35
                have k35 := Inv.some_bool g35
                clear H O
                have a0 := hC.1.cell 0
                have al := hC.1.lt
                have z0 := (hB2.cell (p := ⟨qk, m, none⟩) hqk2).trans Z2.out
                have hqk3 := Nat.lt_of_lt_of_le hqk2 hB2.size
                simp at a0
                go_simp
                exact hK _ _ (Below.refl _ _) (fun _ => rfl)
              · intro act wa hC hd H O K hK
                clear hd
                obtain ⟨hC, hB2⟩ := hC
                have h4 := O 4 (by kernel_rfl)
                have g4 := Array.getD_eq_getD_getElem?.symm.trans h4
                have h35 : act.tmps.getD 35 undef = .bool true := H 1 6 35 (by kernel_rfl) rfl
                have g35 := Array.getD_eq_getD_getElem?.symm.trans h35
                have k35 := Inv.some_bool g35
                clear H O
                have a0 := hC.1.cell 0
                have al := hC.1.lt
                have z0 := (hB2.cell (p := ⟨qk, m, none⟩) hqk2).trans Z2.out
                have hqk3 := Nat.lt_of_lt_of_le hqk2 hB2.size
                simp at a0
                go_simp
                exact hK _ _ (Below.refl _ _) (fun _ => rfl)
              · intro act wa hC hd H O K hK
                clear hd
                obtain ⟨hC, hB2⟩ := hC
                have h37 : act.tmps.getD 37 undef = .pointer (some ⟨w.heap.size, 0, none⟩) := H 1 8 37 (by kernel_rfl) rfl
                have g37 := Array.getD_eq_getD_getElem?.symm.trans h37
                have h35 : act.tmps.getD 35 undef = .bool true := H 1 6 35 (by kernel_rfl) rfl
                have g35 := Array.getD_eq_getD_getElem?.symm.trans h35
                have k35 := Inv.some_bool g35
                clear H O
                have a0 := hC.1.cell 0
                have al := hC.1.lt
                have z0 := (hB2.cell (p := ⟨qk, m, none⟩) hqk2).trans Z2.out
                have hqk3 := Nat.lt_of_lt_of_le hqk2 hB2.size
                simp at a0
                go_simp
                exact hK _ _ (Below.refl _ _) (fun _ => rfl)
              · intro act wa hC hd H O K hK
                clear hd
                obtain ⟨hC, hB2⟩ := hC
                have h38 : act.tmps.getD 38 undef = .pointer (some ⟨w.heap.size, 0, none⟩) := H 1 9 38 (by kernel_rfl) rfl
                have g38 := Array.getD_eq_getD_getElem?.symm.trans h38
                have h35 : act.tmps.getD 35 undef = .bool true := H 1 6 35 (by kernel_rfl) rfl
                have g35 := Array.getD_eq_getD_getElem?.symm.trans h35
                have k35 := Inv.some_bool g35
                clear H O
                have a0 := hC.1.cell 0
                have al := hC.1.lt
                have z0 := (hB2.cell (p := ⟨qk, m, none⟩) hqk2).trans Z2.out
                have hqk3 := Nat.lt_of_lt_of_le hqk2 hB2.size
                simp at a0
                go_simp
                exact hK _ _ (Below.refl _ _) (fun _ => rfl)
              · intro act wa hC hd H O K hK
                clear hd
                obtain ⟨hC, hB2⟩ := hC
                have h39 : act.tmps.getD 39 undef = .pointer (some ⟨w.heap.size, 0, none⟩) := H 1 10 39 (by kernel_rfl) rfl
                have g39 := Array.getD_eq_getD_getElem?.symm.trans h39
                have h35 : act.tmps.getD 35 undef = .bool true := H 1 6 35 (by kernel_rfl) rfl
                have g35 := Array.getD_eq_getD_getElem?.symm.trans h35
                have k35 := Inv.some_bool g35
                clear H O
                have a0 := hC.1.cell 0
                have al := hC.1.lt
                have z0 := (hB2.cell (p := ⟨qk, m, none⟩) hqk2).trans Z2.out
                have hqk3 := Nat.lt_of_lt_of_le hqk2 hB2.size
                simp at a0
                go_simp
                exact hK _ _ (Below.refl _ _) (fun _ => rfl)
              · intro act wa hC hd H O K hK
                clear hd
                obtain ⟨hC, hB2⟩ := hC
                have h4 := O 4 (by kernel_rfl)
                have g4 := Array.getD_eq_getD_getElem?.symm.trans h4
                have h35 : act.tmps.getD 35 undef = .bool true := H 1 6 35 (by kernel_rfl) rfl
                have g35 := Array.getD_eq_getD_getElem?.symm.trans h35
                have k35 := Inv.some_bool g35
                clear H O
                have a0 := hC.1.cell 0
                have al := hC.1.lt
                have z0 := (hB2.cell (p := ⟨qk, m, none⟩) hqk2).trans Z2.out
                have hqk3 := Nat.lt_of_lt_of_le hqk2 hB2.size
                simp at a0
                go_simp
                exact hK _ _ (Below.refl _ _) (fun _ => rfl)
              · intro act wa hC hd H O K hK
                clear hd
                obtain ⟨hC, hB2⟩ := hC
                have h41 : act.tmps.getD 41 undef = .pointer (some ⟨w.heap.size, 0, none⟩) := H 1 12 41 (by kernel_rfl) rfl
                have g41 := Array.getD_eq_getD_getElem?.symm.trans h41
                have h35 : act.tmps.getD 35 undef = .bool true := H 1 6 35 (by kernel_rfl) rfl
                have g35 := Array.getD_eq_getD_getElem?.symm.trans h35
                have k35 := Inv.some_bool g35
                clear H O
                have a0 := hC.1.cell 0
                have al := hC.1.lt
                have z0 := (hB2.cell (p := ⟨qk, m, none⟩) hqk2).trans Z2.out
                have hqk3 := Nat.lt_of_lt_of_le hqk2 hB2.size
                simp at a0
                go_simp
                exact hK _ _ (Below.refl _ _) (fun _ => rfl)
              · intro act wa hC hd H O K hK
                clear hd
                obtain ⟨hC, hB2⟩ := hC
                have h42 : act.tmps.getD 42 undef = .pointer (some ⟨w.heap.size, 0, none⟩) := H 1 13 42 (by kernel_rfl) rfl
                have g42 := Array.getD_eq_getD_getElem?.symm.trans h42
                have h35 : act.tmps.getD 35 undef = .bool true := H 1 6 35 (by kernel_rfl) rfl
                have g35 := Array.getD_eq_getD_getElem?.symm.trans h35
                have k35 := Inv.some_bool g35
                clear H O
                have a0 := hC.1.cell 0
                have al := hC.1.lt
                have z0 := (hB2.cell (p := ⟨qk, m, none⟩) hqk2).trans Z2.out
                have hqk3 := Nat.lt_of_lt_of_le hqk2 hB2.size
                simp at a0
                go_simp
                exact hK _ _ (Below.refl _ _) (fun _ => rfl)
              · intro act wa hC hd H O K hK
                clear hd
                obtain ⟨hC, hB2⟩ := hC
                have h43 : act.tmps.getD 43 undef = .pointer (some ⟨w.heap.size, 0, none⟩) := H 1 14 43 (by kernel_rfl) rfl
                have g43 := Array.getD_eq_getD_getElem?.symm.trans h43
                have h35 : act.tmps.getD 35 undef = .bool true := H 1 6 35 (by kernel_rfl) rfl
                have g35 := Array.getD_eq_getD_getElem?.symm.trans h35
                have k35 := Inv.some_bool g35
                clear H O
                have a0 := hC.1.cell 0
                have al := hC.1.lt
                have z0 := (hB2.cell (p := ⟨qk, m, none⟩) hqk2).trans Z2.out
                have hqk3 := Nat.lt_of_lt_of_le hqk2 hB2.size
                simp at a0
                go_simp
                exact hK _ _ (Below.refl _ _) (fun _ => rfl)
              · intro act wa hC hd H O K hK
                clear hd
                obtain ⟨hC, hB2⟩ := hC
                have h44 : act.tmps.getD 44 undef = .slice (some ⟨qk, 0, none⟩) ns cK := H 1 15 44 (by kernel_rfl) rfl
                have g44 := Array.getD_eq_getD_getElem?.symm.trans h44
                have h35 : act.tmps.getD 35 undef = .bool true := H 1 6 35 (by kernel_rfl) rfl
                have g35 := Array.getD_eq_getD_getElem?.symm.trans h35
                have k35 := Inv.some_bool g35
                clear H O
                have a0 := hC.1.cell 0
                have al := hC.1.lt
                have z0 := (hB2.cell (p := ⟨qk, m, none⟩) hqk2).trans Z2.out
                have hqk3 := Nat.lt_of_lt_of_le hqk2 hB2.size
                simp at a0
                go_simp
                exact hK _ _ (Below.refl _ _) (fun _ => rfl)
              · intro act wa hC hd H O K hK
                clear hd
                obtain ⟨hC, hB2⟩ := hC
                have h45 : act.tmps.getD 45 undef = .int .i64 (ns : Int) := H 1 16 45 (by kernel_rfl) rfl
                have g45 := Array.getD_eq_getD_getElem?.symm.trans h45
                have h35 : act.tmps.getD 35 undef = .bool true := H 1 6 35 (by kernel_rfl) rfl
                have g35 := Array.getD_eq_getD_getElem?.symm.trans h35
                have k35 := Inv.some_bool g35
                clear H O
                have a0 := hC.1.cell 0
                have al := hC.1.lt
                have z0 := (hB2.cell (p := ⟨qk, m, none⟩) hqk2).trans Z2.out
                have hqk3 := Nat.lt_of_lt_of_le hqk2 hB2.size
                simp at a0
                go_simp
                exact hK _ _ (Below.refl _ _) (fun _ => rfl)
              · intro act wa hC hd H O K hK
                clear hd
                obtain ⟨hC, hB2⟩ := hC
                have h40 : act.tmps.getD 40 undef = .slice (some ⟨qk, 0, none⟩) ns cK := H 1 11 40 (by kernel_rfl) rfl
                have g40 := Array.getD_eq_getD_getElem?.symm.trans h40
                have h46 : act.tmps.getD 46 undef = .int .i64 (m : Int) := H 1 17 46 (by kernel_rfl) rfl
                have g46 := Array.getD_eq_getD_getElem?.symm.trans h46
                have h35 : act.tmps.getD 35 undef = .bool true := H 1 6 35 (by kernel_rfl) rfl
                have g35 := Array.getD_eq_getD_getElem?.symm.trans h35
                have k35 := Inv.some_bool g35
                clear H O
                have a0 := hC.1.cell 0
                have al := hC.1.lt
                have z0 := (hB2.cell (p := ⟨qk, m, none⟩) hqk2).trans Z2.out
                have hqk3 := Nat.lt_of_lt_of_le hqk2 hB2.size
                simp at a0
                go_simp
                exact hK _ _ (Below.refl _ _) (fun _ => rfl)
              · intro act wa hC hd H O K hK
                clear hd
                obtain ⟨hC, hB2⟩ := hC
                have h47 : act.tmps.getD 47 undef = .pointer (some ⟨qk, m, none⟩) := H 1 18 47 (by kernel_rfl) rfl
                have g47 := Array.getD_eq_getD_getElem?.symm.trans h47
                have h35 : act.tmps.getD 35 undef = .bool true := H 1 6 35 (by kernel_rfl) rfl
                have g35 := Array.getD_eq_getD_getElem?.symm.trans h35
                have k35 := Inv.some_bool g35
                clear H O
                have a0 := hC.1.cell 0
                have al := hC.1.lt
                have z0 := (hB2.cell (p := ⟨qk, m, none⟩) hqk2).trans Z2.out
                have hqk3 := Nat.lt_of_lt_of_le hqk2 hB2.size
                simp at a0
                go_simp
                exact hK _ _ (Below.refl _ _) (fun _ => rfl)
              · intro act wa hC hd H O K hK
                clear hd
                obtain ⟨hC, hB2⟩ := hC
                have h36 : act.tmps.getD 36 undef = .string kb := H 1 7 36 (by kernel_rfl) rfl
                have g36 := Array.getD_eq_getD_getElem?.symm.trans h36
                have h48 : act.tmps.getD 48 undef = .string lb := H 1 19 48 (by kernel_rfl) rfl
                have g48 := Array.getD_eq_getD_getElem?.symm.trans h48
                have h35 : act.tmps.getD 35 undef = .bool true := H 1 6 35 (by kernel_rfl) rfl
                have g35 := Array.getD_eq_getD_getElem?.symm.trans h35
                have k35 := Inv.some_bool g35
                clear H O
                have a0 := hC.1.cell 0
                have al := hC.1.lt
                have z0 := (hB2.cell (p := ⟨qk, m, none⟩) hqk2).trans Z2.out
                have hqk3 := Nat.lt_of_lt_of_le hqk2 hB2.size
                simp at a0
                go_simp
                refine (hAB.out wa).mono ?_
                rintro e1 w1 ⟨rfl, qn, rfl⟩
                rw [HD.out]
                exact hK _ _ (below_drewN (Below.refl _ _) _) (fun _ => rfl)
              · intro act wa hC hd H O K hK
                clear hd
                obtain ⟨hC, hB2⟩ := hC
                have h49 : act.tmps.getD 49 undef = .bool true := H 1 20 49 (by kernel_rfl) rfl
                have g49 := Array.getD_eq_getD_getElem?.symm.trans h49
                have h35 : act.tmps.getD 35 undef = .bool true := H 1 6 35 (by kernel_rfl) rfl
                have g35 := Array.getD_eq_getD_getElem?.symm.trans h35
                have k35 := Inv.some_bool g35
                clear H O
                have a0 := hC.1.cell 0
                have al := hC.1.lt
                have z0 := (hB2.cell (p := ⟨qk, m, none⟩) hqk2).trans Z2.out
                have hqk3 := Nat.lt_of_lt_of_le hqk2 hB2.size
                simp at a0
                go_simp
                exact hK _ _ (Below.refl _ _) (fun _ => rfl)
              · intro act wa hC hd H O K hK
                clear hd
                obtain ⟨hC, hB2⟩ := hC
                have h35 : act.tmps.getD 35 undef = .bool true := H 1 6 35 (by kernel_rfl) rfl
                have g35 := Array.getD_eq_getD_getElem?.symm.trans h35
                have h50 : act.tmps.getD 50 undef = .bool false := H 1 21 50 (by kernel_rfl) rfl
                have g50 := Array.getD_eq_getD_getElem?.symm.trans h50
                clear H O
                have a0 := hC.1.cell 0
                have al := hC.1.lt
                have z0 := (hB2.cell (p := ⟨qk, m, none⟩) hqk2).trans Z2.out
                have hqk3 := Nat.lt_of_lt_of_le hqk2 hB2.size
                simp at a0
                go_simp
                exact hK _ _ (Below.refl _ _) (fun _ => rfl)
            · intro us w' hC hF
              obtain ⟨hC, hB2⟩ := hC
              have u51 : us 51 = .bool false := hF 22 51 rfl
              clear hF
              simp only [List.foldl]
              go_simp
              have HP3 := Lib.hid hC
              try rw [u51]
              obtain ⟨w3, hw3⟩ : ∃ x, x = w' := ⟨_, rfl⟩
              rw [← hw3] at HP3 ⊢
              clear hw3 hC u51
              go_wp2_with fail
              refine (T2.out w3 HP3.out.2.1).mono ?_
              rintro en w4 ⟨rfl, hb4⟩
              have HP4 := Lib.hid (HP3.out.below hb4)
              clear hb4
              by_cases he2 : e2 = 0
              · subst he2
                obtain ⟨hz2a, hz2b, hvl⟩ := HOK2.out rfl
                have d0 := HP4.out.1.cell 0
                have dl := HP4.out.1.lt
                simp at d0
                go_wp2_with (at_builtin; go_must (first
                  | (refine wpList_app_at rfl (.tmp 69) (.tmp 71) 70 rfl w.heap.size 9 i0 (.string ⟨#[]⟩) 1 16 Try.underlying70 hi hz0 hz1 hz2 rfl (by decide) (.slice (some ⟨qk, 0, none⟩) ns cK) ns ((st.map (·.1)).map encStr) rfl (HP4.out.below ((Below.refl _ w4).alloc (Nat.le_refl _) (.cells #[.string kb] 9))).2.2.1 (some ⟨w4.heap.size, 0, none⟩) 1 1 [.string kb] rfl rfl (.inr ⟨_, rfl, fun p u hu => by rw [addkK, (Blk.new' w4 9 #[.string kb] (g := w4.heap.size) (by simp)).cell p]; simpa using hu⟩) (by intro u hu; simp at hu; subst hu; rfl) (by unfold maxLen; omega) (by omega) (by have := HP4.out.2.1.size; simp at this ⊢; omega) ?_; intro v7 w7 ho hg hat; obtain ⟨A7, c7, rfl⟩ := own_sl ho; have HP7 : Hid (RP w w7 (.slice (some ⟨qk, 0, none⟩) ns cK) (.slice AV ns cV) (.slice A7 (ns + 1) c7) (.slice AV ns cV) (ns + 1) ns ((st.map (·.1)) ++ [key]) (st.map (·.2))) := Lib.hid ((HP4.out.below ((Below.refl _ w4).alloc (Nat.le_refl _) (.cells #[.string kb] 9))).growK (by rw [List.map_append, List.map_singleton, Km.encStr_ba, HKB.out]; exact ho) hg hat); clear ho hg hat; have k7 := HP7.out.1.cell 0; have f7 := HP7.out.1.frozen 0; have l7 := HP7.out.1.lt; have HP7s := Lib.hid (HP7.out.setK (.slice A7 (ns + 1) c7)); have ks7 := HP7s.out.1.cell 1; simp at k7 ks7)
                  | (refine wpList_app_at rfl (.tmp 79) (.tmp 81) 70 rfl w.heap.size 9 i0 (.string ⟨#[]⟩) 1 16 Try.underlying70 hi hz0 hz1 hz2 rfl (by decide) (.slice AV ns cV) ns ((st.map (·.2)).map encStr) rfl (HP7s.out.below ((Below.refl _ (w7.setCell ⟨w.heap.size, 0, none⟩ (.slice A7 (ns + 1) c7))).alloc (Nat.le_refl _) (.cells #[.string vb] 9))).2.2.2.1 (some ⟨w7.heap.size, 0, none⟩) 1 1 [.string vb] rfl rfl (.inr ⟨_, rfl, fun p u hu => by rw [addkK, (Blk.new' (w7.setCell ⟨w.heap.size, 0, none⟩ (.slice A7 (ns + 1) c7)) 9 #[.string vb] (g := w7.heap.size) (by simp)).cell p]; simpa using hu⟩) (by intro u hu; simp at hu; subst hu; rfl) (by unfold maxLen; omega) (by omega) (by have := HP7s.out.2.1.size; simp at this ⊢; omega) ?_; intro v9 w9 ho hg hat; obtain ⟨A9, c9, rfl⟩ := own_sl ho; have HP9 : Hid (RP w w9 (.slice A7 (ns + 1) c7) (.slice AV ns cV) (.slice A7 (ns + 1) c7) (.slice A9 (ns + 1) c9) (ns + 1) (ns + 1) ((st.map (·.1)) ++ [key]) ((st.map (·.2)) ++ [val])) := Lib.hid ((HP7s.out.below ((Below.refl _ (w7.setCell ⟨w.heap.size, 0, none⟩ (.slice A7 (ns + 1) c7))).alloc (Nat.le_refl _) (.cells #[.string vb] 9))).growV (by rw [List.map_append, List.map_singleton, Km.encStr_ba, HVB.out]; exact ho) hg hat); clear ho hg hat; have k9 := HP9.out.1.cell 1; have f9 := HP9.out.1.frozen 1; have l9 := HP9.out.1.lt; have HP9s := Lib.hid (HP9.out.setV (.slice A9 (ns + 1) c9)); simp at k9)))
                have R := Lib.hid (HP9s.out)
                have RL := Lib.hid (hLI.out.push HNE.out HT1.out HC.out HT2.out (by omega) (by omega))
                go_roundw
                case rel => exact ⟨a + z1 + z2, ns + 1, f, key, st ++ [(key, val)], _, _, by go_num, by omega, by omega, by omega, by rw [List.map_append, List.map_append]; exact R.out, RL⟩
                case measure => simp [intOf]; omega
              · have hei : (e2 : Int) ≠ 0 := by omega
                have HP := Lib.hid (show RLdPost w n (Km.load bs) (.returned (.tuple #[.pointer none, .int .i64 (e2 : Int)])) w4 from ⟨HP4.out.2.1, .inr ⟨e2, he2, by rw [hLI.out.2.2.2.2]; exact Km.ld_t2 HNE.out HT1.out HC.out (by rw [List.drop_drop]; exact HT2.out) he2, rfl⟩⟩)
                go_wp2
                go_ret2
                exact HP.out
          | false =>
            go_wp2
            refine Inv.region_below (fun i v w' => match i with
                | 0 => v = .pointer (some ⟨w.heap.size, 0, none⟩)
                | 1 => v = .pointer (some ⟨w.heap.size, 0, none⟩)
                | 2 => v = .pointer (some ⟨w.heap.size, 0, none⟩)
                | 3 => v = .slice (some ⟨qk, 0, none⟩) ns cK
                | 4 => v = .int .i64 (ns : Int)
                | 5 => v = .bool true
                | 6 => v = .bool true
                | 7 => v = .string kb
                | 8 => v = .pointer (some ⟨w.heap.size, 0, none⟩)
                | 9 => v = .pointer (some ⟨w.heap.size, 0, none⟩)
                | 10 => v = .pointer (some ⟨w.heap.size, 0, none⟩)
                | 11 => v = .slice (some ⟨qk, 0, none⟩) ns cK
                | 12 => v = .pointer (some ⟨w.heap.size, 0, none⟩)
                | 13 => v = .pointer (some ⟨w.heap.size, 0, none⟩)
                | 14 => v = .pointer (some ⟨w.heap.size, 0, none⟩)
                | 15 => v = .slice (some ⟨qk, 0, none⟩) ns cK
                | 16 => v = .int .i64 (ns : Int)
                | 17 => v = .int .i64 (m : Int)
                | 18 => v = .pointer (some ⟨qk, m, none⟩)
                | 19 => v = .string lb
                | 20 => v = .bool false
                | 21 => v = .bool true
                | 22 => v = .bool true
                | _ => True)
              (fun w' => RP w w' (.slice (some ⟨qk, 0, none⟩) ns cK) (.slice AV ns cV) (.slice (some ⟨qk, 0, none⟩) ns cK) (.slice AV ns cV) ns ns (st.map (·.1)) (st.map (·.2)) ∧ Below w2.heap.size w2 w') 91 [29, 30, 31, 32, 33, 34, 35, 36, 37, 38, 39, 40, 41, 42, 43, 44, 45, 46, 47, 48, 49, 50, 51] (by kernel_rfl) rfl (by kernel_rfl) (by kernel_rfl) ?_ ?_ ?_ ?_
            · intro v v' hC hb
              obtain ⟨hC, hB2⟩ := hC
              exact ⟨hC.below hb, hB2.trans (hb.mono hB2.size)⟩
            · exact ⟨HP2.out.below ((Below.refl _ w2).drew), (Below.refl _ _).drew⟩
            · refine ⟨⟨fun _ _ _ h _ => h, ?_⟩, ⟨fun _ _ _ h _ => h, ?_⟩, ⟨fun _ _ _ h _ => h, ?_⟩, ⟨fun _ _ _ h _ => h, ?_⟩, ⟨fun _ _ _ h _ => h, ?_⟩, ⟨fun _ _ _ h _ => h, ?_⟩, ⟨fun _ _ _ h _ => h, ?_⟩, ⟨fun _ _ _ h _ => h, ?_⟩, ⟨fun _ _ _ h _ => h, ?_⟩, ⟨fun _ _ _ h _ => h, ?_⟩, ⟨fun _ _ _ h _ => h, ?_⟩, ⟨fun _ _ _ h _ => h, ?_⟩, ⟨fun _ _ _ h _ => h, ?_⟩, ⟨fun _ _ _ h _ => h, ?_⟩, ⟨fun _ _ _ h _ => h, ?_⟩, ⟨fun _ _ _ h _ => h, ?_⟩, ⟨fun _ _ _ h _ => h, ?_⟩, ⟨fun _ _ _ h _ => h, ?_⟩, ⟨fun _ _ _ h _ => h, ?_⟩, ⟨fun _ _ _ h _ => h, ?_⟩, ⟨fun _ _ _ h _ => h, ?_⟩, ⟨fun _ _ _ h _ => h, ?_⟩, ⟨fun _ _ _ h _ => h, ?_⟩, trivial⟩
              · intro act wa hC hd H O K hK
                clear hd
                obtain ⟨hC, hB2⟩ := hC
                have h4 := O 4 (by kernel_rfl)
                have g4 := Array.getD_eq_getD_getElem?.symm.trans h4
                clear H O
                have a0 := hC.1.cell 0
                have al := hC.1.lt
                have z0 := (hB2.cell (p := ⟨qk, m, none⟩) hqk2).trans Z2.out
                have hqk3 := Nat.lt_of_lt_of_le hqk2 hB2.size
                simp at a0
                go_simp
                exact hK _ _ (Below.refl _ _) (fun _ => rfl)
              · intro act wa hC hd H O K hK
                clear hd
                obtain ⟨hC, hB2⟩ := hC
                have h29 : act.tmps.getD 29 undef = .pointer (some ⟨w.heap.size, 0, none⟩) := H 1 0 29 (by kernel_rfl) rfl
                have g29 := Array.getD_eq_getD_getElem?.symm.trans h29
                clear H O
                have a0 := hC.1.cell 0
                have al := hC.1.lt
                have z0 := (hB2.cell (p := ⟨qk, m, none⟩) hqk2).trans Z2.out
                have hqk3 := Nat.lt_of_lt_of_le hqk2 hB2.size
                simp at a0
                go_simp
                exact hK _ _ (Below.refl _ _) (fun _ => rfl)
              · intro act wa hC hd H O K hK
                clear hd
                obtain ⟨hC, hB2⟩ := hC
                have h30 : act.tmps.getD 30 undef = .pointer (some ⟨w.heap.size, 0, none⟩) := H 1 1 30 (by kernel_rfl) rfl
                have g30 := Array.getD_eq_getD_getElem?.symm.trans h30
                clear H O
                have a0 := hC.1.cell 0
                have al := hC.1.lt
                have z0 := (hB2.cell (p := ⟨qk, m, none⟩) hqk2).trans Z2.out
                have hqk3 := Nat.lt_of_lt_of_le hqk2 hB2.size
                simp at a0
                go_simp
                exact hK _ _ (Below.refl _ _) (fun _ => rfl)
              · intro act wa hC hd H O K hK
                clear hd
                obtain ⟨hC, hB2⟩ := hC
                have h31 : act.tmps.getD 31 undef = .pointer (some ⟨w.heap.size, 0, none⟩) := H 1 2 31 (by kernel_rfl) rfl
                have g31 := Array.getD_eq_getD_getElem?.symm.trans h31
                clear H O
                have a0 := hC.1.cell 0
                have al := hC.1.lt
                have z0 := (hB2.cell (p := ⟨qk, m, none⟩) hqk2).trans Z2.out
                have hqk3 := Nat.lt_of_lt_of_le hqk2 hB2.size
                simp at a0
                go_simp
                exact hK _ _ (Below.refl _ _) (fun _ => rfl)
              · intro act wa hC hd H O K hK
                clear hd
                obtain ⟨hC, hB2⟩ := hC
                have h32 : act.tmps.getD 32 undef = .slice (some ⟨qk, 0, none⟩) ns cK := H 1 3 32 (by kernel_rfl) rfl
                have g32 := Array.getD_eq_getD_getElem?.symm.trans h32
                clear H O
                have a0 := hC.1.cell 0
                have al := hC.1.lt
                have z0 := (hB2.cell (p := ⟨qk, m, none⟩) hqk2).trans Z2.out
                have hqk3 := Nat.lt_of_lt_of_le hqk2 hB2.size
                simp at a0
                go_simp
                exact hK _ _ (Below.refl _ _) (fun _ => rfl)
              · intro act wa hC hd H O K hK
                clear hd
                obtain ⟨hC, hB2⟩ := hC
                have h33 : act.tmps.getD 33 undef = .int .i64 (ns : Int) := H 1 4 33 (by kernel_rfl) rfl
                have g33 := Array.getD_eq_getD_getElem?.symm.trans h33
                clear H O
                have a0 := hC.1.cell 0
                have al := hC.1.lt
                have z0 := (hB2.cell (p := ⟨qk, m, none⟩) hqk2).trans Z2.out
                have hqk3 := Nat.lt_of_lt_of_le hqk2 hB2.size
                simp at a0
                go_simp
                exact hK _ _ (Below.refl _ _) (fun _ => rfl)
              · intro act wa hC hd H O K hK
                clear hd
                obtain ⟨hC, hB2⟩ := hC
                have h34 : act.tmps.getD 34 undef = .bool true := H 1 5 34 (by kernel_rfl) rfl
                have g34 := Array.getD_eq_getD_getElem?.symm.trans h34
                clear H O
                have a0 := hC.1.cell 0
                have al := hC.1.lt
                have z0 := (hB2.cell (p := ⟨qk, m, none⟩) hqk2).trans Z2.out
                have hqk3 := Nat.lt_of_lt_of_le hqk2 hB2.size
                simp at a0
                go_simp
                exact hK _ _ (Below.refl _ _) (fun _ => rfl)
              · intro act wa hC hd H O K hK
                clear hd
                obtain ⟨hC, hB2⟩ := hC
                have h6 := O 6 (by kernel_rfl)
                have g6 := Array.getD_eq_getD_getElem?.symm.trans h6
                have h35 : act.tmps.getD 35 undef = .bool true := H 1 6 35 (by kernel_rfl) rfl
                have g35 := Array.getD_eq_getD_getElem?.symm.trans h35
                have k35 := Inv.some_bool g35
                clear H O
                have a0 := hC.1.cell 0
                have al := hC.1.lt
                have z0 := (hB2.cell (p := ⟨qk, m, none⟩) hqk2).trans Z2.out
                have hqk3 := Nat.lt_of_lt_of_le hqk2 hB2.size
                simp at a0
                go_simp
                exact hK _ _ (Below.refl _ _) (fun _ => rfl)
              · intro act wa hC hd H O K hK
                clear hd
                obtain ⟨hC, hB2⟩ := hC
                have h4 := O 4 (by kernel_rfl)
                have g4 := Array.getD_eq_getD_getElem?.symm.trans h4
                have h35 : act.tmps.getD 35 undef = .bool true := H 1 6 35 (by kernel_rfl) rfl
                have g35 := Array.getD_eq_getD_getElem?.symm.trans h35
                have k35 := Inv.some_bool g35
                clear H O
                have a0 := hC.1.cell 0
                have al := hC.1.lt
                have z0 := (hB2.cell (p := ⟨qk, m, none⟩) hqk2).trans Z2.out
                have hqk3 := Nat.lt_of_lt_of_le hqk2 hB2.size
                simp at a0
                go_simp
                exact hK _ _ (Below.refl _ _) (fun _ => rfl)
              · intro act wa hC hd H O K hK
                clear hd
                obtain ⟨hC, hB2⟩ := hC
                have h37 : act.tmps.getD 37 undef = .pointer (some ⟨w.heap.size, 0, none⟩) := H 1 8 37 (by kernel_rfl) rfl
                have g37 := Array.getD_eq_getD_getElem?.symm.trans h37
                have h35 : act.tmps.getD 35 undef = .bool true := H 1 6 35 (by kernel_rfl) rfl
                have g35 := Array.getD_eq_getD_getElem?.symm.trans h35
                have k35 := Inv.some_bool g35
                clear H O
                have a0 := hC.1.cell 0
                have al := hC.1.lt
                have z0 := (hB2.cell (p := ⟨qk, m, none⟩) hqk2).trans Z2.out
                have hqk3 := Nat.lt_of_lt_of_le hqk2 hB2.size
                simp at a0
                go_simp
                exact hK _ _ (Below.refl _ _) (fun _ => rfl)
              · intro act wa hC hd H O K hK
                clear hd
                obtain ⟨hC, hB2⟩ := hC
                have h38 : act.tmps.getD 38 undef = .pointer (some ⟨w.heap.size, 0, none⟩) := H 1 9 38 (by kernel_rfl) rfl
                have g38 := Array.getD_eq_getD_getElem?.symm.trans h38
                have h35 : act.tmps.getD 35 undef = .bool true := H 1 6 35 (by kernel_rfl) rfl
                have g35 := Array.getD_eq_getD_getElem?.symm.trans h35
                have k35 := Inv.some_bool g35
                clear H O
                have a0 := hC.1.cell 0
                have al := hC.1.lt
                have z0 := (hB2.cell (p := ⟨qk, m, none⟩) hqk2).trans Z2.out
                have hqk3 := Nat.lt_of_lt_of_le hqk2 hB2.size
                simp at a0
                go_simp
                exact hK _ _ (Below.refl _ _) (fun _ => rfl)
              · intro act wa hC hd H O K hK
                clear hd
                obtain ⟨hC, hB2⟩ := hC
                have h39 : act.tmps.getD 39 undef = .pointer (some ⟨w.heap.size, 0, none⟩) := H 1 10 39 (by kernel_rfl) rfl
                have g39 := Array.getD_eq_getD_getElem?.symm.trans h39
                have h35 : act.tmps.getD 35 undef = .bool true := H 1 6 35 (by kernel_rfl) rfl
                have g35 := Array.getD_eq_getD_getElem?.symm.trans h35
                have k35 := Inv.some_bool g35
                clear H O
                have a0 := hC.1.cell 0
                have al := hC.1.lt
                have z0 := (hB2.cell (p := ⟨qk, m, none⟩) hqk2).trans Z2.out
                have hqk3 := Nat.lt_of_lt_of_le hqk2 hB2.size
                simp at a0
                go_simp
                exact hK _ _ (Below.refl _ _) (fun _ => rfl)
              · intro act wa hC hd H O K hK
                clear hd
                obtain ⟨hC, hB2⟩ := hC
                have h4 := O 4 (by kernel_rfl)
                have g4 := Array.getD_eq_getD_getElem?.symm.trans h4
                have h35 : act.tmps.getD 35 undef = .bool true := H 1 6 35 (by kernel_rfl) rfl
                have g35 := Array.getD_eq_getD_getElem?.symm.trans h35
                have k35 := Inv.some_bool g35
                clear H O
                have a0 := hC.1.cell 0
                have al := hC.1.lt
                have z0 := (hB2.cell (p := ⟨qk, m, none⟩) hqk2).trans Z2.out
                have hqk3 := Nat.lt_of_lt_of_le hqk2 hB2.size
                simp at a0
                go_simp
                exact hK _ _ (Below.refl _ _) (fun _ => rfl)
              · intro act wa hC hd H O K hK
                clear hd
                obtain ⟨hC, hB2⟩ := hC
                have h41 : act.tmps.getD 41 undef = .pointer (some ⟨w.heap.size, 0, none⟩) := H 1 12 41 (by kernel_rfl) rfl
                have g41 := Array.getD_eq_getD_getElem?.symm.trans h41
                have h35 : act.tmps.getD 35 undef = .bool true := H 1 6 35 (by kernel_rfl) rfl
                have g35 := Array.getD_eq_getD_getElem?.symm.trans h35
                have k35 := Inv.some_bool g35
                clear H O
                have a0 := hC.1.cell 0
                have al := hC.1.lt
                have z0 := (hB2.cell (p := ⟨qk, m, none⟩) hqk2).trans Z2.out
                have hqk3 := Nat.lt_of_lt_of_le hqk2 hB2.size
                simp at a0
                go_simp
                exact hK _ _ (Below.refl _ _) (fun _ => rfl)
              · intro act wa hC hd H O K hK
                clear hd
                obtain ⟨hC, hB2⟩ := hC
                have h42 : act.tmps.getD 42 undef = .pointer (some ⟨w.heap.size, 0, none⟩) := H 1 13 42 (by kernel_rfl) rfl
                have g42 := Array.getD_eq_getD_getElem?.symm.trans h42
                have h35 : act.tmps.getD 35 undef = .bool true := H 1 6 35 (by kernel_rfl) rfl
                have g35 := Array.getD_eq_getD_getElem?.symm.trans h35
                have k35 := Inv.some_bool g35
                clear H O
                have a0 := hC.1.cell 0
                have al := hC.1.lt
                have z0 := (hB2.cell (p := ⟨qk, m, none⟩) hqk2).trans Z2.out
                have hqk3 := Nat.lt_of_lt_of_le hqk2 hB2.size
                simp at a0
                go_simp
                exact hK _ _ (Below.refl _ _) (fun _ => rfl)
              · intro act wa hC hd H O K hK
                clear hd
                obtain ⟨hC, hB2⟩ := hC
                have h43 : act.tmps.getD 43 undef = .pointer (some ⟨w.heap.size, 0, none⟩) := H 1 14 43 (by kernel_rfl) rfl
                have g43 := Array.getD_eq_getD_getElem?.symm.trans h43
                have h35 : act.tmps.getD 35 undef = .bool true := H 1 6 35 (by kernel_rfl) rfl
                have g35 := Array.getD_eq_getD_getElem?.symm.trans h35
                have k35 := Inv.some_bool g35
                clear H O
                have a0 := hC.1.cell 0
                have al := hC.1.lt
                have z0 := (hB2.cell (p := ⟨qk, m, none⟩) hqk2).trans Z2.out
                have hqk3 := Nat.lt_of_lt_of_le hqk2 hB2.size
                simp at a0
                go_simp
                exact hK _ _ (Below.refl _ _) (fun _ => rfl)
              · intro act wa hC hd H O K hK
                clear hd
                obtain ⟨hC, hB2⟩ := hC
                have h44 : act.tmps.getD 44 undef = .slice (some ⟨qk, 0, none⟩) ns cK := H 1 15 44 (by kernel_rfl) rfl
                have g44 := Array.getD_eq_getD_getElem?.symm.trans h44
                have h35 : act.tmps.getD 35 undef = .bool true := H 1 6 35 (by kernel_rfl) rfl
                have g35 := Array.getD_eq_getD_getElem?.symm.trans h35
                have k35 := Inv.some_bool g35
                clear H O
                have a0 := hC.1.cell 0
                have al := hC.1.lt
                have z0 := (hB2.cell (p := ⟨qk, m, none⟩) hqk2).trans Z2.out
                have hqk3 := Nat.lt_of_lt_of_le hqk2 hB2.size
                simp at a0
                go_simp
                exact hK _ _ (Below.refl _ _) (fun _ => rfl)
              · intro act wa hC hd H O K hK
                clear hd
                obtain ⟨hC, hB2⟩ := hC
                have h45 : act.tmps.getD 45 undef = .int .i64 (ns : Int) := H 1 16 45 (by kernel_rfl) rfl
                have g45 := Array.getD_eq_getD_getElem?.symm.trans h45
                have h35 : act.tmps.getD 35 undef = .bool true := H 1 6 35 (by kernel_rfl) rfl
                have g35 := Array.getD_eq_getD_getElem?.symm.trans h35
                have k35 := Inv.some_bool g35
                clear H O
                have a0 := hC.1.cell 0
                have al := hC.1.lt
                have z0 := (hB2.cell (p := ⟨qk, m, none⟩) hqk2).trans Z2.out
                have hqk3 := Nat.lt_of_lt_of_le hqk2 hB2.size
                simp at a0
                go_simp
                exact hK _ _ (Below.refl _ _) (fun _ => rfl)
              · intro act wa hC hd H O K hK
                clear hd
                obtain ⟨hC, hB2⟩ := hC
                have h40 : act.tmps.getD 40 undef = .slice (some ⟨qk, 0, none⟩) ns cK := H 1 11 40 (by kernel_rfl) rfl
                have g40 := Array.getD_eq_getD_getElem?.symm.trans h40
                have h46 : act.tmps.getD 46 undef = .int .i64 (m : Int) := H 1 17 46 (by kernel_rfl) rfl
                have g46 := Array.getD_eq_getD_getElem?.symm.trans h46
                have h35 : act.tmps.getD 35 undef = .bool true := H 1 6 35 (by kernel_rfl) rfl
                have g35 := Array.getD_eq_getD_getElem?.symm.trans h35
                have k35 := Inv.some_bool g35
                clear H O
                have a0 := hC.1.cell 0
                have al := hC.1.lt
                have z0 := (hB2.cell (p := ⟨qk, m, none⟩) hqk2).trans Z2.out
                have hqk3 := Nat.lt_of_lt_of_le hqk2 hB2.size
                simp at a0
                go_simp
                exact hK _ _ (Below.refl _ _) (fun _ => rfl)
              · intro act wa hC hd H O K hK
                clear hd
                obtain ⟨hC, hB2⟩ := hC
                have h47 : act.tmps.getD 47 undef = .pointer (some ⟨qk, m, none⟩) := H 1 18 47 (by kernel_rfl) rfl
                have g47 := Array.getD_eq_getD_getElem?.symm.trans h47
                have h35 : act.tmps.getD 35 undef = .bool true := H 1 6 35 (by kernel_rfl) rfl
                have g35 := Array.getD_eq_getD_getElem?.symm.trans h35
                have k35 := Inv.some_bool g35
                clear H O
                have a0 := hC.1.cell 0
                have al := hC.1.lt
                have z0 := (hB2.cell (p := ⟨qk, m, none⟩) hqk2).trans Z2.out
                have hqk3 := Nat.lt_of_lt_of_le hqk2 hB2.size
                simp at a0
                go_simp
                exact hK _ _ (Below.refl _ _) (fun _ => rfl)
              · intro act wa hC hd H O K hK
                clear hd
                obtain ⟨hC, hB2⟩ := hC
                have h36 : act.tmps.getD 36 undef = .string kb := H 1 7 36 (by kernel_rfl) rfl
                have g36 := Array.getD_eq_getD_getElem?.symm.trans h36
                have h48 : act.tmps.getD 48 undef = .string lb := H 1 19 48 (by kernel_rfl) rfl
                have g48 := Array.getD_eq_getD_getElem?.symm.trans h48
                have h35 : act.tmps.getD 35 undef = .bool true := H 1 6 35 (by kernel_rfl) rfl
                have g35 := Array.getD_eq_getD_getElem?.symm.trans h35
                have k35 := Inv.some_bool g35
                clear H O
                have a0 := hC.1.cell 0
                have al := hC.1.lt
                have z0 := (hB2.cell (p := ⟨qk, m, none⟩) hqk2).trans Z2.out
                have hqk3 := Nat.lt_of_lt_of_le hqk2 hB2.size
                simp at a0
                go_simp
                refine (hAB.out wa).mono ?_
                rintro e1 w1 ⟨rfl, qn, rfl⟩
                rw [HD.out]
                exact hK _ _ (below_drewN (Below.refl _ _) _) (fun _ => rfl)
              · intro act wa hC hd H O K hK
                clear hd
                obtain ⟨hC, hB2⟩ := hC
                have h49 : act.tmps.getD 49 undef = .bool false := H 1 20 49 (by kernel_rfl) rfl
                have g49 := Array.getD_eq_getD_getElem?.symm.trans h49
                have h35 : act.tmps.getD 35 undef = .bool true := H 1 6 35 (by kernel_rfl) rfl
                have g35 := Array.getD_eq_getD_getElem?.symm.trans h35
                have k35 := Inv.some_bool g35
                clear H O
                have a0 := hC.1.cell 0
                have al := hC.1.lt
                have z0 := (hB2.cell (p := ⟨qk, m, none⟩) hqk2).trans Z2.out
                have hqk3 := Nat.lt_of_lt_of_le hqk2 hB2.size
                simp at a0
                go_simp
                exact hK _ _ (Below.refl _ _) (fun _ => rfl)
              · intro act wa hC hd H O K hK
                clear hd
                obtain ⟨hC, hB2⟩ := hC
                have h35 : act.tmps.getD 35 undef = .bool true := H 1 6 35 (by kernel_rfl) rfl
                have g35 := Array.getD_eq_getD_getElem?.symm.trans h35
                have h50 : act.tmps.getD 50 undef = .bool true := H 1 21 50 (by kernel_rfl) rfl
                have g50 := Array.getD_eq_getD_getElem?.symm.trans h50
                clear H O
                have a0 := hC.1.cell 0
                have al := hC.1.lt
                have z0 := (hB2.cell (p := ⟨qk, m, none⟩) hqk2).trans Z2.out
                have hqk3 := Nat.lt_of_lt_of_le hqk2 hB2.size
                simp at a0
                go_simp
                exact hK _ _ (Below.refl _ _) (fun _ => rfl)
            · intro us w' hC hF
              obtain ⟨hC, hB2⟩ := hC
              have u51 : us 51 = .bool true := hF 22 51 rfl
              clear hF
              simp only [List.foldl]
              go_simp
              have HP := Lib.hid (show RLdPost w n (Km.load bs) (.returned (.tuple #[.pointer none, .int .i64 3])) w' from ⟨hC.2.1, .inr ⟨3, by decide, by rw [hLI.out.2.2.2.2]; exact Km.ld_ord HNE.out HT1.out HSN.out (List.not_lt.1 (of_decide_eq_false HD.out)), rfl⟩⟩)
              try rw [u51]
              clear hC
              go_wp2
              go_ret2
              exact HP.out
      · have hei : (e1 : Int) ≠ 0 := by omega
        clear hT1 ht1 hkb hdl hd256 q2 q3 hrp
        go_wp2_with fail
        refine (T1.out wr HRP.out.2.1).mono ?_
        rintro en w2 ⟨rfl, hb2⟩
        have HP := Lib.hid (show RLdPost w n (Km.load bs) (.returned (.tuple #[.pointer none, .int .i64 (e1 : Int)])) w2 from ⟨(HRP.out.below hb2).2.1, .inr ⟨e1, he1, by rw [hLI.out.2.2.2.2]; exact Km.ld_t1 HNE.out HT1.out he1, rfl⟩⟩)
        clear hb2
        go_wp2
        go_ret2
        exact HP.out
    · obtain rfl : a = n := by omega
      have HP := Lib.hid (show RLdPost w a (Km.load bs) (.returned (.tuple #[.pointer (some ⟨w.heap.size, 0, none⟩), .int .i64 0])) wr from
        ⟨hrp.2.1, .inl ⟨_, _, _, st, by rw [hLI.out.2.2.2.2, List.drop_of_length_le (by rw [HN.out]; exact Nat.le_refl _)]; exact Km.ld_end, rfl, hrp.rs hLI.out.1.symm hLI.out.1.symm rfl rfl, Nat.le_refl _, hLI.out.2.1, by rw [hLI.out.1]; exact hns, hLI.out.2.2.2.1⟩⟩)
      clear hrp
      go_wp2
      go_ret2
      exact HP.out
end Go.Proofs.Ytahichieakdbnaa

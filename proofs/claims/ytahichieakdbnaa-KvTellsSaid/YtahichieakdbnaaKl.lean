/- kv: takeText, Load. -/
import Derived.Test.YtahichieakdbnaaKz
namespace Go.Proofs.Ytahichieakdbnaa
open Go.ChangeShapes Go.WideShapes Go.ChangeAt Go.RowKit Go.Maps
set_option linter.unusedVariables false
set_option linter.unusedSimpArgs false

def KTkPost (w : World) (r : L8 × Nat × Nat) (en : Ending) (w' : World) : Prop := en = .returned (.tuple #[.string (Km.ba r.1), .int .i64 (r.2.1 : Int), .int .i64 (r.2.2 : Int)]) ∧ w = w'
theorem u64_nat {n : Nat} (h : n ≤ 1099511627776) : IntKind.u64.wrap (n : Int) = (n : Int) := by
  have : IntKind.u64.wrap (n : Int) = (n : Int) % 18446744073709551616 := rfl
  rw [this]; omega
set_option maxHeartbeats 2000000 in
set_option maxRecDepth 100000 in
theorem takeText_any (w : World) (A : Option Addr) (n c : Nat) (bs : List Nat) (B : Nat) (hr : Rd w B A (u8s bs)) (h256 : ∀ b ∈ bs, b < 256) (hn : bs.length = n) (hl : n ≤ 1099511627776) (hc : n ≤ c) (hcm : c ≤ maxLen) :
    Calls Try.prog 78 #[.slice A n c] w (KTkPost w (Km.tk bs)) := by
  obtain ⟨⟨a, b, d⟩, ht⟩ : ∃ r, Vm.take bs = r := ⟨_, rfl⟩
  have hnl : bs.length ≤ maxLen := by unfold maxLen; omega
  have cT := Lib.hid (take_at w A c bs B n a b d hr h256 hnl hn ht)
  have hrg := take_range bs
  rw [ht] at hrg
  simp only at hrg
  by_cases hd : d = 0
  · subst hd
    obtain ⟨hb1, hbl, hb10, -⟩ := Vm.take_ok ht h256
    rw [hn] at hbl
    have hw1 : IntKind.i64.wrap ((n : Int) - (b : Int)) = ((n - b : Nat) : Int) := by rw [IntWalk.i64_in _ ⟨by omega, by omega⟩]; omega
    have hw2 : IntKind.u64.wrap ((n - b : Nat) : Int) = ((n - b : Nat) : Int) := u64_nat (by omega)
    by_cases hs : n - b < a
    · have HP : Hid (KTkPost w (Km.tk bs) (.returned (.tuple #[.string ⟨#[]⟩, .int .i64 0, .int .i64 2])) w) := Lib.hid (by
        unfold Km.tk; rw [ht]; simp only; rw [if_neg (by simp), hn, if_pos hs]; exact ⟨rfl, rfl⟩)
      have hsI : (((n - b : Nat) : Int)) < (a : Int) := by omega
      have hsI2 : (n : Int) - (b : Int) < (a : Int) := by omega
      clear hr h256 hn ht hnl
      go_enter Try.func78, Try.ntmps78
      go_wp2_with fail
      refine cT.out.mono ?_
      rintro e1 w' ⟨rfl, rfl⟩
      go_wp2
      go_ret3
      exact HP.out
    · have hsI : ¬ (((n - b : Nat) : Int)) < (a : Int) := by omega
      have hsI2 : ¬ (n : Int) - (b : Int) < (a : Int) := by omega
      obtain ⟨A', q1, q2, -⟩ := slice_lh (P := Try.prog) 32 5 Try.underlying32 sizeOfU8K A n c b (b + a) (b : Int) ((b : Int) + (a : Int)) rfl (by omega) (by omega) (by omega)
      have hkl : ((bs.drop b).take a).length = a := by rw [List.length_take, List.length_drop]; omega
      have q3 := q2 w B (u8s bs) (by simp [hn]; omega) hr
      rw [show ((u8s bs).drop b).take (b + a - b) = u8s ((bs.drop b).take a) by simp [u8s, List.map_take, List.map_drop]] at q3
      have q4 := run_str (P := Try.prog) w (src := 32) (dst := 9) (e := 5) (n := a) (c := c - b) Try.underlying32 Try.underlying5 Try.underlying9 q3 hkl
      have HP : Hid (KTkPost w (Km.tk bs) (.returned (.tuple #[.string (str ((bs.drop b).take a)), .int .i64 ((b : Int) + (a : Int)), .int .i64 0])) w) := Lib.hid (by
        unfold Km.tk; rw [ht]; simp only; rw [if_neg (by simp), hn, if_neg hs]; refine ⟨?_, rfl⟩; rw [show ((b + a : Nat) : Int) = (b : Int) + (a : Int) from by omega]; rfl)
      obtain ⟨kk, hkk⟩ : ∃ kk, str ((bs.drop b).take a) = kk := ⟨_, rfl⟩
      rw [hkk] at q4 HP
      have hcI : (b : Int) + (a : Int) ≤ (c : Int) := by omega
      have hw3 : IntKind.i64.wrap (a : Int) = (a : Int) := IntWalk.i64_in _ ⟨by omega, by omega⟩
      have hw4 : IntKind.i64.wrap ((b : Int) + (a : Int)) = (b : Int) + (a : Int) := IntWalk.i64_in _ ⟨by omega, by omega⟩
      clear hr h256 hn ht hnl q2 q3 hkk hkl
      go_enter Try.func78, Try.ntmps78
      go_wp2_with fail
      refine cT.out.mono ?_
      rintro e1 w' ⟨rfl, rfl⟩
      go_wp2
      go_ret3
      exact HP.out
  · have HP : Hid (KTkPost w (Km.tk bs) (.returned (.tuple #[.string ⟨#[]⟩, .int .i64 0, .int .i64 (d : Int)])) w) := Lib.hid (by
      unfold Km.tk; rw [ht]; simp only; rw [if_pos hd]; exact ⟨rfl, rfl⟩)
    have hdi : (d : Int) ≠ 0 := by omega
    clear hr h256 hn ht hnl
    go_enter Try.func78, Try.ntmps78
    go_wp2_with fail
    refine cT.out.mono ?_
    rintro e1 w' ⟨rfl, rfl⟩
    go_wp2
    go_ret3
    exact HP.out
theorem less_eq : ∀ (x y : L8), Op.bytesLess x y = decide (x < y)
  | [], [] => by simp [Op.bytesLess]
  | _ :: _, [] => by simp [Op.bytesLess]
  | [], _ :: _ => by simp [Op.bytesLess]
  | a :: x, b :: y => by
    rw [Op.bytesLess, less_eq x y]
    simp only [List.cons_lt_cons_iff]
    by_cases h1 : a < b <;> by_cases h2 : a = b <;> by_cases h3 : x < y <;> simp [h1, h2, h3]
theorem cmpK (x y : L8) : Op.bytesLess (Km.ba x).toList (Km.ba y).toList = decide (x < y) ∧ ((Km.ba x).toList == (Km.ba y).toList) = decide (x = y) := by
  rw [bas_toList, bas_toList, Km.data_ba, Km.data_ba]
  exact ⟨less_eq x y, by by_cases h : x = y <;> simp [h]⟩
def slLen : Value → Nat
  | .slice _ n _ => n
  | _ => 0
def KLdPost (w : World) (n : Nat) (r : Option St × Nat) (en : Ending) (w' : World) : Prop :=
  Below w.heap.size w w' ∧ ((∃ g S st, r = (some st, 0) ∧ en = .returned (.tuple #[.pointer (some ⟨g, 0, none⟩), .int .i64 0]) ∧ StoreM w' g S n st ∧ (∀ j, S j → w.heap.size ≤ j)) ∨ ∃ e, e ≠ 0 ∧ r = (none, e) ∧ en = .returned (.tuple #[.pointer none, .int .i64 (e : Int)]))
theorem KI_size {w : World} {m n : Nat} {D : Dm.DU} {st : St} (h : w.ownsMap Try.prog 9 (plainElem Try.prog 9) m n D) (hK : Km.KI D st) : Maps.size D = st.length := by
  obtain ⟨es, hD, hpw, _⟩ := h.entries KSt
  obtain ⟨es', hD', hko⟩ := h.keysOf
  obtain rfl : es = es' := by rw [hD] at hD'; simpa using hD'
  subst hD
  have hp := perm_strKeys (ss := st.map (·.1)) hpw (fun p hp => by obtain ⟨v, hv⟩ := hko p hp; obtain ⟨x, _, hx, _⟩ := Maps.keyOf_str Try.underlying9 hv; exact ⟨x, hx⟩) (Km.keys_nodup hK.2.1) (fun x => by
    rw [← Km.get_mem, hK.has x]
    cases Km.get st x <;> simp)
  have := hp.length_eq
  simp [strKeys] at this
  rw [size_eq, this]
theorem tk_ok {b : List Nat} (h : (Km.tk b).2.2 = 0) (h256 : ∀ x ∈ b, x < 256) : 1 ≤ (Km.tk b).2.1 ∧ (Km.tk b).2.1 ≤ b.length ∧ (Km.tk b).1.length ≤ b.length := by
  unfold Km.tk at h ⊢
  obtain ⟨⟨a, k, d⟩, ht⟩ : ∃ r, Vm.take b = r := ⟨_, rfl⟩
  rw [ht] at h ⊢
  simp only at h ⊢
  by_cases hd : d = 0
  · subst hd
    obtain ⟨q1, q2, q3, -⟩ := Vm.take_ok ht h256
    rw [if_neg (by simp)] at h ⊢
    by_cases hs : b.length - k < a
    · rw [if_pos hs] at h; cases h
    · rw [if_neg hs]
      simp only [List.length_map, List.length_take, List.length_drop]
      omega
  · rw [if_pos hd] at h
    exact absurd h hd
set_option maxHeartbeats 3000000 in
set_option maxRecDepth 100000 in
theorem KLoad_any (w : World) (A : Option Addr) (n c : Nat) (bs : List Nat) (B : Nat) (hr : Rd w B A (u8s bs)) (hB : B ≤ w.heap.size) (h256 : ∀ b ∈ bs, b < 256) (hn : bs.length = n) (hl : n ≤ 1000000000) (hc : n ≤ c) (hcm : c ≤ maxLen) :
    Calls Try.prog 41 #[.slice A n c] w (KLdPost w n (Km.load bs)) := by
  have HR := Lib.hid hr; have H256 := Lib.hid h256; have HN := Lib.hid hn
  clear hr h256 hn
  go_enter Try.func41, Try.ntmps41
  go_wp2_with fail
  refine (KNew_any w).mono ?_
  rintro en w0 ⟨g, S, rfl, h0, hS, hb0⟩
  have H0 := Lib.hid h0; have HSS := Lib.hid hS; have HB0 := Lib.hid hb0
  clear h0 hS hb0
  go_wp2
  go_loopw [0, 5] (fun s0 s5 wr => ∃ (A' : Option Addr) (n' c' : Nat) (rs : List Nat) (last : L8) (st : St) (f : Nat), s0 = .slice A' n' c' ∧ s5 = .string (Km.ba last) ∧ rs.length = n' ∧ n' ≤ f ∧ n' ≤ n ∧ n' ≤ c' ∧ c' ≤ maxLen ∧ Rd wr B A' (u8s rs) ∧ (∀ b ∈ rs, b < 256) ∧ StoreM wr g S (n - n') st ∧ Km.load bs = Km.ld f st last rs ∧ Below w.heap.size w wr) (fun s0 _ _ => slLen s0)
  case atStart => exact ⟨A, n, c, bs, [], [], n, rfl, rfl, HN.out, Nat.le_refl _, Nat.le_refl _, hc, hcm, HR.out.below (HB0.out.mono hB), H256.out, by simpa using H0.out, by unfold Km.load; rw [HN.out], HB0.out⟩
  case round =>
    obtain ⟨A', n', c', rs, last, st, f, rfl, rfl, hn', hf, hnn, hc', hcm', hrd, h2, hst, hld, hb⟩ := hrel
    have HB := Lib.hid hb; have HST := Lib.hid hst; have HLD := Lib.hid hld; have HRD := Lib.hid hrd; have H2 := Lib.hid h2; have HNN := Lib.hid hn'
    by_cases h0 : n' = 0
    · subst h0
      have hrs : rs = [] := List.eq_nil_of_length_eq_zero hn'
      have HP := Lib.hid (show KLdPost w n (Km.load bs) (.returned (.tuple #[.pointer (some ⟨g, 0, none⟩), .int .i64 0])) wr from
        ⟨hb, .inl ⟨g, S, st, by rw [hld, hrs]; cases f <;> simp [Km.ld], rfl, hst.mono (Nat.sub_le _ _), HSS.out⟩⟩)
      clear hrd h2 hst hld hb hn'
      go_wp2
      go_ret2
      exact HP.out
    · have hpI : (0 : Int) < (n' : Int) := by omega
      obtain ⟨f, rfl⟩ : ∃ f', f = f' + 1 := ⟨f - 1, by omega⟩
      have hne : rs ≠ [] := fun e => h0 (by rw [← hn', e]; rfl)
      obtain ⟨⟨key, z1, e1⟩, ht1⟩ : ∃ r, Km.tk rs = r := ⟨_, rfl⟩
      have HT1 := Lib.hid (takeText_any wr A' n' c' rs B hrd h2 hn' (by omega) hc' hcm')
      rw [ht1] at HT1
      by_cases he1 : e1 = 0
      · subst he1
        have hok1 := tk_ok (b := rs) (by rw [ht1]) h2
        rw [ht1, hn'] at hok1
        simp only at hok1
        obtain ⟨m, D, k1, k2, k3, k4⟩ := HST.out
        have hlen := fun ty => k2.len Try.underlying128 ty
        rw [KI_size k2 k3] at hlen
        have c0 := k1.cell 0
        have cl := k1.lt
        simp at c0
        have K1 := Lib.hid k1; have K2 := Lib.hid k2; have K3 := Lib.hid k3; have K4 := Lib.hid k4
        obtain ⟨ns, hns⟩ : ∃ q, st.length = q := ⟨_, rfl⟩
        rw [hns] at hlen
        by_cases hs0 : ns = 0
        · subst hs0
          have hs0 : (0 : Nat) = 0 := rfl
          have hcond : ¬ (st ≠ [] ∧ key ≤ last) := fun h => h.1 (List.eq_nil_of_length_eq_zero (by rw [hns, hs0]))
          obtain ⟨A2, q1, q2, q3⟩ := slice_from (P := Try.prog) 32 5 Try.underlying32 sizeOfU8K A' n' c' z1 (z1 : Int) rfl (by omega) hc'
          have hr2 := q2 wr B (u8s rs) (by simp [hn']) hrd
          rw [show (u8s rs).drop z1 = u8s (rs.drop z1) by simp [u8s, List.map_drop]] at hr2
          have h2d : ∀ b ∈ rs.drop z1, b < 256 := fun b hb => h2 b (List.mem_of_mem_drop hb)
          have hn2 : (rs.drop z1).length = n' - z1 := by rw [List.length_drop, hn']
          obtain ⟨⟨val, z2, e2⟩, ht2⟩ : ∃ r, Km.tk (rs.drop z1) = r := ⟨_, rfl⟩
          have HT2 := Lib.hid (takeText_any wr A2 (n' - z1) (c' - z1) (rs.drop z1) B hr2 h2d hn2 (by omega) (by omega) (by omega))
          rw [ht2] at HT2
          have hz1I : (z1 : Int) ≤ (n' : Int) := by omega
          by_cases he2 : e2 = 0
          · subst he2
            have hok2 := tk_ok (b := rs.drop z1) (by rw [ht2]) h2d
            rw [ht2, hn2] at hok2
            simp only at hok2
            obtain ⟨A3, p1, p2, p3⟩ := slice_from (P := Try.prog) 32 5 Try.underlying32 sizeOfU8K A2 (n' - z1) (c' - z1) z2 (z2 : Int) rfl (by omega) (by omega)
            have hr3 := p2 wr B (u8s (rs.drop z1)) (by simp [hn']) hr2
            rw [show (u8s (rs.drop z1)).drop z2 = u8s ((rs.drop z1).drop z2) by simp [u8s, List.map_drop]] at hr3
            have hz2I : (z2 : Int) ≤ ((n' - z1 : Nat) : Int) := by omega
            have hz2I2 : (z2 : Int) ≤ (n' : Int) - (z1 : Int) := by omega
            have hldn : Km.load bs = Km.ld f (Km.put st key val) key ((rs.drop z1).drop z2) := by
              rw [hld]
              conv => lhs; unfold Km.ld
              rw [if_neg hne, ht1]
              simp only [ne_eq, not_true_eq_false, if_false]
              rw [if_neg hcond, ht2]
              simp only [not_true_eq_false, if_false]
            have HLDN := Lib.hid hldn; have HR3 := Lib.hid hr3
            obtain ⟨kb, hkb⟩ : ∃ q, Km.ba key = q := ⟨_, rfl⟩
            obtain ⟨vb, hvb⟩ : ∃ q, Km.ba val = q := ⟨_, rfl⟩
            have hkl : kb.size ≤ maxLen := by rw [← hkb, Km.ba_size]; unfold maxLen; omega
            have hvl : vb.size ≤ maxLen := by rw [← hvb, Km.ba_size]; unfold maxLen; omega
            have HKB := Lib.hid hkb; have HVB := Lib.hid hvb
            have HT1' := HT1; have HT2' := HT2
            unfold KTkPost at HT1'
            simp only [hkb] at HT1'
            unfold KTkPost at HT2'
            simp only [hvb] at HT2'
            have hmg : m ≠ g := map_blk K2.out K1.out
            skip
            clear hrd h2 hst hld hb hn' k1 k2 k3 k4 hns ht1 ht2 hkb hvb hr2 hr3 q2 p2 q3 p3 hldn hn2
            go_wp2_with fail
            refine HT1'.out.mono ?_
            rintro en w2 ⟨rfl, rfl⟩
            go_wp2_with fail
            refine HT2'.out.mono ?_
            rintro en w2 ⟨rfl, rfl⟩
            go_wp2_with (at_mapUpdate; refine wpList_mapUpdate_own _ rfl (.tmp 54) (.tmp 55) (.tmp 56) 128 rfl 9 9 KSt Try.underlying128 (plainElem Try.prog 9) m (n - n') D rfl K2.out (by unfold maxLen; omega) (.string kb) (.string vb) _ rfl rfl (keyK hkl) _ [] (plainElem_string Try.underlying9 hvl) ?_; intro w2 hm2 hg2; have HM2 := Lib.hid hm2; have HT3 := Lib.hid hg2; clear hm2 hg2)
            have hO2 := Only.of_grown (S := S) HT3.out (fun j hj => by injection hj with hj; exact (K4.out j).2 (.inr hj.symm))
            have hbw : Below w.heap.size wr w2 := hO2.to_below HB.out.size HSS.out
            have R := Lib.hid (show ∃ (A' : Option Addr) (n'' c'' : Nat) (rs' : List Nat) (last' : L8) (st' : St) (f' : Nat), (Value.slice A3 (n' - z1 - z2) (c' - z1 - z2)) = .slice A' n'' c'' ∧ (Value.string kb) = .string (Km.ba last') ∧ rs'.length = n'' ∧ n'' ≤ f' ∧ n'' ≤ n ∧ n'' ≤ c'' ∧ c'' ≤ maxLen ∧ Rd w2 B A' (u8s rs') ∧ (∀ b ∈ rs', b < 256) ∧ StoreM w2 g S (n - n'') st' ∧ Km.load bs = Km.ld f' st' last' rs' ∧ Below w.heap.size w w2 from
              ⟨A3, n' - z1 - z2, c' - z1 - z2, (rs.drop z1).drop z2, key, Km.put st key val, f, rfl, by rw [HKB.out], by rw [List.length_drop, List.length_drop, HNN.out], by omega, by omega, by omega, by omega, HR3.out.below (hbw.mono hB), fun b hb => H2.out b (List.mem_of_mem_drop (List.mem_of_mem_drop hb)), by
                refine StoreM.mono (n := n - n' + 1) ⟨m, _, K1.out.grown HT3.out (by intro h; injection h with h; exact hmg h.symm), HM2.out, ?_, K4.out⟩ (by omega)
                rw [← HKB.out, ← HVB.out, Km.data_ba, Km.data_ba]
                exact K3.out.put _ _, HLDN.out, HB.out.trans hbw⟩)
            clear hO2 hbw c0
            go_wp2
            go_roundw
            case rel => exact R.out
            case measure => simp [slLen]; omega
          · have hei : (e2 : Int) ≠ 0 := by omega
            have HP := Lib.hid (show KLdPost w n (Km.load bs) (.returned (.tuple #[.pointer none, .int .i64 (e2 : Int)])) wr from
              ⟨hb, .inr ⟨e2, he2, by
                rw [hld]
                conv => lhs; unfold Km.ld
                rw [if_neg hne, ht1]
                simp only [ne_eq, not_true_eq_false, if_false]
                rw [if_neg hcond, ht2]
                simp only
                rw [if_pos he2], rfl⟩⟩)
            obtain ⟨kb, hkb⟩ : ∃ q, Km.ba key = q := ⟨_, rfl⟩
            have HT1' := HT1
            unfold KTkPost at HT1'
            simp only [hkb] at HT1'
            skip
            clear hrd h2 hst hld hb hn' k1 k2 k3 k4 hns ht1 ht2 hkb hr2 q2 q3 hn2
            go_wp2_with fail
            refine HT1'.out.mono ?_
            rintro en w2 ⟨rfl, rfl⟩
            go_wp2_with fail
            refine HT2.out.mono ?_
            rintro en w2 ⟨rfl, rfl⟩
            go_wp2
            go_ret2
            exact HP.out
        · have hsI : (0 : Int) < (ns : Int) := by omega
          by_cases hle : key ≤ last
          · have HT1' := HT1
            unfold KTkPost at HT1'
            simp only at HT1'
            have HP := Lib.hid (show KLdPost w n (Km.load bs) (.returned (.tuple #[.pointer none, .int .i64 3])) wr from
              ⟨hb, .inr ⟨3, by decide, by rw [hld]; unfold Km.ld; rw [if_neg hne, ht1]; simp only [ne_eq, not_true_eq_false, if_false]; rw [if_pos ⟨fun e => hs0 (by rw [← hns, e]; rfl), hle⟩], rfl⟩⟩)
            obtain ⟨hp, hq⟩ := cmpK key last
            obtain ⟨kb, hkb⟩ : ∃ q, Km.ba key = q := ⟨_, rfl⟩
            obtain ⟨lb, hlb⟩ : ∃ q, Km.ba last = q := ⟨_, rfl⟩
            rw [hkb] at HT1' hp hq
            rw [hlb] at hp hq ⊢
            clear hrd h2 hst hld hb hn' k1 k2 k3 k4 hns ht1 hok1 hkb hlb
            rcases Km.tri key last with ht | ht | ht
            · rw [decide_eq_true ht] at hp
              clear hq
              go_wp2_with fail
              refine HT1'.out.mono ?_
              rintro en w2 ⟨rfl, rfl⟩
              go_wp2
              go_ret2
              exact HP.out
            · rw [decide_eq_true ht] at hq
              rw [decide_eq_false (by rw [ht]; exact List.lt_irrefl _)] at hp
              go_wp2_with fail
              refine HT1'.out.mono ?_
              rintro en w2 ⟨rfl, rfl⟩
              go_wp2
              go_ret2
              exact HP.out
            · exact absurd hle (fun h => h ht)
          ·
            have hcond : ¬ (st ≠ [] ∧ key ≤ last) := fun h => hle h.2
            obtain ⟨A2, q1, q2, q3⟩ := slice_from (P := Try.prog) 32 5 Try.underlying32 sizeOfU8K A' n' c' z1 (z1 : Int) rfl (by omega) hc'
            have hr2 := q2 wr B (u8s rs) (by simp [hn']) hrd
            rw [show (u8s rs).drop z1 = u8s (rs.drop z1) by simp [u8s, List.map_drop]] at hr2
            have h2d : ∀ b ∈ rs.drop z1, b < 256 := fun b hb => h2 b (List.mem_of_mem_drop hb)
            have hn2 : (rs.drop z1).length = n' - z1 := by rw [List.length_drop, hn']
            obtain ⟨⟨val, z2, e2⟩, ht2⟩ : ∃ r, Km.tk (rs.drop z1) = r := ⟨_, rfl⟩
            have HT2 := Lib.hid (takeText_any wr A2 (n' - z1) (c' - z1) (rs.drop z1) B hr2 h2d hn2 (by omega) (by omega) (by omega))
            rw [ht2] at HT2
            have hz1I : (z1 : Int) ≤ (n' : Int) := by omega
            by_cases he2 : e2 = 0
            · subst he2
              have hok2 := tk_ok (b := rs.drop z1) (by rw [ht2]) h2d
              rw [ht2, hn2] at hok2
              simp only at hok2
              obtain ⟨A3, p1, p2, p3⟩ := slice_from (P := Try.prog) 32 5 Try.underlying32 sizeOfU8K A2 (n' - z1) (c' - z1) z2 (z2 : Int) rfl (by omega) (by omega)
              have hr3 := p2 wr B (u8s (rs.drop z1)) (by simp [hn']) hr2
              rw [show (u8s (rs.drop z1)).drop z2 = u8s ((rs.drop z1).drop z2) by simp [u8s, List.map_drop]] at hr3
              have hz2I : (z2 : Int) ≤ ((n' - z1 : Nat) : Int) := by omega
              have hz2I2 : (z2 : Int) ≤ (n' : Int) - (z1 : Int) := by omega
              have hldn : Km.load bs = Km.ld f (Km.put st key val) key ((rs.drop z1).drop z2) := by
                rw [hld]
                conv => lhs; unfold Km.ld
                rw [if_neg hne, ht1]
                simp only [ne_eq, not_true_eq_false, if_false]
                rw [if_neg hcond, ht2]
                simp only [not_true_eq_false, if_false]
              have HLDN := Lib.hid hldn; have HR3 := Lib.hid hr3
              obtain ⟨kb, hkb⟩ : ∃ q, Km.ba key = q := ⟨_, rfl⟩
              obtain ⟨vb, hvb⟩ : ∃ q, Km.ba val = q := ⟨_, rfl⟩
              have hkl : kb.size ≤ maxLen := by rw [← hkb, Km.ba_size]; unfold maxLen; omega
              have hvl : vb.size ≤ maxLen := by rw [← hvb, Km.ba_size]; unfold maxLen; omega
              have HKB := Lib.hid hkb; have HVB := Lib.hid hvb
              have HT1' := HT1; have HT2' := HT2
              unfold KTkPost at HT1'
              simp only [hkb] at HT1'
              unfold KTkPost at HT2'
              simp only [hvb] at HT2'
              have hmg : m ≠ g := map_blk K2.out K1.out
              obtain ⟨hp, hq⟩ := cmpK key last
              rw [hkb] at hp hq
              rw [decide_eq_false (fun h => hle (List.not_lt.1 (fun h2 => Km.lt_asymm h h2)))] at hp
              rw [decide_eq_false (fun h => hle (by rw [h]; exact List.le_refl _))] at hq
              obtain ⟨lb, hlb⟩ : ∃ q, Km.ba last = q := ⟨_, rfl⟩
              rw [hlb] at hp hq ⊢
              clear hlb
              clear hrd h2 hst hld hb hn' k1 k2 k3 k4 hns ht1 ht2 hkb hvb hr2 hr3 q2 p2 q3 p3 hldn hn2
              go_wp2_with fail
              refine HT1'.out.mono ?_
              rintro en w2 ⟨rfl, rfl⟩
              go_wp2_with fail
              refine HT2'.out.mono ?_
              rintro en w2 ⟨rfl, rfl⟩
              go_wp2_with (at_mapUpdate; refine wpList_mapUpdate_own _ rfl (.tmp 54) (.tmp 55) (.tmp 56) 128 rfl 9 9 KSt Try.underlying128 (plainElem Try.prog 9) m (n - n') D rfl K2.out (by unfold maxLen; omega) (.string kb) (.string vb) _ rfl rfl (keyK hkl) _ [] (plainElem_string Try.underlying9 hvl) ?_; intro w2 hm2 hg2; have HM2 := Lib.hid hm2; have HT3 := Lib.hid hg2; clear hm2 hg2)
              have hO2 := Only.of_grown (S := S) HT3.out (fun j hj => by injection hj with hj; exact (K4.out j).2 (.inr hj.symm))
              have hbw : Below w.heap.size wr w2 := hO2.to_below HB.out.size HSS.out
              have R := Lib.hid (show ∃ (A' : Option Addr) (n'' c'' : Nat) (rs' : List Nat) (last' : L8) (st' : St) (f' : Nat), (Value.slice A3 (n' - z1 - z2) (c' - z1 - z2)) = .slice A' n'' c'' ∧ (Value.string kb) = .string (Km.ba last') ∧ rs'.length = n'' ∧ n'' ≤ f' ∧ n'' ≤ n ∧ n'' ≤ c'' ∧ c'' ≤ maxLen ∧ Rd w2 B A' (u8s rs') ∧ (∀ b ∈ rs', b < 256) ∧ StoreM w2 g S (n - n'') st' ∧ Km.load bs = Km.ld f' st' last' rs' ∧ Below w.heap.size w w2 from
                ⟨A3, n' - z1 - z2, c' - z1 - z2, (rs.drop z1).drop z2, key, Km.put st key val, f, rfl, by rw [HKB.out], by rw [List.length_drop, List.length_drop, HNN.out], by omega, by omega, by omega, by omega, HR3.out.below (hbw.mono hB), fun b hb => H2.out b (List.mem_of_mem_drop (List.mem_of_mem_drop hb)), by
                  refine StoreM.mono (n := n - n' + 1) ⟨m, _, K1.out.grown HT3.out (by intro h; injection h with h; exact hmg h.symm), HM2.out, ?_, K4.out⟩ (by omega)
                  rw [← HKB.out, ← HVB.out, Km.data_ba, Km.data_ba]
                  exact K3.out.put _ _, HLDN.out, HB.out.trans hbw⟩)
              clear hO2 hbw c0
              go_wp2
              go_roundw
              case rel => exact R.out
              case measure => simp [slLen]; omega
            · have hei : (e2 : Int) ≠ 0 := by omega
              have HP := Lib.hid (show KLdPost w n (Km.load bs) (.returned (.tuple #[.pointer none, .int .i64 (e2 : Int)])) wr from
                ⟨hb, .inr ⟨e2, he2, by
                  rw [hld]
                  conv => lhs; unfold Km.ld
                  rw [if_neg hne, ht1]
                  simp only [ne_eq, not_true_eq_false, if_false]
                  rw [if_neg hcond, ht2]
                  simp only
                  rw [if_pos he2], rfl⟩⟩)
              obtain ⟨kb, hkb⟩ : ∃ q, Km.ba key = q := ⟨_, rfl⟩
              have HT1' := HT1
              unfold KTkPost at HT1'
              simp only [hkb] at HT1'
              obtain ⟨hp, hq⟩ := cmpK key last
              rw [hkb] at hp hq
              rw [decide_eq_false (fun h => hle (List.not_lt.1 (fun h2 => Km.lt_asymm h h2)))] at hp
              rw [decide_eq_false (fun h => hle (by rw [h]; exact List.le_refl _))] at hq
              obtain ⟨lb, hlb⟩ : ∃ q, Km.ba last = q := ⟨_, rfl⟩
              rw [hlb] at hp hq ⊢
              clear hlb
              clear hrd h2 hst hld hb hn' k1 k2 k3 k4 hns ht1 ht2 hkb hr2 q2 q3 hn2
              go_wp2_with fail
              refine HT1'.out.mono ?_
              rintro en w2 ⟨rfl, rfl⟩
              go_wp2_with fail
              refine HT2.out.mono ?_
              rintro en w2 ⟨rfl, rfl⟩
              go_wp2
              go_ret2
              exact HP.out
      · have hei : (e1 : Int) ≠ 0 := by omega
        have HP := Lib.hid (show KLdPost w n (Km.load bs) (.returned (.tuple #[.pointer none, .int .i64 (e1 : Int)])) wr from
          ⟨hb, .inr ⟨e1, he1, by rw [hld]; unfold Km.ld; rw [if_neg hne, ht1]; simp only; rw [if_pos he1], rfl⟩⟩)
        clear hrd h2 hst hld hb hn' ht1
        go_wp2_with fail
        refine HT1.out.mono ?_
        rintro en w2 ⟨rfl, rfl⟩
        go_wp2
        go_ret2
        exact HP.out
end Go.Proofs.Ytahichieakdbnaa

/- ref21.Net: Double, Turn. -/
import Derived.Test.YtahichieakdbnaaRt
import Derived.Test.YtahichieakdbnaaSame
import Derived.StillTailTactics
namespace Go.Proofs.Ytahichieakdbnaa
open Go.ChangeShapes Go.WideShapes Go.ChangeAt Go.RowKit Go.Maps
set_option linter.unusedVariables false
set_option linter.unusedSimpArgs false

/-- an element of the document's row as it lies -/
theorem RN.el {w : World} {r : Nat} {X : Nat → Prop} {vL vSp : Value} {row : List Snt} (h : RN w r X vL vSp row) {k : Nat} (hk : k < row.length) : ∃ q cL q2 cS to A c bs sp, vL = .slice (some ⟨q, 0, none⟩) row.length cL ∧ vSp = .slice (some ⟨q2, 0, none⟩) row.length cS ∧ row[k]? = some ((to, bs), sp) ∧
    w.cell? ⟨q, k * 2, none⟩ = some (.int .i64 to) ∧ w.cell? ⟨q, k * 2 + 1, none⟩ = some (.slice A bs.length c) ∧ w.cell? ⟨q2, k, none⟩ = some (.bool sp) ∧ MadeO w X (.slice A bs.length c) bs bs.length ∧ q < w.heap.size ∧ q2 < w.heap.size := by
  obtain ⟨ms, hms, h2⟩ := h.ms
  have h3 := h.2.2
  obtain ⟨q, cL, rfl, -, hql⟩ := h2.form (by omega)
  obtain ⟨q2, cS, rfl, -, hql2⟩ := h3.form (by omega)
  have hkl : k < (row.map (·.1)).length := by rw [List.length_map]; exact hk
  have hx : (row.map (·.1))[k]? = some ((row.map (·.1))[k]) := List.getElem?_eq_getElem hkl
  have hm : ms[k]? = some (ms[k]'(by rw [hms.1]; exact hkl)) := List.getElem?_eq_getElem _
  obtain ⟨h5, h6⟩ := hms.2 k _ _ hm hx
  obtain ⟨A, c, hv, -⟩ := id h6.1
  have hr : row[k]? = some row[k] := List.getElem?_eq_getElem hk
  have ee : (row.map (·.1))[k] = row[k].1 := by simp
  rw [ee] at h5 h6 hv
  rw [hv] at h6
  have e2 : ms[k]? = some (row[k].1.1, .slice A row[k].1.2.length c) := by rw [hm]; exact congrArg some (Prod.ext h5 hv)
  have hc := fl2_get ms k _ e2
  have hcell := fun j u hu => (addk q (k * 2 + j)) ▸ h2.cells (g := q) rfl (k * 2 + j) u (hc j u hu)
  have b3 := h3.cells (g := q2) rfl k (.bool row[k].2) (by unfold bls; rw [List.getElem?_map, hr]; rfl)
  rw [addk] at b3
  exact ⟨q, cL, q2, cS, row[k].1.1, A, c, row[k].1.2, row[k].2, rfl, rfl, hr, by simpa using hcell 0 _ rfl, hcell 1 _ rfl, b3, h6, hql, hql2⟩
theorem own_fz {w : World} {base sz n c q : Nat} {e : TypeId} {xs : List Value} (h : w.ownsRow base e sz (.slice (some ⟨q, 0, none⟩) n c) n xs) (i : Nat) : w.frozen? ⟨q, i, none⟩ = false := by
  rcases h.2 with ⟨h2, _⟩ | ⟨g', cap, cur, hv, _, hh, _⟩
  · cases h2
  · injection hv with h5 _ _
    injection h5 with h5
    injection h5 with h5 _
    subst h5
    exact Blk.frozen (t := e) (cs := cur) hh i
set_option maxHeartbeats 2000000 in
set_option maxRecDepth 100000 in
theorem RDbl_any (w : World) (r : Nat) (X : Nat → Prop) (vL vSp : Value) (row : List Snt) (i : Int) (h : RN w r X vL vSp row) (hXr : X r) (hXl : ∀ j, X j → j < w.heap.size) (hi0 : -9223372036854775808 ≤ i) (hi1 : i ≤ 9223372036854775807) (hrl : row.length ≤ 64) (hto : ∀ x ∈ row, 0 ≤ x.1.1 ∧ x.1.1 ≤ 3) :
    Calls Try.prog 61 #[.pointer (some ⟨r, 0, none⟩), .int .i64 i] w (RRes w r X vL (Nm.dbl row i).1 (Nm.dbl row i).2) := by
  obtain ⟨v0, hv0⟩ : ∃ v0, vL = v0 := ⟨_, rfl⟩
  have HV0 := Lib.hid hv0
  rw [hv0]
  clear hv0
  have H0 := Lib.hid h
  have HC := Lib.hid (Rplc_any w r X vL vSp row i h hi0 hi1 hrl)
  unfold RplcPost at HC
  unfold Nm.dbl
  cases hp : Nm.plc row i with
  | none =>
    rw [hp] at HC
    simp only at HC ⊢
    clear h hp
    go_enter Try.func61, Try.ntmps61
    go_wp2_with fail
    refine HC.out.mono ?_
    rintro en w1 ⟨rfl, rfl⟩
    go_wp2
    go_ret
    exact ⟨rfl, _, _, H0.out, Only.refl _ _, fun h => (by cases h), fun j hj => .inl (by rw [← HV0.out]; exact hj)⟩
  | some k =>
    rw [hp] at HC
    simp only at HC ⊢
    obtain ⟨hk, -, -⟩ := Nm.plc_lt hp
    obtain ⟨q, cL, q2, cS, to, A, c, bs, sp, rfl, rfl, e1, b0, b1, b2, e3, hql, hql2⟩ := h.el hk
    have hx : row[k]?.getD Nm.s0 = ((to, bs), sp) := by rw [e1]; rfl
    obtain ⟨ht0, ht1⟩ := hto _ (List.mem_of_getElem? e1)
    simp only at ht0 ht1
    have hsend : Nm.send row (to, bs) = Nm.put row ((to, bs), false) := by
      unfold Nm.send
      rw [if_neg (by simp only; omega)]
    obtain ⟨nb, hnb⟩ : ∃ q, bs.length = q := ⟨_, rfl⟩
    have HS := Lib.hid (RSend_any w r X _ _ row to A nb c bs h hXr hXl (by rw [← hnb]; exact e3) hnb hrl)
    rw [hsend] at HS
    rw [hnb] at b1
    simp only [hx]
    have a0 := h.1.cell 0
    have hrw := h.1.lt
    simp at a0
    have HX := Lib.hid e1
    obtain ⟨nr, hnr⟩ : ∃ q, row.length = q := ⟨_, rfl⟩
    have HNR := Lib.hid hnr
    rw [hnr] at a0 hk hrl
    have hkI : ¬ (k : Int) < 0 := by omega
    have hkI2 : (k : Int) < (nr : Int) := by omega
    clear h hp hx e1 e3 hnb hnr hsend
    by_cases h64 : 64 ≤ nr
    · have e0 : Nm.put row ((to, bs), false) = (false, row) := by unfold Nm.put; rw [if_pos (by rw [HNR.out]; exact h64)]
      have e0' : Nm.put row ((to, bs), sp) = (false, row) := by unfold Nm.put; rw [if_pos (by rw [HNR.out]; exact h64)]
      rw [e0] at HS
      rw [e0']
      clear e0 e0'
      go_enter Try.func61, Try.ntmps61
      go_wp2_with fail
      refine HC.out.mono ?_
      rintro en w1 ⟨rfl, rfl⟩
      go_wp2_with fail
      refine HS.out.mono ?_
      rintro en w1 ⟨rfl, vL', vSp', hR, hO, -, hwh⟩
      have HP := Lib.hid (show RRes w r X v0 false row (.returned (.bool false)) w1 from ⟨rfl, _, _, hR, hO, fun h => (by cases h), fun j hj => by rw [← HV0.out]; exact hwh j hj⟩)
      clear hR hO
      go_wp2
      go_ret
      exact HP.out
    · have e0 : Nm.put row ((to, bs), false) = (true, row ++ [((to, bs), false)]) := by unfold Nm.put; rw [if_neg (by rw [HNR.out]; exact h64)]
      have e0' : Nm.put row ((to, bs), sp) = (true, row ++ [((to, bs), sp)]) := by unfold Nm.put; rw [if_neg (by rw [HNR.out]; exact h64)]
      rw [e0] at HS
      rw [e0']
      clear e0 e0'
      go_enter Try.func61, Try.ntmps61
      go_wp2_with fail
      refine HC.out.mono ?_
      rintro en w1 ⟨rfl, rfl⟩
      go_wp2_with fail
      refine HS.out.mono ?_
      rintro en w1 ⟨rfl, vL', vSp', hR, hO, hnew, hwh⟩
      have hl1 : (row ++ [((to, bs), false)]).length = nr + 1 := by rw [List.length_append, HNR.out]; rfl
      obtain ⟨q3, c3, rfl, -, hq3⟩ := hR.2.2.form (by omega)
      have hb3 := hR.2.2
      have hrn := hR.neS q3 rfl
      have d1 := hR.1.cell 1
      have dl := hR.1.lt
      simp at d1
      have b5 := hb3.cells (g := q3) rfl k (.bool sp) (by unfold bls; rw [List.getElem?_map, List.getElem?_append_left (by rw [HNR.out]; exact hk), HX.out]; rfl)
      rw [addk] at b5
      have b6 := hb3.cells (g := q3) rfl nr (.bool false) (by unfold bls; rw [List.getElem?_map, List.getElem?_append_right (by rw [HNR.out]; exact Nat.le_refl _), HNR.out]; simp)
      rw [addk] at b6
      have fz := own_fz hb3 nr
      have hR1 := hR.setSp (k := nr) (row' := row ++ [((to, bs), sp)]) sp (by simp) (by
        unfold bls
        rw [List.map_append, List.map_append, List.set_append_right _ _ (by rw [List.length_map, HNR.out]; exact Nat.le_refl _), List.length_map, HNR.out]
        simp)
      rw [hl1] at hR1 hnew
      have HP := Lib.hid (show RRes w r X v0 true (row ++ [((to, bs), sp)]) (.returned (.bool true)) (w1.setCell ⟨q3, nr, none⟩ (.bool sp)) from
        ⟨rfl, _, _, hR1.1, hO.trans hR1.2 (fun j hj => .inr (by rw [hj]; exact hnew rfl q3 rfl)), fun _ j hj => hnew rfl j hj, fun j hj => by rw [← HV0.out]; exact hwh j hj⟩)
      simp only [List.length_append, List.length_cons, List.length_nil, HNR.out] at d1
      have hww : IntKind.i64.wrap ((nr : Int) + 1 - 1) = (nr : Int) := by rw [IntWalk.i64_in _ ⟨by omega, by omega⟩]; omega
      have hww2 : IntKind.i64.wrap (nr : Int) = (nr : Int) := IntWalk.i64_in _ ⟨by omega, by omega⟩
      have hi1I : (nr : Int) < (nr : Int) + 1 := by omega
      have hi2I : (k : Int) < (nr : Int) + 1 := by omega
      clear hR hO hnew hwh hR1 hb3 hl1 a0 b0 b1 b2
      go_wp2
      go_still_tail 18, (by kernel_rfl)
      change wpList _ _ _ _ _ w1.drew
      go_wp2
      go_ret
      exact HP.out
/-- what stands until the one store, in block q, and behind it -/
def CB (W : World) (q k : Nat) (b : Value) (is : Nat) (L : Nat → Bool) (w : World) : Prop := (L is = false → Below W.heap.size W w) ∧ (L is = true → ∃ w0, Below W.heap.size W w0 ∧ w = w0.setCell ⟨q, k, none⟩ b)
theorem CB.keep {W : World} {q k is : Nat} {b : Value} {L : Nat → Bool} {w w' : World} (i : Nat) (hi : i ≠ is) (hl : L is = false) (h : CB W q k b is L w) (hb : Below w.heap.size w w') : CB W q k b is (Inv.upd L i) w' :=
  ⟨fun _ => (h.1 hl).trans (hb.mono (h.1 hl).size), fun hh => (by rw [upd_ne hi, hl] at hh; cases hh)⟩
theorem CB.store {W : World} {q k is : Nat} {b : Value} {L : Nat → Bool} {w : World} (hl : L is = false) (h : CB W q k b is L w) : CB W q k b is (Inv.upd L is) (w.setCell ⟨q, k, none⟩ b) :=
  ⟨fun hh => (by rw [Inv.upd_same] at hh; cases hh), fun _ => ⟨w, h.1 hl, rfl⟩⟩
/-- what the operations of 'n.Sp[k] = !Same(body, n.L[k].Body)' have told -/
def FU (r q5 q7 k : Nat) (v5 v7 vb vo : Value) (b : Bool) (i : Nat) (L : Nat → Bool) (v : Value) (w : World) : Prop := match i with
  | 0 => v = .pointer (some ⟨r, 0, none⟩)
  | 1 => v = .pointer (some ⟨r, 0, none⟩)
  | 2 => v = .pointer (some ⟨r, 1, none⟩)
  | 3 => v = v7
  | 4 => v = .int .i64 (k : Int)
  | 5 => v = vb
  | 6 => v = .pointer (some ⟨r, 0, none⟩)
  | 7 => v = .pointer (some ⟨r, 0, none⟩)
  | 8 => v = .pointer (some ⟨r, 0, none⟩)
  | 9 => v = v5
  | 10 => v = .int .i64 (k : Int)
  | 11 => v = .pointer (some ⟨q5, k * 2, none⟩)
  | 12 => v = .pointer (some ⟨q5, k * 2 + 1, none⟩)
  | 13 => v = vo
  | 14 => v = .bool b
  | 15 => v = .bool (!b)
  | 16 => v = .pointer (some ⟨q7, k, none⟩)
  | _ => True
theorem drewN_below (w : World) (q : Nat) : Below w.heap.size w (w.drewN q) := ⟨rfl, rfl, rfl, Nat.le_refl _, fun _ _ => rfl⟩
set_option maxHeartbeats 4000000 in
set_option maxRecDepth 100000 in
theorem RNTurn_any (w : World) (r : Nat) (X : Nat → Prop) (vL vSp : Value) (row : List Snt) (i p : Int) (mask : Nat) (h : RN w r X vL vSp row) (hXr : X r) (hXl : ∀ j, X j → j < w.heap.size) (hi0 : -9223372036854775808 ≤ i) (hi1 : i ≤ 9223372036854775807) (hp0 : -9223372036854775808 ≤ p) (hp1 : p ≤ 9223372036854775807) (hm : mask < 4294967296) (hrl : row.length ≤ 64) (hbl : ∀ x ∈ row, x.1.2.length ≤ 1099511627776) :
    Calls Try.prog 63 #[.pointer (some ⟨r, 0, none⟩), .int .i64 i, .int .i64 p, .int .u32 (mask : Int)] w (RRes w r X vL (Nm.trn row i p mask).1 (Nm.trn row i p mask).2) := by
  obtain ⟨v0, hv0⟩ : ∃ v0, vL = v0 := ⟨_, rfl⟩
  have HV0 := Lib.hid hv0
  rw [hv0]
  clear hv0
  obtain ⟨i0, hi, hz0, hz1, hz2⟩ := info_parts infoRLet
  obtain ⟨j0, hj, hy0, hy1, hy2⟩ := info_parts infoBool
  have H0 := Lib.hid h
  have HC := Lib.hid (Rplc_any w r X vL vSp row i h hi0 hi1 hrl)
  unfold RplcPost at HC
  unfold Nm.trn
  cases hp : Nm.plc row i with
  | none =>
    rw [hp] at HC
    simp only at HC ⊢
    clear h hp
    go_enter Try.func63, Try.ntmps63
    go_wp2_with fail
    refine HC.out.mono ?_
    rintro en w1 ⟨rfl, rfl⟩
    go_wp2
    go_ret
    exact ⟨rfl, _, _, H0.out, Only.refl _ _, fun h => (by cases h), fun j hj => .inl (by rw [← HV0.out]; exact hj)⟩
  | some k =>
    rw [hp] at HC
    simp only at HC ⊢
    obtain ⟨hk, -, -⟩ := Nm.plc_lt hp
    have h3' := h.2.2
    obtain ⟨q, cL, q2, cS, to, A, c, bs, sp, rfl, rfl, e1, b0, b1, b2, e3, hql, hql2⟩ := h.el hk
    have hx : row[k]?.getD Nm.s0 = ((to, bs), sp) := by rw [e1]; rfl
    simp only [hx]
    have hbs := hbl _ (List.mem_of_getElem? e1)
    simp only at hbs
    obtain ⟨ms, hms, h2⟩ := h.ms
    have hneL := h.neL
    have hneS := h.neS
    have a0 := h.1.cell 0
    have a1 := h.1.cell 1
    have hrw := h.1.lt
    have hkr := h.1
    simp at a0 a1
    obtain ⟨nr, hnr⟩ : ∃ q, row.length = q := ⟨_, rfl⟩
    have HNR := Lib.hid hnr
    rw [hnr] at a0 a1 hk hrl hkr h2 h3' hneL hneS
    have hkI : ¬ (k : Int) < 0 := by omega
    have hkI2 : (k : Int) < (nr : Int) := by omega
    cases sp with
    | true =>
      simp only [if_true]
      clear h hp hx e1 e3 hnr h2 h3' hms hneL hneS hkr
      go_enter Try.func63, Try.ntmps63
      go_wp2_with fail
      refine HC.out.mono ?_
      rintro en w1 ⟨rfl, rfl⟩
      go_wp2
      go_ret
      exact ⟨rfl, _, _, H0.out, Only.refl _ _, fun h => (by cases h), fun j hj => .inl (by rw [← HV0.out]; exact hj)⟩
    | false =>
      simp only [Bool.false_eq_true, if_false]
      obtain ⟨hr, hc, hcm, hno, h256⟩ := e3.1.parts
      obtain ⟨nb, hnb⟩ : ∃ q, bs.length = q := ⟨_, rfl⟩
      rw [hnb] at b1 hc hbs
      have hT := RTurn_any w A nb c bs p mask hr h256 hnb hbs hno hp0 hp1 hm
      unfold TurnPost at hT
      have HTL : Hid ((Cm.turn bs p mask).length = nb) := Lib.hid (by rw [Cm.turn_length, hnb])
      have HTB := Lib.hid (Cm.turn_byte h256 p mask)
      obtain ⟨ts, hts⟩ : ∃ ts, Cm.turn bs p mask = ts := ⟨_, rfl⟩
      rw [hts] at hT HTL HTB ⊢
      have HT := Lib.hid hT
      obtain ⟨be, hbe⟩ : ∃ be, decide (ts = bs) = be := ⟨_, rfl⟩
      have HBE := Lib.hid hbe
      rw [hbe]
      clear hT hts hbe
      have H2 := Lib.hid h2; have H3 := Lib.hid h3'; have HMS := Lib.hid hms; have HNL := Lib.hid hneL; have HNS := Lib.hid hneS; have HNB := Lib.hid hnb; have HX := Lib.hid e1; have E3 := Lib.hid e3; have HK := Lib.hid hkr; have H256 := Lib.hid h256; have HRD := Lib.hid hr; have BQ := Lib.hid (And.intro b0 (And.intro b1 b2))
      have HL2 : Hid ((fl2 ms).length = nr * 2) := Lib.hid (by rw [fl2_length, hms.1, List.length_map, hnr])
      have HL3 : Hid ((bls row).length = nr * 1) := Lib.hid (by rw [bls_length, hnr]; omega)
      clear h hp hx e1 e3 hnr h2 h3' hms hneL hneS hkr hr h256 hnb hno hc
      go_enter Try.func63, Try.ntmps63
      go_wp2_with fail
      refine HC.out.mono ?_
      rintro en w1 ⟨rfl, rfl⟩
      go_wp2_with fail
      refine HT.out.mono ?_
      rintro en w1 ⟨v', rfl, ho, hb1⟩
      obtain ⟨A1, c1, rfl⟩ := own_sl ho
      rw [HNB.out] at ho
      have hmd := made_of_own ho HTL.out HTB.out
      have hfr : Fre w (fun _ => False) (.slice A1 nb c1) := fun g o n c hv => ⟨(ho.lt g (by rw [hv]; rfl)).1, fun h => h⟩
      simp only [HNB.out]
      have HMD := Lib.hid hmd; have HFR := Lib.hid hfr; have B1 := Lib.hid hb1
      have K1 := Lib.hid (HK.out.below hb1 hrw)
      have O2 := Lib.hid (own_below H2.out hb1); have O3 := Lib.hid (own_below H3.out hb1)
      have c0 := K1.out.cell 0
      have cl := K1.out.lt
      have HE1 := Lib.hid (Blk.new w1 103 #[])
      have S1 := Lib.hid (Src.of_own (own_below O2.out ((Below.refl _ w1).alloc (Nat.le_refl _) (.cells #[] 103))))
      simp at c0
      clear ho hb1 hmd hfr a0 a1 b0 b1 b2
      go_wp2_with (at_builtin; go_must (first
        | (refine wpList_app0 rfl (.tmp 37) (.tmp 41) 92 rfl w1.heap.size 103 i0 (.agg #[.int .i64 0, .slice none 0 0]) 2 32 Try.underlying92 hi hz0 hz1 hz2 rfl (by decide) w1.heap.size rfl HE1.out (Nat.le_refl _) (some ⟨q, 0, none⟩) nr cL (fl2 ms) rfl HL2.out S1.out HMS.out.one_cell (by unfold maxLen; omega) (by omega) ?_; intro v5 w5 ho5 hb5 hne5; obtain ⟨q5, c5, rfl, -⟩ := own_someS ho5 hne5; have HO5 := Lib.hid ho5; have hb15 : Below w1.heap.size w1 w5 := (((Below.refl _ w1).alloc (Nat.le_refl _) _).trans (hb5.mono (by simp))); have B5 := Lib.hid hb15; have K5 := Lib.hid (K1.out.below hb15 cl); have kk5 := K5.out.cell 0; have kl5 := K5.out.lt; have kf5 := K5.out.frozen 0; have K5s := Lib.hid (K5.out.set 0 (.slice (some ⟨q5, 0, none⟩) nr c5)); have ks1 := K5s.out.cell 1; have HE5 : Hid (Blk ((w5.setCell ⟨r, 0, none⟩ (.slice (some ⟨q5, 0, none⟩) nr c5)).alloc (.cells #[] 4)) w5.heap.size 4 #[]) := Lib.hid (Blk.new' _ _ _ (by simp)); have S5 := Lib.hid (Src.of_own (own_below (((Only.refl (fun j => j = r) w5).set rfl 0 (.slice (some ⟨q5, 0, none⟩) nr c5)).own (own_below O3.out hb15) HNS.out) ((Below.refl _ (w5.setCell ⟨r, 0, none⟩ (.slice (some ⟨q5, 0, none⟩) nr c5))).alloc (Nat.le_refl _) (.cells #[] 4)))); simp at kk5 ks1; clear ho5 hb5 hne5 hb15)
        | (refine wpList_app0 rfl (.tmp 46) (.tmp 50) 93 rfl w5.heap.size 4 j0 (.bool false) 1 1 Try.underlying93 hj hy0 hy1 hy2 rfl (by decide) w5.heap.size rfl HE5.out (Nat.le_refl _) (some ⟨q2, 0, none⟩) nr cS (bls row) rfl HL3.out S5.out (bls_one row) (by unfold maxLen; omega) (by omega) ?_; intro v7 w7 ho7 hb7 hne7; obtain ⟨q7, c7, rfl, -⟩ := own_someS ho7 hne7; have HO7 := Lib.hid ho7; have hb57 : Below (w5.setCell ⟨r, 0, none⟩ (.slice (some ⟨q5, 0, none⟩) nr c5)).heap.size (w5.setCell ⟨r, 0, none⟩ (.slice (some ⟨q5, 0, none⟩) nr c5)) w7 := ((Below.refl _ _).alloc (Nat.le_refl _) _).trans (hb7.mono (by simp)); have B7 := Lib.hid hb57; have K7 : Hid (Blk w7 r 95 #[.slice (some ⟨q5, 0, none⟩) nr c5, .slice (some ⟨q2, 0, none⟩) nr cS]) := Lib.hid (by have h9 := K5s.out.below hb57 (by simpa using kl5); simpa using h9); have kk7 := K7.out.cell 1; have kl7 := K7.out.lt; have kf7 := K7.out.frozen 1; simp at kk7; clear ho7 hb7 hne7 hb57)))
      have hs15 := B5.out.size
      have hs57 : w5.heap.size ≤ w7.heap.size := by have h9 := B7.out.size; simpa using h9
      have hs01 := B1.out.size
      have hq5 : w1.heap.size ≤ q5 ∧ q5 < w5.heap.size := ⟨(HO5.out.lt q5 rfl).1, own_lt HO5.out q5 rfl⟩
      have hq7 : w5.heap.size ≤ q7 ∧ q7 < w7.heap.size := ⟨(HO7.out.lt q7 rfl).1, own_lt HO7.out q7 rfl⟩
      have hO5 : Only (fun j => j = r) w (w5.setCell ⟨r, 0, none⟩ (.slice (some ⟨q5, 0, none⟩) nr c5)) := ((Only.of_below (S := fun j => j = r) B1.out).trans (Only.of_below (S := fun j => j = r) B5.out) (Sub.refl _ _)).set rfl 0 _
      have hO7 : Only (fun j => j = r) w (w7.setCell ⟨r, 1, none⟩ (.slice (some ⟨q7, 0, none⟩) nr c7)) := (hO5.trans (Only.of_below (S := fun j => j = r) B7.out) (Sub.refl _ _)).set rfl 1 _
      have hrow5 : (w7.setCell ⟨r, 1, none⟩ (.slice (some ⟨q7, 0, none⟩) nr c7)).ownsRow w1.heap.size 103 2 (.slice (some ⟨q5, 0, none⟩) nr c5) nr (fl2 ms) :=
        ((Only.refl (fun j => j = r) w7).set rfl 1 _).own (own_below (((Only.refl (fun j => j = r) w5).set rfl 0 _).own HO5.out (fun j hj hjr => by have := (HO5.out.lt j hj).1; omega)) B7.out) (fun j hj hjr => by have := (HO5.out.lt j hj).1; omega)
      have hrow7 : (w7.setCell ⟨r, 1, none⟩ (.slice (some ⟨q7, 0, none⟩) nr c7)).ownsRow w5.heap.size 4 1 (.slice (some ⟨q7, 0, none⟩) nr c7) nr (bls row) :=
        ((Only.refl (fun j => j = r) w7).set rfl 1 _).own HO7.out (fun j hj hjr => by have := (HO7.out.lt j hj).1; omega)
      have hRN : RN (w7.setCell ⟨r, 1, none⟩ (.slice (some ⟨q7, 0, none⟩) nr c7)) r X (.slice (some ⟨q5, 0, none⟩) nr c5) (.slice (some ⟨q7, 0, none⟩) nr c7) row := by
        refine ⟨by have h9 := K7.out.set 1 (.slice (some ⟨q7, 0, none⟩) nr c7); simpa using h9, HMS.out.row hO7 hXr (H := w1.heap.size) hs01 (by rw [List.length_map, HNR.out]; exact hrow5) (fun j hj => by simp [Value.ownBlock] at hj; omega), ?_⟩
        rw [HNR.out]
        exact own_base0 hrow7
      obtain ⟨W, hW⟩ : ∃ W, w7.setCell ⟨r, 1, none⟩ (.slice (some ⟨q7, 0, none⟩) nr c7) = W := ⟨_, rfl⟩
      have hsW : W.heap.size = w7.heap.size := by rw [← hW]; simp
      rw [hW] at hO7 hRN hrow5 hrow7
      try rw [hW]
      have HR7 := Lib.hid hRN; have HO := Lib.hid hO7
      have KW := Lib.hid hRN.1
      have hrW := hRN.1.lt
      have MB : Hid (MadeO W (fun j => (X j ∨ (Value.slice (some ⟨q7, 0, none⟩) nr c7).ownBlock = some j) ∨ q5 = j) (.slice A1 nb c1) ts ts.length) := Lib.hid (by
        have h8 : ∀ (b o n c : Nat), Value.slice A1 nb c1 = .slice (some ⟨b, o, none⟩) n c → ts ≠ [] → w.heap.size ≤ b ∧ b < w1.heap.size := fun b o n c hv hn => ⟨(HFR.out b o n c hv).1, MadeO.lt (S := fun _ => False) ⟨HMD.out, fun _ _ _ _ _ _ h => h⟩ hv hn⟩
        have h9 : MadeO w1 (fun j => (X j ∨ (Value.slice (some ⟨q7, 0, none⟩) nr c7).ownBlock = some j) ∨ q5 = j) (.slice A1 nb c1) ts ts.length := ⟨by rw [HTL.out]; exact HMD.out, fun b o n c hv hn hs => by
          have := h8 b o n c hv hn
          rcases hs with (hs | hs) | hs
          · have := hXl b hs; omega
          · simp [Value.ownBlock] at hs; omega
          · omega⟩
        rw [← hW]
        exact (((h9.below B5.out).other ((Only.refl (fun j => j = r) w5).set rfl 0 _) (fun b o n c hv hn hj => by have := h8 b o n c hv hn; omega)).below B7.out).other ((Only.refl (fun j => j = r) w7).set rfl 1 _) (fun b o n c hv hn hj => by have := h8 b o n c hv hn; omega))
      have MO : Hid (MadeO W X (.slice A nb c) bs bs.length) := Lib.hid (by
        have h9 := E3.out.other hO7 (fun g o n c hv hn hj => E3.out.2 g o n c hv hn (by rw [hj]; exact hXr))
        rw [HNB.out] at h9 ⊢
        exact h9)
      have hxl : ∀ {e : TypeId} {sz n' c' c'' : Nat} {b1 b2 qa qb : Nat} {wa wb : World} {xs : List Value}, wa.ownsRow b1 e sz (.slice (some ⟨qa, 0, none⟩) n' c') n' xs → wb.ownsRow b2 e sz (.slice (some ⟨qb, 0, none⟩) n' c'') n' xs → ∀ j u, j < xs.length → wa.cell? ⟨qa, j, none⟩ = some u → wb.cell? ⟨qb, j, none⟩ = some u := fun h h' j u hj hu => by
        have hx := List.getElem?_eq_getElem hj
        have h1 := h.cells (g := _) rfl j _ hx
        have h2 := h'.cells (g := _) rfl j _ hx
        rw [addk] at h1 h2
        rw [h1] at hu
        rw [h2, hu]
      have d0 := hxl H2.out hrow5 (k * 2) _ (by rw [HL2.out]; omega) BQ.out.1
      have d1 := hxl H2.out hrow5 (k * 2 + 1) _ (by rw [HL2.out]; omega) BQ.out.2.1
      have d2 := hxl H3.out hrow7 k _ (by rw [HL3.out]; omega) BQ.out.2.2
      have c0 := KW.out.cell 0
      have c1' := KW.out.cell 1
      simp at c0 c1'
      have HR5 := Lib.hid hrow5; have HR7' := Lib.hid hrow7
      have hq5W : q5 < W.heap.size := by omega
      have hq7W : q7 < W.heap.size := by omega
      have D0 := Lib.hid d0; have D1 := Lib.hid d1; have D2 := Lib.hid d2
      have hwq : w.heap.size ≤ q5 ∧ w.heap.size ≤ q7 := by omega
      have hnbm : ts.length ≤ maxLen := by rw [HTL.out]; unfold maxLen; omega
      clear hRN hO7 hrow5 hrow7 hO5 hW hq5 hq7 hs15 hs57 hs01 kk5 ks1 kk7 kf5 kf7 kl5 kl7 K5 K5s HE5 S5 K7 HO5 HO7 B5 B7 HE1 S1 O2 O3 K1 HK HRD E3 H2 H3 HL2 HL3 d0 d1 d2 hxl
      go_wp2
      refine Inv.region_genL (FU r q5 q7 k (.slice (some ⟨q5, 0, none⟩) nr c5) (.slice (some ⟨q7, 0, none⟩) nr c7) (.slice A1 nb c1) (.slice A nb c) be) (CB W q7 k (.bool (!be)) 17) 87 [54, 55, 56, 57, 58, 59, 60, 61, 62, 63, 64, 65, 66, 67, 68, 69, 70] (by kernel_rfl) rfl (by kernel_rfl) (by kernel_rfl) ?_ ?_ ?_
      · exact ⟨fun _ => (Below.refl _ W).drew, fun h => by cases h⟩
      · refine ⟨?_, ?_, ?_, ?_, ?_, ?_, ?_, ?_, ?_, ?_, ?_, ?_, ?_, ?_, ?_, ?_, ?_, ?_, trivial⟩
        · intro act wa L hC hd hLi hLa hLb HF O K hK
          clear hd
          have l17 : L 17 = false := (by first | exact hLi | exact hLb 8 17 (by kernel_rfl))
          have hbw := hC.1 l17
          have kw := KW.out.below hbw hrW
          have kl := kw.lt
          have k0 := kw.cell 0
          have k1 := kw.cell 1
          have f2 := (hbw.cell (p := ⟨q5, k * 2 + 1, none⟩) hq5W).trans D1.out
          have f3 := (hbw.cell (p := ⟨q7, k, none⟩) hq7W).trans D2.out
          have fz := own_fz (own_below HR7'.out hbw) k
          simp at k0 k1
          have h0 := O 0 (by kernel_rfl)
          try have g0 := Array.getD_eq_getD_getElem?.symm.trans h0
          go_simp
          exact hK _ _ (hC.keep 0 (by decide) l17 (Below.refl wa.heap.size wa)) (fun j d _ _ _ h => h) (fun _ => rfl)
        · intro act wa L hC hd hLi hLa hLb HF O K hK
          clear hd
          have l17 : L 17 = false := (by first | exact hLi | exact hLb 8 17 (by kernel_rfl))
          have hbw := hC.1 l17
          have kw := KW.out.below hbw hrW
          have kl := kw.lt
          have k0 := kw.cell 0
          have k1 := kw.cell 1
          have f2 := (hbw.cell (p := ⟨q5, k * 2 + 1, none⟩) hq5W).trans D1.out
          have f3 := (hbw.cell (p := ⟨q7, k, none⟩) hq7W).trans D2.out
          have fz := own_fz (own_below HR7'.out hbw) k
          simp at k0 k1
          have h54 := HF 0 54 (hLa 1 0 (by kernel_rfl)) rfl
          dsimp only [FU] at h54
          try have g54 := Array.getD_eq_getD_getElem?.symm.trans h54
          go_simp
          exact hK _ _ (hC.keep 1 (by decide) l17 (Below.refl wa.heap.size wa)) (fun j d _ _ _ h => h) (fun _ => rfl)
        · intro act wa L hC hd hLi hLa hLb HF O K hK
          clear hd
          have l17 : L 17 = false := (by first | exact hLi | exact hLb 8 17 (by kernel_rfl))
          have hbw := hC.1 l17
          have kw := KW.out.below hbw hrW
          have kl := kw.lt
          have k0 := kw.cell 0
          have k1 := kw.cell 1
          have f2 := (hbw.cell (p := ⟨q5, k * 2 + 1, none⟩) hq5W).trans D1.out
          have f3 := (hbw.cell (p := ⟨q7, k, none⟩) hq7W).trans D2.out
          have fz := own_fz (own_below HR7'.out hbw) k
          simp at k0 k1
          have h55 := HF 1 55 (hLa 1 1 (by kernel_rfl)) rfl
          dsimp only [FU] at h55
          try have g55 := Array.getD_eq_getD_getElem?.symm.trans h55
          go_simp
          exact hK _ _ (hC.keep 2 (by decide) l17 (Below.refl wa.heap.size wa)) (fun j d _ _ _ h => h) (fun _ => rfl)
        · intro act wa L hC hd hLi hLa hLb HF O K hK
          clear hd
          have l17 : L 17 = false := (by first | exact hLi | exact hLb 8 17 (by kernel_rfl))
          have hbw := hC.1 l17
          have kw := KW.out.below hbw hrW
          have kl := kw.lt
          have k0 := kw.cell 0
          have k1 := kw.cell 1
          have f2 := (hbw.cell (p := ⟨q5, k * 2 + 1, none⟩) hq5W).trans D1.out
          have f3 := (hbw.cell (p := ⟨q7, k, none⟩) hq7W).trans D2.out
          have fz := own_fz (own_below HR7'.out hbw) k
          simp at k0 k1
          have h56 := HF 2 56 (hLa 1 2 (by kernel_rfl)) rfl
          dsimp only [FU] at h56
          try have g56 := Array.getD_eq_getD_getElem?.symm.trans h56
          go_simp
          exact hK _ _ (hC.keep 3 (by decide) l17 (Below.refl wa.heap.size wa)) (fun j d _ _ _ h => h) (fun _ => rfl)
        · intro act wa L hC hd hLi hLa hLb HF O K hK
          clear hd
          have l17 : L 17 = false := (by first | exact hLi | exact hLb 8 17 (by kernel_rfl))
          have hbw := hC.1 l17
          have kw := KW.out.below hbw hrW
          have kl := kw.lt
          have k0 := kw.cell 0
          have k1 := kw.cell 1
          have f2 := (hbw.cell (p := ⟨q5, k * 2 + 1, none⟩) hq5W).trans D1.out
          have f3 := (hbw.cell (p := ⟨q7, k, none⟩) hq7W).trans D2.out
          have fz := own_fz (own_below HR7'.out hbw) k
          simp at k0 k1
          have h9 := O 9 (by kernel_rfl)
          try have g9 := Array.getD_eq_getD_getElem?.symm.trans h9
          go_simp
          exact hK _ _ (hC.keep 4 (by decide) l17 (Below.refl wa.heap.size wa)) (fun j d _ _ _ h => h) (fun _ => rfl)
        · intro act wa L hC hd hLi hLa hLb HF O K hK
          clear hd
          have l17 : L 17 = false := (by first | exact hLi | exact hLb 8 17 (by kernel_rfl))
          have hbw := hC.1 l17
          have kw := KW.out.below hbw hrW
          have kl := kw.lt
          have k0 := kw.cell 0
          have k1 := kw.cell 1
          have f2 := (hbw.cell (p := ⟨q5, k * 2 + 1, none⟩) hq5W).trans D1.out
          have f3 := (hbw.cell (p := ⟨q7, k, none⟩) hq7W).trans D2.out
          have fz := own_fz (own_below HR7'.out hbw) k
          simp at k0 k1
          have h10 := O 10 (by kernel_rfl)
          try have g10 := Array.getD_eq_getD_getElem?.symm.trans h10
          go_simp
          exact hK _ _ (hC.keep 5 (by decide) l17 (Below.refl wa.heap.size wa)) (fun j d _ _ _ h => h) (fun _ => rfl)
        · intro act wa L hC hd hLi hLa hLb HF O K hK
          clear hd
          have l17 : L 17 = false := (by first | exact hLi | exact hLb 8 17 (by kernel_rfl))
          have hbw := hC.1 l17
          have kw := KW.out.below hbw hrW
          have kl := kw.lt
          have k0 := kw.cell 0
          have k1 := kw.cell 1
          have f2 := (hbw.cell (p := ⟨q5, k * 2 + 1, none⟩) hq5W).trans D1.out
          have f3 := (hbw.cell (p := ⟨q7, k, none⟩) hq7W).trans D2.out
          have fz := own_fz (own_below HR7'.out hbw) k
          simp at k0 k1
          have h0 := O 0 (by kernel_rfl)
          try have g0 := Array.getD_eq_getD_getElem?.symm.trans h0
          go_simp
          exact hK _ _ (hC.keep 6 (by decide) l17 (Below.refl wa.heap.size wa)) (fun j d _ _ _ h => h) (fun _ => rfl)
        · intro act wa L hC hd hLi hLa hLb HF O K hK
          clear hd
          have l17 : L 17 = false := (by first | exact hLi | exact hLb 8 17 (by kernel_rfl))
          have hbw := hC.1 l17
          have kw := KW.out.below hbw hrW
          have kl := kw.lt
          have k0 := kw.cell 0
          have k1 := kw.cell 1
          have f2 := (hbw.cell (p := ⟨q5, k * 2 + 1, none⟩) hq5W).trans D1.out
          have f3 := (hbw.cell (p := ⟨q7, k, none⟩) hq7W).trans D2.out
          have fz := own_fz (own_below HR7'.out hbw) k
          simp at k0 k1
          have h60 := HF 6 60 (hLa 1 6 (by kernel_rfl)) rfl
          dsimp only [FU] at h60
          try have g60 := Array.getD_eq_getD_getElem?.symm.trans h60
          go_simp
          exact hK _ _ (hC.keep 7 (by decide) l17 (Below.refl wa.heap.size wa)) (fun j d _ _ _ h => h) (fun _ => rfl)
        · intro act wa L hC hd hLi hLa hLb HF O K hK
          clear hd
          have l17 : L 17 = false := (by first | exact hLi | exact hLb 8 17 (by kernel_rfl))
          have hbw := hC.1 l17
          have kw := KW.out.below hbw hrW
          have kl := kw.lt
          have k0 := kw.cell 0
          have k1 := kw.cell 1
          have f2 := (hbw.cell (p := ⟨q5, k * 2 + 1, none⟩) hq5W).trans D1.out
          have f3 := (hbw.cell (p := ⟨q7, k, none⟩) hq7W).trans D2.out
          have fz := own_fz (own_below HR7'.out hbw) k
          simp at k0 k1
          have h61 := HF 7 61 (hLa 1 7 (by kernel_rfl)) rfl
          dsimp only [FU] at h61
          try have g61 := Array.getD_eq_getD_getElem?.symm.trans h61
          go_simp
          exact hK _ _ (hC.keep 8 (by decide) l17 (Below.refl wa.heap.size wa)) (fun j d _ _ _ h => h) (fun _ => rfl)
        · intro act wa L hC hd hLi hLa hLb HF O K hK
          clear hd
          have l17 : L 17 = false := (by first | exact hLi | exact hLb 8 17 (by kernel_rfl))
          have hbw := hC.1 l17
          have kw := KW.out.below hbw hrW
          have kl := kw.lt
          have k0 := kw.cell 0
          have k1 := kw.cell 1
          have f2 := (hbw.cell (p := ⟨q5, k * 2 + 1, none⟩) hq5W).trans D1.out
          have f3 := (hbw.cell (p := ⟨q7, k, none⟩) hq7W).trans D2.out
          have fz := own_fz (own_below HR7'.out hbw) k
          simp at k0 k1
          have h62 := HF 8 62 (hLa 1 8 (by kernel_rfl)) rfl
          dsimp only [FU] at h62
          try have g62 := Array.getD_eq_getD_getElem?.symm.trans h62
          go_simp
          exact hK _ _ (hC.keep 9 (by decide) l17 (Below.refl wa.heap.size wa)) (fun j d _ _ _ h => h) (fun _ => rfl)
        · intro act wa L hC hd hLi hLa hLb HF O K hK
          clear hd
          have l17 : L 17 = false := (by first | exact hLi | exact hLb 8 17 (by kernel_rfl))
          have hbw := hC.1 l17
          have kw := KW.out.below hbw hrW
          have kl := kw.lt
          have k0 := kw.cell 0
          have k1 := kw.cell 1
          have f2 := (hbw.cell (p := ⟨q5, k * 2 + 1, none⟩) hq5W).trans D1.out
          have f3 := (hbw.cell (p := ⟨q7, k, none⟩) hq7W).trans D2.out
          have fz := own_fz (own_below HR7'.out hbw) k
          simp at k0 k1
          have h9 := O 9 (by kernel_rfl)
          try have g9 := Array.getD_eq_getD_getElem?.symm.trans h9
          go_simp
          exact hK _ _ (hC.keep 10 (by decide) l17 (Below.refl wa.heap.size wa)) (fun j d _ _ _ h => h) (fun _ => rfl)
        · intro act wa L hC hd hLi hLa hLb HF O K hK
          clear hd
          have l17 : L 17 = false := (by first | exact hLi | exact hLb 8 17 (by kernel_rfl))
          have hbw := hC.1 l17
          have kw := KW.out.below hbw hrW
          have kl := kw.lt
          have k0 := kw.cell 0
          have k1 := kw.cell 1
          have f2 := (hbw.cell (p := ⟨q5, k * 2 + 1, none⟩) hq5W).trans D1.out
          have f3 := (hbw.cell (p := ⟨q7, k, none⟩) hq7W).trans D2.out
          have fz := own_fz (own_below HR7'.out hbw) k
          simp at k0 k1
          have h63 := HF 9 63 (hLa 1 9 (by kernel_rfl)) rfl
          dsimp only [FU] at h63
          try have g63 := Array.getD_eq_getD_getElem?.symm.trans h63
          have h64 := HF 10 64 (hLa 1 10 (by kernel_rfl)) rfl
          dsimp only [FU] at h64
          try have g64 := Array.getD_eq_getD_getElem?.symm.trans h64
          go_simp
          exact hK _ _ (hC.keep 11 (by decide) l17 (Below.refl wa.heap.size wa)) (fun j d _ _ _ h => h) (fun _ => rfl)
        · intro act wa L hC hd hLi hLa hLb HF O K hK
          clear hd
          have l17 : L 17 = false := (by first | exact hLi | exact hLb 8 17 (by kernel_rfl))
          have hbw := hC.1 l17
          have kw := KW.out.below hbw hrW
          have kl := kw.lt
          have k0 := kw.cell 0
          have k1 := kw.cell 1
          have f2 := (hbw.cell (p := ⟨q5, k * 2 + 1, none⟩) hq5W).trans D1.out
          have f3 := (hbw.cell (p := ⟨q7, k, none⟩) hq7W).trans D2.out
          have fz := own_fz (own_below HR7'.out hbw) k
          simp at k0 k1
          have h65 := HF 11 65 (hLa 1 11 (by kernel_rfl)) rfl
          dsimp only [FU] at h65
          try have g65 := Array.getD_eq_getD_getElem?.symm.trans h65
          go_simp
          exact hK _ _ (hC.keep 12 (by decide) l17 (Below.refl wa.heap.size wa)) (fun j d _ _ _ h => h) (fun _ => rfl)
        · intro act wa L hC hd hLi hLa hLb HF O K hK
          clear hd
          have l17 : L 17 = false := (by first | exact hLi | exact hLb 8 17 (by kernel_rfl))
          have hbw := hC.1 l17
          have kw := KW.out.below hbw hrW
          have kl := kw.lt
          have k0 := kw.cell 0
          have k1 := kw.cell 1
          have f2 := (hbw.cell (p := ⟨q5, k * 2 + 1, none⟩) hq5W).trans D1.out
          have f3 := (hbw.cell (p := ⟨q7, k, none⟩) hq7W).trans D2.out
          have fz := own_fz (own_below HR7'.out hbw) k
          simp at k0 k1
          have h66 := HF 12 66 (hLa 1 12 (by kernel_rfl)) rfl
          dsimp only [FU] at h66
          try have g66 := Array.getD_eq_getD_getElem?.symm.trans h66
          go_simp
          exact hK _ _ (hC.keep 13 (by decide) l17 (Below.refl wa.heap.size wa)) (fun j d _ _ _ h => h) (fun _ => rfl)
        · intro act wa L hC hd hLi hLa hLb HF O K hK
          clear hd
          have l17 : L 17 = false := (by first | exact hLi | exact hLb 8 17 (by kernel_rfl))
          have hbw := hC.1 l17
          have kw := KW.out.below hbw hrW
          have kl := kw.lt
          have k0 := kw.cell 0
          have k1 := kw.cell 1
          have f2 := (hbw.cell (p := ⟨q5, k * 2 + 1, none⟩) hq5W).trans D1.out
          have f3 := (hbw.cell (p := ⟨q7, k, none⟩) hq7W).trans D2.out
          have fz := own_fz (own_below HR7'.out hbw) k
          simp at k0 k1
          have h59 := HF 5 59 (hLa 1 5 (by kernel_rfl)) rfl
          dsimp only [FU] at h59
          try have g59 := Array.getD_eq_getD_getElem?.symm.trans h59
          have h67 := HF 13 67 (hLa 1 13 (by kernel_rfl)) rfl
          dsimp only [FU] at h67
          try have g67 := Array.getD_eq_getD_getElem?.symm.trans h67
          go_simp
          refine (same_at wa A1 A c1 c ts bs _ _ nb nb be (MB.out.1.parts.1.below hbw) (MO.out.1.parts.1.below hbw) hnbm HTL.out HNB.out HBE.out).mono ?_
          rintro e w1 ⟨rfl, qq, rfl⟩
          exact hK _ _ (hC.keep 14 (by decide) l17 (drewN_below wa qq)) (fun j d _ _ _ h => h) (fun _ => rfl)
        · intro act wa L hC hd hLi hLa hLb HF O K hK
          clear hd
          have l17 : L 17 = false := (by first | exact hLi | exact hLb 8 17 (by kernel_rfl))
          have hbw := hC.1 l17
          have kw := KW.out.below hbw hrW
          have kl := kw.lt
          have k0 := kw.cell 0
          have k1 := kw.cell 1
          have f2 := (hbw.cell (p := ⟨q5, k * 2 + 1, none⟩) hq5W).trans D1.out
          have f3 := (hbw.cell (p := ⟨q7, k, none⟩) hq7W).trans D2.out
          have fz := own_fz (own_below HR7'.out hbw) k
          simp at k0 k1
          have h68 := HF 14 68 (hLa 1 14 (by kernel_rfl)) rfl
          dsimp only [FU] at h68
          try have g68 := Array.getD_eq_getD_getElem?.symm.trans h68
          go_simp
          exact hK _ _ (hC.keep 15 (by decide) l17 (Below.refl wa.heap.size wa)) (fun j d _ _ _ h => h) (fun _ => rfl)
        · intro act wa L hC hd hLi hLa hLb HF O K hK
          clear hd
          have l17 : L 17 = false := (by first | exact hLi | exact hLb 8 17 (by kernel_rfl))
          have hbw := hC.1 l17
          have kw := KW.out.below hbw hrW
          have kl := kw.lt
          have k0 := kw.cell 0
          have k1 := kw.cell 1
          have f2 := (hbw.cell (p := ⟨q5, k * 2 + 1, none⟩) hq5W).trans D1.out
          have f3 := (hbw.cell (p := ⟨q7, k, none⟩) hq7W).trans D2.out
          have fz := own_fz (own_below HR7'.out hbw) k
          simp at k0 k1
          have h57 := HF 3 57 (hLa 1 3 (by kernel_rfl)) rfl
          dsimp only [FU] at h57
          try have g57 := Array.getD_eq_getD_getElem?.symm.trans h57
          have h58 := HF 4 58 (hLa 1 4 (by kernel_rfl)) rfl
          dsimp only [FU] at h58
          try have g58 := Array.getD_eq_getD_getElem?.symm.trans h58
          go_simp
          exact hK _ _ (hC.keep 16 (by decide) l17 (Below.refl wa.heap.size wa)) (fun j d _ _ _ h => h) (fun _ => rfl)
        · intro act wa L hC hd hLi hLa hLb HF O K hK
          clear hd
          have l17 : L 17 = false := (by first | exact hLi | exact hLb 8 17 (by kernel_rfl))
          have hbw := hC.1 l17
          have kw := KW.out.below hbw hrW
          have kl := kw.lt
          have k0 := kw.cell 0
          have k1 := kw.cell 1
          have f2 := (hbw.cell (p := ⟨q5, k * 2 + 1, none⟩) hq5W).trans D1.out
          have f3 := (hbw.cell (p := ⟨q7, k, none⟩) hq7W).trans D2.out
          have fz := own_fz (own_below HR7'.out hbw) k
          simp at k0 k1
          have h70 := HF 16 70 (hLa 1 16 (by kernel_rfl)) rfl
          dsimp only [FU] at h70
          try have g70 := Array.getD_eq_getD_getElem?.symm.trans h70
          have h69 := HF 15 69 (hLa 1 15 (by kernel_rfl)) rfl
          dsimp only [FU] at h69
          try have g69 := Array.getD_eq_getD_getElem?.symm.trans h69
          go_simp
          exact hK undef _ (hC.store hLi) (fun j d _ _ _ h => h) (fun h => absurd rfl h)
      · intro us w' hC HF
        clear HF
        simp only [List.foldl]
        go_simp
        obtain ⟨LL, hLL, -, hst⟩ := hC
        obtain ⟨w0, hb0, hw0⟩ := hst (hLL 17 (by decide))
        have hset : ∀ (l : List Let) (x : Let), l[k]? = some x → l.set k x = l := fun l x hx => by
          refine List.ext_getElem? (fun j => ?_)
          rw [List.getElem?_set]
          split
          · next e => subst e; rw [if_pos (List.getElem?_eq_some_iff.1 hx).1]; exact hx.symm
          · rfl
        have hmk : (row.map (·.1))[k]? = some (to, bs) := by rw [List.getElem?_map, HX.out]; rfl
        have hR1 := (HR7.out.below hb0).setSp (k := k) (row' := row.set k ((to, bs), !be)) (!be) (by rw [List.map_set]; exact hset _ _ hmk) (by simp [bls, List.map_set])
        rw [← hw0] at hR1
        have hkr : k < row.length := by rw [HNR.out]; exact hk
        have mb1 := ((MB.out.below hb0).other (T := fun j => j = q7) (w' := w') hR1.2 (fun g o n c hv hn hj => MB.out.2 g o n c hv hn (.inl (.inr (by rw [hj]; rfl)))))
        have hR2 := hR1.1.setL (k := k) (row' := row.set k ((to, ts), !be)) (to := to) (bv := .slice A1 nb c1) (bs := ts) mb1 (by simpa using hkr) (by simp [List.map_set]) (by simp [bls, List.map_set])
        have hOF : Only (fun j => j = r) w ((w'.setCell ⟨q5, k * 2, none⟩ (.int .i64 to)).setCell ⟨q5, k * 2 + 1, none⟩ (.slice A1 nb c1)) := ((HO.out.trans (Only.of_below (S := fun j => j = r) hb0) (Sub.refl _ _)).trans hR1.2 (fun j hj => .inr (by rw [hj]; exact hwq.2))).trans hR2.2 (fun j hj => .inr (by rw [hj]; exact hwq.1))
        have HP := Lib.hid (show RRes w r X v0 true (row.set k ((to, ts), !be)) (.returned (.bool true)) ((w'.setCell ⟨q5, k * 2, none⟩ (.int .i64 to)).setCell ⟨q5, k * 2 + 1, none⟩ (.slice A1 nb c1)) from
          ⟨rfl, _, _, hR2.1, hOF, fun _ j hj => (by simp [Value.ownBlock] at hj; omega), fun j hj => .inr (by simp [Value.ownBlock] at hj; omega)⟩)
        have o5 := own_below HR5.out hb0
        have o5' : w'.ownsRow w1.heap.size 103 2 (.slice (some ⟨q5, 0, none⟩) nr c5) nr (fl2 ms) := hR1.2.own o5 (fun j hj hjq => own_apart HR5.out HR7'.out (by decide) j hj (by rw [hjq]; rfl))
        have kk := hR1.1.1
        have kl := kk.lt
        have e0 := kk.cell 0
        have ez0 := own_fz o5' (k * 2)
        have ez1 := own_fz o5' (k * 2 + 1)
        have hne57 : q5 ≠ q7 := fun e => own_apart HR5.out HR7'.out (by decide) q5 rfl (by rw [e]; rfl)
        have x0 : w'.cell? ⟨q5, k * 2, none⟩ = some (.int .i64 to) := by
          rw [hw0, World.cell?_setCell_other _ _ _ _ (by simp [hne57])]
          exact (hb0.cell (p := ⟨q5, k * 2, none⟩) hq5W).trans D0.out
        have x1 : w'.cell? ⟨q5, k * 2 + 1, none⟩ = some (.slice A nb c) := by
          rw [hw0, World.cell?_setCell_other _ _ _ _ (by simp [hne57])]
          exact (hb0.cell (p := ⟨q5, k * 2 + 1, none⟩) hq5W).trans D1.out
        have hqw' : q5 < w'.heap.size := own_lt o5' q5 rfl
        simp at e0
        clear hst hLL hR1 hR2 hOF mb1 o5 o5' kk hset hw0
        go_wp2
        go_still_tail 16, (by kernel_rfl)
        change wpList _ _ _ _ _ w'.drew
        go_wp2
        go_ret
        exact HP.out
end Go.Proofs.Ytahichieakdbnaa

/- net: bytes.Equal, Turn. -/
import Derived.Test.YtahichieakdbnaaNw
import Derived.Test.YtahichieakdbnaaStr
import Derived.Test.YtahichieakdbnaaBas
namespace Go.Proofs.Ytahichieakdbnaa
open Go.ChangeShapes Go.WideShapes Go.ChangeAt Go.RowKit Go.Maps
set_option linter.unusedVariables false
set_option linter.unusedSimpArgs false

theorem str_inj {a b : List Nat} (ha : ∀ x ∈ a, x < 256) (hb : ∀ x ∈ b, x < 256) (h : str a = str b) : a = b := by rw [← sb_str ha, ← sb_str hb, h]
set_option maxHeartbeats 1000000 in
theorem BEq_any (w : World) (A1 A2 : Option Addr) (n1 n2 c1 c2 B1 B2 : Nat) (bs ds : List Nat) (h1 : Rd w B1 A1 (u8s bs)) (h2 : Rd w B2 A2 (u8s ds)) (hn1 : bs.length = n1) (hn2 : ds.length = n2) (hb : ∀ x ∈ bs, x < 256) (hd : ∀ x ∈ ds, x < 256) :
    Calls Try.prog 89 #[.slice A1 n1 c1, .slice A2 n2 c2] w (fun e w' => e = .returned (.bool (decide (bs = ds))) ∧ w = w') := by
  have s1 := run_str (P := Try.prog) w (src := 32) (dst := 9) (e := 5) (c := c1) Try.underlying32 Try.underlying5 Try.underlying9 h1 hn1
  have s2 := run_str (P := Try.prog) w (src := 32) (dst := 9) (e := 5) (c := c2) Try.underlying32 Try.underlying5 Try.underlying9 h2 hn2
  by_cases h : bs = ds
  · subst h
    obtain ⟨s, hs⟩ : ∃ s, str bs = s := ⟨_, rfl⟩
    rw [hs] at s1 s2
    clear h1 h2 hn1 hn2 hb hd hs
    go_enter Try.func89, Try.ntmps89
    go_wp2
    go_ret
    exact ⟨by simp, rfl⟩
  · have hne : str bs ≠ str ds := fun hh => h (str_inj hb hd hh)
    have hbn := bas_ne hne
    have hdf := decide_eq_false h
    obtain ⟨s, hs⟩ : ∃ s, str bs = s := ⟨_, rfl⟩
    obtain ⟨t, ht⟩ : ∃ t, str ds = t := ⟨_, rfl⟩
    rw [hs] at s1 hbn; rw [ht] at s2 hbn
    have HD := Lib.hid hdf
    clear h1 h2 hn1 hn2 hb hd hs ht h hne hdf
    go_enter Try.func89, Try.ntmps89
    go_wp2
    go_ret
    exact ⟨by rw [HD.out]; rfl, rfl⟩
theorem own_setS {w : World} {base n c r i sz : Nat} {e : TypeId} {xs : List Value} {u : Value} (h : w.ownsRow base e sz (.slice (some ⟨r, 0, none⟩) n c) n xs) :
    (w.setCell ⟨r, i, none⟩ u).ownsRow base e sz (.slice (some ⟨r, 0, none⟩) n c) n (xs.set i u) := by
  refine ⟨by simpa using h.1, ?_⟩
  rcases h.2 with ⟨h2, _⟩ | ⟨g, cap, cur, hv, hb, hh, hnc, hcm, hs, ht⟩
  · cases h2
  · injection hv with h1 h2 h3
    injection h1 with h1
    injection h1 with h1 _
    subst h1 h3
    refine .inr ⟨r, c, cur.setIfInBounds i u, rfl, hb, ?_, hnc, hcm, by simpa using hs, ?_⟩
    · simp [World.setCell, Array.getElem?_modify, hh]
    · rw [Array.toList_setIfInBounds, List.take_set, ht]
theorem fl3_set : ∀ (ms : Mrow) (k : Nat) (to : Int) (v v' : Value) (b b' : Bool), ms[k]? = some (to, v, b) → fl3 (ms.set k (to, v', b')) = ((fl3 ms).set (k * 3 + 2) (.bool b')).set (k * 3 + 1) v'
  | [], k, to, v, v', b, b', h => by simp at h
  | m :: ms, 0, to, v, v', b, b', h => by
    simp at h
    subst h
    simp [fl3]
  | m :: ms, k + 1, to, v, v', b, b', h => by
    rw [List.set_cons_succ, fl3_cons, fl3_cons, fl3_set ms k to v v' b b' (by simpa using h)]
    rw [List.set_append_right _ _ (by simp; omega), List.set_append_right _ _ (by simp; omega)]
    congr 2
    · congr 1
      simp; omega
    · simp; omega
theorem turn_end {w w1 : World} {g q cp k : Nat} {S : Nat → Prop} {Q : Value → Prop} {row : List Snt} {ms : Mrow} {to : Int} {bs ts : List Nat} {v0 : Value} {A1 : Option Addr} {c1 : Nat} {sp b' : Bool}
    (h1 : Blk w g 138 #[.slice (some ⟨q, 0, none⟩) row.length cp]) (h2 : w.ownsRow 0 141 3 (.slice (some ⟨q, 0, none⟩) row.length cp) row.length (fl3 ms)) (h3 : NRow w S ms row) (h4 : ∀ j, S j ↔ (j = g ∨ q = j)) (hqg : q ≠ g)
    (hr : row[k]? = some ((to, bs), sp)) (hm : ms[k]? = some (to, v0, sp)) (hb : Below w.heap.size w w1) (hmd : Made w1 (.slice A1 ts.length c1) ts ts.length) (hf : Fre w (fun _ => False) (.slice A1 ts.length c1)) (hQ : ∀ (j : Nat) (m : Int × Value × Bool), ms[j]? = some m → Q m.2.1) (hQn : Q (.slice A1 ts.length c1)) :
    NetQ ((w1.setCell ⟨q, k * 3 + 2, none⟩ (.bool b')).setCell ⟨q, k * 3 + 1, none⟩ (.slice A1 ts.length c1)) g S Q (row.set k ((to, ts), b')) ∧ Turned w S S ((w1.setCell ⟨q, k * 3 + 2, none⟩ (.bool b')).setCell ⟨q, k * 3 + 1, none⟩ (.slice A1 ts.length c1)) := by
  have hgl := h1.lt
  have hSq : S q := (h4 q).2 (.inr rfl)
  have hql := own_lt h2 q rfl
  have hO : Only S w ((w1.setCell ⟨q, k * 3 + 2, none⟩ (.bool b')).setCell ⟨q, k * 3 + 1, none⟩ (.slice A1 ts.length c1)) := ((Only.of_below (S := S) hb).set hSq _ _).set hSq _ _
  have hT : Turned w S S ((w1.setCell ⟨q, k * 3 + 2, none⟩ (.bool b')).setCell ⟨q, k * 3 + 1, none⟩ (.slice A1 ts.length c1)) := ⟨Sub.refl _ _, hO⟩
  have hne : ∀ b o n' c', Value.slice A1 ts.length c1 = .slice (some ⟨b, o, none⟩) n' c' → ¬ S b := fun b o n' c' hv hs => by
    have := (hf b o n' c' hv).1
    rcases (h4 b).1 hs with rfl | rfl <;> omega
  have hmo : MadeO w1 S (.slice A1 ts.length c1) ts ts.length := ⟨hmd, fun b o n' c' hv _ => hne b o n' c' hv⟩
  have hmo2 := hmo.other (((Only.refl (fun j => j = q) w1).set rfl (k * 3 + 2) (.bool b')).set rfl (k * 3 + 1) (.slice A1 ts.length c1)) (fun b o n' c' hv _ hj => hne b o n' c' hv (by rw [hj]; exact hSq))
  have ho := own_setS (i := k * 3 + 1) (u := .slice A1 ts.length c1) (own_setS (i := k * 3 + 2) (u := .bool b') (own_below h2 hb))
  rw [← fl3_set ms k to v0 (.slice A1 ts.length c1) sp b' hm] at ho
  refine ⟨⟨_, ms.set k (to, .slice A1 ts.length c1, b'), ((h1.below hb hgl).far (p := ⟨q, _, none⟩) (fun h => hqg h.symm) _).far (p := ⟨q, _, none⟩) (fun h => hqg h.symm) _, by simpa using ho, (h3.turn hT).set k rfl rfl hmo2, fun j => (h4 j).trans (by simp [Value.ownBlock]), fun j m hm' => ?_⟩, hT⟩
  rw [List.getElem?_set] at hm'
  split at hm'
  · split at hm'
    · injection hm' with hm'; subst hm'; exact hQn
    · cases hm'
  · exact hQ j m hm'
set_option maxHeartbeats 3000000 in
set_option maxRecDepth 100000 in
theorem NTurnQ_any (w : World) (g : Nat) (S : Nat → Prop) (Q : Value → Prop) (row : List Snt) (i p : Int) (mask : Nat) (h : NetQ w g S Q row) (hQN : QNew w Q) (hi0 : -9223372036854775808 ≤ i) (hi1 : i ≤ 9223372036854775807) (hp0 : -9223372036854775808 ≤ p) (hp1 : p ≤ 9223372036854775807) (hm : mask < 4294967296) (hrl : row.length ≤ 64) (hbl : ∀ x ∈ row, x.1.2.length ≤ 1099511627776) :
    Calls Try.prog 62 #[.pointer (some ⟨g, 0, none⟩), .int .i64 i, .int .i64 p, .int .u32 (mask : Int)] w (NResQ w g S Q (Nm.trn row i p mask)) := by
  have HQN := Lib.hid hQN; clear hQN
  have HM := Lib.hid h
  have HC := Lib.hid (plc_any w g S row i h.toM hi0 hi1 hrl)
  unfold PlcPost at HC
  unfold Nm.trn
  cases hp : Nm.plc row i with
  | none =>
    rw [hp] at HC
    simp only at HC ⊢
    clear h hp
    go_enter Try.func62, Try.ntmps62
    go_wp2_with fail
    refine HC.out.mono ?_
    rintro en w1 ⟨rfl, rfl⟩
    go_wp2
    go_ret
    exact ⟨rfl, S, HM.out, Turned.refl w S⟩
  | some k =>
    rw [hp] at HC
    simp only at HC ⊢
    obtain ⟨hk, -, -⟩ := Nm.plc_lt hp
    obtain ⟨v, ms, h1, h2, h3, h4, h5Q⟩ := h
    have HQQ := Lib.hid h5Q; clear h5Q
    obtain ⟨to, A, c, bs, sp, e1, e2, e3⟩ := h3.of_key hk
    obtain ⟨q, cp, rfl, -, hql⟩ := h2.form (by omega)
    have hqg : q ≠ g := own_ne_blk h2 h1 (by decide) q rfl
    have hgl := h1.lt
    have hc := fl3_get ms k _ e2
    have hcell := fun j u hu => (addk q (k * 3 + j)) ▸ h2.cells (g := q) rfl (k * 3 + j) u (hc j u hu)
    have b1 := hcell 1 _ rfl
    have b2 := hcell 2 _ rfl
    have a0 : w.cell? ⟨g, 0, none⟩ = some (.slice (some ⟨q, 0, none⟩) row.length cp) := h1.cell 0
    have hx : row[k]?.getD Nm.s0 = ((to, bs), sp) := by rw [e1]; rfl
    rw [hx]
    have hkI : (k : Int) < (row.length : Int) := by omega
    have h4' : ∀ j, S j ↔ (j = g ∨ q = j) := fun j => (h4 j).trans (by simp [Value.ownBlock])
    cases sp with
    | true =>
      simp only [if_true]
      clear h1 h2 h3 h4 h4' e1 e2 e3 hx hp hc hcell
      go_enter Try.func62, Try.ntmps62
      go_wp2_with fail
      refine HC.out.mono ?_
      rintro en w1 ⟨rfl, rfl⟩
      go_wp2
      go_ret
      exact ⟨rfl, S, HM.out, Turned.refl w S⟩
    | false =>
      simp only [Bool.false_eq_true, if_false]
      obtain ⟨hr, hnc, hcm, hno, h256⟩ := e3.1.parts
      have hbs : bs.length ≤ 1099511627776 := hbl ((to, bs), false) (List.mem_of_getElem? e1)
      obtain ⟨n, hn⟩ : ∃ n, bs.length = n := ⟨_, rfl⟩
      have HT := Lib.hid (Turn_any w A n c bs p mask hr h256 hn (by omega) hno hp0 hp1 hm)
      rw [hn] at b1
      have H1 := Lib.hid h1; have H2 := Lib.hid h2; have H3 := Lib.hid h3; have H4 := Lib.hid h4'; have E1 := Lib.hid e1; have E2 := Lib.hid e2; have HRD := Lib.hid hr; have HNN := Lib.hid hn; have H256 := Lib.hid h256
      clear h1 h2 h3 h4 h4' e1 e2 e3 hx hp hc hcell hr h256 hn hno hnc hbs
      go_enter Try.func62, Try.ntmps62
      go_wp2_with fail
      refine HC.out.mono ?_
      rintro en w1 ⟨rfl, rfl⟩
      go_wp2_with fail
      refine HT.out.mono ?_
      rintro en w1 ⟨v', rfl, ho, hb⟩
      obtain ⟨A1, c1, rfl⟩ := own_sl ho
      have hfr : Fre w (fun _ => False) (.slice A1 bs.length c1) := fun g o n c hv => ⟨(ho.lt g (by rw [hv]; rfl)).1, fun h => h⟩
      have hmd := made_of_own ho (Cm.turn_length bs p mask) (Cm.turn_byte H256.out p mask)
      obtain ⟨ts, hts⟩ : ∃ ts, Cm.turn bs p mask = ts := ⟨_, rfl⟩
      have HTS := Lib.hid hts
      rw [hts] at hmd ho
      have htl : ts.length = n := by rw [← hts, Cm.turn_length, HNN.out]
      have htb : ∀ x ∈ ts, x < 256 := by rw [← hts]; exact Cm.turn_byte H256.out p mask
      rw [HNN.out] at hmd hfr
      have HMD := Lib.hid hmd; have HFR := Lib.hid hfr; have HTL := Lib.hid htl; have HTB := Lib.hid htb; have HB := Lib.hid hb
      have k1 := H1.out.below hb hgl
      have o1 := own_below H2.out hb
      have hc := fl3_get ms k _ E2.out
      have hcell := fun j u hu => (addk q (k * 3 + j)) ▸ o1.cells (g := q) rfl (k * 3 + j) u (hc j u hu)
      have d1 := hcell 1 _ rfl
      have d2 := hcell 2 _ rfl
      have d0 : w1.cell? ⟨g, 0, none⟩ = some (.slice (some ⟨q, 0, none⟩) row.length cp) := k1.cell 0
      have fz : ∀ i, w1.frozen? ⟨q, i, none⟩ = false := by
        rcases o1.2 with ⟨h2, _⟩ | ⟨g', cap, cur, hv, _, hh, _⟩
        · cases h2
        · injection hv with h5 _ _
          injection h5 with h5
          injection h5 with h5 _
          subst h5
          exact fun i => Blk.frozen (t := 141) (cs := cur) hh i
      have f1 := fz (k * 3 + 1)
      have f2 := fz (k * 3 + 2)
      simp only [HNN.out] at d1 ⊢
      have HBE := Lib.hid (BEq_any w1 A1 A n n c1 c _ _ ts bs hmd.parts.1 ((HRD.out.below hb).more hb.size) htl HNN.out htb H256.out)
      clear hb k1 o1 hc hcell fz hmd hfr ho hts htl htb b1 b2 a0
      go_wp2_with fail
      refine HBE.out.mono ?_
      rintro en w2 ⟨rfl, rfl⟩
      obtain ⟨be, hbe⟩ : ∃ be, decide (ts = bs) = be := ⟨_, rfl⟩
      have HBQ := Lib.hid hbe
      rw [hbe]
      have HTE := Lib.hid (turn_end (b' := !be) H1.out H2.out H3.out H4.out hqg E1.out E2.out HB.out (ts := ts) (A1 := A1) (c1 := c1) (by rw [HTL.out]; exact HMD.out) (by rw [HTL.out]; exact HFR.out) HQQ.out (HQN.out _ (by rw [HTL.out]; exact HFR.out)))
      rw [HTL.out] at HTE
      clear hbe
      go_wp2
      go_ret
      refine ⟨rfl, S, ?_, HTE.out.2⟩
      simp only [HTS.out, HBQ.out]
      exact HTE.out.1
theorem NTurn_any (w : World) (g : Nat) (S : Nat → Prop) (row : List Snt) (i p : Int) (mask : Nat) (h : NetM w g S row) (hi0 : -9223372036854775808 ≤ i) (hi1 : i ≤ 9223372036854775807) (hp0 : -9223372036854775808 ≤ p) (hp1 : p ≤ 9223372036854775807) (hm : mask < 4294967296) (hrl : row.length ≤ 64) (hbl : ∀ x ∈ row, x.1.2.length ≤ 1099511627776) :
    Calls Try.prog 62 #[.pointer (some ⟨g, 0, none⟩), .int .i64 i, .int .i64 p, .int .u32 (mask : Int)] w (NRes w g S (Nm.trn row i p mask)) :=
  (NTurnQ_any w g S (fun _ => True) row i p mask h.toT (fun _ _ => trivial) hi0 hi1 hp0 hp1 hm hrl hbl).mono (fun _ _ h => h.toM)
end Go.Proofs.Ytahichieakdbnaa

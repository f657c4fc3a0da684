/- mark: the search. -/
import Derived.Test.YtjaifieakcnlmaaMa
import Derived.BigQuiet
namespace Go.Proofs.Ytjaifieakcnlmaa
open Go.ChangeShapes Go.WideShapes Go.ChangeAt Go.RowKit Go.Maps
set_option linter.unusedVariables false
set_option linter.unusedSimpArgs false

def cmpI (a b : Int) : Int := if a < b then -1 else if b < a then 1 else 0
set_option maxHeartbeats 1000000 in
theorem Compare_any (w : World) (a b : Int) : Calls Try.prog 22 #[.int .i64 a, .int .i64 b] w (fun en w' => en = .returned (.int .i64 (cmpI a b)) ∧ w' = w) := by
  have e1 : (a != a) = false := by simp
  have e2 : (b != b) = false := by simp
  unfold cmpI
  by_cases h : a < b
  · rw [if_pos h]
    go_enter Try.func22, Try.ntmps22
    go_wp2
    go_ret
    exact ⟨rfl, rfl⟩
  · rw [if_neg h]
    by_cases h2 : b < a
    · rw [if_pos h2]
      go_enter Try.func22, Try.ntmps22
      go_wp2
      go_ret
      exact ⟨rfl, rfl⟩
    · rw [if_neg h2]
      go_enter Try.func22, Try.ntmps22
      go_wp2
      go_ret
      exact ⟨rfl, rfl⟩
set_option maxHeartbeats 1000000 in
theorem against_any (w : World) (x y z s : Int) : Calls Try.prog 21 #[.agg #[.int .i64 x, .int .i64 y, .int .i64 z], .int .i64 s] w (fun en w' => en = .returned (.int .i64 (cmpI x s)) ∧ Below w.heap.size w w') := by
  have HB := Lib.hid ((Below.refl w.heap.size w).alloc (Nat.le_refl _) (.cells #[.int .i64 x, .int .i64 y, .int .i64 z] 29))
  have HC := fun W => Lib.hid (Compare_any W x s)
  go_enter Try.func21, Try.ntmps21
  go_wp2_with fail
  refine (HC _).out.mono ?_
  rintro en w1 ⟨rfl, hw⟩
  rw [hw]; clear hw w1
  go_wp2
  go_ret
  exact ⟨rfl, HB.out⟩
theorem cmpI_lt {a b : Int} : cmpI a b < 0 ↔ a < b := by
  unfold cmpI
  split
  · simp_all
  · split <;> simp_all <;> omega
theorem cmpI_eq {a b : Int} : cmpI a b = 0 ↔ a = b := by
  unfold cmpI
  split
  · simp; omega
  · split
    · simp; omega
    · simp; omega
theorem Ris.mono {ms : List Mk} (h : Ris ms) {i j : Nat} {a b : Mk} (hij : i ≤ j) (ha : ms[i]? = some a) (hb : ms[j]? = some b) : a.1 ≤ b.1 := by
  rcases Nat.lt_or_ge i j with h1 | h1
  · exact Int.le_of_lt (h.2 i j a b h1 ha hb)
  · obtain rfl : i = j := by omega
    rw [ha] at hb
    injection hb with hb
    rw [hb]
    exact Int.le_refl _
set_option maxHeartbeats 3000000 in
set_option maxRecDepth 100000 in
theorem BS_any (w : World) (A : Option Addr) (n c B : Nat) (ms : List Mk) (s : Int) (hr : Rd w B A (flm ms)) (hn : ms.length = n) (hcap : n ≤ c) (hl : n ≤ 1000000) (hris : Ris ms) (hB : B ≤ w.heap.size) :
    Calls Try.prog 20 #[.slice A n c, .int .i64 s, .func (.func 21) #[] #[]] w
      (fun en w' => en = .returned (.tuple #[.int .i64 (ltc ms s : Int), .bool (decide (∃ m, ms[ltc ms s]? = some m ∧ m.1 = s))]) ∧ Below w.heap.size w w') := by
  have HR := Lib.hid hr; have HN := Lib.hid hn; have HRI := Lib.hid hris
  clear hr hn hris
  go_enter Try.func20, Try.ntmps20
  go_wp2
  go_loopw [9, 10] (fun s9 s10 wr => ∃ i j : Nat, s9 = .int .i64 (i : Int) ∧ s10 = .int .i64 (j : Int) ∧ i ≤ j ∧ j ≤ n ∧ Hid (∀ (k : Nat) (m : Mk), k < i → ms[k]? = some m → m.1 < s) ∧ Hid (∀ (k : Nat) (m : Mk), j ≤ k → ms[k]? = some m → s ≤ m.1) ∧ Below w.heap.size w wr) (fun s9 s10 _ => (intOf s10).toNat - (intOf s9).toNat)
  case atStart => exact ⟨0, n, rfl, rfl, Nat.zero_le _, Nat.le_refl _, Lib.hid (fun k m h => absurd h (by omega)), Lib.hid (fun k m h hm => absurd (List.getElem?_eq_some_iff.1 hm).1 (by rw [HN.out]; omega)), Below.refl _ _⟩
  case round =>
    obtain ⟨i, j, rfl, rfl, hij, hjn, H1, H2, hb⟩ := hrel
    have HB := Lib.hid hb; clear hb
    by_cases hlt : i < j
    · have hltI : (i : Int) < (j : Int) := by omega
      obtain ⟨h, hh⟩ : ∃ h, h = (i + j) / 2 := ⟨_, rfl⟩
      have hhi : i ≤ h := by omega
      have hhj : h < j := by omega
      obtain ⟨m, hm⟩ : ∃ m, ms[h]? = some m := ⟨_, List.getElem?_eq_getElem (by rw [HN.out]; omega)⟩
      obtain ⟨g, o, rfl, hg, hc⟩ := HR.out (by intro e; have := congrArg List.length e; rw [flm_length, HN.out] at this; simp at this; omega)
      obtain ⟨f1, f2, f3⟩ := flm_at hm
      have hbe := HB.out.cell (p := ⟨g, 0, none⟩) (by show g < w.heap.size; omega)
      have c1 := (HB.out.cell (p := ⟨g, o + h * 3, none⟩) (by show g < w.heap.size; omega)).trans (hc _ _ f1)
      have c2 := (HB.out.cell (p := ⟨g, o + h * 3 + 1, none⟩) (by show g < w.heap.size; omega)).trans (hc _ _ f2)
      have c3 := (HB.out.cell (p := ⟨g, o + h * 3 + 2, none⟩) (by show g < w.heap.size; omega)).trans (hc _ _ f3)
      clear hc f1 f2 f3 hbe
      have HM := Lib.hid hm
      have HHI := Lib.hid hhi; have HHJ := Lib.hid hhj; have HH := Lib.hid hh
      rw [hh] at c1 c2 c3
      clear hm hhi hhj hh
      obtain ⟨m1, m2, m3⟩ := m
      simp only at c1 c2 c3
      go_wp2_with fail
      refine (against_any wr m1 m2 m3 s).mono ?_
      rintro en w2 ⟨rfl, hb2⟩
      have HB2 : Hid (Below w.heap.size w w2) := Lib.hid (HB.out.trans (hb2.mono HB.out.size))
      clear hb2
      by_cases hms : m1 < s
      · have e1 : cmpI m1 s < 0 := cmpI_lt.2 hms
        have R1 : Hid (∀ (k : Nat) (m : Mk), k < h + 1 → ms[k]? = some m → m.1 < s) := Lib.hid (fun k m hk hkm => by
          have h9 := HRI.out.mono (i := k) (j := h) (by omega) hkm HM.out
          simp only at h9
          omega)
        go_wp2
        go_roundw
        case rel => exact ⟨h + 1, j, by have := HH.out; first | (congr 1; omega) | go_num, by first | rfl | go_num, by have := HHJ.out; omega, hjn, R1, H2, HB2.out⟩
        case measure => simp [intOf]; have := HH.out; have := HHJ.out; have := HHI.out; omega
      · have e1 : ¬ cmpI m1 s < 0 := fun h => hms (cmpI_lt.1 h)
        have R1 : Hid (∀ (k : Nat) (m : Mk), h ≤ k → ms[k]? = some m → s ≤ m.1) := Lib.hid (fun k m hk hkm => by
          have h9 := HRI.out.mono (i := h) (j := k) hk HM.out hkm
          simp only at h9
          omega)
        go_wp2
        go_roundw
        case rel => exact ⟨i, h, by first | rfl | go_num, by have := HH.out; first | (congr 1; omega) | go_num, HHI.out, by have := HHJ.out; omega, H1, R1, HB2.out⟩
        case measure => simp [intOf]; have := HH.out; have := HHJ.out; have := HHI.out; omega
    · obtain rfl : i = j := by omega
      have hcount : ltc ms s = i := countP_split _ (by rw [HN.out]; exact hjn) (fun k m hk hm => by simpa using H1.out k m hk hm) (fun k m hk hm => by simp; exact H2.out k m hk hm)
      have HC := Lib.hid hcount
      clear hcount
      by_cases hin : i < n
      · have hinI : (i : Int) < (n : Int) := by omega
        obtain ⟨m, hm⟩ : ∃ m, ms[i]? = some m := ⟨_, List.getElem?_eq_getElem (by rw [HN.out]; omega)⟩
        obtain ⟨g, o, rfl, hg, hc⟩ := HR.out (by intro e; have := congrArg List.length e; rw [flm_length, HN.out] at this; simp at this; omega)
        obtain ⟨f1, f2, f3⟩ := flm_at hm
        have c1 := (HB.out.cell (p := ⟨g, o + i * 3, none⟩) (by show g < w.heap.size; omega)).trans (hc _ _ f1)
        have c2 := (HB.out.cell (p := ⟨g, o + i * 3 + 1, none⟩) (by show g < w.heap.size; omega)).trans (hc _ _ f2)
        have c3 := (HB.out.cell (p := ⟨g, o + i * 3 + 2, none⟩) (by show g < w.heap.size; omega)).trans (hc _ _ f3)
        clear hc f1 f2 f3
        have HM := Lib.hid hm
        clear hm
        obtain ⟨m1, m2, m3⟩ := m
        simp only at c1 c2 c3
        go_wp2_with fail
        refine (against_any wr m1 m2 m3 s).mono ?_
        rintro en w2 ⟨rfl, hb2⟩
        have HB2 : Hid (Below w.heap.size w w2) := Lib.hid (HB.out.trans (hb2.mono HB.out.size))
        clear hb2
        have hdec : decide (∃ m, ms[ltc ms s]? = some m ∧ m.1 = s) = (cmpI m1 s == 0) := by
          rw [HC.out]
          by_cases he : m1 = s
          · have h1 : (cmpI m1 s == 0) = true := by simp [cmpI_eq.2 he]
            rw [h1]
            exact decide_eq_true ⟨_, HM.out, he⟩
          · have h1 : (cmpI m1 s == 0) = false := by
              simp only [beq_eq_false_iff_ne, ne_eq]
              exact fun h => he (cmpI_eq.1 h)
            rw [h1]
            refine decide_eq_false ?_
            rintro ⟨m', h2, h3⟩
            rw [HM.out] at h2
            injection h2 with h2
            subst h2
            exact he h3
        have HDE := Lib.hid hdec
        clear hdec
        go_wp2
        go_ret2
        refine ⟨?_, HB2.out⟩
        rw [HDE.out, HC.out]
        first | rfl | simp
      · obtain rfl : i = n := by omega
        have hdec : decide (∃ m, ms[ltc ms s]? = some m ∧ m.1 = s) = false := by
          refine decide_eq_false ?_
          rintro ⟨m', h2, h3⟩
          rw [HC.out] at h2
          have := (List.getElem?_eq_some_iff.1 h2).1
          rw [HN.out] at this
          omega
        have HDE := Lib.hid hdec
        clear hdec
        go_wp2
        go_ret2
        refine ⟨?_, HB.out⟩
        rw [HDE.out, HC.out]
        rfl
end Go.Proofs.Ytjaifieakcnlmaa

/- mark: place, Find, New, Add. -/
import Derived.Test.YtjaifieakcnlmaaMb
import Derived.StillTailTactics
namespace Go.Proofs.Ytjaifieakcnlmaa
open Go.ChangeShapes Go.WideShapes Go.ChangeAt Go.RowKit Go.Maps
set_option linter.unusedVariables false
set_option linter.unusedSimpArgs false

theorem own_capM {w : World} {base n c : Nat} {e : TypeId} {s : Nat} {A : Option Addr} {xs : List Value} (h : w.ownsRow base e s (.slice A n c) n xs) : n ≤ c := by
  rcases h.2 with ⟨h1, h0⟩ | ⟨g, cap, cur, hv, hb, hh, hnc, _⟩
  · omega
  · injection hv with e1 e2 e3
    omega
theorem below_set9 {B : Nat} {w0 w : World} (h : Below B w0 w) {g : Nat} (hg : B ≤ g) (i : Nat) (u : Value) : Below B w0 (w.setCell ⟨g, i, none⟩ u) := by
  refine ⟨h.os, h.tape, h.output, by simpa [World.setCell] using h.size, fun j hj => (Below.heap_setCell w ⟨g, i, none⟩ u j (by show j ≠ g; omega)).trans (h.block j hj)⟩
theorem ltc_split {ms : List Mk} (h : Ris ms) (s : Int) : ltc ms s ≤ ms.length ∧ (∀ (k : Nat) (m : Mk), k < ltc ms s → ms[k]? = some m → m.1 < s) ∧ ∀ (k : Nat) (m : Mk), ltc ms s ≤ k → ms[k]? = some m → s ≤ m.1 := by
  induction ms with
  | nil => exact ⟨Nat.le_refl _, fun k m _ h => by simp at h, fun k m _ h => by simp at h⟩
  | cons a l ih =>
    have hl : Ris l := ⟨fun m hm => h.1 m (List.mem_cons_of_mem _ hm), fun i j x y hij hx hy => h.2 (i + 1) (j + 1) x y (by omega) (by simpa using hx) (by simpa using hy)⟩
    obtain ⟨h1, h2, h3⟩ := ih hl
    by_cases ha : a.1 < s
    · have e : ltc (a :: l) s = ltc l s + 1 := by simp [ltc, List.countP_cons, ha]
      rw [e]
      refine ⟨by simpa using h1, fun k m hk hm => ?_, fun k m hk hm => ?_⟩
      · cases k with
        | zero => simp at hm; subst hm; exact ha
        | succ k => exact h2 k m (by omega) (by simpa using hm)
      · cases k with
        | zero => omega
        | succ k => exact h3 k m (by omega) (by simpa using hm)
    · have e0 : ltc l s = 0 := by
        rw [ltc, List.countP_eq_zero]
        intro x hx
        obtain ⟨i, hi⟩ := List.getElem?_of_mem hx
        have := h.2 0 (i + 1) a x (by omega) rfl (by simpa using hi)
        simp; omega
      have e : ltc (a :: l) s = 0 := by
        have : ltc (a :: l) s = ltc l s := by simp [ltc, List.countP_cons, ha]
        rw [this, e0]
      rw [e]
      refine ⟨Nat.zero_le _, fun k m hk => absurd hk (by omega), fun k m hk hm => ?_⟩
      cases k with
      | zero => simp at hm; subst hm; omega
      | succ k => exact h3 k m (by omega) (by simpa using hm)
theorem lec_of {ms : List Mk} (h : Ris ms) (s : Int) : lec ms s = if (∃ m, ms[ltc ms s]? = some m ∧ m.1 = s) then ltc ms s + 1 else ltc ms s := by
  obtain ⟨h1, h2, h3⟩ := ltc_split h s
  by_cases he : ∃ m, ms[ltc ms s]? = some m ∧ m.1 = s
  · rw [if_pos he]
    obtain ⟨m, hm, hms⟩ := he
    refine countP_split _ (List.getElem?_eq_some_iff.1 hm).1 (fun k x hk hx => ?_) (fun k x hk hx => ?_)
    · rcases Nat.lt_or_ge k (ltc ms s) with h9 | h9
      · have := h2 k x h9 hx
        simp; omega
      · obtain rfl : k = ltc ms s := by omega
        rw [hm] at hx
        injection hx with hx
        subst hx
        simp; omega
    · have := h.2 (ltc ms s) k m x (by omega) hm hx
      simp; omega
  · rw [if_neg he]
    refine countP_split _ h1 (fun k x hk hx => ?_) (fun k x hk hx => ?_)
    · have := h2 k x hk hx
      simp; omega
    · have h4 := h3 k x hk hx
      have h5 : x.1 ≠ s := by
        intro e
        rcases Nat.lt_or_ge (ltc ms s) k with h9 | h9
        · have hlen := (List.getElem?_eq_some_iff.1 hx).1
          obtain ⟨y, hy⟩ : ∃ y, ms[ltc ms s]? = some y := ⟨_, List.getElem?_eq_getElem (by omega)⟩
          have := h.2 _ _ y x h9 hy hx
          have := h3 _ y (Nat.le_refl _) hy
          omega
        · obtain rfl : k = ltc ms s := by omega
          exact he ⟨x, hx, e⟩
      simp; omega
theorem lec_le (ms : List Mk) (s : Int) : lec ms s ≤ ms.length := List.countP_le_length
set_option maxHeartbeats 2000000 in
theorem place_any (w : World) (S : Nat → Prop) (g : Nat) (ms : List Mk) (most s : Int) (h : IM w S g ms most) (hris : Ris ms) (hl : ms.length ≤ 1000) :
    Calls Try.prog 16 #[.pointer (some ⟨g, 0, none⟩), .int .i64 s] w (fun en w' => en = .returned (.int .i64 (lec ms s : Int)) ∧ Below w.heap.size w w') := by
  obtain ⟨A, c, h1, h2, h3⟩ := h
  have c0 := h1.cell 0
  simp at c0
  have gl := h1.lt
  have HB := Lib.hid (BS_any w A ms.length c w.heap.size ms s (fun hn => by
    rcases h2.2 with ⟨_, h0⟩ | ⟨g', cap, cur, hv, hb, hh, hnc, hm, hs, ht⟩
    · exfalso; apply hn; rw [List.eq_nil_of_length_eq_zero h0]; rfl
    · injection hv with e1 e2 e3
      subst e1
      exact ⟨g', 0, rfl, (Array.getElem?_eq_some_iff.1 hh).1, fun j u hu => by have := h2.cells (g := g') rfl j u hu; by_cases hj : j = 0 <;> simpa [Addr.add, hj] using this⟩) rfl (own_capM h2) (by omega) hris (Nat.le_refl _))
  have hle := lec_of hris s
  have hls := (ltc_split hris s).1
  have HLE := Lib.hid hle
  obtain ⟨n, hn⟩ : ∃ n, ms.length = n := ⟨_, rfl⟩
  rw [hn] at c0 HB hl hls
  obtain ⟨t, ht⟩ : ∃ t, ltc ms s = t := ⟨_, rfl⟩
  by_cases he : ∃ m, ms[ltc ms s]? = some m ∧ m.1 = s
  · rw [decide_eq_true he] at HB
    rw [if_pos he] at HLE
    rw [ht] at HB HLE hls
    have hw : IntKind.i64.wrap ((t : Int) + 1) = ((t + 1 : Nat) : Int) := by rw [IntWalk.i64_in _ ⟨by omega, by omega⟩]; omega
    clear h1 h2 h3 hle he hn ht
    go_enter Try.func16, Try.ntmps16
    go_wp2_with fail
    refine HB.out.mono ?_
    rintro en w1 ⟨rfl, hb⟩
    have HBB := Lib.hid hb; clear hb
    go_wp2
    go_ret
    exact ⟨by rw [HLE.out]; first | rfl | simp, HBB.out⟩
  · rw [decide_eq_false he] at HB
    rw [if_neg he] at HLE
    rw [ht] at HB HLE hls
    clear h1 h2 h3 hle he hn ht
    go_enter Try.func16, Try.ntmps16
    go_wp2_with fail
    refine HB.out.mono ?_
    rintro en w1 ⟨rfl, hb⟩
    have HBB := Lib.hid hb; clear hb
    go_wp2
    go_ret
    exact ⟨by rw [HLE.out]; first | rfl | simp, HBB.out⟩
theorem store3 {w1 : World} {q : Nat} {t : TypeId} {a b c : Value} (z : Blk w1 q t #[a, b, c]) (x y u : Value) :
    let w2 := ((w1.setCell ⟨q, 0, none⟩ x).setCell ⟨q, 1, none⟩ y).setCell ⟨q, 2, none⟩ u
    w2.cell? ⟨q, 0, none⟩ = some x ∧ w2.cell? ⟨q, 1, none⟩ = some y ∧ w2.cell? ⟨q, 2, none⟩ = some u := by
  have h := ((z.set 0 x).set 1 y).set 2 u
  have e : ((#[a, b, c].setIfInBounds 0 x).setIfInBounds 1 y).setIfInBounds 2 u = #[x, y, u] := rfl
  rw [e] at h
  exact ⟨by rw [h.cell]; rfl, by rw [h.cell]; rfl, by rw [h.cell]; rfl⟩
theorem rd_of_own3 {w : World} {base n c : Nat} {e : TypeId} {sz : Nat} {A : Option Addr} {xs : List Value} (h : w.ownsRow base e sz (.slice A n c) n xs) : Rd w w.heap.size A xs := fun hn => by
  rcases h.2 with ⟨_, h0⟩ | ⟨g', cap, cur, hv, hb, hh, hnc, hm, hs, ht⟩
  · exfalso
    have := h.1
    rw [h0] at this
    exact hn (List.eq_nil_of_length_eq_zero (by simpa using this))
  · injection hv with e1 e2 e3
    subst e1
    exact ⟨g', 0, rfl, (Array.getElem?_eq_some_iff.1 hh).1, fun j u hu => by have := h.cells (g := g') rfl j u hu; by_cases hj : j = 0 <;> simpa [Addr.add, hj] using this⟩
def findP (ms : List Mk) (s : Int) : Mk × Bool := if lec ms s = 0 then ((0, 0, 0), false) else (ms[lec ms s - 1]?.getD (0, 0, 0), true)
def mkA (m : Mk) : Value := .agg #[.int .i64 m.1, .int .i64 m.2.1, .int .i64 m.2.2]
set_option maxHeartbeats 3000000 in
set_option maxRecDepth 100000 in
theorem Find_any (w : World) (S : Nat → Prop) (g : Nat) (ms : List Mk) (most s : Int) (h : IM w S g ms most) (hris : Ris ms) (hl : ms.length ≤ 1000) :
    Calls Try.prog 7 #[.pointer (some ⟨g, 0, none⟩), .int .i64 s] w (fun en w' => en = .returned (.tuple #[mkA (findP ms s).1, .bool (findP ms s).2]) ∧ Below w.heap.size w w') := by
  have HB0 := Lib.hid ((Below.refl w.heap.size w).alloc (Nat.le_refl _) (.cells #[.int .i64 0, .int .i64 0, .int .i64 0] 29))
  have HP := Lib.hid (place_any _ S g ms most s (h.below HB0.out) hris hl)
  have HZ := Lib.hid (Blk.new w 29 #[.int .i64 0, .int .i64 0, .int .i64 0])
  have H := Lib.hid h
  have hle := lec_le ms s
  by_cases h0 : lec ms s = 0
  · have e : findP ms s = ((0, 0, 0), false) := if_pos h0
    rw [e]
    rw [h0] at HP
    clear h hris hle h0 e
    go_enter Try.func7, Try.ntmps7
    go_wp2_with fail
    refine HP.out.mono ?_
    rintro en w1 ⟨rfl, hb⟩
    have HB1 := Lib.hid (HB0.out.trans (hb.mono HB0.out.size))
    have z := HZ.out.below hb HZ.out.lt
    have z0 := z.cell 0; have z1 := z.cell 1; have z2 := z.cell 2
    have zf := z.frozen
    simp at z0 z1 z2
    have zl := z.lt
    have HK := Lib.hid (below_set9 (below_set9 (below_set9 HB1.out (Nat.le_refl _) 0 (.int .i64 0)) (Nat.le_refl _) 1 (.int .i64 0)) (Nat.le_refl _) 2 (.int .i64 0))
    have hs3 := store3 z (.int .i64 0) (.int .i64 0) (.int .i64 0)
    have HS3 := Lib.hid hs3
    clear hb z hs3
    go_wp2
    try simp only [Exit.inBlock, Exit.then]
    obtain ⟨k0, k1, k2⟩ := HS3.out
    refine bodyPost_ret (v := .tuple #[.agg #[.int .i64 0, .int .i64 0, .int .i64 0], .bool false]) (by simp [results, Try.results7, go_sem, k0, k1, k2]) rfl ?_
    exact ⟨rfl, HK.out⟩
  · obtain ⟨p, hp⟩ : ∃ p, lec ms s = p := ⟨_, rfl⟩
    rw [hp] at h0 hle HP
    obtain ⟨m, hm⟩ : ∃ m, ms[p - 1]? = some m := ⟨_, List.getElem?_eq_getElem (by omega)⟩
    have e : findP ms s = (m, true) := by unfold findP; rw [if_neg (by rw [hp]; exact h0), hp, hm]; rfl
    rw [e]
    have hne : ((p : Int) == 0) = false := by simp; omega
    have hw : IntKind.i64.wrap ((p : Int) - 1) = ((p - 1 : Nat) : Int) := by rw [IntWalk.i64_in _ ⟨by omega, by omega⟩]; omega
    have hidx : ((p - 1 : Nat) : Int) < (ms.length : Int) := by omega
    obtain ⟨A, c, h1, h2, h3⟩ := h
    have c0 := h1.cell 0
    simp at c0
    have gl := h1.lt
    have hrd := rd_of_own3 h2
    obtain ⟨q, o, rfl, hq, hc⟩ := hrd (by intro e9; have := congrArg List.length e9; rw [flm_length] at this; simp at this; omega)
    obtain ⟨f1, f2, f3⟩ := flm_at hm
    have b1 := hc _ _ f1
    have b2 := hc _ _ f2
    have b3 := hc _ _ f3
    have hcap := own_capM h2
    obtain ⟨m1, m2, m3⟩ := m
    simp only at b1 b2 b3
    obtain ⟨n, hn⟩ : ∃ n, ms.length = n := ⟨_, rfl⟩
    rw [hn] at c0 hidx hl
    obtain ⟨p1, hp1⟩ : ∃ p1, p1 = p - 1 := ⟨_, rfl⟩
    rw [← hp1] at hw hidx b1 b2 b3
    have HP1 := Lib.hid hp1
    clear h1 h2 h3 hrd hc f1 f2 f3 hris hle hp hm e h0 hp1 hn hcap
    go_enter Try.func7, Try.ntmps7
    go_wp2_with fail
    refine HP.out.mono ?_
    rintro en w1 ⟨rfl, hb⟩
    have HB1 := Lib.hid (HB0.out.trans (hb.mono HB0.out.size))
    have z := HZ.out.below hb HZ.out.lt
    have z0 := z.cell 0; have z1 := z.cell 1; have z2 := z.cell 2
    have zf := z.frozen
    simp at z0 z1 z2
    have zl := z.lt
    have c0' := (HB1.out.cell (p := ⟨g, 0, none⟩) gl).trans c0
    have b1' := (HB1.out.cell (p := ⟨q, o + p1 * 3, none⟩) hq).trans b1
    have b2' := (HB1.out.cell (p := ⟨q, o + p1 * 3 + 1, none⟩) hq).trans b2
    have b3' := (HB1.out.cell (p := ⟨q, o + p1 * 3 + 2, none⟩) hq).trans b3
    have HK := Lib.hid (below_set9 (below_set9 (below_set9 HB1.out (Nat.le_refl _) 0 (.int .i64 m1)) (Nat.le_refl _) 1 (.int .i64 m2)) (Nat.le_refl _) 2 (.int .i64 m3))
    have hs3 := store3 z (.int .i64 m1) (.int .i64 m2) (.int .i64 m3)
    have HS3 := Lib.hid hs3
    clear hb z hs3 c0 b1 b2 b3
    go_wp2
    try simp only [Exit.inBlock, Exit.then]
    obtain ⟨k0, k1, k2⟩ := HS3.out
    refine bodyPost_ret (v := .tuple #[.agg #[.int .i64 m1, .int .i64 m2, .int .i64 m3], .bool true]) (by simp [results, Try.results7, go_sem, k0, k1, k2]) rfl ?_
    exact ⟨rfl, HK.out⟩
set_option maxHeartbeats 1000000 in
theorem MNew_any (w : World) : Calls Try.prog 5 #[] w (fun en w' => en = .returned (.pointer (some ⟨w.heap.size, 0, none⟩)) ∧ IM w' (fun j => j = w.heap.size) w.heap.size [] 0 ∧ Below w.heap.size w w') := by
  have HI : Hid (IM (w.alloc (.cells #[.slice none 0 0, .int .i64 0] 44)) (fun j => j = w.heap.size) w.heap.size [] 0) := Lib.hid ⟨none, 0, Blk.new _ _ _, ⟨rfl, .inl ⟨rfl, rfl⟩⟩, fun j => by simp [Value.ownBlock]⟩
  go_enter Try.func5, Try.ntmps5
  go_wp2
  go_ret
  exact ⟨rfl, HI.out, (Below.refl _ w).alloc (Nat.le_refl _) _⟩
end Go.Proofs.Ytjaifieakcnlmaa

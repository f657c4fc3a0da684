/- mark: wants, Add. -/
import Derived.Test.YtjaifieakcnlmaaMc
import Derived.Handy
import Derived.Deep.RegionLaw
namespace Go.Proofs.Ytjaifieakcnlmaa
open Go.ChangeShapes Go.WideShapes Go.ChangeAt Go.RowKit Go.Maps
set_option linter.unusedVariables false
set_option linter.unusedSimpArgs false

def wantsP (ms : List Mk) (m : Mk) : Bool := match ms.getLast? with
  | none => true
  | some l => decide (m.2.1 ≠ l.2.1 ∨ 2 ≤ m.1 - l.1)
def InM (m : Mk) : Prop := 1 ≤ m.1 ∧ m.1 ≤ 4611686018427387903
set_option maxHeartbeats 3000000 in
set_option maxRecDepth 100000 in
theorem wants_any (w : World) (S : Nat → Prop) (g : Nat) (ms : List Mk) (most : Int) (m1 m2 m3 : Int) (h : IM w S g ms most) (hris : Ris ms) (hl : ms.length ≤ 1000) (hm1 : 1 ≤ m1) (hm2 : m1 ≤ 4611686018427387903) :
    Calls Try.prog 15 #[.pointer (some ⟨g, 0, none⟩), .agg #[.int .i64 m1, .int .i64 m2, .int .i64 m3]] w (fun en w' => en = .returned (.bool (wantsP ms (m1, m2, m3))) ∧ Below w.heap.size w w') := by
  have HB0 := Lib.hid ((Below.refl w.heap.size w).alloc (Nat.le_refl _) (.cells #[.int .i64 m1, .int .i64 m2, .int .i64 m3] 29))
  have HZ := Lib.hid (Blk.new w 29 #[.int .i64 m1, .int .i64 m2, .int .i64 m3])
  obtain ⟨A, c, h1, h2, h3⟩ := h
  have c0 := h1.cell 0
  simp at c0
  have gl := h1.lt
  rcases List.eq_nil_or_concat ms with rfl | ⟨l, a, hms⟩
  · have e : wantsP [] (m1, m2, m3) = true := rfl
    rw [e]
    clear h1 h2 h3 hris
    go_enter Try.func15, Try.ntmps15
    go_wp2
    go_ret
    exact ⟨rfl, HB0.out⟩
  · rw [List.concat_eq_append] at hms
    subst hms
    obtain ⟨a1, a2, a3⟩ := a
    have e : wantsP (l ++ [(a1, a2, a3)]) (m1, m2, m3) = decide (m2 ≠ a2 ∨ 2 ≤ m1 - a1) := by unfold wantsP; rw [List.getLast?_append]; rfl
    have ha := hris.1 (a1, a2, a3) (by simp)
    have hm : (l ++ [(a1, a2, a3)])[l.length]? = some (a1, a2, a3) := by simp
    have hrd := rd_of_own3 h2
    obtain ⟨q, o, rfl, hq, hc⟩ := hrd (by intro e9; have := congrArg List.length e9; rw [flm_length] at this; simp at this)
    obtain ⟨f1, f2, f3⟩ := flm_at hm
    have b1 := hc _ _ f1
    have b2 := hc _ _ f2
    have b3 := hc _ _ f3
    simp only at b1 b2 b3 ha
    have hlen : (l ++ [(a1, a2, a3)]).length = l.length + 1 := by simp
    rw [hlen] at c0 hl
    obtain ⟨n, hn⟩ : ∃ n, l.length = n := ⟨_, rfl⟩
    rw [hn] at c0 hl b1 b2 b3
    have hw : IntKind.i64.wrap (((n + 1 : Nat) : Int) - 1) = (n : Int) := by rw [IntWalk.i64_in _ ⟨by omega, by omega⟩]; omega
    have hw2 : IntKind.i64.wrap (m1 - a1) = m1 - a1 := by rw [IntWalk.i64_in _ ⟨by omega, by omega⟩]
    have hne : ((n + 1 : Nat) : Int) ≠ 0 := by omega
    have hidx : (n : Int) < ((n + 1 : Nat) : Int) := by omega
    rw [e]
    obtain ⟨r, hr⟩ : ∃ r, decide (m2 ≠ a2 ∨ 2 ≤ m1 - a1) = r := ⟨_, rfl⟩
    rw [hr]
    have HRR := Lib.hid hr
    have hsz : w.heap.size ≠ g := by omega
    clear h1 h2 h3 hris hc f1 f2 f3 hrd hm hlen e hn hr
    go_enter Try.func15, Try.ntmps15
    go_wp2
    have HZ0 := HZ.out
    generalize hW : w.alloc (.cells #[.int .i64 m1, .int .i64 m2, .int .i64 m3] 29) = W at *
    have HB1 := HB0.out
    have hsW : W.heap.size = w.heap.size + 1 := by rw [← hW]; simp
    have c0' := (HB1.cell (p := ⟨g, 0, none⟩) gl).trans c0
    have b1' := (HB1.cell (p := ⟨q, o + n * 3, none⟩) hq).trans b1
    have b2' := (HB1.cell (p := ⟨q, o + n * 3 + 1, none⟩) hq).trans b2
    have b3' := (HB1.cell (p := ⟨q, o + n * 3 + 2, none⟩) hq).trans b3
    have z0 := HZ0.cell 0; have z1 := HZ0.cell 1
    simp at z0 z1
    have HSW := Lib.hid hsW
    have zl := HZ0.lt
    have hqW : q < W.heap.size := by omega
    have hgW : g < W.heap.size := by omega
    clear hW hsW c0 b1 b2 b3 HB1 HZ0 HZ
    have HE : Hid (Below w.heap.size w (W.alloc (.cells #[.int .i64 a1, .int .i64 a2, .int .i64 a3] 29)).drew) := Lib.hid ((HB0.out.alloc HB0.out.size _).drew)
    go_region
    all_goals (
      by_cases h2 : m2 = a2
      · have e2 : (m2 != a2) = false := by simp [h2]
        have H2 := Lib.hid h2
        clear h2
        go_wp2
        go_ret
        exact ⟨by rw [← HRR.out]; simp [H2.out], HE.out⟩
      · have e2 : (m2 != a2) = true := by simp [h2]
        have H2 := Lib.hid h2
        clear h2
        go_wp2
        go_ret
        exact ⟨by rw [← HRR.out]; simp [H2.out], HE.out⟩)
/-- Add: whether it is marked, and the error; the marks, and the greatest number -/
def addP (ms : List Mk) (most : Int) (m : Mk) : (Bool × Nat) × List Mk × Int :=
  if m.1 < 1 ∨ 4611686018427387903 < m.1 ∨ m.2.1 < 0 ∨ 64 ≤ m.2.1 ∨ m.2.2 < 0 then ((false, 1), ms, most)
  else if m.1 ≤ most then ((false, 6), ms, most)
  else if wantsP ms m then ((true, 0), ms ++ [m], m.1) else ((false, 0), ms, m.1)
def MRes (w : World) (S : Nat → Prop) (g : Nat) (r : (Bool × Nat) × List Mk × Int) (en : Ending) (w' : World) : Prop :=
  en = .returned (.tuple #[.bool r.1.1, .int .i64 (r.1.2 : Int)]) ∧ ∃ S', IM w' S' g r.2.1 r.2.2 ∧ Turned w S S' w'
theorem IM.setMost {w : World} {S : Nat → Prop} {g : Nat} {ms : List Mk} {most : Int} (h : IM w S g ms most) (x : Int) : IM (w.setCell ⟨g, 1, none⟩ (.int .i64 x)) S g ms x ∧ Only (fun j => j = g) w (w.setCell ⟨g, 1, none⟩ (.int .i64 x)) := by
  obtain ⟨A, c, h1, h2, h3⟩ := h
  have hO : Only (fun j => j = g) w (w.setCell ⟨g, 1, none⟩ (.int .i64 x)) := Only.set (S := fun j => j = g) (Only.refl _ w) rfl _ _
  exact ⟨⟨A, c, h1.set 1 _, hO.own h2 (fun j hj => own_ne_blk h2 h1 (by decide) j hj), h3⟩, hO⟩
theorem Src.of_blk {w : World} {q : Nat} {t : TypeId} {cs : Array Value} (h : Blk w q t cs) : Src w (some ⟨q, 0, none⟩) 1 1 cs.toList := .inr ⟨_, rfl, fun j u hu => by
  have : (⟨q, 0, none⟩ : Addr).add j = ⟨q, j, none⟩ := by by_cases hj : j = 0 <;> simp [Addr.add, hj]
  rw [this, h.cell]
  simpa using hu⟩
theorem infoMark : (Try.prog.info? 29).map (fun i => (i.zero, i.size, i.bytes)) = some (some (.agg #[.int .i64 0, .int .i64 0, .int .i64 0]), 3, 24) := by kernel_rfl
/-- a mark is put at the row's end -/
theorem add_end {w w1 w2 : World} {S : Nat → Prop} {g c c2 : Nat} {ms : List Mk} {most : Int} {m : Mk} {A A2 : Option Addr}
    (h1 : Blk w g 44 #[.slice A ms.length c, .int .i64 most]) (h2 : w.ownsRow 0 29 3 (.slice A ms.length c) ms.length (flm ms)) (h3 : ∀ j, S j ↔ (j = g ∨ (Value.slice A ms.length c).ownBlock = some j))
    (hb : Below w.heap.size w w1) (ho : w2.ownsRow 0 29 3 (.slice A2 (ms.length + 1) c2) (ms.length + 1) (flm ms ++ mkv m)) (hg : w1.grownBy w2 (Value.slice A ms.length c).ownBlock)
    (hat : (Value.slice A2 (ms.length + 1) c2).ownBlock = (Value.slice A ms.length c).ownBlock ∨ (Value.slice A2 (ms.length + 1) c2).ownBlock = some w1.heap.size) :
    (∃ y, w2.cell? ⟨g, 0, none⟩ = some y) ∧ w2.frozen? ⟨g, 0, none⟩ = false ∧ g < w2.heap.size ∧ ∃ S', IM (w2.setCell ⟨g, 0, none⟩ (.slice A2 (ms.length + 1) c2)) S' g (ms ++ [m]) most ∧ Turned w S S' (w2.setCell ⟨g, 0, none⟩ (.slice A2 (ms.length + 1) c2)) := by
  have k1 := h1.below hb h1.lt
  have o1 := own_below h2 hb
  have k2 := k1.grown hg (fun e => own_ne_blk o1 k1 (by decide) _ e.symm rfl)
  have hne : ∀ j, (Value.slice A2 (ms.length + 1) c2).ownBlock = some j → j ≠ g := by
    intro j hj
    rcases hat with e | e
    · rw [e] at hj; exact own_ne_blk h2 h1 (by decide) j hj
    · rw [e] at hj; injection hj with hj; have := h1.lt; have := hb.size; omega
  have hO : Only S w w2 := (Only.of_below (S := S) hb).trans (Only.of_grown (S := S) hg (fun j hj => (h3 j).2 (.inr hj))) (Sub.refl _ _)
  refine ⟨⟨_, k2.cell 0⟩, k2.frozen 0, k2.lt, fun j => j = g ∨ (Value.slice A2 (ms.length + 1) c2).ownBlock = some j, ⟨A2, c2, ?_, ?_, ?_⟩, ?_, hO.set ((h3 g).2 (.inl rfl)) _ _⟩
  · have := k2.set 0 (.slice A2 (ms.length + 1) c2)
    rw [List.length_append]
    exact this
  · have := Only.own (S := fun j => j = g) (Only.set (S := fun j => j = g) (Only.refl _ w2) rfl 0 (.slice A2 (ms.length + 1) c2)) ho hne
    rw [List.length_append, flm_append]
    simpa [flm] using this
  · intro j; rw [List.length_append]; exact Iff.rfl
  · intro j hj
    rcases hj with rfl | hj
    · exact .inl ((h3 _).2 (.inl rfl))
    · rcases hat with e | e
      · rw [e] at hj; exact .inl ((h3 j).2 (.inr hj))
      · rw [e] at hj; injection hj with hj; have := hb.size; exact .inr (by omega)
set_option maxHeartbeats 4000000 in
set_option maxRecDepth 100000 in
theorem Add_any (w : World) (S : Nat → Prop) (g : Nat) (ms : List Mk) (most : Int) (m1 m2 m3 : Int) (h : IM w S g ms most) (hris : Ris ms) (hl : ms.length ≤ 999) :
    Calls Try.prog 6 #[.pointer (some ⟨g, 0, none⟩), .agg #[.int .i64 m1, .int .i64 m2, .int .i64 m3]] w (MRes w S g (addP ms most (m1, m2, m3))) := by
  have HB0 := Lib.hid ((Below.refl w.heap.size w).alloc (Nat.le_refl _) (.cells #[.int .i64 m1, .int .i64 m2, .int .i64 m3] 29))
  have HZ := Lib.hid (Blk.new w 29 #[.int .i64 m1, .int .i64 m2, .int .i64 m3])
  have H := Lib.hid h
  have HI0 := Lib.hid (h.below HB0.out)
  have gl : g < w.heap.size := h.lt _ h.gS
  have c1 : w.cell? ⟨g, 1, none⟩ = some (.int .i64 most) := by obtain ⟨A, c, h1, h2, h3⟩ := h; exact h1.cell 1
  have z1 : w.frozen? ⟨g, 1, none⟩ = false := by obtain ⟨A, c, h1, h2, h3⟩ := h; exact h1.frozen 1
  unfold addP
  simp only
  have hcases : (m1 < 1 ∨ 4611686018427387903 < m1 ∨ m2 < 0 ∨ 64 ≤ m2 ∨ m3 < 0) ∨ ¬ (m1 < 1 ∨ 4611686018427387903 < m1 ∨ m2 < 0 ∨ 64 ≤ m2 ∨ m3 < 0) := Decidable.em _
  rcases hcases with hbad | hbad
  · rw [if_pos hbad]
    have HP : Hid (MRes w S g ((false, 1), ms, most) (.returned (.tuple #[.bool false, .int .i64 1])) (w.alloc (.cells #[.int .i64 m1, .int .i64 m2, .int .i64 m3] 29))) := Lib.hid ⟨rfl, S, HI0.out, (Turned.refl w S).below HB0.out⟩
    by_cases q1 : m1 < 1
    · clear h hbad
      go_enter Try.func6, Try.ntmps6
      go_wp2
      go_ret2
      exact HP.out
    by_cases q2 : 4611686018427387903 < m1
    · clear h hbad
      go_enter Try.func6, Try.ntmps6
      go_wp2
      go_ret2
      exact HP.out
    by_cases q3 : m2 < 0
    · clear h hbad
      go_enter Try.func6, Try.ntmps6
      go_wp2
      go_ret2
      exact HP.out
    by_cases q4 : 64 ≤ m2
    · clear h hbad
      go_enter Try.func6, Try.ntmps6
      go_wp2
      go_ret2
      exact HP.out
    · have q5 : m3 < 0 := by omega
      clear h hbad
      go_enter Try.func6, Try.ntmps6
      go_wp2
      go_ret2
      exact HP.out
  · rw [if_neg hbad]
    have q1 : ¬ m1 < 1 := by omega
    have q2 : ¬ 4611686018427387903 < m1 := by omega
    have q3 : ¬ m2 < 0 := by omega
    have q4 : ¬ 64 ≤ m2 := by omega
    have q5 : ¬ m3 < 0 := by omega
    clear hbad h
    have HZ0 := HZ.out.cell 0
    simp at HZ0
    by_cases hgap : m1 ≤ most
    · rw [if_pos hgap]
      have HP : Hid (∀ q, MRes w S g ((false, 6), ms, most) (.returned (.tuple #[.bool false, .int .i64 6])) ((w.alloc (.cells #[.int .i64 m1, .int .i64 m2, .int .i64 m3] 29)).drewN q)) := Lib.hid (fun q => ⟨rfl, S, HI0.out.below (below_drewN (Below.refl _ _) q), (Turned.refl w S).below (below_drewN HB0.out q)⟩)
      go_enter Try.func6, Try.ntmps6
      go_wp2_with fail
      go_quiet (fail)
      go_wp2
      go_ret2
      exact HP.out _
    · rw [if_neg hgap]
      have hm1 : 1 ≤ m1 := by omega
      have hm2 : m1 ≤ 4611686018427387903 := by omega
      obtain ⟨A, c, k1, k2, k3⟩ := H.out
      have K1 := Lib.hid k1; have K2 := Lib.hid k2; have K3 := Lib.hid k3
      clear k1 k2 k3
      have HW1 : ∀ W, Below w.heap.size w W → Hid (IM (W.setCell ⟨g, 1, none⟩ (.int .i64 m1)) S g ms m1) := fun W hW => Lib.hid ((H.out.below hW).setMost m1).1
      have HW2 : Hid (∀ W w2, Below w.heap.size w W → Blk W w.heap.size 29 #[.int .i64 m1, .int .i64 m2, .int .i64 m3] → Below (W.setCell ⟨g, 1, none⟩ (.int .i64 m1)).heap.size (W.setCell ⟨g, 1, none⟩ (.int .i64 m1)) w2 → Blk w2 g 44 #[.slice A ms.length c, .int .i64 m1] ∧ w2.ownsRow 0 29 3 (.slice A ms.length c) ms.length (flm ms) ∧ Blk w2 w.heap.size 29 #[.int .i64 m1, .int .i64 m2, .int .i64 m3] ∧ Turned w S S w2) := Lib.hid (fun W w2 hW hz hb => by
        have e1 := (K1.out.below hW K1.out.lt).set 1 (.int .i64 m1)
        have e2 : Blk (W.setCell ⟨g, 1, none⟩ (.int .i64 m1)) g 44 #[.slice A ms.length c, .int .i64 m1] := e1
        have hO : Only (fun j => j = g) W (W.setCell ⟨g, 1, none⟩ (.int .i64 m1)) := Only.set (S := fun j => j = g) (Only.refl _ W) rfl _ _
        have e3 := hO.own (own_below K2.out hW) (fun j hj => own_ne_blk K2.out K1.out (by decide) j hj)
        have e4 := hO.blk hz (by omega)
        refine ⟨e2.below hb e2.lt, own_below e3 hb, e4.below hb e4.lt, Sub.refl _ _, ?_⟩
        exact ((Only.of_below (S := S) hW).set ((K3.out g).2 (.inl rfl)) 1 _).trans (Only.of_below (S := S) hb) (Sub.refl _ _))
      cases hwn : wantsP ms (m1, m2, m3) with
      | false =>
        rw [if_neg (by simp)]
        have HWA := fun W hI => Lib.hid (wants_any W S g ms m1 m1 m2 m3 hI hris (by omega) hm1 hm2)
        rw [hwn] at HWA
        clear hwn
        go_enter Try.func6, Try.ntmps6
        go_wp2_with fail
        go_quiet (fail)
        go_wp2_with fail
        refine (HWA _ (HW1 _ (below_drewN HB0.out _)).out).out.mono ?_
        rintro en w2 ⟨rfl, hb⟩
        obtain ⟨a1, a2, a3, a4⟩ := HW2.out _ w2 (below_drewN HB0.out _) (HZ.out.drewN _) hb
        have HP := Lib.hid (show MRes w S g ((false, 0), ms, m1) (.returned (.tuple #[.bool false, .int .i64 0])) w2 from ⟨rfl, S, ⟨A, c, a1, a2, K3.out⟩, a4⟩)
        clear hb a1 a2 a3 a4
        go_wp2
        go_ret2
        exact HP.out
      | true =>
        rw [if_pos rfl]
        obtain ⟨i0, hi, hz0, hz1, hz2⟩ := info_parts infoMark
        have HWA := fun W hI => Lib.hid (wants_any W S g ms m1 m1 m2 m3 hI hris (by omega) hm1 hm2)
        rw [hwn] at HWA
        clear hwn
        go_enter Try.func6, Try.ntmps6
        go_wp2_with fail
        go_quiet (fail)
        go_wp2_with fail
        refine (HWA _ (HW1 _ (below_drewN HB0.out _)).out).out.mono ?_
        rintro en w2 ⟨rfl, hb⟩
        obtain ⟨a1, a2, a3, a4⟩ := HW2.out _ w2 (below_drewN HB0.out _) (HZ.out.drewN _) hb
        have c0 := a1.cell 0
        have zz0 := a3.cell 0; have zz1 := a3.cell 1; have zz2 := a3.cell 2
        simp at c0 zz0 zz1 zz2
        have gl2 := a1.lt
        have zl2 := a3.lt
        have HA1 := Lib.hid a1; have HA2 := Lib.hid a2; have HA4 := Lib.hid a4
        have HO := Lib.hid (own_below a2 ((Below.refl w2.heap.size w2).drew.alloc (by simp) (.cells #[.int .i64 m1, .int .i64 m2, .int .i64 m3] 29)))
        have HS := Lib.hid (Src.of_blk (Blk.new' w2.drew 29 #[.int .i64 m1, .int .i64 m2, .int .i64 m3] (g := w2.heap.size) rfl))
        clear hb a1 a2 a3 a4
        obtain ⟨n, hn⟩ : ∃ n, ms.length = n := ⟨_, rfl⟩
        have HN := Lib.hid hn
        have HAE := Lib.hid (fun (w3 : World) (A2 : Option Addr) (c2 : Nat) ho hg hat => add_end (w2 := w3) (A2 := A2) (c2 := c2) (m := (m1, m2, m3)) HA1.out HA2.out K3.out ((Below.refl w2.heap.size w2).drew.alloc (by simp) (.cells #[.int .i64 m1, .int .i64 m2, .int .i64 m3] 29)) ho hg hat)
        rw [hn] at c0 HO hl HAE
        clear hn
        go_wp2_with fail
        go_region_law (first
          | (go_must (refine step_app_at rfl (.tmp 51) (.tmp 53) 40 rfl 0 29 i0 (.agg #[.int .i64 0, .int .i64 0, .int .i64 0]) 3 24 Try.underlying40 hi hz0 hz1 hz2 rfl (by decide) (.slice A n c) n (flm ms) (by simp [Act.eval, Act.put]) HO.out (some ⟨w2.heap.size, 0, none⟩) 1 1 [.int .i64 m1, .int .i64 m2, .int .i64 m3] (by simp [Act.eval, Act.put]) rfl HS.out (by intro u hu; simp at hu; rcases hu with rfl | rfl | rfl <;> rfl) (by unfold maxLen; omega) (by omega) (Nat.zero_le _) ?_; intro v3 w3 ho3 hg3 hat3; obtain ⟨A2, c2, rfl⟩ := own_sl ho3; obtain ⟨⟨y4, hy4⟩, z4, l4, S4, hIM, hT⟩ := HAE.out w3 A2 c2 ho3 hg3 hat3; have HIM := Lib.hid hIM; have HT := Lib.hid hT; clear ho3 hg3 hat3 hIM hT; go_simp)))
        all_goals (
          go_wp2
          go_ret2
          exact ⟨rfl, S4, HIM.out, HA4.out.trans HT.out⟩)
end Go.Proofs.Ytjaifieakcnlmaa

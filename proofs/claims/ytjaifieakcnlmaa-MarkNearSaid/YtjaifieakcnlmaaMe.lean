/- mark: Cut, Clone, All. -/
import Derived.Test.YtjaifieakcnlmaaMd
namespace Go.Proofs.Ytjaifieakcnlmaa
open Go.ChangeShapes Go.WideShapes Go.ChangeAt Go.RowKit Go.Maps
set_option linter.unusedVariables false
set_option linter.unusedSimpArgs false

theorem slice_h0 {P : Program} (t e : TypeId) (ht : P.underlying t = some (.slice e)) (k : Nat) (hs : ∀ w, (sizeOf e).run P w = .ok k w) (A : Option Addr) (n c h : Nat) (y : Int) (hy : (h : Int) = y) (hh : h ≤ c) (hA : ∀ a, A = some a → a.add 0 = a) :
    ∀ w, (Instr.sliceAt t (.slice A n c) none (some (.int .i64 y)) none).run P w = .ok (.slice A h c) w := by
  subst hy
  have he : P.elem t = e := by simp [Program.elem, ht]
  intro w
  rw [run_sliceAt_slice w t _ _ _ _ (by rw [he]; exact ht), run_slice_h w t A n c (by rw [he]; exact ht) .i64 (h : Int) (by omega) (by omega), he, hs]
  simp only [sliced, Int.toNat_natCast, Nat.zero_mul, Nat.sub_zero]
  by_cases hc : c = 0
  · simp [hc]
  · cases A with
    | none => simp
    | some a => simp [hc, hA a rfl]
theorem own_add0 {w : World} {base n c : Nat} {e : TypeId} {s : Nat} {A : Option Addr} {xs : List Value} (h : w.ownsRow base e s (.slice A n c) n xs) : ∀ a, A = some a → a.add 0 = a := by
  rintro a rfl
  rcases h.2 with ⟨h1, _⟩ | ⟨g, cap, cur, hv, _⟩
  · cases h1
  · injection hv with e1
    injection e1 with e1
    subst e1
    simp [Addr.add]
theorem own_cut {w : World} {base sz n c k : Nat} {e : TypeId} {A : Option Addr} {xs : List Value} (h : w.ownsRow base e sz (.slice A n c) n xs) (hk : k ≤ n) : w.ownsRow base e sz (.slice A k c) k (xs.take (k * sz)) := by
  have hl := h.1
  refine ⟨by rw [List.length_take, hl]; exact Nat.min_eq_left (Nat.mul_le_mul_right sz hk), ?_⟩
  rcases h.2 with ⟨hv, h0⟩ | ⟨g, cap, cur, hv, hb, hh, hnc, hm, hs, ht⟩
  · injection hv with e1 e2 e3
    obtain rfl : k = 0 := by omega
    exact .inl ⟨by rw [e1, e3], rfl⟩
  · injection hv with e1 e2 e3
    subst e1 e3
    refine .inr ⟨g, _, cur, rfl, hb, hh, Nat.le_trans hk hnc, hm, hs, ?_⟩
    rw [← ht, List.take_take, Nat.min_eq_left (Nat.mul_le_mul_right sz hk)]
theorem flm_take (ms : List Mk) (k : Nat) : (flm ms).take (k * 3) = flm (ms.take k) := by
  induction ms generalizing k with
  | nil => simp [flm]
  | cons a l ih =>
    cases k with
    | zero => simp [flm]
    | succ k =>
      rw [flm_cons, List.take_succ_cons, flm_cons, List.take_append, ← ih k]
      have h1 : (mkv a).length = 3 := rfl
      rw [List.take_of_length_le (by rw [h1]; omega), h1, show (k + 1) * 3 - 3 = k * 3 by omega]
theorem three8 : ∀ w, (sizeOf 29).run Try.prog w = .ok 3 w := fun w => by kernel_rfl
def cutM (ms : List Mk) (most s : Int) : Nat × List Mk × Int := (ms.length - lec ms s, ms.take (lec ms s), min most (max s 0))
set_option maxHeartbeats 4000000 in
set_option maxRecDepth 100000 in
theorem MCut_any (w : World) (S : Nat → Prop) (g : Nat) (ms : List Mk) (most s : Int) (h : IM w S g ms most) (hris : Ris ms) (hl : ms.length ≤ 1000) :
    Calls Try.prog 9 #[.pointer (some ⟨g, 0, none⟩), .int .i64 s] w (fun en w' => en = .returned (.int .i64 ((cutM ms most s).1 : Int)) ∧ IM w' S g (cutM ms most s).2.1 (cutM ms most s).2.2 ∧ Turned w S S w') := by
  have HP := Lib.hid (place_any w S g ms most s h hris hl)
  have hle := lec_le ms s
  obtain ⟨p, hp⟩ : ∃ p, lec ms s = p := ⟨_, rfl⟩
  unfold cutM
  rw [hp] at hle HP ⊢
  obtain ⟨A, c, k1, k2, k3⟩ := h
  have hcap := own_capM k2
  have S0 := slice_h0 40 29 Try.underlying40 3 three8 A ms.length c p (p : Int) rfl (by omega) (own_add0 k2)
  have hFIN : Hid (∀ W, Below w.heap.size w W → IM ((W.setCell ⟨g, 0, none⟩ (.slice A p c)).setCell ⟨g, 1, none⟩ (.int .i64 (min most (max s 0)))) S g (ms.take p) (min most (max s 0)) ∧ Turned w S S ((W.setCell ⟨g, 0, none⟩ (.slice A p c)).setCell ⟨g, 1, none⟩ (.int .i64 (min most (max s 0))))) := Lib.hid (fun W hW => by
    have e1 := ((k1.below hW k1.lt).set 0 (.slice A p c)).set 1 (.int .i64 (min most (max s 0)))
    have e2 : Blk ((W.setCell ⟨g, 0, none⟩ (.slice A p c)).setCell ⟨g, 1, none⟩ (.int .i64 (min most (max s 0)))) g 44 #[.slice A p c, .int .i64 (min most (max s 0))] := e1
    have hO : Only (fun j => j = g) W ((W.setCell ⟨g, 0, none⟩ (.slice A p c)).setCell ⟨g, 1, none⟩ (.int .i64 (min most (max s 0)))) := Only.set (S := fun j => j = g) (Only.set (S := fun j => j = g) (Only.refl _ W) rfl _ _) rfl _ _
    have e3 := hO.own (own_cut (own_below k2 hW) hle) (fun j hj => by
      have : (Value.slice A ms.length c).ownBlock = some j := by cases A with | none => simp [Value.ownBlock] at hj | some a => simpa [Value.ownBlock] using hj
      exact own_ne_blk k2 k1 (by decide) j this)
    have hlt : (ms.take p).length = p := by rw [List.length_take, Nat.min_eq_left hle]
    refine ⟨⟨A, c, by rw [hlt]; exact e2, by rw [hlt, ← flm_take]; exact e3, fun j => ?_⟩, Sub.refl _ _, (Only.of_below (S := S) hW).trans (hO.mono (fun j _ hj => by rw [hj]; exact (k3 g).2 (.inl rfl))) (Sub.refl _ _)⟩
    rw [hlt, k3 j]
    cases A <;> simp [Value.ownBlock])
  have HK := fun W (hW : Below w.heap.size w W) => Lib.hid (k1.below hW k1.lt)
  obtain ⟨n, hn⟩ : ∃ n, ms.length = n := ⟨_, rfl⟩
  rw [hn] at HK S0 hl hle ⊢
  have hw : IntKind.i64.wrap ((n : Int) - (p : Int)) = ((n - p : Nat) : Int) := by rw [IntWalk.i64_in _ ⟨by omega, by omega⟩]; omega
  clear k1 k2 k3 hris hp hcap hn
  go_enter Try.func9, Try.ntmps9
  go_wp2_with fail
  refine HP.out.mono ?_
  rintro en W ⟨rfl, hb⟩
  have HFI := Lib.hid (hFIN.out W hb)
  have kk := (HK W hb).out
  have c0 := kk.cell 0; have c1 := kk.cell 1
  simp at c0 c1
  have z0 := kk.frozen 0; have z1 := kk.frozen 1
  have gl := kk.lt
  clear hb kk
  by_cases q1 : 0 ≤ s
  · have E1 : Hid (max s 0 = s) := Lib.hid (by omega)
    rw [E1.out] at HFI
    by_cases q2 : most ≤ s
    · have E2 : Hid (min most s = most) := Lib.hid (by omega)
      rw [E2.out] at HFI
      go_wp2
      go_ret
      refine ⟨rfl, ?_⟩
      rw [E1.out, E2.out]
      exact HFI.out
    · have E2 : Hid (min most s = s) := Lib.hid (by omega)
      rw [E2.out] at HFI
      go_wp2
      go_ret
      refine ⟨rfl, ?_⟩
      rw [E1.out, E2.out]
      exact HFI.out
  · have E1 : Hid (max s 0 = 0) := Lib.hid (by omega)
    rw [E1.out] at HFI
    by_cases q2 : most ≤ 0
    · have E2 : Hid (min most 0 = most) := Lib.hid (by omega)
      rw [E2.out] at HFI
      go_wp2
      go_ret
      refine ⟨rfl, ?_⟩
      rw [E1.out, E2.out]
      exact HFI.out
    · have E2 : Hid (min most 0 = 0) := Lib.hid (by omega)
      rw [E2.out] at HFI
      go_wp2
      go_ret
      refine ⟨rfl, ?_⟩
      rw [E1.out, E2.out]
      exact HFI.out
set_option maxHeartbeats 3000000 in
set_option maxRecDepth 100000 in
theorem MClone_any (w : World) (A : Option Addr) (n c : Nat) (ms : List Mk) (hs : Src w A n c (flm ms)) (hn : ms.length = n) (hl : n ≤ 1000) :
    Calls Try.prog 19 #[.slice A n c] w (fun en w' => ∃ A' c', en = .returned (.slice A' n c') ∧ w'.ownsRow w.heap.size 29 3 (.slice A' n c') n (flm ms) ∧ Below w.heap.size w w') := by
  have qT : ∀ (w : World) (a : Option Addr) (n c n' c' : Nat), (binOp .eql 40 (.slice a n c) (.slice none n' c')).run Try.prog w = .ok (.bool a.isNone) w := fun w a n c n' c' => Lib.run_eql_slice_nil w _ _ a n c n' c' Try.underlying40
  obtain ⟨i0, hi, hz0, hz1, hz2⟩ := info_parts infoMark
  cases A with
  | none =>
    obtain ⟨rfl, rfl, hx⟩ : n = 0 ∧ c = 0 ∧ flm ms = [] := by
      rcases hs with ⟨_, h1, h2, h3⟩ | ⟨ad, h1, _⟩
      · exact ⟨h1, h2, h3⟩
      · cases h1
    rw [hx]
    go_enter Try.func19, Try.ntmps19
    go_wp2
    go_ret
    exact ⟨none, 0, rfl, ⟨rfl, .inl ⟨rfl, rfl⟩⟩, Below.refl _ _⟩
  | some a =>
    have hs2 : Src (w.alloc (.cells #[] 29)) (some a) n c (flm ms) := by
      rcases hs with ⟨h1, _⟩ | ⟨ad, h1, h2⟩
      · cases h1
      · exact .inr ⟨ad, h1, fun j u hu => (((Below.refl w.heap.size w).alloc (Nat.le_refl _) _).cell (World.block_lt_of_cell? _ _ (h2 j u hu))).trans (h2 j u hu)⟩
    have HS2 := Lib.hid hs2; have HN := Lib.hid hn
    clear hs hs2 hn
    go_enter Try.func19, Try.ntmps19
    go_wp2_with (at_builtin; go_must (refine wpList_app0 rfl (.tmp 5) (.tmp 6) 40 rfl w.heap.size 29 i0 (.agg #[.int .i64 0, .int .i64 0, .int .i64 0]) 3 24 Try.underlying40 hi hz0 hz1 hz2 rfl (by decide) w.heap.size rfl (Blk.new _ _ _) (Nat.le_refl _) (some a) n c (flm ms) rfl (by rw [flm_length, HN.out]) HS2.out (flm_one _) (by unfold maxLen; omega) (by omega) ?_; intro v2 w2 ho2 hb2 hn2; obtain ⟨A2, c2, rfl⟩ := own_sl ho2; have HO2 := Lib.hid ho2; have HB2 := Lib.hid hb2; clear ho2 hb2 hn2))
    go_ret
    exact ⟨A2, c2, rfl, HO2.out, ((Below.refl w.heap.size w).alloc (Nat.le_refl _) _).trans (HB2.out.mono (by simp))⟩
set_option maxHeartbeats 2000000 in
theorem All_any (w : World) (S : Nat → Prop) (g : Nat) (ms : List Mk) (most : Int) (h : IM w S g ms most) (hl : ms.length ≤ 1000) :
    Calls Try.prog 14 #[.pointer (some ⟨g, 0, none⟩)] w (fun en w' => ∃ A' c', en = .returned (.slice A' ms.length c') ∧ w'.ownsRow w.heap.size 29 3 (.slice A' ms.length c') ms.length (flm ms) ∧ Below w.heap.size w w') := by
  obtain ⟨A, c, k1, k2, k3⟩ := h
  have c0 := k1.cell 0
  simp at c0
  have gl := k1.lt
  have HC := Lib.hid (MClone_any w A ms.length c ms (Src.of_own k2) rfl hl)
  clear k1 k2 k3
  go_enter Try.func14, Try.ntmps14
  go_wp2_with fail
  refine HC.out.mono ?_
  rintro en w1 ⟨A', c', rfl, h1, h2⟩
  have H1 := Lib.hid h1; have H2 := Lib.hid h2
  clear h1 h2
  go_wp2
  go_ret
  exact ⟨A', c', rfl, H1.out, H2.out⟩
end Go.Proofs.Ytjaifieakcnlmaa

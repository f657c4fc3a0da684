/- disk: Append, Cut. -/
import Derived.Test.YtahichieakdbnaaDw
import Derived.BigQuiet
namespace Go.Proofs.Ytahichieakdbnaa
open Go.ChangeShapes Go.WideShapes Go.ChangeAt Go.RowKit Go.Maps
set_option linter.unusedVariables false
set_option linter.unusedSimpArgs false

set_option maxHeartbeats 3000000 in
set_option maxRecDepth 100000 in
theorem DAppend_any (w : World) (g room : Nat) (vs : List Value) (d : Pd) (x : Int) (A : Option Addr) (m c : Nat) (bs : List Nat) (h : DM w g room vs d) (hok : OkP room d)
    (hr : Rd w w.heap.size A (u8s bs)) (hn : A = none → c = 0) (hm : m ≤ c) (hl : bs.length = m) :
    Calls Try.prog 67 #[.pointer (some ⟨g, 0, none⟩), .int .i64 x, .slice A m c] w (DRes w g room vs (appendP room d x bs)) := by
  have hmf : ∀ (fn : Fn) (first cap : Array Value) (w : World), (Instr.makeFunc fn first cap).run Try.prog w = .ok (.func fn first cap) w := fun _ _ _ _ => rfl
  have HF := fun W (hW : Below w.heap.size w W) => Lib.hid (DFile_any W g room vs d.1 d.2.1 d.2.2.1 d.2.2.2 x (DskM.below h hW))
  have hb0 := ((Below.refl w.heap.size w).alloc (Nat.le_refl _) (.cells #[.pointer (some ⟨g, 0, none⟩)] 25)).alloc (by simp) (.cells #[.slice A m c] 32)
  have kd := (Blk.new w 25 #[.pointer (some ⟨g, 0, none⟩)]).alloc (.cells #[.slice A m c] 32)
  have kb := Blk.new' (w.alloc (.cells #[.pointer (some ⟨g, 0, none⟩)] 25)) 32 #[.slice A m c] (g := w.heap.size + 1) (by simp)
  have HB0 := Lib.hid hb0; have KD := Lib.hid kd; have KB := Lib.hid kb
  by_cases hx : inF x
  · simp only [rowAt_in hx] at HF
    obtain ⟨v, hv⟩ : ∃ v, vs[x.toNat]? = some v := ⟨_, List.getElem?_eq_getElem (by rw [h.1]; unfold inF at hx; omega)⟩
    obtain ⟨f, hf⟩ : ∃ f, d.1[x.toNat]? = some f := ⟨_, List.getElem?_eq_getElem (by rw [hok.2.2.1]; unfold inF at hx; omega)⟩
    have HS : ∀ W, Below w.heap.size w W → Blk W w.heap.size 25 #[.pointer (some ⟨g, 0, none⟩)] → Blk W (w.heap.size + 1) 32 #[.slice A m c] → Hid (Calls Try.prog 73 #[.pointer (some ⟨g, 0, none⟩), .func (.func 91) #[] #[.pointer (some ⟨w.heap.size + 1, 0, none⟩), .pointer (some ⟨w.heap.size, 0, none⟩), .pointer (some ⟨W.heap.size, 0, none⟩)]] (W.alloc (.cells #[.pointer (some ⟨g, 1 + x.toNat * 2, none⟩)] 120)) (DRes w g room vs (appendP room d x bs))) := by
      intro W hW kd1 kb1
      have hb := hW.alloc hW.size (.cells #[.pointer (some ⟨g, 1 + x.toNat * 2, none⟩)] 120)
      have k1 := Blk.new W 120 #[.pointer (some ⟨g, 1 + x.toNat * 2, none⟩)]
      have kd2 := kd1.alloc (.cells #[.pointer (some ⟨g, 1 + x.toNat * 2, none⟩)] 120)
      have kb2 := kb1.alloc (.cells #[.pointer (some ⟨g, 1 + x.toNat * 2, none⟩)] 120)
      refine Lib.hid ((DStep_any _ g room vs d x _ _ (DskM.below h hb) hx hok.2.2.2.2 (fun w => rfl) (if room - totF d.1 < bs.length then (d.1, 7) else (putF d.1 x.toNat bs, 0)) (by split <;> simp) ?_).mono (fun en w' hr => hr.below hb))
      intro w1 hb1
      have k2 := k1.below hb1 k1.lt
      have kd3 := kd2.below hb1 kd2.lt
      have kb3 := kb2.below hb1 kb2.lt
      have hD := DskM.below (DskM.below h hb) hb1
      by_cases hfull : room - totF d.1 < bs.length
      · rw [if_pos hfull]
        refine (Append1_full w1 g room vs d.1 d.2.1 d.2.2.1 d.2.2.2 0 (w.heap.size + 1) w.heap.size W.heap.size m c A hD hok.1 (fun i => Nat.le_trans (totF_take_le _ _) hok.2.1) kb3 kd3 (by omega)).mono ?_
        rintro en w2 ⟨rfl, q, rfl⟩
        exact ⟨rfl, vs, hD.below (below_drewN (Below.refl _ _) q), (Turned.refl _ _).below (below_drewN (Below.refl _ _) q)⟩
      · rw [if_neg hfull]
        refine (Append1_any w1 g room vs d.1 d.2.1 d.2.2.1 d.2.2.2 x.toNat (w.heap.size + 1) w.heap.size W.heap.size m c A bs v f hD hv hf hok.1 (fun i => Nat.le_trans (totF_take_le _ _) hok.2.1) kb3 kd3 k2 (((hr.below hb).below (hb1.mono hb.size)).more (by have := hb.size; have := hb1.size; omega)) hn hm hl (by omega) (Nat.le_trans (totF_mem hf) hok.2.1)).mono ?_
        rintro en w2 ⟨rfl, v', h1, h2⟩
        exact ⟨rfl, _, h1, h2⟩
    clear h hv hf hr hb0 kd kb
    go_enter Try.func67, Try.ntmps67
    go_wp2_with fail
    refine (HF _ HB0.out).out.mono ?_
    rintro en w1 ⟨rfl, q, hq⟩
    have HW : Hid (Below w.heap.size w w1) := Lib.hid (by rw [hq]; exact below_drewN HB0.out q)
    have kd1 : Blk w1 w.heap.size 25 #[.pointer (some ⟨g, 0, none⟩)] := by rw [hq]; exact KD.out
    have kb1 : Blk w1 (w.heap.size + 1) 32 #[.slice A m c] := by rw [hq]; exact KB.out
    have KD1 := Lib.hid kd1; have KB1 := Lib.hid kb1
    have d0 := kd1.cell 0
    simp at d0
    have dl := kd1.lt
    clear hq kd1 kb1
    go_wp2_with fail
    refine ((HS _ HW.out KD1.out KB1.out).out).mono ?_
    rintro en w2 hr
    obtain ⟨rfl, vs', hr2⟩ := hr
    have HR := Lib.hid hr2
    clear hr2
    go_wp2
    go_ret
    exact ⟨rfl, vs', HR.out⟩
  · simp only [rowAt_out hx] at HF
    have HD := Lib.hid h
    have e : appendP room d x bs = (d, 1) := by unfold appendP stepP; rw [if_neg hx]
    rw [e]
    clear h hb0 kd kb hr
    go_enter Try.func67, Try.ntmps67
    go_wp2_with fail
    refine (HF _ HB0.out).out.mono ?_
    rintro en w1 ⟨rfl, q, hq⟩
    have HB : Hid (Below w.heap.size w (w1.alloc (.cells #[.pointer none] 120))) := Lib.hid (by rw [hq]; exact (below_drewN HB0.out q).alloc (by simp; omega) _)
    clear hq
    go_wp2
    go_ret
    exact ⟨rfl, vs, DskM.below HD.out HB.out, (Turned.refl _ _).below HB.out⟩
set_option maxHeartbeats 3000000 in
set_option maxRecDepth 100000 in
theorem DCut_any (w : World) (g room : Nat) (vs : List Value) (d : Pd) (x n : Int) (h : DM w g room vs d) (hok : OkP room d) :
    Calls Try.prog 68 #[.pointer (some ⟨g, 0, none⟩), .int .i64 x, .int .i64 n] w (DRes w g room vs (cutP d x n)) := by
  have hmf : ∀ (fn : Fn) (first cap : Array Value) (w : World), (Instr.makeFunc fn first cap).run Try.prog w = .ok (.func fn first cap) w := fun _ _ _ _ => rfl
  have HF := fun W (hW : Below w.heap.size w W) => Lib.hid (DFile_any W g room vs d.1 d.2.1 d.2.2.1 d.2.2.2 x (DskM.below h hW))
  have hb0 := ((Below.refl w.heap.size w).alloc (Nat.le_refl _) (.cells #[.int .i64 n] 3))
  have kn := (Blk.new w 3 #[.int .i64 n])
  have HB0 := Lib.hid hb0; have KN := Lib.hid kn
  have gl := h.2.2.1.lt
  by_cases hx : inF x
  · simp only [rowAt_in hx] at HF
    obtain ⟨v, hv⟩ : ∃ v, vs[x.toNat]? = some v := ⟨_, List.getElem?_eq_getElem (by rw [h.1]; unfold inF at hx; omega)⟩
    obtain ⟨f, hf⟩ : ∃ f, d.1[x.toNat]? = some f := ⟨_, List.getElem?_eq_getElem (by rw [hok.2.2.1]; unfold inF at hx; omega)⟩
    have hfd : d.1[x.toNat]?.getD ([], 0) = f := by rw [hf]; rfl
    have hvv := h.2.2.2.1 x.toNat v f hv hf
    obtain ⟨A, c, rfl⟩ := own_sl hvv
    have HC : ∀ W, Below w.heap.size w W → Hid (W.cell? ⟨g, 1 + x.toNat * 2, none⟩ = some (.slice A f.1.length c)) := fun W hW => Lib.hid (DskM.bytesA (DskM.below h hW) hv)
    by_cases hin : 0 ≤ n ∧ n ≤ (f.1.length : Int)
    · obtain ⟨k, rfl⟩ : ∃ k : Nat, n = (k : Int) := ⟨n.toNat, by omega⟩
      have hkl : k ≤ f.1.length := by omega
      have e : cutP d x (k : Int) = stepP d x (cutF d.1 x.toNat k, 0) := by
        unfold cutP
        rw [if_neg (by rw [hfd]; intro hh; exact hh.2 hin)]
        simp
      rw [e]
      have HS : ∀ W q, Below w.heap.size w W → Blk W w.heap.size 3 #[.int .i64 (k : Int)] → Hid (Calls Try.prog 73 #[.pointer (some ⟨g, 0, none⟩), .func (.func 92) #[] #[.pointer (some ⟨W.heap.size, 0, none⟩), .pointer (some ⟨w.heap.size, 0, none⟩)]] ((W.alloc (.cells #[.pointer (some ⟨g, 1 + x.toNat * 2, none⟩)] 120)).drewN q) (DRes w g room vs (stepP d x (cutF d.1 x.toNat k, 0)))) := by
        intro W q hW kn1
        have hb := below_drewN (hW.alloc hW.size (.cells #[.pointer (some ⟨g, 1 + x.toNat * 2, none⟩)] 120)) q
        have k1 := (Blk.new W 120 #[.pointer (some ⟨g, 1 + x.toNat * 2, none⟩)]).drewN q
        have kn2 := (kn1.alloc (.cells #[.pointer (some ⟨g, 1 + x.toNat * 2, none⟩)] 120)).drewN q
        refine Lib.hid ((DStep_any _ g room vs d x _ _ (DskM.below h hb) hx hok.2.2.2.2 (fun w => rfl) (cutF d.1 x.toNat k, 0) (by simp) ?_).mono (fun en w' hr => hr.below hb))
        intro w1 hb1
        have k2 := k1.below hb1 k1.lt
        have kn3 := kn2.below hb1 kn2.lt
        have hD := DskM.below (DskM.below h hb) hb1
        refine (Cut1_any w1 g room vs d.1 d.2.1 d.2.2.1 d.2.2.2 x.toNat W.heap.size w.heap.size k _ f hD hv hf (by rw [k2.cell]; rfl) (by rw [kn3.cell]; rfl) (by have := hW.size; omega) (by omega) hkl).mono ?_
        rintro en w2 ⟨rfl, v', hv', h1, h2⟩
        exact ⟨rfl, _, h1, DS_set hv (fun j hj => .inl (hv' j hj)), h2.mono (fun j _ hj => .inl hj)⟩
      have hkI : (k : Int) ≤ (f.1.length : Int) := by omega
      have hk0 : ¬ ((k : Int) < 0) := by omega
      have hk1 : ¬ ((f.1.length : Int) < (k : Int)) := by omega
      clear h hv hf hb0 kn hvv hfd e
      go_enter Try.func68, Try.ntmps68
      go_wp2_with fail
      refine (HF _ HB0.out).out.mono ?_
      rintro en w1 ⟨rfl, q, hq⟩
      have HW : Hid (Below w.heap.size w w1) := Lib.hid (by rw [hq]; exact below_drewN HB0.out q)
      have kn1 : Blk w1 w.heap.size 3 #[.int .i64 (k : Int)] := by rw [hq]; exact KN.out
      have KN1 := Lib.hid kn1
      have n0 := kn1.cell 0
      simp at n0
      have nl := kn1.lt
      have c0 := (HC _ HW.out).out
      have gl1 : g < w1.heap.size := by omega
      clear hq kn1
      go_wp2_with fail
      go_quiet (fail)
      have e1 : decide ((k : Int) < 0) = false := decide_eq_false (by omega)
      have e2 : decide (f.1.length < k) = false := decide_eq_false (by omega)
      simp only [e1, e2, Bool.or_false]
      go_wp2_with fail
      refine ((HS w1 _ HW.out KN1.out).out).mono ?_
      rintro en w2 hr
      obtain ⟨rfl, vs', hr2⟩ := hr
      have HR := Lib.hid hr2
      clear hr2
      go_wp2
      go_ret
      exact ⟨rfl, vs', HR.out⟩
    · have e : cutP d x n = (d, 1) := by
        unfold cutP
        rw [if_pos ⟨hx, by rw [hfd]; exact hin⟩]
      rw [e]
      have HD := Lib.hid h
      have HNI := Lib.hid hin
      clear h hv hf hb0 kn hvv hfd e hin
      go_enter Try.func68, Try.ntmps68
      go_wp2_with fail
      refine (HF _ HB0.out).out.mono ?_
      rintro en w1 ⟨rfl, q, hq⟩
      have HW : Hid (Below w.heap.size w w1) := Lib.hid (by rw [hq]; exact below_drewN HB0.out q)
      have kn1 : Blk w1 w.heap.size 3 #[.int .i64 n] := by rw [hq]; exact KN.out
      have n0 := kn1.cell 0
      simp at n0
      have nl := kn1.lt
      have c0 := (HC _ HW.out).out
      have gl1 : g < w1.heap.size := by omega
      clear hq kn1
      by_cases hn0 : n < 0
      · go_wp2_with fail
        go_quiet (fail)
        go_wp2
        go_ret
        exact ⟨rfl, vs, DskM.below HD.out (below_drewN (HW.out.alloc HW.out.size _) _), (Turned.refl _ _).below (below_drewN (HW.out.alloc HW.out.size _) _)⟩
      · have hn1 : (f.1.length : Int) < n := by have := HNI.out; omega
        go_wp2_with fail
        go_quiet (fail)
        have e1 : decide ((f.1.length : Int) < n) = true := decide_eq_true hn1
        have e2 : decide (n < 0) = false := decide_eq_false (by omega)
        try simp only [e1, e2, Bool.or_true]
        go_wp2
        go_ret
        exact ⟨rfl, vs, DskM.below HD.out (below_drewN (HW.out.alloc HW.out.size _) _), (Turned.refl _ _).below (below_drewN (HW.out.alloc HW.out.size _) _)⟩
  · simp only [rowAt_out hx] at HF
    have HD := Lib.hid h
    have e : cutP d x n = (d, 1) := by unfold cutP stepP; rw [if_neg (fun hh => hx hh.1), if_neg hx]
    rw [e]
    clear h hb0 kn e
    go_enter Try.func68, Try.ntmps68
    go_wp2_with fail
    refine (HF _ HB0.out).out.mono ?_
    rintro en w1 ⟨rfl, q, hq⟩
    have HW : Hid (Below w.heap.size w w1) := Lib.hid (by rw [hq]; exact below_drewN HB0.out q)
    clear hq
    go_wp2_with fail
    go_quiet (fail)
    go_wp2
    go_ret
    exact ⟨rfl, vs, DskM.below HD.out (below_drewN (HW.out.alloc HW.out.size _) _), (Turned.refl _ _).below (below_drewN (HW.out.alloc HW.out.size _) _)⟩
end Go.Proofs.Ytahichieakdbnaa

/- packetboatref08: Read, Files, Sync. -/
import Derived.Test.YtahichieakdbnaaEl
namespace Go.Proofs.Ytahichieakdbnaa
open Go.ChangeShapes Go.WideShapes Go.ChangeAt Go.RowKit Go.Maps Go.Deep
set_option linter.unusedVariables false
set_option linter.unusedSimpArgs false

theorem Made.src {w : World} {A : Option Addr} {n c : Nat} {bs : List Nat} {k : Nat} (h : Made w (.slice A n c) bs k) : Src w A n c (u8s bs) := by
  obtain ⟨A', c', hv, hr, h1, h2, h3, h4, h5⟩ := h
  injection hv with e1 e2 e3
  subst e1 e2 e3
  exact Src.of_rd' hr h5 h2 (by simp [u8s, h1])
theorem src_alloc {w : World} {A : Option Addr} {m c : Nat} {news : List Value} (h : Src w A m c news) (o : Obj) : Src (w.alloc o) A m c news := by
  rcases h with h | ⟨ad, h1, h2⟩
  · exact .inl h
  · exact .inr ⟨ad, h1, fun j u hu => by
      have h3 := h2 j u hu
      exact (((Below.refl w.heap.size w).alloc (Nat.le_refl _) o).cell (World.block_lt_of_cell? _ _ h3)).trans h3⟩
theorem RM.byt {w : World} {S : Nat → Prop} {g room : Nat} {vs : List Value} {d : Pd} (h : RM w S g room vs d) {i : Nat} {v : Value} {f : Fl} (hv : vs[i]? = some v) (hf : d.1[i]? = some f) : ∀ b ∈ f.1, b < 256 := by
  obtain ⟨A', c', hv', hr, h1, h2, h3, h4, h5⟩ := (h.2.2.2.2 i v f hv hf).1
  exact h4
set_option maxHeartbeats 3000000 in
set_option maxRecDepth 100000 in
theorem RRead_any (w : World) (S : Nat → Prop) (g room : Nat) (vs : List Value) (d : Pd) (x : Int) (h : RM w S g room vs d) (hok : OkP room d) :
    Calls Try.prog 24 #[.pointer (some ⟨g, 0, none⟩), .int .i64 x] w (ReadPost w (readP d x)) := by
  have gl := h.lt
  obtain ⟨i0, hi, hz0, hz1, hz2⟩ := info_parts infoU8
  have HT := Lib.hid (there_any w x)
  by_cases hx : inF x
  · obtain ⟨i, rfl⟩ : ∃ i : Nat, x = (i : Int) := ⟨x.toNat, by unfold inF at hx; omega⟩
    have hi64 : i < 64 := by unfold inF at hx; omega
    obtain ⟨A, c, f, hv, hf, hm⟩ := h.made hi64
    have c0 := h.bytes hv
    have e : readP d (i : Int) = (f.1, 0) := by unfold readP; rw [if_pos hx, Int.toNat_natCast, hf]; rfl
    have hiI : (i : Int) < 64 := by omega
    have hd : decide (inF (i : Int)) = true := decide_eq_true hx
    have hL := Nat.le_trans (totF_mem hf) (Nat.le_trans hok.2.1 hok.1)
    have HSR := Lib.hid (src_alloc hm.1.src (.cells #[] 5))
    have HBY := Lib.hid (h.byt hv hf)
    rw [hd] at HT
    rw [e]
    obtain ⟨n, hn⟩ : ∃ n, f.1.length = n := ⟨_, rfl⟩
    rw [hn] at c0 HSR hL
    have HN := Lib.hid hn
    clear h hv hf hm hd hx e hn hok
    go_enter Try.func24, Try.ntmps24
    go_wp2_with fail
    refine HT.out.mono ?_
    rintro en w1 ⟨rfl, hw⟩
    rw [hw]; clear hw w1
    go_wp2_with (at_builtin; go_must (refine wpList_app0 rfl (.tmp 9) (.tmp 15) 32 rfl w.heap.size 5 i0 (.int .u8 0) 1 1 Try.underlying32 hi hz0 hz1 hz2 rfl (by decide) w.heap.size rfl (Blk.new _ _ _) (Nat.le_refl _) A n c (u8s f.1) rfl (by simp [u8s, HN.out]) HSR.out (u8s_one _) (by unfold maxLen; omega) (by omega) ?_; intro v2 w2 ho2 hb2 hn2; have HO2 := Lib.hid ho2; have HB2 := Lib.hid hb2; clear ho2 hb2 hn2))
    go_ret2
    exact ⟨v2, rfl, made_of_own HO2.out rfl HBY.out, fun g' o' n' c' hv' => ⟨(HO2.out.lt g' (by rw [hv']; rfl)).1, fun h => h⟩, ((Below.refl w.heap.size w).alloc (Nat.le_refl _) _).trans (HB2.out.mono (by simp))⟩
  · have e : readP d x = ([], 1) := by unfold readP; rw [if_neg hx]
    have hd : decide (inF x) = false := decide_eq_false hx
    rw [hd] at HT
    rw [e]
    clear h hd hx e
    go_enter Try.func24, Try.ntmps24
    go_wp2_with fail
    refine HT.out.mono ?_
    rintro en w1 ⟨rfl, hw⟩
    rw [hw]; clear hw w1
    go_wp2
    go_ret2
    exact ⟨_, rfl, made_none _, Fre.nil _ _, Below.refl _ _⟩
set_option maxHeartbeats 3000000 in
set_option maxRecDepth 100000 in
theorem RFiles_any (w : World) (S : Nat → Prop) (g room : Nat) (vs : List Value) (d : Pd) (h : RM w S g room vs d) :
    Calls Try.prog 33 #[.pointer (some ⟨g, 0, none⟩)] w (FilesPost w (filesK d.1 64)) := by
  obtain ⟨i0, hi, hz0, hz1, hz2⟩ := info_parts infoInt
  have gl := h.lt
  have H := Lib.hid h
  clear h
  go_enter Try.func33, Try.ntmps33
  go_wp2
  go_loopw [3, 4] (fun s3 s4 wr => ∃ (i : Nat), s4 = .int .i64 (i : Int) ∧ i ≤ 64 ∧ Hid (wr.ownsRow w.heap.size 3 1 s3 (filesK d.1 i).length (i64n (filesK d.1 i))) ∧ Hid (Below w.heap.size w wr)) (fun _ s4 _ => 64 - (intOf s4).toNat)
  case atStart => exact ⟨0, rfl, by omega, Lib.hid ⟨rfl, .inr ⟨w.heap.size, 0, #[], rfl, Nat.le_refl _, Blk.new _ _ _, Nat.le_refl _, Nat.zero_le _, rfl, rfl⟩⟩, Lib.hid ((Below.refl _ w).alloc (Nat.le_refl _) _)⟩
  case round =>
    obtain ⟨i, rfl, hi64, HO, HB⟩ := hrel
    have hlen := filesK_len d.1 i
    obtain ⟨m, hm⟩ : ∃ m, (filesK d.1 i).length = m := ⟨_, rfl⟩
    rw [hm] at hlen HO
    have HM := Lib.hid hm
    obtain ⟨A3, c3, rfl⟩ := own_sl HO.out
    by_cases hlt : i < 64
    · have hiI : (i : Int) < 64 := by omega
      obtain ⟨A, c, f, hv, hf, hmm⟩ := (H.out.below HB.out).made hlt
      have b0 := (H.out.below HB.out).bytes hv
      have hfd : d.1[i]?.getD ([], 0) = f := by rw [hf]; rfl
      have gl2 : g < wr.heap.size := Nat.lt_of_lt_of_le gl HB.out.size
      have hnx := filesK_succ d.1 i
      rw [hfd] at hnx
      obtain ⟨n, hn⟩ : ∃ n, f.1.length = n := ⟨_, rfl⟩
      rw [hn] at b0 hnx
      by_cases h0 : 0 < n
      · rw [if_pos h0] at hnx
        have HNX := Lib.hid hnx
        have h0I : (0 : Int) < (n : Int) := by omega
        clear hv hf hfd hn hnx hm hmm
        go_wp2_with (at_builtin; go_must (refine wpList_append_own_at _ rfl (.tmp 18) (.tmp 20) 33 rfl w.heap.size 3 i0 (.int .i64 0) 1 8 Try.underlying33 hi hz0 hz1 hz2 rfl (by decide) _ m (i64n (filesK d.1 i)) rfl (HO.out.alloc _) ⟨wr.heap.size, 0, none⟩ 1 1 [.int .i64 (i : Int)] rfl rfl (one_new _ _ _) (one_cell rfl) (by unfold maxLen; omega) (by omega) (by simp; have := HB.out.size; omega) ?_; intro v2 w2 ho2 hg2 _ _; obtain ⟨A2, c2, rfl⟩ := own_sl ho2; have HO2 := Lib.hid ho2; have HG2 := Lib.hid hg2; clear ho2 hg2))
        have R : Hid (w2.ownsRow w.heap.size 3 1 (.slice A2 (m + 1) c2) (filesK d.1 (i + 1)).length (i64n (filesK d.1 (i + 1)))) := Lib.hid (by
          rw [HNX.out]
          have := HO2.out
          rw [List.length_append, HM.out]
          simpa [i64n] using this)
        have RB : Hid (Below w.heap.size w w2) := Lib.hid ((HB.out.alloc HB.out.size _).trans (below_own (B := w.heap.size) (HO.out.alloc _) HG2.out (Nat.le_refl _) (by have := HB.out.size; simp; omega)))
        go_wp2
        go_roundw
        case rel => exact ⟨i + 1, by go_num, by omega, R, RB⟩
        case measure => simp [intOf]; omega
      · rw [if_neg h0, List.append_nil] at hnx
        obtain rfl : n = 0 := by omega
        have R : Hid (wr.ownsRow w.heap.size 3 1 (.slice A3 m c3) (filesK d.1 (i + 1)).length (i64n (filesK d.1 (i + 1)))) := Lib.hid (by rw [hnx, hm]; exact HO.out)
        clear hv hf hfd hn hnx hm hmm
        go_wp2
        go_roundw
        case rel => exact ⟨i + 1, by go_num, by omega, R, HB⟩
        case measure => simp [intOf]; omega
    · obtain rfl : i = 64 := by omega
      clear hm
      go_wp2
      go_ret
      exact ⟨_, rfl, by rw [show (filesK d.1 64).length = m from HM.out]; exact HO.out, HB.out⟩
theorem stepP_off {d : Pd} {x : Int} {r : List Fl × Nat} (hx : inF x) (h : (stepR d).2 = false) : stepP d x r = ((stepR d).1, 8) := by
  unfold stepR at h ⊢
  unfold stepP
  rw [if_pos hx]
  split
  · rfl
  · rename_i h2
    rw [if_neg h2] at h
    cases h
theorem stepP_on {d : Pd} {x : Int} {r : List Fl × Nat} (hx : inF x) (h : (stepR d).2 = true) : stepP d x r = ((r.1, (stepR d).1.2), r.2) ∧ (stepR d).1.1 = d.1 := by
  unfold stepR at h ⊢
  unfold stepP
  rw [if_pos hx]
  split
  · rename_i h2
    rw [if_pos h2] at h
    cases h
  · exact ⟨rfl, rfl⟩
theorem stepP_out {d : Pd} {x : Int} {r : List Fl × Nat} (hx : ¬ inF x) : stepP d x r = (d, 1) := by unfold stepP; rw [if_neg hx]
set_option maxHeartbeats 3000000 in
set_option maxRecDepth 100000 in
theorem RSync_any (w : World) (S : Nat → Prop) (g room : Nat) (vs : List Value) (d : Pd) (x : Int) (h : RM w S g room vs d) (hok : OkP room d) :
    Calls Try.prog 19 #[.pointer (some ⟨g, 0, none⟩), .int .i64 x] w (RRes w S g room (syncP d x)) := by
  have gl := h.lt
  have HT := Lib.hid (there_any w x)
  by_cases hx : inF x
  · have HST := Lib.hid (Rstep_any w S g room vs d h hok.2.2.2.2)
    have hd : decide (inF x) = true := decide_eq_true hx
    rw [hd] at HT
    clear h hd
    obtain ⟨⟨d1, b⟩, hsr⟩ : ∃ r, stepR d = r := ⟨_, rfl⟩
    rw [hsr] at HST
    cases b with
    | false =>
      have e : syncP d x = (d1, 8) := by unfold syncP; rw [stepP_off hx (by rw [hsr]), hsr]
      rw [e]
      clear hsr e hx
      go_enter Try.func19, Try.ntmps19
      go_wp2_with fail
      refine HT.out.mono ?_
      rintro en w1 ⟨rfl, hw⟩
      rw [hw]; clear hw w1
      go_wp2_with fail
      refine HST.out.mono ?_
      rintro en w2 ⟨rfl, h1, h2⟩
      have H1 := Lib.hid h1; have H2 := Lib.hid h2
      clear h1 h2
      go_wp2
      go_ret
      exact ⟨rfl, vs, H1.out, H2.out⟩
    | true =>
      have hon := stepP_on (r := (syncF d.1 x.toNat, 0)) hx (by rw [hsr])
      rw [hsr] at hon
      have e : syncP d x = ((syncF d.1 x.toNat, d1.2), 0) := hon.1
      have hd1 : d1.1 = d.1 := hon.2
      rw [e]
      obtain ⟨i, rfl⟩ : ∃ i : Nat, x = (i : Int) := ⟨x.toNat, by unfold inF at hx; omega⟩
      have hi64 : i < 64 := by unfold inF at hx; omega
      have hiI : (i : Int) < 64 := by omega
      have HD1 := Lib.hid hd1
      clear hsr e hx hon hd1
      go_enter Try.func19, Try.ntmps19
      go_wp2_with fail
      refine HT.out.mono ?_
      rintro en w1 ⟨rfl, hw⟩
      rw [hw]; clear hw w1
      go_wp2_with fail
      refine HST.out.mono ?_
      rintro en w2 ⟨rfl, h1, h2⟩
      obtain ⟨A, c, f, hv, hf, hmm⟩ := h1.made hi64
      have b0 := h1.bytes hv
      have s0 := h1.sure hf
      have z0 := h1.2.2.1.frozen (64 + i)
      have gl2 := h1.lt
      have HE := Lib.hid ((h1.below (Below.refl _ w2).drew).setS hf f.1.length)
      have HO := Lib.hid (Only.set (S := fun j => j = g) h2.drew rfl (64 + i) (.int .i64 (f.1.length : Int)))
      have hsf : syncF d.1 i = d1.1.set i (f.1, f.1.length) := by unfold syncF; rw [← HD1.out, hf]; rfl
      have HSF := Lib.hid hsf
      obtain ⟨n, hn⟩ : ∃ n, f.1.length = n := ⟨_, rfl⟩
      rw [hn] at b0 HE HO HSF
      clear h1 h2 hv hf hmm hsf hn
      go_wp2_with fail
      go_still_tail 12, (by kernel_rfl)
      change wpList _ _ _ _ _ w2.drew
      go_wp2
      go_ret
      refine ⟨rfl, vs, ?_, HO.out⟩
      have := HE.out
      rw [← HSF.out] at this
      exact this
  · have hd : decide (inF x) = false := decide_eq_false hx
    rw [hd] at HT
    have e : syncP d x = (d, 1) := stepP_out hx
    rw [e]
    have H := Lib.hid h
    clear h hd hx e
    go_enter Try.func19, Try.ntmps19
    go_wp2_with fail
    refine HT.out.mono ?_
    rintro en w1 ⟨rfl, hw⟩
    rw [hw]; clear hw w1
    go_wp2
    go_ret
    exact ⟨rfl, vs, H.out, Only.refl _ _⟩
end Go.Proofs.Ytahichieakdbnaa

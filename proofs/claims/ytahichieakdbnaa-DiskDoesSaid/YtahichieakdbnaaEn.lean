/- packetboatref08: Append, Cut. -/
import Derived.Test.YtahichieakdbnaaEm
namespace Go.Proofs.Ytahichieakdbnaa
open Go.ChangeShapes Go.WideShapes Go.ChangeAt Go.RowKit Go.Maps Go.Deep
set_option linter.unusedVariables false
set_option linter.unusedSimpArgs false

/-- a new row is laid -/
theorem RM.lay {w w3 : World} {S : Nat → Prop} {g room i n c : Nat} {vs : List Value} {d : Pd} {f : Fl} {A : Option Addr} {bs : List Nat} (h : RM w S g room vs d) (hS : ∀ j, S j → j < w.heap.size) (hf : d.1[i]? = some f)
    (hb : Below w.heap.size w w3) (ho : w3.ownsRow w.heap.size 5 1 (.slice A n c) n (u8s bs)) (hn : bs.length = n) (h256 : ∀ b ∈ bs, b < 256) :
    (∃ y, w3.cell? ⟨g, i, none⟩ = some y) ∧ w3.frozen? ⟨g, i, none⟩ = false ∧ g < w3.heap.size ∧ RM (w3.setCell ⟨g, i, none⟩ (.slice A n c)) S g room (vs.set i (.slice A n c)) (d.1.set i (bs, f.2), d.2) ∧ Only (fun j => j = g) w (w3.setCell ⟨g, i, none⟩ (.slice A n c)) := by
  have h3 := h.below hb
  have hil := (List.getElem?_eq_some_iff.1 hf).1
  obtain ⟨A', c', f', hv, _, _⟩ := h3.made (i := i) (by rw [h.2.1] at hil; exact hil)
  have hm : MadeO w3 S (.slice A n c) bs bs.length := ⟨made_of_own ho rfl h256, fun g' o n' c' hv' _ hs => by
    have h1 := (ho.lt g' (by rw [hv']; rfl)).1
    have h2 := hS g' hs
    omega⟩
  exact ⟨⟨_, h3.bytes hv⟩, h3.2.2.1.frozen i, h3.lt, h3.setV hf hm, Only.set (S := fun j => j = g) (Only.of_below hb) rfl _ _⟩
set_option maxHeartbeats 4000000 in
set_option maxRecDepth 100000 in
theorem RAppend_any (w : World) (S : Nat → Prop) (g room : Nat) (vs : List Value) (d : Pd) (x : Int) (A : Option Addr) (m c B : Nat) (bs : List Nat) (h : RM w S g room vs d) (hS : ∀ j, S j → j < w.heap.size) (hok : OkP room d)
    (hr : Rd w B A (u8s bs)) (hB : B ≤ w.heap.size) (hBg : B ≤ g) (hn : A = none → c = 0) (hm : m ≤ c) (hl : bs.length = m) (h256 : ∀ b ∈ bs, b < 256) :
    Calls Try.prog 18 #[.pointer (some ⟨g, 0, none⟩), .int .i64 x, .slice A m c] w (RRes w S g room (appendP room d x bs)) := by
  have gl := h.lt
  have HT := Lib.hid (there_any w x)
  obtain ⟨i0, hi, hz0, hz1, hz2⟩ := info_parts infoU8
  by_cases hx : inF x
  · have HST := Lib.hid (Rstep_any w S g room vs d h hok.2.2.2.2)
    have hd : decide (inF x) = true := decide_eq_true hx
    rw [hd] at HT
    clear h hd
    obtain ⟨⟨d1, b⟩, hsr⟩ : ∃ r, stepR d = r := ⟨_, rfl⟩
    rw [hsr] at HST
    cases b with
    | false =>
      have e : appendP room d x bs = (d1, 8) := by unfold appendP; rw [stepP_off hx (by rw [hsr]), hsr]
      rw [e]
      clear hsr e hx
      go_enter Try.func18, Try.ntmps18
      go_wp2_with fail
      refine HT.out.mono ?_
      rintro en w1 ⟨rfl, hw⟩
      rw [hw]; clear hw w1
      go_wp2_with fail
      refine HST.out.mono ?_
      rintro en w2 ⟨rfl, h1, h2⟩
      have H1 := Lib.hid h1; have H2 := Lib.hid h2
      clear h1 h2
      go_wp2
      go_ret
      exact ⟨rfl, vs, H1.out, H2.out⟩
    | true =>
      have hon := stepP_on (r := (if room - totF d.1 < bs.length then (d.1, 7) else (putF d.1 x.toNat bs, 0))) hx (by rw [hsr])
      rw [hsr] at hon
      have e : appendP room d x bs = (((if room - totF d.1 < bs.length then (d.1, 7) else (putF d.1 x.toNat bs, 0)).1, d1.2), (if room - totF d.1 < bs.length then (d.1, 7) else (putF d.1 x.toNat bs, 0)).2) := hon.1
      have hd1 : d1.1 = d.1 := hon.2
      rw [e]
      obtain ⟨i, rfl⟩ : ∃ i : Nat, x = (i : Int) := ⟨x.toNat, by unfold inF at hx; omega⟩
      have hi64 : i < 64 := by unfold inF at hx; omega
      have hiI : (i : Int) < 64 := by omega
      have hok1 : OkP room d1 := by
        have := hok.step (i : Int) (d.1, 0) (fun _ => hok.f)
        have h9 := stepP_on (r := (d.1, 0)) hx (by rw [hsr])
        rw [h9.1, hsr] at this
        rw [← hd1] at this
        exact this
      have HD1 := Lib.hid hd1; have HOK := Lib.hid hok1
      have HRB : Hid (∀ w', Only (fun j => j = g) w w' → Rd w' B A (u8s bs)) := Lib.hid (fun w' ho => ho.rd hr hB (fun g' o hA hne e => by
        obtain ⟨g2, o2, e2, hlt, _⟩ := hr hne
        rw [hA] at e2
        injection e2 with e2
        injection e2 with e3 e4
        omega))
      clear hsr e hx hon hd1 hok1 hok hr
      by_cases hfull : room - totF d.1 < bs.length
      · simp only [if_pos hfull]
        have hI : ((room - totF d.1 : Nat) : Int) < (m : Int) := by omega
        go_enter Try.func18, Try.ntmps18
        go_wp2_with fail
        refine HT.out.mono ?_
        rintro en w1 ⟨rfl, hw⟩
        rw [hw]; clear hw w1
        go_wp2_with fail
        refine HST.out.mono ?_
        rintro en w2 ⟨rfl, h1, h2⟩
        have H1 := Lib.hid h1; have H2 := Lib.hid h2
        clear h1 h2 hfull
        go_wp2_with fail
        refine (RLeft_any w2 S g room vs d1 H1.out HOK.out).mono ?_
        rintro en w3 ⟨rfl, q, hq⟩
        rw [HD1.out]
        have R1 : Hid (RM w3 S g room vs (d.1, d1.2)) := Lib.hid (by rw [hq, ← HD1.out]; exact H1.out.below (below_drewN (Below.refl _ _) q))
        have R2 : Hid (Only (fun j => j = g) w w3) := Lib.hid (by rw [hq]; exact H2.out.drewN q)
        clear hq
        go_wp2
        go_ret
        exact ⟨rfl, vs, R1.out, R2.out⟩
      · simp only [if_neg hfull]
        have hI : ¬ ((room - totF d.1 : Nat) : Int) < (m : Int) := by omega
        go_enter Try.func18, Try.ntmps18
        go_wp2_with fail
        refine HT.out.mono ?_
        rintro en w1 ⟨rfl, hw⟩
        rw [hw]; clear hw w1
        go_wp2_with fail
        refine HST.out.mono ?_
        rintro en w2 ⟨rfl, h1, h2⟩
        have H1 := Lib.hid h1; have H2 := Lib.hid h2
        clear h1 h2
        go_wp2_with fail
        refine (RLeft_any w2 S g room vs d1 H1.out HOK.out).mono ?_
        rintro en W ⟨rfl, q, hq⟩
        rw [HD1.out]
        have r1 : RM W S g room vs d1 := by rw [hq]; exact H1.out.below (below_drewN (Below.refl _ _) q)
        have R2 : Hid (Only (fun j => j = g) w W) := Lib.hid (by rw [hq]; exact H2.out.drewN q)
        have HSW : Hid (∀ j, S j → j < W.heap.size) := Lib.hid (fun j hj => Nat.lt_of_lt_of_le (hS j hj) R2.out.size)
        obtain ⟨A9, c9, f, hv, hf, hmm⟩ := r1.made hi64
        have b0 := r1.bytes hv
        have gl2 := r1.lt
        have hL := Nat.le_trans (totF_mem hf) HOK.out.2.1
        have hroom := HOK.out.1
        have HBY := Lib.hid (r1.byt hv hf)
        have SA := Lib.hid (src_alloc (show Src W.drew A9 f.1.length c9 (u8s f.1) from hmm.1.src) (.cells #[] 5))
        have SB : Hid (∀ w', Below W.heap.size W w' → Src w' A m c (u8s bs)) := Lib.hid (fun w' hb => Src.of_rd' (((HRB.out W R2.out).below (hb.mono (Nat.le_trans hB R2.out.size)))) hn hm (by simp [u8s, hl]))
        have hpf : putF d.1 i bs = d1.1.set i (f.1 ++ bs, f.2) := by unfold putF; rw [← HD1.out, hf]; rfl
        have HPF := Lib.hid hpf
        obtain ⟨n, hnn⟩ : ∃ n, f.1.length = n := ⟨_, rfl⟩
        rw [hnn] at b0 hL SA
        have LAY := Lib.hid (fun w3 A3 c3 (hb : Below W.heap.size W w3) ho => RM.lay (w3 := w3) (A := A3) (c := c3) (n := n + m) (bs := f.1 ++ bs) r1 HSW.out hf hb ho (by rw [List.length_append]; omega) (fun b hb => by
          rcases List.mem_append.1 hb with h1 | h1
          · exact HBY.out b h1
          · exact h256 b h1))
        have HNN := Lib.hid hnn; have HL := Lib.hid hl
        clear hq r1 hv hf hmm hpf hnn hfull HD1 H1 H2 hl
        go_wp2_with fail
        go_region_law (first
          | (refine step_app0 rfl (.tmp 20) (.tmp 26) 32 rfl W.heap.size 5 i0 (.int .u8 0) 1 1 Try.underlying32 hi hz0 hz1 hz2 rfl (by decide) W.heap.size (by simp [Act.eval, Act.put]) (Blk.new' W.drew _ _ rfl) (Nat.le_refl _) A9 n c9 (u8s f.1) (by simp [Act.eval, Act.put]) (by simp [u8s, HNN.out]) SA.out (u8s_one _) (by unfold maxLen; omega) (by omega) ?_; intro v2 w3 ho2 hb2 _hn2; have HO2 := Lib.hid ho2; have HB2 : Hid (Below W.heap.size W w3) := Lib.hid (((Below.refl W.heap.size W).drew.alloc (by simp) _).trans (hb2.mono (by simp))); clear ho2 hb2 _hn2; go_simp)
          | (go_must (refine step_app_at rfl (.tmp 27) (.tmp 28) 32 rfl W.heap.size 5 i0 (.int .u8 0) 1 1 Try.underlying32 hi hz0 hz1 hz2 rfl (by decide) v2 n (u8s f.1) (by simp [Act.eval, Act.put]) HO2.out A m c (u8s bs) (by simp [Act.eval, Act.put]) (by simp [u8s, HL.out]) (SB.out _ HB2.out) (u8s_one _) (by unfold maxLen; omega) (by omega) HB2.out.size ?_; intro v3 w4 ho3 hg3 _hn3; rw [← u8s_append] at ho3; obtain ⟨A4, c4, rfl⟩ := own_sl ho3; obtain ⟨⟨y4, hy4⟩, z4, l4, hRM, hOn⟩ := LAY.out w4 A4 c4 (HB2.out.trans (below_own (B := W.heap.size) HO2.out hg3 (Nat.le_refl _) HB2.out.size)) ho3; have HRM := Lib.hid hRM; have HON := Lib.hid hOn; clear ho3 hg3 hRM hOn _hn3; go_simp)))
        all_goals (
          go_wp2
          go_ret
          refine ⟨rfl, vs.set i (.slice A4 (n + m) c4), ?_, R2.out.trans HON.out (Sub.refl _ _)⟩
          have := HRM.out
          rw [← HPF.out] at this
          exact this)
  · have hd : decide (inF x) = false := decide_eq_false hx
    rw [hd] at HT
    have e : appendP room d x bs = (d, 1) := stepP_out hx
    rw [e]
    have H := Lib.hid h
    clear h hd hx e
    go_enter Try.func18, Try.ntmps18
    go_wp2_with fail
    refine HT.out.mono ?_
    rintro en w1 ⟨rfl, hw⟩
    rw [hw]; clear hw w1
    go_wp2
    go_ret
    exact ⟨rfl, vs, H.out, Only.refl _ _⟩
end Go.Proofs.Ytahichieakdbnaa

/- disk: the closure of Append. -/
import Derived.Test.YtahichieakdbnaaDu
namespace Go.Proofs.Ytahichieakdbnaa
open Go.ChangeShapes Go.WideShapes Go.ChangeAt Go.RowKit Go.Maps
set_option linter.unusedVariables false
set_option linter.unusedSimpArgs false

theorem Src.of_rd' {w : World} {B : Nat} {A : Option Addr} {m c : Nat} {xs : List Value} (h : Rd w B A xs) (hn : A = none → c = 0) (hm : m ≤ c) (hl : xs.length = m) : Src w A m c xs := by
  cases A with
  | none =>
    have h1 := hn rfl
    exact .inl ⟨rfl, by omega, h1, List.eq_nil_of_length_eq_zero (by omega)⟩
  | some ad =>
    refine .inr ⟨ad, rfl, fun j u hu => ?_⟩
    have hne : xs ≠ [] := by rintro rfl; simp at hu
    obtain ⟨g, o, e, hg, hc⟩ := h hne
    injection e with e
    subst e
    have h3 := hc j u hu
    by_cases hj : j = 0
    · subst hj; simpa [Addr.add] using h3
    · simpa [Addr.add, hj] using h3
/-- bytes put behind a file's -/
def putF (fs : List Fl) (i : Nat) (bs : List Nat) : List Fl := fs.set i ((fs[i]?.getD ([], 0)).1 ++ bs, (fs[i]?.getD ([], 0)).2)
set_option maxHeartbeats 3000000 in
set_option maxRecDepth 100000 in
theorem Append1_full (w : World) (g room : Nat) (vs : List Value) (fs : List Fl) (down fused : Bool) (fuse i bb bd bf m c : Nat) (A : Option Addr) (h : DskM w g room vs fs down fused fuse)
    (hroom : room ≤ 1048576) (htot : ∀ i, totF (fs.take i) ≤ room) (hb : Blk w bb 32 #[.slice A m c]) (hd : Blk w bd 25 #[.pointer (some ⟨g, 0, none⟩)]) (hfull : room - totF fs < m) :
    Calls Try.prog 91 #[.pointer (some ⟨bb, 0, none⟩), .pointer (some ⟨bd, 0, none⟩), .pointer (some ⟨bf, 0, none⟩)] w (fun en w' => en = .returned (.int .i64 7) ∧ ∃ q, w' = w.drewN q) := by
  have HL := fun W (hW : Below w.heap.size w W) => Lib.hid (DLeft_any W g room vs fs down fused fuse (h.below hW) hroom htot)
  have hB := Lib.hid (Below.refl w.heap.size w).drew
  have b0 := hb.cell 0
  have d0 := hd.cell 0
  simp at b0 d0
  have bl := hb.lt
  have dl := hd.lt
  have hI : ((room - totF fs : Nat) : Int) < (m : Int) := by omega
  clear h htot hfull hb hd
  go_enter Try.func91, Try.ntmps91
  go_wp2
  go_quiet (first | (go_at_call 28; refine Calls.quiet_of (HL _ (below_drewN (Below.refl _ w) _)).out) | fail)
  go_wp2
  go_ret
  exact ⟨rfl, _, rfl⟩
/-- behind the append -/
theorem app_end {w w1 w2 : World} {g room fuse i bf m : Nat} {vs : List Value} {fs : List Fl} {down fused : Bool} {v v2 : Value} {f : Fl} {bs : List Nat} {t : TypeId} {x : Value} (h : DskM w g room vs fs down fused fuse) (hv : vs[i]? = some v) (hf : fs[i]? = some f) (hbf : Blk w bf t #[x]) (ht : 5 ≠ t) (hl : bs.length = m)
    (hB : Below w.heap.size w w1) (ho2 : w2.ownsRow 0 5 1 v2 (f.1.length + m) (u8s f.1 ++ u8s bs)) (hg2 : w1.grownBy w2 v.ownBlock) (hb2 : v2.ownBlock = v.ownBlock ∨ v2.ownBlock = some w1.heap.size) :
    w2.cell? ⟨bf, 0, none⟩ = some x ∧ bf < w2.heap.size ∧ w2.frozen? ⟨g, 1 + i * 2, none⟩ = false ∧ g < w2.heap.size ∧ w2.cell? ⟨g, 1 + i * 2, none⟩ = some v ∧
    (DskM (w2.setCell ⟨g, 1 + i * 2, none⟩ v2) g room (vs.set i v2) (putF fs i bs) down fused fuse ∧ Turned w (DS g vs) (DS g (vs.set i v2)) (w2.setCell ⟨g, 1 + i * 2, none⟩ v2)) := by
  have h1 := h.below hB
  have ho1 := h1.2.2.2.1 i v f hv hf
  have k1 := hbf.below hB hbf.lt
  have k2 := k1.grown hg2 (fun e => own_ne_blk ho1 k1 ht _ e.symm rfl)
  have g2 := h1.2.2.1.grown hg2 (fun e => own_ne_blk ho1 h1.2.2.1 (by decide) _ e.symm rfl)
  have hbb : ∀ j, v2.ownBlock = some j → v.ownBlock = some j ∨ w1.heap.size ≤ j := by
    intro j hj
    rcases hb2 with e | e
    · left; rw [← e]; exact hj
    · right; rw [e] at hj; injection hj with hj; omega
  have hD := h1.setV (w2 := w2) (v' := v2) (bs := f.1 ++ bs) hv hf hg2 (by simpa [u8s, hl] using ho2) hbb
  have hP : putF fs i bs = fs.set i (f.1 ++ bs, f.2) := by unfold putF; rw [hf]; rfl
  have hO : Only (DS g vs) w w2 := (Only.of_below (S := DS g vs) hB).trans (Only.of_grown (S := DS g vs) hg2 (fun j hj => .inr ⟨i, v, hv, hj⟩)) (Sub.refl _ _)
  refine ⟨by rw [k2.cell]; rfl, k2.lt, g2.frozen _, g2.lt, by rw [g2.cell, ← h1.2.2.1.cell]; exact h1.bytesA hv, by rw [hP]; exact hD, DS_set hv (fun j hj => ?_), hO.set (.inl rfl) _ _⟩
  rcases hbb j hj with e | e
  · exact .inl e
  · have := hB.size; exact .inr (by omega)
set_option maxHeartbeats 4000000 in
set_option maxRecDepth 100000 in
theorem Append1_any (w : World) (g room : Nat) (vs : List Value) (fs : List Fl) (down fused : Bool) (fuse i bb bd bf m c : Nat) (A : Option Addr) (bs : List Nat) (v : Value) (f : Fl) (h : DskM w g room vs fs down fused fuse) (hv : vs[i]? = some v) (hf : fs[i]? = some f)
    (hroom : room ≤ 1048576) (htot : ∀ i, totF (fs.take i) ≤ room) (hb : Blk w bb 32 #[.slice A m c]) (hd : Blk w bd 25 #[.pointer (some ⟨g, 0, none⟩)]) (hbf : Blk w bf 120 #[.pointer (some ⟨g, 1 + i * 2, none⟩)])
    (hr : Rd w w.heap.size A (u8s bs)) (hn : A = none → c = 0) (hm : m ≤ c) (hl : bs.length = m) (hfit : ¬ room - totF fs < m) (hfl : f.1.length ≤ room) :
    Calls Try.prog 91 #[.pointer (some ⟨bb, 0, none⟩), .pointer (some ⟨bd, 0, none⟩), .pointer (some ⟨bf, 0, none⟩)] w (fun en w' => en = .returned (.int .i64 0) ∧ ∃ v', DskM w' g room (vs.set i v') (putF fs i bs) down fused fuse ∧ Turned w (DS g vs) (DS g (vs.set i v')) w') := by
  have HL := fun W (hW : Below w.heap.size w W) => Lib.hid (DLeft_any W g room vs fs down fused fuse (h.below hW) hroom htot)
  have hB := Lib.hid (Below.refl w.heap.size w).drew
  have HDD := fun W (hW : Below w.heap.size w W) => Lib.hid (h.below hW)
  have b0 := hb.cell 0
  have d0 := hd.cell 0
  have f0 := hbf.cell 0
  simp at b0 d0 f0
  have bl := hb.lt
  have dl := hd.lt
  have fl := hbf.lt
  have gl := h.2.2.1.lt
  have c0 := h.bytesA hv
  have ho := h.2.2.2.1 i v f hv hf
  obtain ⟨A9, c9, rfl⟩ := own_sl ho
  have HO := fun W (hW : Below w.heap.size w W) => Lib.hid (own_below ho hW)
  have HS := fun W (hW : Below w.heap.size w W) => Lib.hid (Src.of_rd' (hr.below hW) hn hm (by simp [u8s, hl]) : Src W A m c (u8s bs))
  obtain ⟨i0, hi, hz0, hz1, hz2⟩ := info_parts infoU8
  have hI : ¬ ((room - totF fs : Nat) : Int) < (m : Int) := by omega
  have hsz : f.1.length + m ≤ maxLen := by unfold maxLen; omega
  have hsz2 : (f.1.length + m) * 1 ≤ 140737488355328 := by omega
  have HV := Lib.hid hv; have HF := Lib.hid hf; have HBS := Lib.hid hl
  have HBF := Lib.hid hbf
  have HAF := Lib.hid (fun (w1 w2 : World) (v2 : Value) (hB : Below w.heap.size w w1) ho2 (hg2 : w1.grownBy w2 (Value.slice A9 f.1.length c9).ownBlock) hb2 => app_end (v2 := v2) (m := m) (bs := bs) h hv hf hbf (by decide) hl hB ho2 hg2 hb2)
  have hBB : Hid (∀ q, Below w.heap.size w (w.drewN q)) := Lib.hid (fun q => below_drewN (Below.refl _ w) q)
  clear h ho htot hfit hb hd hv hf hbf
  go_enter Try.func91, Try.ntmps91
  go_wp2
  go_quiet (first | (go_at_call 28; refine Calls.quiet_of (HL _ (below_drewN (Below.refl _ w) _)).out) | fail)
  go_wp2
  go_region_law (first
    | (go_must (refine step_app_at rfl (.tmp 13) (.tmp 14) 32 rfl 0 5 i0 (.int .u8 0) 1 1 Try.underlying32 hi hz0 hz1 hz2 rfl (by decide) (.slice A9 f.1.length c9) f.1.length (u8s f.1) (by simp [Act.eval, Act.put]) (HO _ (hBB.out _)).out A m c (u8s bs) (by simp [Act.eval, Act.put]) (by simp [u8s, HBS.out]) (HS _ (hBB.out _)).out (u8s_one _) hsz hsz2 (Nat.zero_le _) ?_; intro v2 w2 ho2 hg2 hb2; obtain ⟨A2, c2, rfl⟩ := own_sl ho2; have hk := HAF.out _ _ _ (hBB.out _) ho2 hg2 hb2; obtain ⟨k0, kl, z3, gl3, y3, hEnd⟩ := hk; have HE := Lib.hid hEnd; clear ho2 hg2 hb2 hEnd; go_simp))
    | fail)
  all_goals (
    go_wp2
    go_ret
    exact ⟨rfl, _, HE.out⟩)
end Go.Proofs.Ytahichieakdbnaa

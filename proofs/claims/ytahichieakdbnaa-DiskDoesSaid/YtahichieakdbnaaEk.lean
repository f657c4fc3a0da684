/- packetboatref08: its disk in memory. -/
import Derived.Test.YtahichieakdbnaaEh
namespace Go.Proofs.Ytahichieakdbnaa
open Go.ChangeShapes Go.WideShapes Go.ChangeAt Go.RowKit Go.Maps Go.Deep
set_option linter.unusedVariables false
set_option linter.unusedSimpArgs false

/-- the document's fuse -/
def fuI (d : Pd) : Int := if d.2.2.1 then (d.2.2.2 : Int) else -1
def sus (fs : List Fl) : List Value := fs.map fun f => Value.int .i64 (f.2 : Int)
def rcs (room : Nat) (vs : List Value) (d : Pd) : List Value := vs ++ (sus d.1 ++ [.int .i64 (room : Int), .int .i64 (fuI d), .bool d.2.1])
/-- block g is the document's disk; its rows of bytes lie apart from S -/
def RM (w : World) (S : Nat → Prop) (g room : Nat) (vs : List Value) (d : Pd) : Prop :=
  vs.length = 64 ∧ d.1.length = 64 ∧ Blk w g 50 (rcs room vs d).toArray ∧ S g ∧ ∀ (i : Nat) (v : Value) (f : Fl), vs[i]? = some v → d.1[i]? = some f → MadeO w S v f.1 f.1.length
namespace RM
variable {w w' : World} {S : Nat → Prop} {g room : Nat} {vs : List Value} {d : Pd}
theorem below (h : RM w S g room vs d) (hb : Below w.heap.size w w') : RM w' S g room vs d := ⟨h.1, h.2.1, h.2.2.1.below hb h.2.2.1.lt, h.2.2.2.1, fun i v f hv hf => (h.2.2.2.2 i v f hv hf).below hb⟩
theorem sl (h : RM w S g room vs d) : (sus d.1).length = 64 := by rw [sus, List.length_map, h.2.1]
theorem lt (h : RM w S g room vs d) : g < w.heap.size := h.2.2.1.lt
/-- other blocks turn -/
theorem turn {S' : Nat → Prop} (h : RM w S g room vs d) (hT : Turned w (fun j => S j ∧ j ≠ g) (fun j => S' j ∧ j ≠ g) w') (hg : S' g) : RM w' S' g room vs d := by
  refine ⟨h.1, h.2.1, hT.2.blk h.2.2.1 (fun e => e.2 rfl), hg, fun i v f hv hf => ?_⟩
  have hm := h.2.2.2.2 i v f hv hf
  have hm2 : MadeO w (fun j => S j ∧ j ≠ g) v f.1 f.1.length := ⟨hm.1, fun g' o n c hv' hb hs => hm.2 g' o n c hv' hb hs.1⟩
  have hm3 := hm2.turn hT
  refine ⟨hm3.1, fun g' o n c hv' hb hs => ?_⟩
  by_cases hgg : g' = g
  · subst hgg
    exact hm.2 g' o n c hv' hb h.2.2.2.1
  · exact hm3.2 g' o n c hv' hb ⟨hs, hgg⟩
theorem bytes (h : RM w S g room vs d) {i : Nat} {v : Value} (hv : vs[i]? = some v) : w.cell? ⟨g, i, none⟩ = some v := by
  have h2 := (List.getElem?_eq_some_iff.1 hv).1
  rw [h.2.2.1.cell, List.getElem?_toArray, rcs, List.getElem?_append_left h2, hv]
theorem sure (h : RM w S g room vs d) {i : Nat} {f : Fl} (hf : d.1[i]? = some f) : w.cell? ⟨g, 64 + i, none⟩ = some (.int .i64 (f.2 : Int)) := by
  have h2 := (List.getElem?_eq_some_iff.1 hf).1
  rw [h.2.2.1.cell, List.getElem?_toArray, rcs, List.getElem?_append_right (by rw [h.1]; omega), h.1, show 64 + i - 64 = i by omega, List.getElem?_append_left (by rw [h.sl]; rw [h.2.1] at h2; exact h2)]
  simp [sus, hf]
theorem room0 (h : RM w S g room vs d) : w.cell? ⟨g, 128, none⟩ = some (.int .i64 (room : Int)) := by
  rw [h.2.2.1.cell, List.getElem?_toArray, rcs, List.getElem?_append_right (by rw [h.1]; omega), h.1, List.getElem?_append_right (by rw [h.sl]; omega), h.sl]; rfl
theorem fu0 (h : RM w S g room vs d) : w.cell? ⟨g, 129, none⟩ = some (.int .i64 (fuI d)) := by
  rw [h.2.2.1.cell, List.getElem?_toArray, rcs, List.getElem?_append_right (by rw [h.1]; omega), h.1, List.getElem?_append_right (by rw [h.sl]; omega), h.sl]; rfl
theorem dn0 (h : RM w S g room vs d) : w.cell? ⟨g, 130, none⟩ = some (.bool d.2.1) := by
  rw [h.2.2.1.cell, List.getElem?_toArray, rcs, List.getElem?_append_right (by rw [h.1]; omega), h.1, List.getElem?_append_right (by rw [h.sl]; omega), h.sl]; rfl
/-- its own block turns, at k -/
theorem cellset (h : RM w S g room vs d) (k : Nat) (u : Value) {vs' : List Value} {d' : Pd} (hl : vs'.length = 64) (hl2 : d'.1.length = 64) (e : (rcs room vs d).set k u = rcs room vs' d')
    (hr : ∀ (i : Nat) (v : Value) (f : Fl), vs'[i]? = some v → d'.1[i]? = some f → MadeO w S v f.1 f.1.length) : RM (w.setCell ⟨g, k, none⟩ u) S g room vs' d' := by
  refine ⟨hl, hl2, ?_, h.2.2.2.1, fun i v f hv hf => ?_⟩
  · have hk := h.2.2.1.set k u
    rw [List.setIfInBounds_toArray, e] at hk
    exact hk
  · exact (hr i v f hv hf).other (Only.set (S := fun j => j = g) (Only.refl _ w) rfl _ _) (fun g' o n c hv' hb e => (hr i v f hv hf).2 g' o n c hv' hb (e ▸ h.2.2.2.1))
theorem sus_same {fs gs : List Fl} (h : fs.map (·.2) = gs.map (·.2)) : sus fs = sus gs := by
  have e : ∀ l : List Fl, sus l = (l.map (·.2)).map fun (n : Nat) => Value.int .i64 (n : Int) := fun l => by simp [sus]
  rw [e, e, h]
/-- file i has other bytes -/
theorem setV (h : RM w S g room vs d) {i : Nat} {f : Fl} {v' : Value} {bs : List Nat} (hf : d.1[i]? = some f) (hm : MadeO w S v' bs bs.length) : RM (w.setCell ⟨g, i, none⟩ v') S g room (vs.set i v') (d.1.set i (bs, f.2), d.2) := by
  have hil := (List.getElem?_eq_some_iff.1 hf).1
  rw [h.2.1] at hil
  refine h.cellset i v' (by simpa using h.1) (by simpa using h.2.1) ?_ ?_
  · unfold rcs
    rw [List.set_append_left _ _ (by rw [h.1]; exact hil)]
    simp only
    rw [sus_same (map_set_snd hf bs)]
    rfl
  · intro j v k hv hk
    by_cases hj : i = j
    · subst hj
      rw [List.getElem?_set_self (by rw [h.1]; exact hil)] at hv
      simp only at hk
      rw [List.getElem?_set_self (by rw [h.2.1]; exact hil)] at hk
      injection hv with hv
      injection hk with hk
      subst hv hk
      exact hm
    · rw [List.getElem?_set_ne hj] at hv
      simp only at hk
      rw [List.getElem?_set_ne hj] at hk
      exact h.2.2.2.2 j v k hv hk
theorem setS (h : RM w S g room vs d) {i : Nat} {f : Fl} (hf : d.1[i]? = some f) (s : Nat) : RM (w.setCell ⟨g, 64 + i, none⟩ (.int .i64 (s : Int))) S g room vs (d.1.set i (f.1, s), d.2) := by
  have hil := (List.getElem?_eq_some_iff.1 hf).1
  have hl := h.2.1
  rw [hl] at hil
  refine h.cellset (64 + i) _ h.1 (by simpa using h.2.1) ?_ ?_
  · unfold rcs
    rw [List.set_append_right _ _ (by rw [h.1]; omega), h.1, show 64 + i - 64 = i by omega, List.set_append_left _ _ (by rw [h.sl]; exact hil)]
    simp only [sus, List.map_set]
    rfl
  · intro j v k hv hk
    by_cases hj : i = j
    · subst hj
      simp only at hk
      rw [List.getElem?_set_self (by rw [hl]; exact hil)] at hk
      injection hk with hk
      subst hk
      exact h.2.2.2.2 i v f hv hf
    · simp only at hk
      rw [List.getElem?_set_ne hj] at hk
      exact h.2.2.2.2 j v k hv hk
theorem setFu (h : RM w S g room vs d) {b : Bool} {n : Nat} (x : Int) (hx : fuI (d.1, d.2.1, b, n) = x) : RM (w.setCell ⟨g, 129, none⟩ (.int .i64 x)) S g room vs (d.1, d.2.1, b, n) := by
  refine h.cellset 129 _ h.1 h.2.1 ?_ h.2.2.2.2
  unfold rcs
  rw [List.set_append_right _ _ (by rw [h.1]; omega), h.1, List.set_append_right _ _ (by rw [h.sl]; omega), h.sl]
  simp only [hx]
  rfl
theorem setDn (h : RM w S g room vs d) (b : Bool) : RM (w.setCell ⟨g, 130, none⟩ (.bool b)) S g room vs (d.1, b, d.2.2) := by
  refine h.cellset 130 _ h.1 h.2.1 ?_ h.2.2.2.2
  unfold rcs
  rw [List.set_append_right _ _ (by rw [h.1]; omega), h.1, List.set_append_right _ _ (by rw [h.sl]; omega), h.sl]
  rfl
end RM
def RRes (w : World) (S : Nat → Prop) (g room : Nat) (r : Pd × Nat) (en : Ending) (w' : World) : Prop := en = .returned (.int .i64 (r.2 : Int)) ∧ ∃ vs', RM w' S g room vs' r.1 ∧ Only (fun j => j = g) w w'
set_option maxHeartbeats 2000000 in
theorem there_any (w : World) (x : Int) : Calls Try.prog 69 #[.int .i64 x] w (fun en w' => en = .returned (.bool (decide (inF x))) ∧ w' = w) := by
  by_cases h0 : 0 ≤ x
  · by_cases h1 : x < 64
    · have e : decide (inF x) = true := decide_eq_true ⟨h0, h1⟩
      rw [e]
      clear e
      go_enter Try.func69, Try.ntmps69
      go_wp2
      go_ret
      exact ⟨rfl, rfl⟩
    · have e : decide (inF x) = false := decide_eq_false (fun h => h1 h.2)
      rw [e]
      clear e
      go_enter Try.func69, Try.ntmps69
      go_wp2
      go_ret
      exact ⟨rfl, rfl⟩
  · have e : decide (inF x) = false := decide_eq_false (fun h => h0 h.1)
    rw [e]
    clear e
    go_enter Try.func69, Try.ntmps69
    go_wp2
    go_ret
    exact ⟨rfl, rfl⟩
/-- step: whether there is power -/
def stepR (d : Pd) : Pd × Bool := if offD d.2.1 d.2.2.1 d.2.2.2 then (noPower d, false) else (burn d d.1, true)
set_option maxHeartbeats 3000000 in
theorem Rstep_any (w : World) (S : Nat → Prop) (g room : Nat) (vs : List Value) (d : Pd) (h : RM w S g room vs d) (hfu : d.2.2.2 ≤ 9223372036854775807) :
    Calls Try.prog 70 #[.pointer (some ⟨g, 0, none⟩)] w (fun en w' => en = .returned (.bool (stepR d).2) ∧ RM w' S g room vs (stepR d).1 ∧ Only (fun j => j = g) w w') := by
  obtain ⟨fs, dn, fd, n⟩ := d
  simp only at hfu
  have gl := h.lt
  have a0 := h.dn0
  have a1 := h.fu0
  have z0 := h.2.2.1.frozen 130
  have z1 := h.2.2.1.frozen 129
  simp only [fuI] at a0 a1
  have HDN := Lib.hid (h.setDn true)
  have HON : Hid (Only (fun j => j = g) w (w.setCell ⟨g, 130, none⟩ (.bool true))) := Lib.hid (Only.set (S := fun j => j = g) (Only.refl _ w) rfl _ _)
  have H := Lib.hid h
  clear h
  unfold stepR offD
  cases dn with
  | true =>
    simp only [Bool.true_or, if_true]
    go_enter Try.func70, Try.ntmps70
    go_wp2
    go_ret
    exact ⟨rfl, HDN.out, HON.out⟩
  | false =>
    cases fd with
    | false =>
      simp only [Bool.false_or, Bool.false_and, if_false, Bool.false_eq_true, burn] at a1 ⊢
      go_enter Try.func70, Try.ntmps70
      go_wp2
      go_ret
      exact ⟨rfl, H.out, Only.refl _ _⟩
    | true =>
      simp only [if_true] at a1
      by_cases hn : n = 0
      · subst hn
        simp only [Bool.false_or, Bool.true_and, beq_self_eq_true, if_true]
        go_enter Try.func70, Try.ntmps70
        go_wp2
        go_ret
        exact ⟨rfl, HDN.out, HON.out⟩
      · have e : (n == 0) = false := by simp [hn]
        have hne : ((n : Int) == 0) = false := by simp; omega
        have hgt : (0 : Int) < (n : Int) := by omega
        have hw : IntKind.i64.wrap ((n : Int) - 1) = ((n - 1 : Nat) : Int) := by rw [IntWalk.i64_in _ ⟨by omega, by omega⟩]; omega
        have HF := Lib.hid (H.out.setFu (b := true) (n := n - 1) ((n - 1 : Nat) : Int) rfl)
        have HOF : Hid (Only (fun j => j = g) w (w.setCell ⟨g, 129, none⟩ (.int .i64 ((n - 1 : Nat) : Int)))) := Lib.hid (Only.set (S := fun j => j = g) (Only.refl _ w) rfl _ _)
        simp only [Bool.false_or, Bool.true_and, e, Bool.false_eq_true, if_false, burn, if_true]
        clear hn e
        go_enter Try.func70, Try.ntmps70
        go_wp2
        go_ret
        exact ⟨rfl, HF.out, HOF.out⟩
end Go.Proofs.Ytahichieakdbnaa

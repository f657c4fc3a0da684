/- disk: Append, Sync, Cut; a disk in plain words. -/
import Derived.Test.YtahichieakdbnaaDv
namespace Go.Proofs.Ytahichieakdbnaa
open Go.ChangeShapes Go.WideShapes Go.ChangeAt Go.RowKit Go.Maps
set_option linter.unusedVariables false
set_option linter.unusedSimpArgs false

/-- a disk: files, without power?, with a fuse?, the fuse -/
abbrev Pd := List Fl × Bool × Bool × Nat
def DM (w : World) (g room : Nat) (vs : List Value) (d : Pd) : Prop := DskM w g room vs d.1 d.2.1 d.2.2.1 d.2.2.2
/-- a disk as it may be -/
def OkP (room : Nat) (d : Pd) : Prop := room ≤ 1048576 ∧ totF d.1 ≤ room ∧ d.1.length = 64 ∧ (∀ f ∈ d.1, f.2 ≤ f.1.length ∧ ∀ b ∈ f.1, b < 256) ∧ d.2.2.2 ≤ 9223372036854775807
theorem totF_append (a b : List Fl) : totF (a ++ b) = totF a + totF b := by simp [totF]
theorem totF_take_le (fs : List Fl) (i : Nat) : totF (fs.take i) ≤ totF fs := by
  have := totF_append (fs.take i) (fs.drop i)
  rw [List.take_append_drop] at this
  omega
theorem totF_mem {fs : List Fl} {i : Nat} {f : Fl} (h : fs[i]? = some f) : f.1.length ≤ totF fs := by
  have h1 := totF_take h
  have h2 := totF_take_le fs (i + 1)
  omega
theorem totF_set {fs : List Fl} {i : Nat} {f f' : Fl} (h : fs[i]? = some f) : totF (fs.set i f') + f.1.length = totF fs + f'.1.length := by
  obtain ⟨hl, he⟩ := List.getElem?_eq_some_iff.1 h
  have h1 : fs = fs.take i ++ f :: fs.drop (i + 1) := by
    rw [← he]
    simp
  have h2 : fs.set i f' = fs.take i ++ f' :: fs.drop (i + 1) := by
    rw [List.set_eq_take_append_cons_drop, if_pos hl]
  have h3 : totF fs = totF (fs.take i) + (f.1.length + totF (fs.drop (i + 1))) := by
    conv => lhs; rw [h1]
    rw [totF_append]
    simp [totF]
  have h4 : totF (fs.set i f') = totF (fs.take i) + (f'.1.length + totF (fs.drop (i + 1))) := by
    rw [h2, totF_append]
    simp [totF]
  omega
/-- what a step does to the fuse -/
def burn (d : Pd) (fs : List Fl) : Pd := (fs, d.2.1, d.2.2.1, if d.2.2.1 then d.2.2.2 - 1 else d.2.2.2)
def noPower (d : Pd) : Pd := (d.1, true, d.2.2)
def inF (x : Int) : Prop := 0 ≤ x ∧ x < 64
instance (x : Int) : Decidable (inF x) := by unfold inF; infer_instance
def stepP (d : Pd) (x : Int) (r : List Fl × Nat) : Pd × Nat :=
  if inF x then (if offD d.2.1 d.2.2.1 d.2.2.2 then (noPower d, 8) else (burn d r.1, r.2)) else (d, 1)
def appendP (room : Nat) (d : Pd) (x : Int) (bs : List Nat) : Pd × Nat := stepP d x (if room - totF d.1 < bs.length then (d.1, 7) else (putF d.1 x.toNat bs, 0))
def syncF (fs : List Fl) (i : Nat) : List Fl := fs.set i ((fs[i]?.getD ([], 0)).1, (fs[i]?.getD ([], 0)).1.length)
def syncP (d : Pd) (x : Int) : Pd × Nat := stepP d x (syncF d.1 x.toNat, 0)
def cutP (d : Pd) (x n : Int) : Pd × Nat := if inF x ∧ ¬ (0 ≤ n ∧ n ≤ ((d.1[x.toNat]?.getD ([], 0)).1.length : Int)) then (d, 1) else stepP d x (cutF d.1 x.toNat n.toNat, 0)
def DRes (w : World) (g room : Nat) (vs : List Value) (r : Pd × Nat) (en : Ending) (w' : World) : Prop := en = .returned (.int .i64 (r.2 : Int)) ∧ ∃ vs', DM w' g room vs' r.1 ∧ Turned w (DS g vs) (DS g vs') w'
theorem rowAt_in {g : Nat} {x : Int} (h : inF x) : rowAt g x = some ⟨g, 1 + x.toNat * 2, none⟩ := if_pos h
theorem rowAt_out {g : Nat} {x : Int} (h : ¬ inF x) : rowAt g x = none := if_neg h
theorem DRes.below {w w1 w' : World} {g room : Nat} {vs : List Value} {r : Pd × Nat} {en : Ending} (h : DRes w1 g room vs r en w') (hb : Below w.heap.size w w1) : DRes w g room vs r en w' := by
  obtain ⟨h1, vs', h2, h3⟩ := h
  refine ⟨h1, vs', h2, fun j hj => ?_, (Only.of_below (S := DS g vs) hb).trans h3.2 (Sub.refl _ _)⟩
  rcases h3.1 j hj with e | e
  · exact .inl e
  · have := hb.size; exact .inr (by omega)
/-- step, handed a closure that does r -/
theorem DStep_any (w : World) (g room : Nat) (vs : List Value) (d : Pd) (x : Int) (K : FuncId) (cap : Array Value) (h : DM w g room vs d) (hx : inF x) (hfu : d.2.2.2 ≤ 9223372036854775807) (he : ∀ w, (callFunc K cap).run Try.prog w = .ok (.enter K cap) w) (r : List Fl × Nat) (hr8 : r.2 ≠ 8)
    (hdo : ∀ w1, Below w.heap.size w w1 → Calls Try.prog K cap w1 (fun en w2 => en = .returned (.int .i64 (r.2 : Int)) ∧ ∃ vs2, DskM w2 g room vs2 r.1 d.2.1 d.2.2.1 d.2.2.2 ∧ Turned w1 (DS g vs) (DS g vs2) w2)) :
    Calls Try.prog 73 #[.pointer (some ⟨g, 0, none⟩), .func (.func K) #[] cap] w (DRes w g room vs (stepP d x r)) := by
  unfold stepP
  rw [if_pos hx]
  by_cases ho : offD d.2.1 d.2.2.1 d.2.2.2 = true
  · rw [if_pos ho]
    refine (DStep_off w g room vs d.1 d.2.1 d.2.2.1 d.2.2.2 _ h ho).mono ?_
    rintro en w' ⟨rfl, h1, h2⟩
    exact ⟨rfl, vs, h1, Sub.refl _ _, h2.mono (fun j _ hj => .inl hj)⟩
  · rw [if_neg ho]
    refine (DStep_on w g room vs d.1 d.2.1 d.2.2.1 d.2.2.2 K cap h hfu (by simpa using ho) he (fun n vs2 fs2 => n = (r.2 : Int) ∧ fs2 = r.1) ?_).mono ?_
    · intro w1 hw1
      refine (hdo w1 hw1).mono ?_
      rintro en w2 ⟨rfl, vs2, h1, h2⟩
      refine ⟨(r.2 : Int), rfl, ?_, vs2, r.1, ⟨rfl, rfl⟩, h1, h2⟩
      simp only [beq_eq_false_iff_ne, ne_eq]
      omega
    · rintro en w' ⟨n, rfl, vs2, fs2, ⟨rfl, rfl⟩, h1, h2⟩
      exact ⟨rfl, vs2, h1, h2⟩
set_option maxHeartbeats 3000000 in
set_option maxRecDepth 100000 in
theorem DSync_any (w : World) (g room : Nat) (vs : List Value) (d : Pd) (x : Int) (h : DM w g room vs d) (hok : OkP room d) :
    Calls Try.prog 36 #[.pointer (some ⟨g, 0, none⟩), .int .i64 x] w (DRes w g room vs (syncP d x)) := by
  have hmf : ∀ (fn : Fn) (first cap : Array Value) (w : World), (Instr.makeFunc fn first cap).run Try.prog w = .ok (.func fn first cap) w := fun _ _ _ _ => rfl
  have HF := Lib.hid (DFile_any w g room vs d.1 d.2.1 d.2.2.1 d.2.2.2 x h)
  by_cases hx : inF x
  · rw [rowAt_in hx] at HF
    obtain ⟨v, hv⟩ : ∃ v, vs[x.toNat]? = some v := ⟨_, List.getElem?_eq_getElem (by rw [h.1]; unfold inF at hx; omega)⟩
    obtain ⟨f, hf⟩ : ∃ f, d.1[x.toNat]? = some f := ⟨_, List.getElem?_eq_getElem (by rw [hok.2.2.1]; unfold inF at hx; omega)⟩
    have HS : ∀ W, Below w.heap.size w W → Hid (Calls Try.prog 73 #[.pointer (some ⟨g, 0, none⟩), .func (.func 74) #[] #[.pointer (some ⟨W.heap.size, 0, none⟩)]] (W.alloc (.cells #[.pointer (some ⟨g, 1 + x.toNat * 2, none⟩)] 120)) (DRes w g room vs (syncP d x))) := by
      intro W hW
      have hb := hW.alloc hW.size (.cells #[.pointer (some ⟨g, 1 + x.toNat * 2, none⟩)] 120)
      have k1 := Blk.new W 120 #[.pointer (some ⟨g, 1 + x.toNat * 2, none⟩)]
      refine Lib.hid ((DStep_any _ g room vs d x _ _ (DskM.below h hb) hx hok.2.2.2.2 (fun w => rfl) (syncF d.1 x.toNat, 0) (by simp) ?_).mono (fun en w' hr => hr.below hb))
      intro w1 hb1
      have k2 := k1.below hb1 k1.lt
      refine (Sync1_any w1 g room vs d.1 d.2.1 d.2.2.1 d.2.2.2 x.toNat W.heap.size v f (DskM.below (DskM.below h hb) hb1) hv hf (by rw [k2.cell]; rfl)).mono ?_
      rintro en w2 ⟨rfl, h1, h2⟩
      refine ⟨rfl, vs, ?_, Sub.refl _ _, h2.mono (fun j _ hj => .inl hj)⟩
      unfold syncF
      rw [hf]
      exact h1
    clear h hv hf
    go_enter Try.func36, Try.ntmps36
    go_wp2_with fail
    refine HF.out.mono ?_
    rintro en w1 ⟨rfl, q, hq⟩
    have HW : Hid (Below w.heap.size w w1) := Lib.hid (by rw [hq]; exact below_drewN (Below.refl _ w) q)
    clear hq
    go_wp2_with fail
    refine ((HS _ HW.out).out).mono ?_
    rintro en w2 hr
    obtain ⟨rfl, vs', hr2⟩ := hr
    have HR := Lib.hid hr2
    clear hr2
    go_wp2
    go_ret
    exact ⟨rfl, vs', HR.out⟩
  · rw [rowAt_out hx] at HF
    have HD := Lib.hid h
    have e : syncP d x = (d, 1) := by unfold syncP stepP; rw [if_neg hx]
    rw [e]
    clear h
    go_enter Try.func36, Try.ntmps36
    go_wp2_with fail
    refine HF.out.mono ?_
    rintro en w1 ⟨rfl, q, hq⟩
    have HB : Hid (Below w.heap.size w (w1.alloc (.cells #[.pointer none] 120))) := Lib.hid (by rw [hq]; exact (below_drewN (Below.refl _ w) q).alloc (by simp) _)
    clear hq
    go_wp2
    go_ret
    exact ⟨rfl, vs, DskM.below HD.out HB.out, (Turned.refl _ _).below HB.out⟩
end Go.Proofs.Ytahichieakdbnaa

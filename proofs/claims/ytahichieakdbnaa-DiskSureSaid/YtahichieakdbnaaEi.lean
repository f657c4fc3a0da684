/- law 8: DiskSure. -/
import Derived.Test.YtahichieakdbnaaEh
import Derived.Test.YtahichieakdbnaaSl3
namespace Go.Proofs.Ytahichieakdbnaa
open Go.ChangeShapes Go.WideShapes Go.ChangeAt Go.RowKit Go.Maps Go.Deep
set_option linter.unusedVariables false
set_option linter.unusedSimpArgs false

theorem open_ksl {H : Type} {enc : TypeId × Value → H} {W : World} {b : Nat} {spare : Nat → Bool} {held : Bool} {A : Option Addr} {len cap : Nat} {d : DataW H} {p : List MemPlace}
    (h : DataW.Trod enc Try.prog W b spare held 33 (.slice A len cap) d p) : ∃ ks : List Int, ks.length = len ∧ len ≤ cap ∧ cap ≤ maxLen ∧ Rd W W.heap.size A (i64i ks) := by
  obtain ⟨fuel, hf⟩ := h
  obtain ⟨A', c', ks, e, h1, h2, h3, h4⟩ := open_i64s Try.underlying33 Try.underlying3 czId hf
  simp [Value.cells] at e
  obtain ⟨rfl, rfl, rfl⟩ := e
  exact ⟨ks, rfl, h2, h3, h1⟩
theorem crashU_all {ks : List Int} {fs : List Fl} {i : Nat} {f : Fl} (h : fs[i]? = some f) (hi : i < 64) : (crashU ks fs 64)[i]? = some (crash1 ks i f) := by
  unfold crashU
  rw [List.getElem?_mapIdx, h]
  simp [hi]
/-- what was read lies in the array gb, how many were sure in gs, up to i; all apart from the disk -/
def SR (w wr : World) (g gb gs : Nat) (vs : List Value) (fs : List Fl) (i : Nat) : Prop :=
  ∃ (bv : List Value) (ss : List Nat), bv.length = 64 ∧ ss.length = 64 ∧ Blk wr gb 47 bv.toArray ∧ Blk wr gs 48 (i64n ss).toArray ∧ gb ≠ gs ∧ ¬ DS g vs gb ∧ ¬ DS g vs gs ∧ w.heap.size ≤ gb ∧ w.heap.size ≤ gs ∧
    ∀ (j : Nat) (f : Fl), j < i → fs[j]? = some f → ss[j]? = some f.2 ∧ ∃ v, bv[j]? = some v ∧ MadeO wr (fun q => DS g vs q ∨ q = gb ∨ q = gs) v f.1 f.1.length
theorem SR.below {w wr w' : World} {g gb gs i : Nat} {vs : List Value} {fs : List Fl} (h : SR w wr g gb gs vs fs i) (hb : Below wr.heap.size wr w') : SR w w' g gb gs vs fs i := by
  obtain ⟨bv, ss, h1, h2, h3, h4, h5, h6, h7, h8, h9, h10⟩ := h
  exact ⟨bv, ss, h1, h2, h3.below hb h3.lt, h4.below hb h4.lt, h5, h6, h7, h8, h9, fun j f hj hf => ⟨(h10 j f hj hf).1, by
    obtain ⟨v, hv, hm⟩ := (h10 j f hj hf).2
    exact ⟨v, hv, hm.below hb⟩⟩⟩
/-- only the disk's own block turns -/
theorem SR.only {w wr w' : World} {g gb gs i : Nat} {vs vs' : List Value} {fs : List Fl} (h : SR w wr g gb gs vs fs i) (ho : Only (fun j => j = g) wr w') (hs : ∀ j, DS g vs' j → DS g vs j) : SR w w' g gb gs vs' fs i := by
  obtain ⟨bv, ss, h1, h2, h3, h4, h5, h6, h7, h8, h9, h10⟩ := h
  refine ⟨bv, ss, h1, h2, ho.blk h3 (fun e => h6 (.inl e)), ho.blk h4 (fun e => h7 (.inl e)), h5, fun h => h6 (hs _ h), fun h => h7 (hs _ h), h8, h9, fun j f hj hf => ⟨(h10 j f hj hf).1, ?_⟩⟩
  obtain ⟨v, hv, hm⟩ := (h10 j f hj hf).2
  have hm2 := hm.other ho (fun g' o n c hv' hne e => hm.2 g' o n c hv' hne (.inl (.inl e)))
  exact ⟨v, hv, hm2.1, fun g' o n c hv' hne hq => hm2.2 g' o n c hv' hne (by rcases hq with hq | hq; exact .inl (hs _ hq); exact .inr hq)⟩
/-- what is read of file i is laid -/
theorem SR.lay {w wr w5 w6 : World} {g gb gs i room : Nat} {vs : List Value} {fs : List Fl} {d : Pd} {f : Fl} {v : Value} (h : SR w wr g gb gs vs fs i) (hD : DM wr g room vs d) (hf : fs[i]? = some f) (hi : i < 64) (hb : Below wr.heap.size wr w5)
    (hm : Made w5 v f.1 f.1.length) (hfr : Fre wr (fun _ => False) v) (h6 : Below (w5.setCell ⟨gb, i, none⟩ v).heap.size (w5.setCell ⟨gb, i, none⟩ v) w6) : SR w (w6.setCell ⟨gs, i, none⟩ (.int .i64 (f.2 : Int))) g gb gs vs fs (i + 1) := by
  have hS := h.below hb
  have hDlt := DskM.lt hD
  obtain ⟨bv0, ss0, _, _, hgb0, hgs0, _⟩ := h
  have hgbl := hgb0.lt
  have hgsl := hgs0.lt
  obtain ⟨bv, ss, h1, h2, h3, h4, h5, h6', h7, h8, h9, h10⟩ := hS
  have k3 : Blk (w5.setCell ⟨gb, i, none⟩ v) gb 47 (bv.set i v).toArray := by have := h3.set i v; rwa [List.setIfInBounds_toArray] at this
  have k4 := h4.far (p := ⟨gb, i, none⟩) (fun e => h5 e.symm) v
  have l3 := k3.below h6 k3.lt
  have l4 := k4.below h6 k4.lt
  have m3 := l3.far (p := ⟨gs, i, none⟩) (fun e => h5 e) (.int .i64 (f.2 : Int))
  have m4 : Blk (w6.setCell ⟨gs, i, none⟩ (.int .i64 (f.2 : Int))) gs 48 (i64n (ss.set i f.2)).toArray := by
    have := l4.set i (.int .i64 (f.2 : Int))
    rw [List.setIfInBounds_toArray] at this
    simpa [i64n, List.map_set] using this
  have hO : Only (fun q => q = gb ∨ q = gs) w5 (w6.setCell ⟨gs, i, none⟩ (.int .i64 (f.2 : Int))) :=
    Only.set (S := fun q => q = gb ∨ q = gs) ((Only.set (S := fun q => q = gb ∨ q = gs) (Only.refl _ w5) (.inl rfl) i v).trans (Only.of_below (S := fun q => q = gb ∨ q = gs) h6) (Sub.refl _ _)) (.inr rfl) i _
  have hkeep : ∀ (u : Value) (bs : List Nat) (k : Nat), MadeO w5 (fun q => DS g vs q ∨ q = gb ∨ q = gs) u bs k → MadeO (w6.setCell ⟨gs, i, none⟩ (.int .i64 (f.2 : Int))) (fun q => DS g vs q ∨ q = gb ∨ q = gs) u bs k := fun u bs k hu => hu.other hO (fun g' o n c hv' hne e => hu.2 g' o n c hv' hne (.inr e))
  refine ⟨bv.set i v, ss.set i f.2, by simpa using h1, by simpa using h2, m3, m4, h5, h6', h7, h8, h9, fun j f' hj hf' => ?_⟩
  by_cases hji : i = j
  · subst hji
    rw [hf] at hf'
    injection hf' with e
    subst e
    refine ⟨by rw [List.getElem?_set_self (by omega)], v, by rw [List.getElem?_set_self (by omega)], hkeep _ _ _ ⟨hm, fun g' o n c hv' _ hq => ?_⟩⟩
    have h9' := (hfr g' o n c hv').1
    rcases hq with hq | hq | hq
    · have := hDlt _ hq; omega
    · omega
    · omega
  · obtain ⟨q1, u, q2, q3⟩ := h10 j f' (by omega) hf'
    exact ⟨by rw [List.getElem?_set_ne hji]; exact q1, u, by rw [List.getElem?_set_ne hji]; exact q2, hkeep _ _ _ q3⟩
theorem size_alloc9 (w : World) (o : Obj) : w.heap.size + 1 = (w.alloc o).heap.size := by simp
set_option maxRecDepth 100000 in
theorem SR.new {w wr : World} {g room : Nat} {vs : List Value} {d : Pd} (hD : DM wr g room vs d) (hw : w.heap.size ≤ wr.heap.size) (fs : List Fl) : SR w ((wr.alloc (.cells (Array.replicate 64 (Value.slice none 0 0)) 47)).alloc (.cells (Array.replicate 64 (Value.int .i64 0)) 48)) g wr.heap.size (wr.heap.size + 1) vs fs 0 := by
  have e1 : (List.replicate 64 (Value.slice none 0 0)).toArray = Array.replicate 64 (Value.slice none 0 0) := rfl
  have e2 : (i64n (List.replicate 64 0)).toArray = Array.replicate 64 (Value.int .i64 0) := rfl
  refine ⟨List.replicate 64 (.slice none 0 0), List.replicate 64 0, by rw [List.length_replicate], by rw [List.length_replicate], ?_, ?_, by omega, fun h => by have := DskM.lt hD _ h; omega, fun h => by have := DskM.lt hD _ h; omega, hw, by omega, fun j f hj => absurd hj (by omega)⟩
  · rw [e1]
    exact (Blk.new wr 47 _).alloc _
  · rw [e2]
    exact Blk.new' _ 48 _ (by rw [size_alloc9])
end Go.Proofs.Ytahichieakdbnaa

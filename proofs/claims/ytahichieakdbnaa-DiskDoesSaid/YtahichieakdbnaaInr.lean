/- XInv's region_below, told of slots that are read before an operation of the region assigns them. -/
import Derived.Test.YtahichieakdbnaaInv
namespace Go.Proofs.Ytahichieakdbnaa.Inr
open Go.RowKit Go.Proofs.Ytahichieakdbnaa.Inv
set_option linter.unusedVariables false

section
variable (P : Program) (ops : Array Oper) (Q : Exit → Act → World → Prop) (F : Nat → Value → World → Prop) (C : World → Prop) (R : World → World → Prop) (T0 : Array Value)
/-- Operation i, whatever has been done besides. -/
def StepOk (i : Nat) (o : Oper) : Prop :=
  (∀ v w w', F i v w → R w w' → F i v w') ∧
  ∀ (a : Act) (w : World), C w → a.defers = [] →
    (∀ n j d, reach ops n i j = true → dstOf ops j = some d → F j (a.tmps.getD d undef) w) →
    (∀ s, outB ops s = true → a.tmps.getD s undef = T0.getD s undef) →
    (∀ n j d, reach ops n j i = true → dstOf ops j = some d → a.tmps.getD d undef = T0.getD d undef) →
    ∀ K : Act → World → Prop, (∀ v w', C w' → R w w' → (o.dst ≠ none → F i v w') → K (a.put o.dst v) w') →
      if Region.wanted o (yielded ops a.tmps) = true then Oper.wp P o a w K Q else K (a.put o.dst undef) w
def StepsFrom : Nat → List Oper → Prop
  | _, [] => True
  | i, o :: r => StepOk P ops Q F C R T0 i o ∧ StepsFrom (i + 1) r

def Good (listed : Array Bool) (a : Act) (w : World) : Prop :=
  C w ∧ a.defers = [] ∧ a.tmps.size = T0.size ∧ listed.size = ops.size ∧ closed ops listed ∧
  (∀ i d, listed.getD i false = true → dstOf ops i = some d → F i (a.tmps.getD d undef) w) ∧
  (∀ s, outB ops s = true → a.tmps.getD s undef = T0.getD s undef) ∧
  (∀ i d, listed.getD i false = false → dstOf ops i = some d → a.tmps.getD d undef = T0.getD d undef)
end
section
variable {P : Program} {ops : Array Oper} {Q : Exit → Act → World → Prop} {F : Nat → Value → World → Prop} {C : World → Prop} {R : World → World → Prop} {T0 : Array Value}
theorem steps_at : ∀ {l : List Oper} {k : Nat}, StepsFrom P ops Q F C R T0 k l → ∀ i o, l[i]? = some o → StepOk P ops Q F C R T0 (k + i) o
  | [], _, _, i, o, h => by simp at h
  | x :: r, k, hs, 0, o, h => by
    simp at h
    subst h
    exact hs.1
  | x :: r, k, hs, i + 1, o, h => by
    have := steps_at hs.2 i o (by simpa using h)
    rw [show k + (i + 1) = k + 1 + i by omega]
    exact this
theorem region_any (n : Nat) (hn : T0.size = n) (hwf : wfB n ops = true) (hR : ∀ w, C w → R w w) (steps : StepsFrom P ops Q F C R T0 0 ops.toList)
    (fin : ∀ a w, C w → a.defers = [] → a.tmps.size = T0.size → (∀ i d, dstOf ops i = some d → F i (a.tmps.getD d undef) w) → (∀ s, outB ops s = true → a.tmps.getD s undef = T0.getD s undef) → Q .normal a w) :
    ∀ (fuel : Nat) (listed : Array Bool) (a : Act) (w : World), listed.toList.count false ≤ fuel → Good ops F C T0 listed a w → wpAny P .any ops Q fuel listed a w := by
  subst hn
  simp only [wfB, Bool.and_eq_true] at hwf
  obtain ⟨⟨hdist, hedge⟩, hbound⟩ := hwf
  have hdone : ∀ (listed : Array Bool) (a : Act) (w : World), Good ops F C T0 listed a w → Region.ready .any ops listed = [] → Q .normal a w := by
    rintro listed a w ⟨hC, hd, hs, hls, hcl, hF, hO, hN⟩ hr
    refine fin a w hC hd hs (fun i d hi => hF i d ?_ hi) hO
    obtain ⟨o, ho, _⟩ := dstOf_some hi
    exact all_listed hedge hls hr i (Array.getElem?_eq_some_iff.1 ho).1
  intro fuel
  induction fuel with
  | zero =>
    intro listed a w hc hG
    have hr : Region.ready .any ops listed = [] := by
      cases hr : Region.ready .any ops listed with
      | nil => rfl
      | cons j r =>
        exfalso
        have hj : j ∈ Region.ready .any ops listed := by rw [hr]; simp
        have h0 := (mem_ready.1 hj).1
        have hlt : j < listed.size := by
          rcases Nat.lt_or_ge j listed.size with h' | h'
          · exact h'
          · simp [Array.getD_eq_getD_getElem?, Array.getElem?_eq_none h'] at h0
        have hm : false ∈ listed.toList := by
          simp [Array.getD_eq_getD_getElem?, hlt] at h0
          rw [← h0]
          simp
        have h1 := List.count_pos_iff.2 hm
        exact absurd h1 (by omega)
    exact ⟨hr, hdone listed a w hG hr⟩
  | succ fuel ih =>
    intro listed a w hc hG
    refine ⟨hdone listed a w hG, fun i hi => ?_⟩
    obtain ⟨hC, hd, hs, hls, hcl, hF, hO, hN⟩ := hG
    obtain ⟨h0, o, ho, haft⟩ := mem_ready.1 hi
    have hlt : i < listed.size := by
      rcases Nat.lt_or_ge i listed.size with h' | h'
      · exact h'
      · simp [Array.getD_eq_getD_getElem?, Array.getElem?_eq_none h'] at h0
    have hst := steps_at steps i o (by simpa using ho)
    rw [Nat.zero_add] at hst
    refine wpOp_step ho fun K' hK => ?_
    refine hst.2 a w hC hd (fun n j d hj hjd => hF j d (reach_listed hcl n i j (fun o' ho' => by rw [ho] at ho'; cases ho'; exact haft) hj) hjd) hO (fun n k d hk hkd => hN k d (by
      cases hlk : listed.getD k false with
      | false => rfl
      | true =>
        have h1 := reach_listed hcl n k i (fun o' ho' e he hb => hcl k o' hlk ho' e he hb) hk
        have h2 : listed.getD i false = false := by
          simp [Array.getD_eq_getD_getElem?, hlt] at h0 ⊢
          exact h0
        rw [h2] at h1; cases h1) hkd) K' fun v w' hC' hR' hv => hK _ _ (ih _ _ _ ?_ ?_)
    · have h1 : listed.toList[i]'(by simpa using hlt) = false := by
        simp [Array.getD_eq_getD_getElem?, hlt] at h0
        simpa using h0
      rw [Array.toList_setIfInBounds, List.count_set (by simpa using hlt), h1]
      have hm : false ∈ listed.toList := by rw [← h1]; exact List.getElem_mem _
      have h2 := List.count_pos_iff.2 hm
      have e1 : (false == false) = true := rfl
      have e2 : (true == false) = false := rfl
      rw [e1, e2, if_pos rfl, if_neg (by decide)]
      clear hst steps ih hK
      omega
    · refine ⟨hC', by rw [put_defers']; exact hd, by rw [put_size]; exact hs, by simpa using hls, ?_, ?_, ?_, ?_⟩
      · intro j o' hj ho' e he hb
        by_cases hji : i = j
        · subst hji
          rw [ho] at ho'
          cases ho'
          exact getD_set_of (haft e he hb)
        · rw [getD_set_ne _ hji] at hj
          exact getD_set_of (hcl j o' hj ho' e he hb)
      · intro j d hj hjd
        obtain ⟨o', ho', hd'⟩ := dstOf_some hjd
        by_cases hji : i = j
        · subst hji
          rw [ho] at ho'
          cases ho'
          have hb := List.all_eq_true.1 hbound o (List.mem_of_getElem? (i := i) (by simpa using ho))
          rw [hd'] at hb
          have hb' : d < T0.size := by simpa using hb
          rw [hd', getD_put_same (Nat.lt_of_lt_of_eq hb' hs.symm)]
          exact hv (by rw [hd']; simp)
        · rw [getD_set_ne _ hji] at hj
          have hne : o.dst ≠ some d := by
            intro h1
            rcases Nat.lt_or_gt_of_ne hji with h2 | h2
            · exact dist_at hdist i j o o' d h2 (by simpa using ho) (by simpa using ho') h1 hd'
            · exact dist_at hdist j i o' o d h2 (by simpa using ho') (by simpa using ho) hd' h1
          rw [getD_put hne]
          have hstj := steps_at steps j o' (by simpa using ho')
          rw [Nat.zero_add] at hstj
          exact hstj.1 _ _ _ (hF j d hj hjd) hR'
      · intro s hs'
        rw [getD_put (out_ne hs' ho)]
        exact hO s hs'
      · intro j d hj hjd
        obtain ⟨o', ho', hd'⟩ := dstOf_some hjd
        by_cases hji : i = j
        · subst hji
          rw [getD_set_same hlt] at hj
          cases hj
        · rw [getD_set_ne _ hji] at hj
          have hne : o.dst ≠ some d := by
            intro h1
            rcases Nat.lt_or_gt_of_ne hji with h2 | h2
            · exact dist_at hdist i j o o' d h2 (by simpa using ho) (by simpa using ho') h1 hd'
            · exact dist_at hdist j i o' o d h2 (by simpa using ho') (by simpa using ho) hd' h1
          rw [getD_put hne]
          exact hN j d hj hjd
/-- The region whole. F: what is known of each operation's value; C: of the world; R: how the world may turn; D: the slots that it writes. -/
theorem region_inv {id : Nat} {w : World} (F : Nat → Value → World → Prop) (C : World → Prop) (R : World → World → Prop) (n : Nat) (D : List Nat) (hm : P.follows .mixedOrders = true) (hn : T0.size = n) (hwf : wfB n ops = true) (hD : ops.toList.filterMap (·.dst) = D)
    (hR : ∀ w, C w → R w w) (hC : C w.drew) (steps : StepsFrom P ops Q F C R T0 0 ops.toList)
    (fin : ∀ (us : Nat → Value) (w' : World), C w' → (∀ i d, dstOf ops i = some d → F i (us d) w') → Q .normal (D.foldl (fun (a : Act) d => a.put (some d) (us d)) ⟨T0, []⟩) w') :
    (Code.region id ops true).wp P Q ⟨T0, []⟩ w := by
  refine wp_region_any hm (region_any n hn hwf hR steps ?_ ops.size _ _ w.drew ?_ ?_)
  · intro a w' hC' hd hs hF hO
    have h1 := fin (fun d => a.tmps.getD d undef) w' hC' (fun i d hi => hF i d hi)
    have h2 := foldl_put (fun d => a.tmps.getD d undef) D ⟨T0, []⟩
    have h4 := act_ext (b := a) (by rw [h2.1, hd]) (by rw [h2.2.1, hs]) (fun s hs' => ?_)
    · rw [h4] at h1
      exact h1
    · rw [h2.2.2 s (by simp only; omega)]
      by_cases hns : s ∈ D
      · rw [if_pos hns]
      · rw [if_neg hns]
        refine (hO s ?_).symm
        unfold outB
        rw [List.all_eq_true]
        intro o ho
        simp only [bne_iff_ne, ne_eq]
        intro he
        apply hns
        rw [← hD]
        exact List.mem_filterMap.2 ⟨o, ho, he⟩
  · simp
  · refine ⟨hC, rfl, rfl, by simp, ?_, ?_, fun s _ => rfl, fun i d _ _ => rfl⟩
    · intro i o hi
      simp [Array.getD_eq_getD_getElem?, Array.getElem?_replicate] at hi
      split at hi <;> simp at hi
    · intro i d hi
      simp [Array.getD_eq_getD_getElem?, Array.getElem?_replicate] at hi
      split at hi <;> simp at hi
/-- Operation i, whatever has been done besides, where the world only grows. -/
def StepB (P : Program) (ops : Array Oper) (Q : Exit → Act → World → Prop) (F : Nat → Value → World → Prop) (C : World → Prop) (T0 : Array Value) (i : Nat) (o : Oper) : Prop :=
  (∀ v w w', F i v w → Below w.heap.size w w' → F i v w') ∧
  ∀ (a : Act) (w : World), C w → a.defers = [] →
    (∀ n j d, reach ops n i j = true → dstOf ops j = some d → F j (a.tmps.getD d undef) w) →
    (∀ s, outB ops s = true → a.tmps.getD s undef = T0.getD s undef) →
    (∀ n j d, reach ops n j i = true → dstOf ops j = some d → a.tmps.getD d undef = T0.getD d undef) →
    ∀ K : Act → World → Prop, (∀ v w', Below w.heap.size w w' → (o.dst ≠ none → F i v w') → K (a.put o.dst v) w') →
      if Region.wanted o (yielded ops a.tmps) = true then Oper.wp P o a w K Q else K (a.put o.dst undef) w
def StepsB (P : Program) (ops : Array Oper) (Q : Exit → Act → World → Prop) (F : Nat → Value → World → Prop) (C : World → Prop) (T0 : Array Value) : Nat → List Oper → Prop
  | _, [] => True
  | i, o :: r => StepB P ops Q F C T0 i o ∧ StepsB P ops Q F C T0 (i + 1) r
theorem steps_of {F : Nat → Value → World → Prop} {C : World → Prop} (hCR : ∀ w w', C w → Below w.heap.size w w' → C w') : ∀ {l : List Oper} {k : Nat}, StepsB P ops Q F C T0 k l → StepsFrom P ops Q F C (fun w w' => Below w.heap.size w w') T0 k l
  | [], _, _ => trivial
  | o :: r, k, h => ⟨⟨h.1.1, fun a w hC hd H O N K hK => h.1.2 a w hC hd H O N K fun v w' hb hF => hK v w' (hCR w w' hC hb) hb hF⟩, steps_of hCR h.2⟩
/-- The region whole, where the world only grows. -/
theorem region_below {id : Nat} {w : World} (F : Nat → Value → World → Prop) (C : World → Prop) (n : Nat) (D : List Nat) (hm : P.follows .mixedOrders = true) (hn : T0.size = n) (hwf : wfB n ops = true) (hD : ops.toList.filterMap (·.dst) = D)
    (hCR : ∀ w w', C w → Below w.heap.size w w' → C w') (hC : C w.drew) (steps : StepsB P ops Q F C T0 0 ops.toList)
    (fin : ∀ (us : Nat → Value) (w' : World), C w' → (∀ i d, dstOf ops i = some d → F i (us d) w') → Q .normal (D.foldl (fun (a : Act) d => a.put (some d) (us d)) ⟨T0, []⟩) w') :
    (Code.region id ops true).wp P Q ⟨T0, []⟩ w :=
  region_inv F C (fun w w' => Below w.heap.size w w') n D hm hn hwf hD (fun w _ => Below.refl _ _) hC (steps_of hCR steps) fin
end
end Go.Proofs.Ytahichieakdbnaa.Inr

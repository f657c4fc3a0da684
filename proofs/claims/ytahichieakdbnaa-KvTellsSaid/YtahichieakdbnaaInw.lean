/- XInvL's region_genL with the clause that a slot is as it was while the operation that assigns it is not done. A region that draws its order, in the form where what is known of the world, too, may hang on which operations have been carried out (L): for calls that change memory. -/
import Derived.Test.YtahichieakdbnaaInv
namespace Go.Proofs.Ytahichieakdbnaa.Inw
open Go.RowKit Go.Proofs.Ytahichieakdbnaa.Inv
set_option linter.unusedVariables false
section
variable {P : Program} {ops : Array Oper} {Q : Exit → Act → World → Prop} {C : (Nat → Bool) → World → Prop} {T0 : Array Value}
/-- Operation i, whatever has been done besides. -/
def StepL (P : Program) (ops : Array Oper) (Q : Exit → Act → World → Prop) (F : Nat → (Nat → Bool) → Value → World → Prop) (C : (Nat → Bool) → World → Prop) (T0 : Array Value) (i : Nat) (o : Oper) : Prop :=
  ∀ (a : Act) (w : World) (L : Nat → Bool), C L w → a.defers = [] → L i = false → (∀ n j, reach ops n i j = true → L j = true) → (∀ n k, reach ops n k i = true → L k = false) →
    (∀ j d, L j = true → dstOf ops j = some d → F j L (a.tmps.getD d undef) w) →
    (∀ s, outB ops s = true → a.tmps.getD s undef = T0.getD s undef) →
    (∀ i s, L i = false → dstOf ops i = some s → a.tmps.getD s undef = T0.getD s undef) →
    ∀ K : Act → World → Prop, (∀ v w', C (upd L i) w' → (∀ j d, j ≠ i → L j = true → dstOf ops j = some d → F j L (a.tmps.getD d undef) w → F j (upd L i) (a.tmps.getD d undef) w') → (o.dst ≠ none → F i (upd L i) v w') → K (a.put o.dst v) w') →
      if Region.wanted o (yielded ops a.tmps) = true then Oper.wp P o a w K Q else K (a.put o.dst undef) w
def StepsL (P : Program) (ops : Array Oper) (Q : Exit → Act → World → Prop) (F : Nat → (Nat → Bool) → Value → World → Prop) (C : (Nat → Bool) → World → Prop) (T0 : Array Value) : Nat → List Oper → Prop
  | _, [] => True
  | i, o :: r => StepL P ops Q F C T0 i o ∧ StepsL P ops Q F C T0 (i + 1) r
def GoodL (ops : Array Oper) (F : Nat → (Nat → Bool) → Value → World → Prop) (C : (Nat → Bool) → World → Prop) (T0 : Array Value) (listed : Array Bool) (a : Act) (w : World) : Prop :=
  C (listOf listed) w ∧ a.defers = [] ∧ a.tmps.size = T0.size ∧ listed.size = ops.size ∧ closed ops listed ∧
  (∀ i d, listOf listed i = true → dstOf ops i = some d → F i (listOf listed) (a.tmps.getD d undef) w) ∧
  (∀ s, outB ops s = true → a.tmps.getD s undef = T0.getD s undef) ∧
  (∀ i s, listOf listed i = false → dstOf ops i = some s → a.tmps.getD s undef = T0.getD s undef)
theorem stepsL_at {F : Nat → (Nat → Bool) → Value → World → Prop} : ∀ {l : List Oper} {k : Nat}, StepsL P ops Q F C T0 k l → ∀ i o, l[i]? = some o → StepL P ops Q F C T0 (k + i) o
  | [], _, _, i, o, h => by simp at h
  | x :: r, k, hs, 0, o, h => by
    simp at h
    subst h
    exact hs.1
  | x :: r, k, hs, i + 1, o, h => by
    have := stepsL_at hs.2 i o (by simpa using h)
    rw [show k + (i + 1) = k + 1 + i by omega]
    exact this
theorem region_anyL {F : Nat → (Nat → Bool) → Value → World → Prop} (n : Nat) (hn : T0.size = n) (hwf : wfB n ops = true) (steps : StepsL P ops Q F C T0 0 ops.toList)
    (fin : ∀ a w, (∃ L, (∀ k, k < ops.size → L k = true) ∧ C L w) → a.defers = [] → a.tmps.size = T0.size → (∀ i d, dstOf ops i = some d → ∃ L, (∀ k, k < ops.size → L k = true) ∧ F i L (a.tmps.getD d undef) w) → (∀ s, outB ops s = true → a.tmps.getD s undef = T0.getD s undef) → Q .normal a w) :
    ∀ (fuel : Nat) (listed : Array Bool) (a : Act) (w : World), listed.toList.count false ≤ fuel → GoodL ops F C T0 listed a w → wpAny P .any ops Q fuel listed a w := by
  subst hn
  simp only [wfB, Bool.and_eq_true] at hwf
  obtain ⟨⟨hdist, hedge⟩, hbound⟩ := hwf
  have hdone : ∀ (listed : Array Bool) (a : Act) (w : World), GoodL ops F C T0 listed a w → Region.ready .any ops listed = [] → Q .normal a w := by
    rintro listed a w ⟨hC, hd, hs, hls, hcl, hF, hO, hN⟩ hr
    refine fin a w ⟨listOf listed, fun k hk => all_listed hedge hls hr k hk, hC⟩ hd hs (fun i d hi => ⟨listOf listed, fun k hk => all_listed hedge hls hr k hk, hF i d ?_ hi⟩) hO
    obtain ⟨o, ho, _⟩ := dstOf_some hi
    exact all_listed hedge hls hr i (Array.getElem?_eq_some_iff.1 ho).1
  intro fuel
  induction fuel with
  | zero =>
    intro listed a w hc hG
    have hr : Region.ready .any ops listed = [] := by
      cases hr : Region.ready .any ops listed with
      | nil => rfl
      | cons j r =>
        exfalso
        have hj : j ∈ Region.ready .any ops listed := by rw [hr]; simp
        have h0 := (mem_ready.1 hj).1
        have hlt : j < listed.size := by
          rcases Nat.lt_or_ge j listed.size with h' | h'
          · exact h'
          · simp [Array.getD_eq_getD_getElem?, Array.getElem?_eq_none h'] at h0
        have hm : false ∈ listed.toList := by
          simp [Array.getD_eq_getD_getElem?, hlt] at h0
          rw [← h0]
          simp
        have h1 := List.count_pos_iff.2 hm
        exact absurd h1 (by omega)
    exact ⟨hr, hdone listed a w hG hr⟩
  | succ fuel ih =>
    intro listed a w hc hG
    refine ⟨hdone listed a w hG, fun i hi => ?_⟩
    obtain ⟨hC, hd, hs, hls, hcl, hF, hO, hN⟩ := hG
    obtain ⟨h0, o, ho, haft⟩ := mem_ready.1 hi
    have hlt : i < listed.size := by
      rcases Nat.lt_or_ge i listed.size with h' | h'
      · exact h'
      · simp [Array.getD_eq_getD_getElem?, Array.getElem?_eq_none h'] at h0
    have hst := stepsL_at steps i o (by simpa using ho)
    rw [Nat.zero_add] at hst
    refine wpOp_step ho fun K' hK => ?_
    have hi0 : listed.getD i false = false := by
      simp [Array.getD_eq_getD_getElem?, hlt] at h0 ⊢
      exact h0
    refine hst a w (listOf listed) hC hd hi0 (fun n j hj => reach_listed hcl n i j (fun o' ho' => by rw [ho] at ho'; cases ho'; exact haft) hj) (fun n k hk => ?_) hF hO hN K' fun v w' hC' hR' hv => hK _ _ (ih _ _ _ ?_ ?_)
    · cases hlk : listOf listed k with
      | false => rfl
      | true =>
        have := reach_listed hcl n k i (fun o' ho' e he hb => hcl k o' hlk ho' e he hb) hk
        rw [hi0] at this; cases this
    · have h1 : listed.toList[i]'(by simpa using hlt) = false := by
        simp [Array.getD_eq_getD_getElem?, hlt] at h0
        simpa using h0
      rw [Array.toList_setIfInBounds, List.count_set (by simpa using hlt), h1]
      have hm : false ∈ listed.toList := by rw [← h1]; exact List.getElem_mem _
      have h2 := List.count_pos_iff.2 hm
      have e1 : (false == false) = true := rfl
      have e2 : (true == false) = false := rfl
      rw [e1, e2, if_pos rfl, if_neg (by decide)]
      clear hst steps ih hK
      omega
    · refine ⟨by rw [listOf_set hlt]; exact hC', by rw [put_defers']; exact hd, by rw [put_size]; exact hs, by simpa using hls, ?_, ?_, ?_, ?_⟩
      · intro j o' hj ho' e he hb
        by_cases hji : i = j
        · subst hji
          rw [ho] at ho'
          cases ho'
          exact getD_set_of (haft e he hb)
        · rw [getD_set_ne _ hji] at hj
          exact getD_set_of (hcl j o' hj ho' e he hb)
      · intro j d hj hjd
        obtain ⟨o', ho', hd'⟩ := dstOf_some hjd
        rw [listOf_set hlt] at hj ⊢
        by_cases hji : i = j
        · subst hji
          rw [ho] at ho'
          cases ho'
          have hb := List.all_eq_true.1 hbound o (List.mem_of_getElem? (i := i) (by simpa using ho))
          rw [hd'] at hb
          have hb' : d < T0.size := by simpa using hb
          rw [hd', getD_put_same (Nat.lt_of_lt_of_eq hb' hs.symm)]
          exact hv (by rw [hd']; simp)
        · have hlj : listOf listed j = true := by
            unfold upd at hj
            rw [if_neg (fun e => hji e.symm)] at hj
            exact hj
          have hne : o.dst ≠ some d := by
            intro h1
            rcases Nat.lt_or_gt_of_ne hji with h2 | h2
            · exact dist_at hdist i j o o' d h2 (by simpa using ho) (by simpa using ho') h1 hd'
            · exact dist_at hdist j i o' o d h2 (by simpa using ho') (by simpa using ho) hd' h1
          rw [getD_put hne]
          exact hR' j d (fun e => hji e.symm) hlj hjd (hF j d hlj hjd)
      · intro s hs'
        rw [getD_put (out_ne hs' ho)]
        exact hO s hs'
      · intro j d hj hjd
        obtain ⟨o', ho', hd'⟩ := dstOf_some hjd
        rw [listOf_set hlt] at hj
        by_cases hji : i = j
        · subst hji
          rw [upd_same] at hj
          cases hj
        · have hlj : listOf listed j = false := by
            unfold upd at hj
            rw [if_neg (fun e => hji e.symm)] at hj
            exact hj
          have hne : o.dst ≠ some d := by
            intro h1
            rcases Nat.lt_or_gt_of_ne hji with h2 | h2
            · exact dist_at hdist i j o o' d h2 (by simpa using ho) (by simpa using ho') h1 hd'
            · exact dist_at hdist j i o' o d h2 (by simpa using ho') (by simpa using ho) hd' h1
          rw [getD_put hne]
          exact hN j d hlj hjd
/-- The region whole, in the general form. -/
theorem region_genL {id : Nat} {w : World} (F : Nat → (Nat → Bool) → Value → World → Prop) (C : (Nat → Bool) → World → Prop) (n : Nat) (D : List Nat) (hm : P.follows .mixedOrders = true) (hn : T0.size = n) (hwf : wfB n ops = true) (hD : ops.toList.filterMap (·.dst) = D)
    (hC : C (fun _ => false) w.drew) (steps : StepsL P ops Q F C T0 0 ops.toList)
    (fin : ∀ (us : Nat → Value) (w' : World), (∃ L, (∀ k, k < ops.size → L k = true) ∧ C L w') → (∀ i d, dstOf ops i = some d → ∃ L, (∀ k, k < ops.size → L k = true) ∧ F i L (us d) w') → Q .normal (D.foldl (fun (a : Act) d => a.put (some d) (us d)) ⟨T0, []⟩) w') :
    (Code.region id ops true).wp P Q ⟨T0, []⟩ w := by
  refine wp_region_any hm (region_anyL n hn hwf steps ?_ ops.size _ _ w.drew ?_ ?_)
  · intro a w' hC' hd hs hF hO
    have h1 := fin (fun d => a.tmps.getD d undef) w' hC' (fun i d hi => hF i d hi)
    have h2 := foldl_put (fun d => a.tmps.getD d undef) D ⟨T0, []⟩
    have h4 := act_ext (b := a) (by rw [h2.1, hd]) (by rw [h2.2.1, hs]) (fun s hs' => ?_)
    · rw [h4] at h1
      exact h1
    · rw [h2.2.2 s (by simp only; omega)]
      by_cases hns : s ∈ D
      · rw [if_pos hns]
      · rw [if_neg hns]
        refine (hO s ?_).symm
        unfold outB
        rw [List.all_eq_true]
        intro o ho
        simp only [bne_iff_ne, ne_eq]
        intro he
        apply hns
        rw [← hD]
        exact List.mem_filterMap.2 ⟨o, ho, he⟩
  · simp
  · refine ⟨by
      have hl : listOf (Array.replicate ops.size false) = fun _ => false := by
        funext k
        simp only [listOf, Array.getD_eq_getD_getElem?, Array.getElem?_replicate]
        split <;> rfl
      rw [hl]
      exact hC, rfl, rfl, by simp, ?_, ?_, fun s _ => rfl, fun i s _ _ => rfl⟩
    · intro i o hi
      simp [Array.getD_eq_getD_getElem?, Array.getElem?_replicate] at hi
      split at hi <;> simp at hi
    · intro i d hi
      simp [listOf, Array.getD_eq_getD_getElem?, Array.getElem?_replicate] at hi
      split at hi <;> simp at hi
end
end Go.Proofs.Ytahichieakdbnaa.Inw

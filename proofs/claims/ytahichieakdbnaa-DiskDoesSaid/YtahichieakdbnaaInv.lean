/- A region that draws its order, met operation by operation: each one is shown for itself, of whatever else has been done; no orders are walked. -/
import Derived.WalkKit
import Derived.Below
import Derived.Orders
import Derived.RegionTactic
import Derived.Outline
namespace Go.Proofs.Ytahichieakdbnaa.Inv
open Go.RowKit
set_option linter.unusedVariables false

/-- where operation i puts its value -/
def dstOf (ops : Array Oper) (i : Nat) : Option Tmp := (ops[i]?).bind (·.dst)
/-- j lies behind i by at most n steps -/
def reach (ops : Array Oper) : Nat → Nat → Nat → Bool
  | 0, _, _ => false
  | n + 1, i, j => match ops[i]? with
    | none => false
    | some o => o.after.toList.any fun e => Region.binds .any e && (e.on == j || reach ops n e.on j)
/-- no operation puts anything into slot s -/
def outB (ops : Array Oper) (s : Nat) : Bool := ops.toList.all fun o => o.dst != some s
def distB : List Oper → Bool
  | [] => true
  | o :: r => (match o.dst with | none => true | some d => r.all fun o' => o'.dst != some d) && distB r
def edgeB : Nat → List Oper → Bool
  | _, [] => true
  | i, o :: r => (o.after.all fun e => !Region.binds .any e || decide (e.on < i)) && edgeB (i + 1) r
def boundB (n : Nat) (ops : Array Oper) : Bool := ops.toList.all fun o => match o.dst with | none => true | some d => decide (d < n)
def wfB (n : Nat) (ops : Array Oper) : Bool := distB ops.toList && edgeB 0 ops.toList && boundB n ops

theorem some_bool {x : Option Value} {b : Bool} (h : x.getD undef = .bool b) : x = some (.bool b) := by
  cases x with
  | none => simp [undef] at h
  | some v => simpa using h
section
variable (P : Program) (ops : Array Oper) (Q : Exit → Act → World → Prop) (F : Nat → Value → World → Prop) (C : World → Prop) (R : World → World → Prop) (T0 : Array Value)

/-- Operation i, whatever has been done besides. -/
def StepOk (i : Nat) (o : Oper) : Prop :=
  (∀ v w w', F i v w → R w w' → F i v w') ∧
  ∀ (a : Act) (w : World), C w → a.defers = [] →
    (∀ n j d, reach ops n i j = true → dstOf ops j = some d → F j (a.tmps.getD d undef) w) →
    (∀ s, outB ops s = true → a.tmps.getD s undef = T0.getD s undef) →
    ∀ K : Act → World → Prop, (∀ v w', C w' → R w w' → (o.dst ≠ none → F i v w') → K (a.put o.dst v) w') →
      if Region.wanted o (yielded ops a.tmps) = true then Oper.wp P o a w K Q else K (a.put o.dst undef) w
def StepsFrom : Nat → List Oper → Prop
  | _, [] => True
  | i, o :: r => StepOk P ops Q F C R T0 i o ∧ StepsFrom (i + 1) r

def closed (listed : Array Bool) : Prop := ∀ (i : Nat) (o : Oper), listed.getD i false = true → ops[i]? = some o → ∀ e ∈ o.after, Region.binds .any e = true → listed.getD e.on false = true
def Good (listed : Array Bool) (a : Act) (w : World) : Prop :=
  C w ∧ a.defers = [] ∧ a.tmps.size = T0.size ∧ listed.size = ops.size ∧ closed ops listed ∧
  (∀ i d, listed.getD i false = true → dstOf ops i = some d → F i (a.tmps.getD d undef) w) ∧
  (∀ s, outB ops s = true → a.tmps.getD s undef = T0.getD s undef)
end

section
variable {P : Program} {ops : Array Oper} {Q : Exit → Act → World → Prop} {F : Nat → Value → World → Prop} {C : World → Prop} {R : World → World → Prop} {T0 : Array Value}

theorem steps_at : ∀ {l : List Oper} {k : Nat}, StepsFrom P ops Q F C R T0 k l → ∀ i o, l[i]? = some o → StepOk P ops Q F C R T0 (k + i) o
  | [], _, _, i, o, h => by simp at h
  | x :: r, k, hs, 0, o, h => by
    simp at h
    subst h
    exact hs.1
  | x :: r, k, hs, i + 1, o, h => by
    have := steps_at hs.2 i o (by simpa using h)
    rw [show k + (i + 1) = k + 1 + i by omega]
    exact this
theorem dist_at {l : List Oper} (hd : distB l = true) : ∀ (i j : Nat) (x y : Oper) (d : Tmp), i < j → l[i]? = some x → l[j]? = some y → x.dst = some d → y.dst ≠ some d := by
  induction l with
  | nil => intro i j x y d _ h; simp at h
  | cons o r ih =>
    simp only [distB, Bool.and_eq_true] at hd
    intro i j x y d hij hx hy h1
    obtain ⟨j, rfl⟩ : ∃ k, j = k + 1 := ⟨j - 1, by omega⟩
    cases i with
    | zero =>
      simp at hx hy
      subst hx
      have h2 := hd.1
      rw [h1] at h2
      have := List.all_eq_true.1 h2 y (List.mem_of_getElem? hy)
      simpa using this
    | succ i => exact ih hd.2 i j x y d (by omega) (by simpa using hx) (by simpa using hy) h1
theorem edge_at : ∀ {l : List Oper} {k : Nat}, edgeB k l = true → ∀ (i : Nat) (o : Oper), l[i]? = some o → ∀ e ∈ o.after, Region.binds .any e = true → e.on < k + i
  | [], _, _, i, o, h => by simp at h
  | x :: r, k, hs, 0, o, h => by
    simp at h
    subst h
    simp only [edgeB, Bool.and_eq_true, Array.all_eq_true_iff_forall_mem] at hs
    intro e he hb
    have := hs.1 e he
    simpa [hb] using this
  | x :: r, k, hs, i + 1, o, h => by
    simp only [edgeB, Bool.and_eq_true] at hs
    intro e he hb
    have := edge_at hs.2 i o (by simpa using h) e he hb
    omega
theorem dstOf_some {i : Nat} {d : Tmp} (h : dstOf ops i = some d) : ∃ o, ops[i]? = some o ∧ o.dst = some d := by
  unfold dstOf at h
  cases ho : ops[i]? with
  | none => rw [ho] at h; cases h
  | some o => rw [ho] at h; exact ⟨o, rfl, h⟩
theorem out_ne {i : Nat} {s : Nat} {o : Oper} (h : outB ops s = true) (ho : ops[i]? = some o) : o.dst ≠ some s := by
  have := List.all_eq_true.1 h o (List.mem_of_getElem? (i := i) (by simpa using ho))
  simpa using this
theorem getD_put {a : Act} {dst : Option Tmp} {v : Value} {s : Nat} (h : dst ≠ some s) : (a.put dst v).tmps.getD s undef = a.tmps.getD s undef := by
  cases dst with
  | none => rfl
  | some d =>
    have hne : d ≠ s := fun e => h (by rw [e])
    simp [Act.put, Array.getD_eq_getD_getElem?, hne]
theorem getD_put_same {a : Act} {d : Tmp} {v : Value} (h : d < a.tmps.size) : (a.put (some d) v).tmps.getD d undef = v := by
  simp [Act.put, Array.getD_eq_getD_getElem?, h]
theorem put_defers' (a : Act) (d : Option Tmp) (v : Value) : (a.put d v).defers = a.defers := by cases d <;> rfl
theorem put_size (a : Act) (d : Option Tmp) (v : Value) : (a.put d v).tmps.size = a.tmps.size := by cases d <;> simp [Act.put]
theorem getD_set_same {l : Array Bool} {i : Nat} (h : i < l.size) (d : Bool) : (l.setIfInBounds i true).getD i d = true := by
  simp [Array.getD_eq_getD_getElem?, h]
theorem getD_set_of {l : Array Bool} {i j : Nat} (h : l.getD j false = true) : (l.setIfInBounds i true).getD j false = true := by
  by_cases e : i = j
  · subst e
    have : i < l.size := by
      rcases Nat.lt_or_ge i l.size with h' | h'
      · exact h'
      · simp [Array.getD_eq_getD_getElem?, Array.getElem?_eq_none h'] at h
    exact getD_set_same this _
  · rw [getD_set_ne _ e]; exact h
theorem reach_listed {listed : Array Bool} (hcl : closed ops listed) : ∀ (n i j : Nat), (∀ o, ops[i]? = some o → ∀ e ∈ o.after, Region.binds .any e = true → listed.getD e.on false = true) → reach ops n i j = true → listed.getD j false = true
  | 0, _, _, _, h => by simp [reach] at h
  | n + 1, i, j, hi, h => by
    unfold reach at h
    cases ho : ops[i]? with
    | none => rw [ho] at h; cases h
    | some o =>
      rw [ho] at h
      simp only [List.any_eq_true, Bool.and_eq_true, Bool.or_eq_true, beq_iff_eq] at h
      obtain ⟨e, he, hb, h1⟩ := h
      have h2 := hi o ho e (by simpa using he) hb
      rcases h1 with h1 | h1
      · rw [← h1]; exact h2
      · exact reach_listed hcl n e.on j (fun o' ho' e' he' hb' => hcl e.on o' h2 ho' e' he' hb') h1
theorem all_listed {listed : Array Bool} (hw : edgeB 0 ops.toList = true) (hsz : listed.size = ops.size) (hr : Region.ready .any ops listed = []) : ∀ i, i < ops.size → listed.getD i false = true := by
  intro i
  induction i using Nat.strongRecOn with
  | ind i ih =>
    intro hi
    cases hl : listed.getD i false with
    | true => rfl
    | false =>
      exfalso
      have hmem : i ∈ Region.ready .any ops listed := mem_ready.2 ⟨by
          have h1 : i < listed.size := by omega
          simp [Array.getD_eq_getD_getElem?, h1] at hl ⊢
          exact hl, ops[i], by simp [hi], fun e he hb => by
          have h1 := edge_at hw i ops[i] (by simp [hi]) e he hb
          exact ih e.on (by omega) (by omega)⟩
      rw [hr] at hmem
      cases hmem
theorem region_any (n : Nat) (hn : T0.size = n) (hwf : wfB n ops = true) (hR : ∀ w, C w → R w w) (steps : StepsFrom P ops Q F C R T0 0 ops.toList)
    (fin : ∀ a w, C w → a.defers = [] → a.tmps.size = T0.size → (∀ i d, dstOf ops i = some d → F i (a.tmps.getD d undef) w) → (∀ s, outB ops s = true → a.tmps.getD s undef = T0.getD s undef) → Q .normal a w) :
    ∀ (fuel : Nat) (listed : Array Bool) (a : Act) (w : World), listed.toList.count false ≤ fuel → Good ops F C T0 listed a w → wpAny P .any ops Q fuel listed a w := by
  subst hn
  simp only [wfB, Bool.and_eq_true] at hwf
  obtain ⟨⟨hdist, hedge⟩, hbound⟩ := hwf
  have hdone : ∀ (listed : Array Bool) (a : Act) (w : World), Good ops F C T0 listed a w → Region.ready .any ops listed = [] → Q .normal a w := by
    rintro listed a w ⟨hC, hd, hs, hls, hcl, hF, hO⟩ hr
    refine fin a w hC hd hs (fun i d hi => hF i d ?_ hi) hO
    obtain ⟨o, ho, _⟩ := dstOf_some hi
    exact all_listed hedge hls hr i (Array.getElem?_eq_some_iff.1 ho).1
  intro fuel
  induction fuel with
  | zero =>
    intro listed a w hc hG
    have hr : Region.ready .any ops listed = [] := by
      cases hr : Region.ready .any ops listed with
      | nil => rfl
      | cons j r =>
        exfalso
        have hj : j ∈ Region.ready .any ops listed := by rw [hr]; simp
        have h0 := (mem_ready.1 hj).1
        have hlt : j < listed.size := by
          rcases Nat.lt_or_ge j listed.size with h' | h'
          · exact h'
          · simp [Array.getD_eq_getD_getElem?, Array.getElem?_eq_none h'] at h0
        have hm : false ∈ listed.toList := by
          simp [Array.getD_eq_getD_getElem?, hlt] at h0
          rw [← h0]
          simp
        have h1 := List.count_pos_iff.2 hm
        exact absurd h1 (by omega)
    exact ⟨hr, hdone listed a w hG hr⟩
  | succ fuel ih =>
    intro listed a w hc hG
    refine ⟨hdone listed a w hG, fun i hi => ?_⟩
    obtain ⟨hC, hd, hs, hls, hcl, hF, hO⟩ := hG
    obtain ⟨h0, o, ho, haft⟩ := mem_ready.1 hi
    have hlt : i < listed.size := by
      rcases Nat.lt_or_ge i listed.size with h' | h'
      · exact h'
      · simp [Array.getD_eq_getD_getElem?, Array.getElem?_eq_none h'] at h0
    have hst := steps_at steps i o (by simpa using ho)
    rw [Nat.zero_add] at hst
    refine wpOp_step ho fun K' hK => ?_
    refine hst.2 a w hC hd (fun n j d hj hjd => hF j d (reach_listed hcl n i j (fun o' ho' => by rw [ho] at ho'; cases ho'; exact haft) hj) hjd) hO K' fun v w' hC' hR' hv => hK _ _ (ih _ _ _ ?_ ?_)
    · have h1 : listed.toList[i]'(by simpa using hlt) = false := by
        simp [Array.getD_eq_getD_getElem?, hlt] at h0
        simpa using h0
      rw [Array.toList_setIfInBounds, List.count_set (by simpa using hlt), h1]
      have hm : false ∈ listed.toList := by rw [← h1]; exact List.getElem_mem _
      have h2 := List.count_pos_iff.2 hm
      have e1 : (false == false) = true := rfl
      have e2 : (true == false) = false := rfl
      rw [e1, e2, if_pos rfl, if_neg (by decide)]
      clear hst steps ih hK
      omega
    · refine ⟨hC', by rw [put_defers']; exact hd, by rw [put_size]; exact hs, by simpa using hls, ?_, ?_, ?_⟩
      · intro j o' hj ho' e he hb
        by_cases hji : i = j
        · subst hji
          rw [ho] at ho'
          cases ho'
          exact getD_set_of (haft e he hb)
        · rw [getD_set_ne _ hji] at hj
          exact getD_set_of (hcl j o' hj ho' e he hb)
      · intro j d hj hjd
        obtain ⟨o', ho', hd'⟩ := dstOf_some hjd
        by_cases hji : i = j
        · subst hji
          rw [ho] at ho'
          cases ho'
          have hb := List.all_eq_true.1 hbound o (List.mem_of_getElem? (i := i) (by simpa using ho))
          rw [hd'] at hb
          have hb' : d < T0.size := by simpa using hb
          rw [hd', getD_put_same (Nat.lt_of_lt_of_eq hb' hs.symm)]
          exact hv (by rw [hd']; simp)
        · rw [getD_set_ne _ hji] at hj
          have hne : o.dst ≠ some d := by
            intro h1
            rcases Nat.lt_or_gt_of_ne hji with h2 | h2
            · exact dist_at hdist i j o o' d h2 (by simpa using ho) (by simpa using ho') h1 hd'
            · exact dist_at hdist j i o' o d h2 (by simpa using ho') (by simpa using ho) hd' h1
          rw [getD_put hne]
          have hstj := steps_at steps j o' (by simpa using ho')
          rw [Nat.zero_add] at hstj
          exact hstj.1 _ _ _ (hF j d hj hjd) hR'
      · intro s hs'
        rw [getD_put (out_ne hs' ho)]
        exact hO s hs'
theorem foldl_put (us : Nat → Value) : ∀ (D : List Nat) (a : Act), (D.foldl (fun (a : Act) d => a.put (some d) (us d)) a).defers = a.defers ∧ (D.foldl (fun (a : Act) d => a.put (some d) (us d)) a).tmps.size = a.tmps.size ∧
    ∀ s, s < a.tmps.size → (D.foldl (fun (a : Act) d => a.put (some d) (us d)) a).tmps.getD s undef = if s ∈ D then us s else a.tmps.getD s undef
  | [], a => ⟨rfl, rfl, fun s _ => by simp⟩
  | d :: r, a => by
    obtain ⟨h1, h2, h3⟩ := foldl_put us r (a.put (some d) (us d))
    refine ⟨by rw [List.foldl_cons, h1, put_defers'], by rw [List.foldl_cons, h2, put_size], fun s hs => ?_⟩
    rw [List.foldl_cons, h3 s (by rw [put_size]; exact hs)]
    by_cases h : s ∈ r
    · simp [h]
    · by_cases e : s = d
      · subst e
        simp [h, getD_put_same hs]
      · rw [if_neg h, if_neg (by simp [h, e]), getD_put (fun h' => e (by injection h' with h'; exact h'.symm))]
theorem act_ext {a b : Act} (hd : a.defers = b.defers) (hs : a.tmps.size = b.tmps.size) (h : ∀ s, s < b.tmps.size → a.tmps.getD s undef = b.tmps.getD s undef) : a = b := by
  obtain ⟨at_, ad⟩ := a
  obtain ⟨bt, bd⟩ := b
  simp only at hd hs h
  subst hd
  congr 1
  apply Array.ext hs
  intro i h1 h2
  have := h i h2
  simpa [Array.getD_eq_getD_getElem?, h1, h2] using this

/-- The region whole. F: what is known of each operation's value; C: of the world; R: how the world may turn; D: the slots that it writes. -/
theorem region_inv {id : Nat} {w : World} (F : Nat → Value → World → Prop) (C : World → Prop) (R : World → World → Prop) (n : Nat) (D : List Nat) (hm : P.follows .mixedOrders = true) (hn : T0.size = n) (hwf : wfB n ops = true) (hD : ops.toList.filterMap (·.dst) = D)
    (hR : ∀ w, C w → R w w) (hC : C w.drew) (steps : StepsFrom P ops Q F C R T0 0 ops.toList)
    (fin : ∀ (us : Nat → Value) (w' : World), C w' → (∀ i d, dstOf ops i = some d → F i (us d) w') → Q .normal (D.foldl (fun (a : Act) d => a.put (some d) (us d)) ⟨T0, []⟩) w') :
    (Code.region id ops true).wp P Q ⟨T0, []⟩ w := by
  refine wp_region_any hm (region_any n hn hwf hR steps ?_ ops.size _ _ w.drew ?_ ?_)
  · intro a w' hC' hd hs hF hO
    have h1 := fin (fun d => a.tmps.getD d undef) w' hC' (fun i d hi => hF i d hi)
    have h2 := foldl_put (fun d => a.tmps.getD d undef) D ⟨T0, []⟩
    have h4 := act_ext (b := a) (by rw [h2.1, hd]) (by rw [h2.2.1, hs]) (fun s hs' => ?_)
    · rw [h4] at h1
      exact h1
    · rw [h2.2.2 s (by simp only; omega)]
      by_cases hns : s ∈ D
      · rw [if_pos hns]
      · rw [if_neg hns]
        refine (hO s ?_).symm
        unfold outB
        rw [List.all_eq_true]
        intro o ho
        simp only [bne_iff_ne, ne_eq]
        intro he
        apply hns
        rw [← hD]
        exact List.mem_filterMap.2 ⟨o, ho, he⟩
  · simp
  · refine ⟨hC, rfl, rfl, by simp, ?_, ?_, fun s _ => rfl⟩
    · intro i o hi
      simp [Array.getD_eq_getD_getElem?, Array.getElem?_replicate] at hi
      split at hi <;> simp at hi
    · intro i d hi
      simp [Array.getD_eq_getD_getElem?, Array.getElem?_replicate] at hi
      split at hi <;> simp at hi
/-- Operation i, whatever has been done besides, where the world only grows. -/
def StepB (P : Program) (ops : Array Oper) (Q : Exit → Act → World → Prop) (F : Nat → Value → World → Prop) (C : World → Prop) (T0 : Array Value) (i : Nat) (o : Oper) : Prop :=
  (∀ v w w', F i v w → Below w.heap.size w w' → F i v w') ∧
  ∀ (a : Act) (w : World), C w → a.defers = [] →
    (∀ n j d, reach ops n i j = true → dstOf ops j = some d → F j (a.tmps.getD d undef) w) →
    (∀ s, outB ops s = true → a.tmps.getD s undef = T0.getD s undef) →
    ∀ K : Act → World → Prop, (∀ v w', Below w.heap.size w w' → (o.dst ≠ none → F i v w') → K (a.put o.dst v) w') →
      if Region.wanted o (yielded ops a.tmps) = true then Oper.wp P o a w K Q else K (a.put o.dst undef) w
def StepsB (P : Program) (ops : Array Oper) (Q : Exit → Act → World → Prop) (F : Nat → Value → World → Prop) (C : World → Prop) (T0 : Array Value) : Nat → List Oper → Prop
  | _, [] => True
  | i, o :: r => StepB P ops Q F C T0 i o ∧ StepsB P ops Q F C T0 (i + 1) r
theorem steps_of {F : Nat → Value → World → Prop} {C : World → Prop} (hCR : ∀ w w', C w → Below w.heap.size w w' → C w') : ∀ {l : List Oper} {k : Nat}, StepsB P ops Q F C T0 k l → StepsFrom P ops Q F C (fun w w' => Below w.heap.size w w') T0 k l
  | [], _, _ => trivial
  | o :: r, k, h => ⟨⟨h.1.1, fun a w hC hd H O K hK => h.1.2 a w hC hd H O K fun v w' hb hF => hK v w' (hCR w w' hC hb) hb hF⟩, steps_of hCR h.2⟩
/-- The region whole, where the world only grows. -/
theorem region_below {id : Nat} {w : World} (F : Nat → Value → World → Prop) (C : World → Prop) (n : Nat) (D : List Nat) (hm : P.follows .mixedOrders = true) (hn : T0.size = n) (hwf : wfB n ops = true) (hD : ops.toList.filterMap (·.dst) = D)
    (hCR : ∀ w w', C w → Below w.heap.size w w' → C w') (hC : C w.drew) (steps : StepsB P ops Q F C T0 0 ops.toList)
    (fin : ∀ (us : Nat → Value) (w' : World), C w' → (∀ i d, dstOf ops i = some d → F i (us d) w') → Q .normal (D.foldl (fun (a : Act) d => a.put (some d) (us d)) ⟨T0, []⟩) w') :
    (Code.region id ops true).wp P Q ⟨T0, []⟩ w :=
  region_inv F C (fun w w' => Below w.heap.size w w') n D hm hn hwf hD (fun w _ => Below.refl _ _) hC (steps_of hCR steps) fin

/-! The general form: what is known of a value may hang on which operations have been carried out (L). -/
def upd (L : Nat → Bool) (i : Nat) : Nat → Bool := fun k => if k = i then true else L k
def listOf (listed : Array Bool) : Nat → Bool := fun k => listed.getD k false
theorem upd_f {L : Nat → Bool} {i k : Nat} (h : upd L i k = false) : L k = false := by
  unfold upd at h
  split at h
  · cases h
  · exact h
theorem upd_t {L : Nat → Bool} {i k : Nat} (hne : k ≠ i) (h : upd L i k = true) : L k = true := by
  unfold upd at h
  rw [if_neg hne] at h
  exact h
theorem upd_same (L : Nat → Bool) (i : Nat) : upd L i i = true := by unfold upd; rw [if_pos rfl]
theorem listOf_set {listed : Array Bool} {i : Nat} (h : i < listed.size) : listOf (listed.setIfInBounds i true) = upd (listOf listed) i := by
  funext k
  unfold listOf upd
  by_cases e : k = i
  · subst e; rw [if_pos rfl, getD_set_same h]
  · rw [if_neg e, getD_set_ne _ (fun h => e h.symm)]
/-- Operation i, whatever has been done besides. -/
def StepU (P : Program) (ops : Array Oper) (Q : Exit → Act → World → Prop) (F : Nat → (Nat → Bool) → Value → World → Prop) (C : World → Prop) (T0 : Array Value) (i : Nat) (o : Oper) : Prop :=
  ∀ (a : Act) (w : World) (L : Nat → Bool), C w → a.defers = [] → L i = false → (∀ n j, reach ops n i j = true → L j = true) → (∀ n k, reach ops n k i = true → L k = false) →
    (∀ j d, L j = true → dstOf ops j = some d → F j L (a.tmps.getD d undef) w) →
    (∀ s, outB ops s = true → a.tmps.getD s undef = T0.getD s undef) →
    ∀ K : Act → World → Prop, (∀ v w', C w' → (∀ j d, j ≠ i → L j = true → dstOf ops j = some d → F j L (a.tmps.getD d undef) w → F j (upd L i) (a.tmps.getD d undef) w') → (o.dst ≠ none → F i (upd L i) v w') → K (a.put o.dst v) w') →
      if Region.wanted o (yielded ops a.tmps) = true then Oper.wp P o a w K Q else K (a.put o.dst undef) w
def StepsU (P : Program) (ops : Array Oper) (Q : Exit → Act → World → Prop) (F : Nat → (Nat → Bool) → Value → World → Prop) (C : World → Prop) (T0 : Array Value) : Nat → List Oper → Prop
  | _, [] => True
  | i, o :: r => StepU P ops Q F C T0 i o ∧ StepsU P ops Q F C T0 (i + 1) r
def GoodU (ops : Array Oper) (F : Nat → (Nat → Bool) → Value → World → Prop) (C : World → Prop) (T0 : Array Value) (listed : Array Bool) (a : Act) (w : World) : Prop :=
  C w ∧ a.defers = [] ∧ a.tmps.size = T0.size ∧ listed.size = ops.size ∧ closed ops listed ∧
  (∀ i d, listOf listed i = true → dstOf ops i = some d → F i (listOf listed) (a.tmps.getD d undef) w) ∧
  (∀ s, outB ops s = true → a.tmps.getD s undef = T0.getD s undef)
theorem stepsU_at {F : Nat → (Nat → Bool) → Value → World → Prop} : ∀ {l : List Oper} {k : Nat}, StepsU P ops Q F C T0 k l → ∀ i o, l[i]? = some o → StepU P ops Q F C T0 (k + i) o
  | [], _, _, i, o, h => by simp at h
  | x :: r, k, hs, 0, o, h => by
    simp at h
    subst h
    exact hs.1
  | x :: r, k, hs, i + 1, o, h => by
    have := stepsU_at hs.2 i o (by simpa using h)
    rw [show k + (i + 1) = k + 1 + i by omega]
    exact this
theorem region_anyU {F : Nat → (Nat → Bool) → Value → World → Prop} (n : Nat) (hn : T0.size = n) (hwf : wfB n ops = true) (steps : StepsU P ops Q F C T0 0 ops.toList)
    (fin : ∀ a w, C w → a.defers = [] → a.tmps.size = T0.size → (∀ i d, dstOf ops i = some d → ∃ L, (∀ k, k < ops.size → L k = true) ∧ F i L (a.tmps.getD d undef) w) → (∀ s, outB ops s = true → a.tmps.getD s undef = T0.getD s undef) → Q .normal a w) :
    ∀ (fuel : Nat) (listed : Array Bool) (a : Act) (w : World), listed.toList.count false ≤ fuel → GoodU ops F C T0 listed a w → wpAny P .any ops Q fuel listed a w := by
  subst hn
  simp only [wfB, Bool.and_eq_true] at hwf
  obtain ⟨⟨hdist, hedge⟩, hbound⟩ := hwf
  have hdone : ∀ (listed : Array Bool) (a : Act) (w : World), GoodU ops F C T0 listed a w → Region.ready .any ops listed = [] → Q .normal a w := by
    rintro listed a w ⟨hC, hd, hs, hls, hcl, hF, hO⟩ hr
    refine fin a w hC hd hs (fun i d hi => ⟨listOf listed, fun k hk => all_listed hedge hls hr k hk, hF i d ?_ hi⟩) hO
    obtain ⟨o, ho, _⟩ := dstOf_some hi
    exact all_listed hedge hls hr i (Array.getElem?_eq_some_iff.1 ho).1
  intro fuel
  induction fuel with
  | zero =>
    intro listed a w hc hG
    have hr : Region.ready .any ops listed = [] := by
      cases hr : Region.ready .any ops listed with
      | nil => rfl
      | cons j r =>
        exfalso
        have hj : j ∈ Region.ready .any ops listed := by rw [hr]; simp
        have h0 := (mem_ready.1 hj).1
        have hlt : j < listed.size := by
          rcases Nat.lt_or_ge j listed.size with h' | h'
          · exact h'
          · simp [Array.getD_eq_getD_getElem?, Array.getElem?_eq_none h'] at h0
        have hm : false ∈ listed.toList := by
          simp [Array.getD_eq_getD_getElem?, hlt] at h0
          rw [← h0]
          simp
        have h1 := List.count_pos_iff.2 hm
        exact absurd h1 (by omega)
    exact ⟨hr, hdone listed a w hG hr⟩
  | succ fuel ih =>
    intro listed a w hc hG
    refine ⟨hdone listed a w hG, fun i hi => ?_⟩
    obtain ⟨hC, hd, hs, hls, hcl, hF, hO⟩ := hG
    obtain ⟨h0, o, ho, haft⟩ := mem_ready.1 hi
    have hlt : i < listed.size := by
      rcases Nat.lt_or_ge i listed.size with h' | h'
      · exact h'
      · simp [Array.getD_eq_getD_getElem?, Array.getElem?_eq_none h'] at h0
    have hst := stepsU_at steps i o (by simpa using ho)
    rw [Nat.zero_add] at hst
    refine wpOp_step ho fun K' hK => ?_
    have hi0 : listed.getD i false = false := by
      simp [Array.getD_eq_getD_getElem?, hlt] at h0 ⊢
      exact h0
    refine hst a w (listOf listed) hC hd hi0 (fun n j hj => reach_listed hcl n i j (fun o' ho' => by rw [ho] at ho'; cases ho'; exact haft) hj) (fun n k hk => ?_) hF hO K' fun v w' hC' hR' hv => hK _ _ (ih _ _ _ ?_ ?_)
    · cases hlk : listOf listed k with
      | false => rfl
      | true =>
        have := reach_listed hcl n k i (fun o' ho' e he hb => hcl k o' hlk ho' e he hb) hk
        rw [hi0] at this; cases this
    · have h1 : listed.toList[i]'(by simpa using hlt) = false := by
        simp [Array.getD_eq_getD_getElem?, hlt] at h0
        simpa using h0
      rw [Array.toList_setIfInBounds, List.count_set (by simpa using hlt), h1]
      have hm : false ∈ listed.toList := by rw [← h1]; exact List.getElem_mem _
      have h2 := List.count_pos_iff.2 hm
      have e1 : (false == false) = true := rfl
      have e2 : (true == false) = false := rfl
      rw [e1, e2, if_pos rfl, if_neg (by decide)]
      clear hst steps ih hK
      omega
    · refine ⟨hC', by rw [put_defers']; exact hd, by rw [put_size]; exact hs, by simpa using hls, ?_, ?_, ?_⟩
      · intro j o' hj ho' e he hb
        by_cases hji : i = j
        · subst hji
          rw [ho] at ho'
          cases ho'
          exact getD_set_of (haft e he hb)
        · rw [getD_set_ne _ hji] at hj
          exact getD_set_of (hcl j o' hj ho' e he hb)
      · intro j d hj hjd
        obtain ⟨o', ho', hd'⟩ := dstOf_some hjd
        rw [listOf_set hlt] at hj ⊢
        by_cases hji : i = j
        · subst hji
          rw [ho] at ho'
          cases ho'
          have hb := List.all_eq_true.1 hbound o (List.mem_of_getElem? (i := i) (by simpa using ho))
          rw [hd'] at hb
          have hb' : d < T0.size := by simpa using hb
          rw [hd', getD_put_same (Nat.lt_of_lt_of_eq hb' hs.symm)]
          exact hv (by rw [hd']; simp)
        · have hlj : listOf listed j = true := by
            unfold upd at hj
            rw [if_neg (fun e => hji e.symm)] at hj
            exact hj
          have hne : o.dst ≠ some d := by
            intro h1
            rcases Nat.lt_or_gt_of_ne hji with h2 | h2
            · exact dist_at hdist i j o o' d h2 (by simpa using ho) (by simpa using ho') h1 hd'
            · exact dist_at hdist j i o' o d h2 (by simpa using ho') (by simpa using ho) hd' h1
          rw [getD_put hne]
          exact hR' j d (fun e => hji e.symm) hlj hjd (hF j d hlj hjd)
      · intro s hs'
        rw [getD_put (out_ne hs' ho)]
        exact hO s hs'
/-- The region whole, in the general form. -/
theorem region_gen {id : Nat} {w : World} (F : Nat → (Nat → Bool) → Value → World → Prop) (C : World → Prop) (n : Nat) (D : List Nat) (hm : P.follows .mixedOrders = true) (hn : T0.size = n) (hwf : wfB n ops = true) (hD : ops.toList.filterMap (·.dst) = D)
    (hC : C w.drew) (steps : StepsU P ops Q F C T0 0 ops.toList)
    (fin : ∀ (us : Nat → Value) (w' : World), C w' → (∀ i d, dstOf ops i = some d → ∃ L, (∀ k, k < ops.size → L k = true) ∧ F i L (us d) w') → Q .normal (D.foldl (fun (a : Act) d => a.put (some d) (us d)) ⟨T0, []⟩) w') :
    (Code.region id ops true).wp P Q ⟨T0, []⟩ w := by
  refine wp_region_any hm (region_anyU n hn hwf steps ?_ ops.size _ _ w.drew ?_ ?_)
  · intro a w' hC' hd hs hF hO
    have h1 := fin (fun d => a.tmps.getD d undef) w' hC' (fun i d hi => hF i d hi)
    have h2 := foldl_put (fun d => a.tmps.getD d undef) D ⟨T0, []⟩
    have h4 := act_ext (b := a) (by rw [h2.1, hd]) (by rw [h2.2.1, hs]) (fun s hs' => ?_)
    · rw [h4] at h1
      exact h1
    · rw [h2.2.2 s (by simp only; omega)]
      by_cases hns : s ∈ D
      · rw [if_pos hns]
      · rw [if_neg hns]
        refine (hO s ?_).symm
        unfold outB
        rw [List.all_eq_true]
        intro o ho
        simp only [bne_iff_ne, ne_eq]
        intro he
        apply hns
        rw [← hD]
        exact List.mem_filterMap.2 ⟨o, ho, he⟩
  · simp
  · refine ⟨hC, rfl, rfl, by simp, ?_, ?_, fun s _ => rfl⟩
    · intro i o hi
      simp [Array.getD_eq_getD_getElem?, Array.getElem?_replicate] at hi
      split at hi <;> simp at hi
    · intro i d hi
      simp [listOf, Array.getD_eq_getD_getElem?, Array.getElem?_replicate] at hi
      split at hi <;> simp at hi
end
end Go.Proofs.Ytahichieakdbnaa.Inv

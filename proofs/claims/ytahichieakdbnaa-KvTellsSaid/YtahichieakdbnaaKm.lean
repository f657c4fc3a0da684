/- kv: a store in plain words. -/
import Derived.Test.YtahichieakdbnaaVm2
import Derived.Test.YtahichieakdbnaaDm
import Derived.Test.YtahichieakdbnaaNum
import Derived.Sort.KeysCollected
import Derived.Maps.Views
namespace Go.Proofs.Ytahichieakdbnaa
open Go.RowKit Go.Maps
set_option linter.unusedVariables false
set_option linter.unusedSimpArgs false

abbrev L8 := List UInt8
/-- keys, rising, and their values -/
abbrev St := List (L8 × L8)
namespace Km
def ba (x : L8) : ByteArray := ⟨x.toArray⟩
theorem ba_data (k : ByteArray) : ba k.data.toList = k := by simp [ba]
theorem data_ba (x : L8) : (ba x).data.toList = x := by simp [ba]
theorem ba_size (x : L8) : (ba x).size = x.length := by simp [ba, ByteArray.size]
def bl (x : L8) : List Nat := x.map UInt8.toNat
theorem sb_ba (x : L8) : sb (ba x) = bl x := by simp [sb, bl, ba]
theorem bl_length (x : L8) : (bl x).length = x.length := by simp [bl]
theorem bl_byte (x : L8) : ∀ b ∈ bl x, b < 256 := fun b hb => by
  obtain ⟨c, -, rfl⟩ := List.mem_map.1 hb
  exact c.toNat_lt
theorem of_bl (x : L8) : (bl x).map UInt8.ofNat = x := by
  unfold bl
  rw [List.map_map]
  have : (UInt8.ofNat ∘ UInt8.toNat) = id := by funext c; simp
  rw [this, List.map_id]
theorem encStr_ba (x : L8) : encStr x = .string (ba x) := rfl
theorem lit_ba (x : L8) : Dm.lit (ba x) = .string x := by simp [Dm.lit, ba]
theorem lt_asymm {a b : L8} (h : a < b) (k : b < a) : False := List.lt_irrefl a (List.lt_trans h k)
theorem tri (a b : L8) : a < b ∨ a = b ∨ b < a := by
  by_cases h : a < b
  · exact .inl h
  · by_cases k : b < a
    · exact .inr (.inr k)
    · exact .inr (.inl (List.le_antisymm (List.not_lt.1 k) (List.not_lt.1 h)))
def get : St → L8 → Option L8
  | [], _ => none
  | (a, b) :: r, x => if a = x then some b else get r x
def put : St → L8 → L8 → St
  | [], k, v => [(k, v)]
  | (a, b) :: r, k, v => if a = k then (k, v) :: r else if k < a then (k, v) :: (a, b) :: r else (a, b) :: put r k v
def del (st : St) (k : L8) : St := st.filter fun p => p.1 ≠ k
def Srt (st : St) : Prop := st.Pairwise fun p q => p.1 < q.1
theorem get_put : ∀ (st : St) (k v x : L8), get (put st k v) x = if k = x then some v else get st x
  | [], k, v, x => rfl
  | (a, b) :: r, k, v, x => by
    unfold put
    split
    · next h =>
      subst h
      unfold get
      split <;> rfl
    · split
      · rfl
      · unfold get
        rw [get_put r k v x]
        split
        · next h1 h2 h3 =>
          rw [if_neg (fun e => h1 (by rw [h3, e]))]
        · rfl
theorem get_del : ∀ (st : St) (k x : L8), get (del st k) x = if k = x then none else get st x
  | [], k, x => by simp [del, get]
  | (a, b) :: r, k, x => by
    have ih := get_del r k x
    unfold del at ih ⊢
    rw [List.filter_cons]
    by_cases h : a = k
    · subst h
      simp only [ne_eq, not_true_eq_false, decide_false, Bool.false_eq_true, if_false]
      rw [ih]
      by_cases h2 : a = x
      · rw [if_pos h2, if_pos h2]
      · rw [if_neg h2, if_neg h2]
        conv => rhs; unfold get
        rw [if_neg h2]
    · rw [if_pos (by simpa using h)]
      conv => lhs; unfold get
      conv => rhs; rhs; unfold get
      rw [ih]
      by_cases h2 : a = x
      · rw [if_pos h2, if_pos h2, if_neg (fun e => h (by rw [h2, e]))]
      · rw [if_neg h2, if_neg h2]
theorem mem_put : ∀ {st : St} {k v : L8} {p : L8 × L8}, p ∈ put st k v → p = (k, v) ∨ p ∈ st
  | [], k, v, p, h => by simp [put] at h; exact .inl h
  | (a, b) :: r, k, v, p, h => by
    unfold put at h
    split at h
    · rcases List.mem_cons.1 h with h | h
      · exact .inl h
      · exact .inr (List.mem_cons_of_mem _ h)
    · split at h
      · rcases List.mem_cons.1 h with h | h
        · exact .inl h
        · exact .inr h
      · rcases List.mem_cons.1 h with h | h
        · exact .inr (by rw [h]; exact List.mem_cons_self)
        · rcases mem_put h with h | h
          · exact .inl h
          · exact .inr (List.mem_cons_of_mem _ h)
theorem Srt.put : ∀ {st : St}, Srt st → ∀ (k v : L8), Srt (Km.put st k v)
  | [], _, k, v => List.pairwise_singleton _ _
  | (a, b) :: r, h, k, v => by
    obtain ⟨h1, h2⟩ := List.pairwise_cons.1 h
    unfold Km.put
    split
    · next e => subst e; exact List.pairwise_cons.2 ⟨h1, h2⟩
    · split
      · next hlt => exact List.pairwise_cons.2 ⟨fun q hq => by
          rcases List.mem_cons.1 hq with hq | hq
          · rw [hq]; exact hlt
          · exact List.lt_trans hlt (h1 q hq), h⟩
      · next hne hlt => exact List.pairwise_cons.2 ⟨fun q hq => by
          rcases mem_put hq with hq | hq
          · rw [hq]
            rcases tri a k with h | h | h
            · exact h
            · exact absurd h hne
            · exact absurd h hlt
          · exact h1 q hq, Srt.put h2 k v⟩
theorem Srt.del {st : St} (h : Srt st) (k : L8) : Srt (Km.del st k) := List.Pairwise.filter _ h
theorem get_mem : ∀ {st : St} {x : L8}, get st x ≠ none ↔ x ∈ st.map (·.1)
  | [], x => by simp [get]
  | (a, b) :: r, x => by
    unfold get
    by_cases h : a = x
    · subst h; simp
    · rw [if_neg h, get_mem]
      simp [fun e => h (e : x = a).symm]
      exact fun e => absurd e.symm h
theorem get_at : ∀ {st : St}, Srt st → ∀ {p : L8 × L8}, p ∈ st → get st p.1 = some p.2
  | [], _, p, h => by simp at h
  | (a, b) :: r, hs, p, h => by
    obtain ⟨h1, h2⟩ := List.pairwise_cons.1 hs
    unfold get
    rcases List.mem_cons.1 h with h | h
    · rw [h, if_pos rfl]
    · rw [if_neg (fun e => by have := h1 p h; simp only at this; rw [e] at this; exact List.lt_irrefl _ this)]
      exact get_at h2 h
/-- writes, in order -/
def appl (st : St) (l : List (ByteArray × ByteArray × Bool)) : St := l.foldl (fun st x => if x.2.2 = true then del st x.1.data.toList else put st x.1.data.toList x.2.1.data.toList) st
theorem Srt.appl {st : St} (h : Srt st) (l : List (ByteArray × ByteArray × Bool)) : Srt (Km.appl st l) := by
  unfold Km.appl
  induction l generalizing st with
  | nil => exact h
  | cons x r ih =>
    rw [List.foldl_cons]
    apply ih
    split
    · exact h.del _
    · exact h.put _ _
/-- a map's datum is a store -/
def KI (D : Dm.DU) (st : St) : Prop := IsMap D ∧ Srt st ∧ ∀ x, (get st x = none → has D (.string x) = false) ∧ ∀ v, get st x = some v → ∀ z, D.atKey (.string x) z = .lit (.string v)
theorem KI.has {D : Dm.DU} {st : St} (h : KI D st) (x : L8) : Maps.has D (.string x) = (get st x).isSome := by
  cases hg : get st x with
  | none => exact (h.2.2 x).1 hg
  | some v => exact has_true_of_atKey ((h.2.2 x).2 v hg)
theorem KI.nil : KI (.map []) [] := ⟨isMap_empty, List.Pairwise.nil, fun x => ⟨fun _ => rfl, fun v h => by simp [get] at h⟩⟩
theorem KI.put {D : Dm.DU} {st : St} (h : KI D st) (k v : L8) : KI (D.put (.string k) (.lit (.string v))) (Km.put st k v) := by
  refine ⟨h.1.put _ _, h.2.1.put k v, fun x => ?_⟩
  rw [get_put]
  by_cases hx : k = x
  · subst hx
    rw [if_pos rfl]
    refine ⟨fun e => (by cases e), fun w e z => ?_⟩
    injection e with e
    subst e
    exact atKey_put_same (k := .string k) h.1 (show WideAt.IsKeyLit (.string k) from trivial) _ _
  · rw [if_neg hx]
    have hne : (Lit.string x) ≠ .string k := fun e => by injection e with e; exact hx e.symm
    refine ⟨fun e => (has_put_other hne _).trans ((h.2.2 x).1 e), fun w e z => (atKey_put_other hne _ _).trans ((h.2.2 x).2 w e z)⟩
theorem KI.del {D : Dm.DU} {st : St} (h : KI D st) (k : L8) : KI (D.del (.string k)) (Km.del st k) := by
  refine ⟨h.1.del _, h.2.1.del k, fun x => ?_⟩
  rw [get_del]
  by_cases hx : k = x
  · subst hx
    rw [if_pos rfl]
    exact ⟨fun _ => has_del_same, fun w e => (by cases e)⟩
  · rw [if_neg hx]
    have hne : (Lit.string x) ≠ .string k := fun e => by injection e with e; exact hx e.symm
    exact ⟨fun e => (has_del_other hne).trans ((h.2.2 x).1 e), fun w e z => (atKey_del_other hne _).trans ((h.2.2 x).2 w e z)⟩
theorem keys_le {st : St} (h : Srt st) : (st.map (·.1)).Pairwise (fun a b => leB a b = true) := by
  refine List.pairwise_map.2 (h.imp fun {p q} hpq => ?_)
  simp only [leB, decide_eq_true_eq]
  exact List.not_lt.1 (fun h2 => lt_asymm hpq h2)
theorem keys_nodup {st : St} (h : Srt st) : (st.map (·.1)).Nodup := List.pairwise_map.2 (h.imp fun {p q} hpq e => by rw [e] at hpq; exact List.lt_irrefl _ hpq)
/-- what was collected, sorted, is the store's keys -/
theorem sort_keys {D : Dm.DU} {st : St} {left : Lit → Bool} {ss : List L8} (h : KI D st) (hC : Collected D left ss) (hl : ∀ k, left k = false) : ss.mergeSort leB = st.map (·.1) ∧ ss.length = st.length := by
  have hp : ss.Perm (st.map (·.1)) := by
    refine (List.perm_ext_iff_of_nodup hC.1 (keys_nodup h.2.1)).2 fun x => ?_
    rw [hC.2 x, hl, ← get_mem, h.has x]
    cases get st x <;> simp
  refine ⟨?_, by simpa using hp.length_eq⟩
  rw [mergeSort_of_perm hp]
  exact List.mergeSort_of_pairwise (keys_le h.2.1)
/-! texts -/
def txt1 (x : L8) : List Nat := Vm.enc x.length ++ bl x
def txt (st : St) : List Nat := st.flatMap fun p => txt1 p.1 ++ txt1 p.2
def tk (b : List Nat) : L8 × Nat × Nat :=
  if (Vm.take b).2.2 ≠ 0 then ([], 0, (Vm.take b).2.2) else if b.length - (Vm.take b).2.1 < (Vm.take b).1 then ([], 0, 2)
  else (((b.drop (Vm.take b).2.1).take (Vm.take b).1).map UInt8.ofNat, (Vm.take b).2.1 + (Vm.take b).1, 0)
def ld : Nat → St → L8 → List Nat → Option St × Nat
  | 0, st, _, _ => (some st, 0)
  | f + 1, st, last, b =>
    if b = [] then (some st, 0) else if (tk b).2.2 ≠ 0 then (none, (tk b).2.2) else if st ≠ [] ∧ (tk b).1 ≤ last then (none, 3)
    else if (tk (b.drop (tk b).2.1)).2.2 ≠ 0 then (none, (tk (b.drop (tk b).2.1)).2.2)
    else ld f (put st (tk b).1 (tk (b.drop (tk b).2.1)).1) (tk b).1 ((b.drop (tk b).2.1).drop (tk (b.drop (tk b).2.1)).2.1)
def load (b : List Nat) : Option St × Nat := ld b.length [] [] b
theorem tk_txt1 {x : L8} (h : x.length ≤ 18446744073709551615) (r : List Nat) : tk (txt1 x ++ r) = (x, (txt1 x).length, 0) := by
  unfold tk txt1
  rw [List.append_assoc, Vm.take_enc h]
  simp only [ne_eq, not_true_eq_false, if_false]
  rw [if_neg (by simp only [List.length_append, bl_length]; omega)]
  rw [List.drop_left, show x.length = (bl x).length by rw [bl_length], List.take_left, of_bl, List.length_append]
theorem txt1_pos (x : L8) : 0 < (txt1 x).length := by unfold txt1; rw [List.length_append]; have := Vm.enc_pos x.length; omega
theorem put_end : ∀ {st : St} {k v : L8}, (∀ p ∈ st, p.1 < k) → put st k v = st ++ [(k, v)]
  | [], k, v, _ => rfl
  | (a, b) :: r, k, v, h => by
    have h1 := h (a, b) List.mem_cons_self
    unfold put
    rw [if_neg (fun e => by simp only at h1; rw [e] at h1; exact List.lt_irrefl _ h1), if_neg (fun e => lt_asymm h1 e), put_end (fun p hp => h p (List.mem_cons_of_mem _ hp))]
    rfl
theorem ld_txt : ∀ (r : St) (acc : St) (last : L8) (f : Nat), Srt (acc ++ r) → (acc ≠ [] → ∃ p ∈ acc, p.1 = last) → (∀ p ∈ acc ++ r, p.1.length ≤ 18446744073709551615 ∧ p.2.length ≤ 18446744073709551615) → (txt r).length ≤ f → ld f acc last (txt r) = (some (acc ++ r), 0)
  | [], acc, last, f, _, _, _, _ => by
    cases f with
    | zero => simp [ld]
    | succ f => simp [ld, txt]
  | (k, v) :: r, acc, last, f, hs, hl, hb, hf => by
    have e : txt ((k, v) :: r) = txt1 k ++ (txt1 v ++ txt r) := by simp [txt]
    have hk := hb (k, v) (by simp)
    have hp := txt1_pos k
    rw [e] at hf ⊢
    simp only [List.length_append] at hf
    cases f with
    | zero => omega
    | succ f =>
      have h1 := tk_txt1 hk.1 (txt1 v ++ txt r)
      have h2 := tk_txt1 hk.2 (txt r)
      have hne : txt1 k ++ (txt1 v ++ txt r) ≠ [] := fun h0 => by have := congrArg List.length h0; simp at this; rw [List.eq_nil_iff_length_eq_zero] at this; omega
      have hlt : ∀ p ∈ acc, p.1 < k := fun p hp => (List.pairwise_append.1 hs).2.2 p hp (k, v) List.mem_cons_self
      unfold ld
      rw [if_neg hne, h1]
      simp only [ne_eq, not_true_eq_false, if_false]
      rw [if_neg (fun hh => by
        obtain ⟨p, hp, e⟩ := hl hh.1
        have := hlt p hp
        rw [e] at this
        exact List.not_lt.2 hh.2 this), List.drop_left, h2]
      simp only [not_true_eq_false, if_false]
      rw [List.drop_left, put_end hlt]
      have := ld_txt r (acc ++ [(k, v)]) k f (by simpa using hs) (fun _ => ⟨(k, v), by simp, rfl⟩) (by simpa using hb) (by omega)
      rw [this]
      simp
theorem load_txt {st : St} (h : Srt st) (hb : ∀ p ∈ st, p.1.length ≤ 18446744073709551615 ∧ p.2.length ≤ 18446744073709551615) : load (txt st) = (some st, 0) := by
  have := ld_txt st [] [] (txt st).length (by simpa using h) (fun h => absurd rfl h) (by simpa using hb) (Nat.le_refl _)
  simpa [load] using this
end Km
end Go.Proofs.Ytahichieakdbnaa

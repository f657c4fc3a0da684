/- Dictionaries in plain words. -/
import Derived.Test.YtahichieakdbnaaVm
import Derived.Maps.OwnSet
import Derived.Maps.Views
namespace Go.Proofs.Ytahichieakdbnaa
set_option linter.unusedVariables false
/-! Texts and their bytes. -/
def sb (s : ByteArray) : List Nat := s.data.toList.map UInt8.toNat
def str (l : List Nat) : ByteArray := ⟨(l.map UInt8.ofNat).toArray⟩
theorem sb_length (s : ByteArray) : (sb s).length = s.size := by
  unfold sb
  rw [List.length_map, Array.length_toList]
  rfl
theorem sb_byte (s : ByteArray) : ∀ b ∈ sb s, b < 256 := by
  intro b hb
  unfold sb at hb
  obtain ⟨c, _, rfl⟩ := List.mem_map.1 hb
  exact c.toNat_lt
theorem str_sb (s : ByteArray) : str (sb s) = s := by
  unfold str sb
  rw [List.map_map]
  have : UInt8.ofNat ∘ UInt8.toNat = id := by funext x; simp
  rw [this, List.map_id]
theorem sb_str {l : List Nat} (h : ∀ b ∈ l, b < 256) : sb (str l) = l := by
  unfold str sb
  simp only [List.map_map]
  conv => rhs; rw [← List.map_id l]
  apply List.map_congr_left
  intro b hb
  have := h b hb
  simp only [Function.comp, UInt8.toNat_ofNat', id]
  omega
theorem str_size (l : List Nat) : (str l).size = l.length := by
  unfold str
  show (l.map UInt8.ofNat).toArray.size = _
  simp
namespace Dm
abbrev DU := DataW Unit
def lit (k : ByteArray) : Lit := .string k.data.toList
theorem lit_inj {a b : ByteArray} (h : lit a = lit b) : a = b := by
  unfold lit at h
  injection h with h
  have h2 : a.data = b.data := Array.toList_inj.1 h
  cases a; cases b; simp at h2; rw [h2]
theorem lit_key (k : ByteArray) : WideAt.IsKeyLit (lit k) := trivial
def plc : List ByteArray → ByteArray → Option Nat
  | [], _ => none
  | x :: r, k => if x = k then some 0 else (plc r k).map (· + 1)
theorem plc_some : ∀ {ks : List ByteArray} {k : ByteArray} {i : Nat}, plc ks k = some i → ks[i]? = some k
  | [], _, _, h => by simp [plc] at h
  | x :: r, k, i, h => by
    unfold plc at h
    split at h
    · next e => injection h with h; subst h e; rfl
    · obtain ⟨j, hj, rfl⟩ := Option.map_eq_some_iff.1 h
      simpa using plc_some hj
theorem plc_none : ∀ {ks : List ByteArray} {k : ByteArray}, plc ks k = none ↔ k ∉ ks
  | [], _ => by simp [plc]
  | x :: r, k => by
    unfold plc
    by_cases e : x = k
    · rw [if_pos e]; simp [e]
    · rw [if_neg e, Option.map_eq_none_iff, plc_none]
      simp only [List.mem_cons, not_or]
      exact ⟨fun h => ⟨fun e2 => e e2.symm, h⟩, fun h => h.2⟩
theorem plc_lt {ks : List ByteArray} {k : ByteArray} {i : Nat} (h : plc ks k = some i) : i < ks.length := (List.getElem?_eq_some_iff.1 (plc_some h)).1
/-- no two the same -/
def Nod (ks : List ByteArray) : Prop := ∀ (i j : Nat) (k : ByteArray), ks[i]? = some k → ks[j]? = some k → i = j
theorem nodup_at {ks : List ByteArray} (h : Nod ks) {i j : Nat} {k : ByteArray} (hi : ks[i]? = some k) (hj : ks[j]? = some k) : i = j := h i j k hi hj
theorem plc_at {ks : List ByteArray} (h : Nod ks) {i : Nat} {k : ByteArray} (hi : ks[i]? = some k) : plc ks k = some i := by
  cases hp : plc ks k with
  | none => exact absurd (List.mem_of_getElem? hi) (plc_none.1 hp)
  | some j => rw [nodup_at h (plc_some hp) hi]
/-- what a map tells of the keys: their places -/
def DI (D : DU) (ks : List ByteArray) : Prop :=
  Maps.Tidy D ∧ Maps.size D = ks.length ∧ Nod ks ∧ (∀ k i, plc ks k = some i → Maps.has D (lit k) = true ∧ ∀ z, D.atKey (lit k) z = .lit (.int .i64 (i : Int))) ∧ ∀ k, plc ks k = none → Maps.has D (lit k) = false
theorem DI_nil : DI (.map []) [] := ⟨Maps.tidy_empty, rfl, (fun i j k h => by simp at h), fun k i h => by simp [plc] at h, fun k _ => rfl⟩
theorem at_push {ks : List ByteArray} {k x : ByteArray} {i : Nat} (h : (ks ++ [k])[i]? = some x) : ks[i]? = some x ∨ (i = ks.length ∧ x = k) := by
  by_cases hi : i < ks.length
  · rw [List.getElem?_append_left hi] at h; exact .inl h
  · rw [List.getElem?_append_right (by omega)] at h
    have h2 := (List.getElem?_eq_some_iff.1 h).1
    simp at h2
    have h3 : i - ks.length = 0 := by omega
    rw [h3] at h
    simp at h
    exact .inr ⟨by omega, h.symm⟩
theorem nodup_push {ks : List ByteArray} {k : ByteArray} (h : Nod ks) (hk : plc ks k = none) : Nod (ks ++ [k]) := by
  intro i j x hi hj
  have key : ∀ j, ks[j]? ≠ some k := fun j hj => plc_none.1 hk (List.mem_of_getElem? hj)
  rcases at_push hi with h1 | ⟨h1, rfl⟩
  · rcases at_push hj with h2 | ⟨h2, rfl⟩
    · exact h i j x h1 h2
    · exact absurd h1 (key i)
  · rcases at_push hj with h2 | ⟨h2, _⟩
    · exact absurd h2 (key j)
    · omega
theorem plc_push {ks : List ByteArray} {k : ByteArray} (h : Nod ks) (hk : plc ks k = none) (x : ByteArray) : plc (ks ++ [k]) x = if x = k then some ks.length else plc ks x := by
  by_cases e : x = k
  · rw [if_pos e]
    subst e
    exact plc_at (nodup_push h hk) (by simp)
  · rw [if_neg e]
    cases hp : plc ks x with
    | none => exact plc_none.2 (by simp only [List.mem_append, List.mem_singleton, not_or]; exact ⟨plc_none.1 hp, e⟩)
    | some i => exact plc_at (nodup_push h hk) (by rw [List.getElem?_append_left (plc_lt hp)]; exact plc_some hp)
theorem DI_push {D : DU} {ks : List ByteArray} {k : ByteArray} (h : DI D ks) (hk : plc ks k = none) : DI (D.put (lit k) (.lit (.int .i64 (ks.length : Int)))) (ks ++ [k]) := by
  obtain ⟨h1, h2, h3, h4, h5⟩ := h
  refine ⟨h1.put (lit_key k) _, ?_, nodup_push h3 hk, fun x i hx => ?_, fun x hx => ?_⟩
  · rw [Maps.size_put h1, h5 k hk, h2]; simp
  · rw [plc_push h3 hk] at hx
    split at hx
    · next e => subst e; injection hx with hx; subst hx; exact ⟨Maps.has_put_same h1.isMap (lit_key _) _, fun z => Maps.atKey_put_same h1.isMap (lit_key _) _ z⟩
    · next e =>
      have hne : lit x ≠ lit k := fun h => e (lit_inj h)
      obtain ⟨a1, a2⟩ := h4 x i hx
      exact ⟨(Maps.has_put_other hne _).trans a1, fun z => (Maps.atKey_put_other hne _ z).trans (a2 z)⟩
  · rw [plc_push h3 hk] at hx
    split at hx
    · cases hx
    · next e => exact (Maps.has_put_other (fun h => e (lit_inj h)) _).trans (h5 x hx)
theorem at_set {ks : List ByteArray} {k x : ByteArray} {i j : Nat} (h : (ks.set i k)[j]? = some x) : (j ≠ i ∧ ks[j]? = some x) ∨ (j = i ∧ x = k) := by
  by_cases e : j = i
  · subst e
    have h2 := (List.getElem?_eq_some_iff.1 h).1
    rw [List.length_set] at h2
    rw [List.getElem?_set_self h2] at h
    injection h with h
    exact .inr ⟨rfl, h.symm⟩
  · rw [List.getElem?_set_ne (fun h => e h.symm)] at h
    exact .inl ⟨e, h⟩
theorem nodup_set {ks : List ByteArray} {k : ByteArray} (h : Nod ks) (hk : plc ks k = none) (i : Nat) : Nod (ks.set i k) := by
  intro a b x ha hb
  have key : ∀ j, ks[j]? ≠ some k := fun j hj => plc_none.1 hk (List.mem_of_getElem? hj)
  rcases at_set ha with ⟨h1, h2⟩ | ⟨h1, rfl⟩
  · rcases at_set hb with ⟨h3, h4⟩ | ⟨h3, rfl⟩
    · exact h a b x h2 h4
    · exact absurd h2 (key a)
  · rcases at_set hb with ⟨h3, h4⟩ | ⟨h3, _⟩
    · exact absurd h4 (key b)
    · omega
theorem plc_set {ks : List ByteArray} {k old : ByteArray} (h : Nod ks) (hk : plc ks k = none) {i : Nat} (hi : ks[i]? = some old) (x : ByteArray) : plc (ks.set i k) x = if x = k then some i else if x = old then none else plc ks x := by
  have hil := (List.getElem?_eq_some_iff.1 hi).1
  have hn := nodup_set h hk i
  by_cases e : x = k
  · rw [if_pos e]
    subst e
    exact plc_at hn (by simp [hil])
  · rw [if_neg e]
    by_cases e2 : x = old
    · rw [if_pos e2]
      subst e2
      apply plc_none.2
      intro hm
      obtain ⟨j, hj⟩ := List.getElem?_of_mem hm
      rcases at_set hj with ⟨h1, h2⟩ | ⟨_, h2⟩
      · exact h1 (nodup_at h h2 hi)
      · exact e h2
    · rw [if_neg e2]
      cases hp : plc ks x with
      | none =>
        apply plc_none.2
        intro hm
        rcases List.mem_or_eq_of_mem_set hm with h1 | h1
        · exact plc_none.1 hp h1
        · exact e h1
      | some j =>
        refine plc_at hn ?_
        rw [List.getElem?_set_ne ?_]
        · exact plc_some hp
        · rintro rfl
          have := plc_some hp
          rw [hi] at this
          injection this with this
          exact e2 this.symm
theorem DI_turn {D : DU} {ks : List ByteArray} {k old : ByteArray} {i : Nat} (h : DI D ks) (hk : plc ks k = none) (hi : ks[i]? = some old) : DI ((D.del (lit old)).put (lit k) (.lit (.int .i64 (i : Int)))) (ks.set i k) := by
  obtain ⟨h1, h2, h3, h4, h5⟩ := h
  have hko : k ≠ old := by rintro rfl; exact plc_none.1 hk (List.mem_of_getElem? hi)
  have t1 := h1.del (lit old)
  have hs := Maps.size_del (k := lit old) h1
  rw [(h4 old i (plc_at h3 hi)).1, if_pos rfl] at hs
  refine ⟨t1.put (lit_key k) _, ?_, nodup_set h3 hk i, fun x j hx => ?_, fun x hx => ?_⟩
  · rw [Maps.size_put t1, Maps.has_del_other (fun h => hko (lit_inj h)), h5 k hk, List.length_set]
    simp only [Bool.false_eq_true, if_false]
    omega
  · rw [plc_set h3 hk hi] at hx
    split at hx
    · next e => subst e; injection hx with hx; subst hx; exact ⟨Maps.has_put_same t1.isMap (lit_key _) _, fun z => Maps.atKey_put_same t1.isMap (lit_key _) _ z⟩
    · next e =>
      split at hx
      · cases hx
      · next e2 =>
        have hne : lit x ≠ lit k := fun h => e (lit_inj h)
        have hne2 : lit x ≠ lit old := fun h => e2 (lit_inj h)
        obtain ⟨a1, a2⟩ := h4 x j hx
        exact ⟨((Maps.has_put_other hne _).trans (Maps.has_del_other hne2)).trans a1, fun z => ((Maps.atKey_put_other hne _ z).trans (Maps.atKey_del_other hne2 z)).trans (a2 z)⟩
  · rw [plc_set h3 hk hi] at hx
    split at hx
    · cases hx
    · next e =>
      have hne : lit x ≠ lit k := fun h => e (lit_inj h)
      rw [Maps.has_put_other hne]
      split at hx
      · next e2 => subst e2; exact Maps.has_del_same
      · next e2 => exact (Maps.has_del_other (fun h => e2 (lit_inj h))).trans (h5 x hx)
/-! The dictionary: its keys, and which place is the next one's. -/
def comeD (ks : List ByteArray) (e : Nat) (k : ByteArray) : List ByteArray × Nat := if ks.length < 8 then (ks ++ [k], e) else (ks.set e k, (e + 1) % 8)
def atD (ks : List ByteArray) (k : ByteArray) : Int := match plc ks k with | some i => (i : Int) | none => -1
/-- bytes, the error, keys, place -/
def putD (ks : List ByteArray) (e : Nat) (k : ByteArray) : List Nat × Nat × List ByteArray × Nat :=
  if 64 < k.size then ([], 4, ks, e) else match plc ks k with
    | some i => (Vm.enc (i + 1), 0, ks, e)
    | none => (Vm.enc 0 ++ (Vm.enc k.size ++ sb k), 0, comeD ks e k)
/-- a key that is told by itself: the key, its bytes, the error -/
def newD (ks : List ByteArray) (b : List Nat) : ByteArray × Nat × Nat :=
  if (Vm.take b).2.2 ≠ 0 then (str [], 0, (Vm.take b).2.2) else if 64 < (Vm.take b).1 then (str [], 0, 4) else if b.length - (Vm.take b).2.1 < (Vm.take b).1 then (str [], 0, 2)
  else match plc ks (str ((b.drop (Vm.take b).2.1).take (Vm.take b).1)) with
    | some _ => (str [], 0, 3)
    | none => (str ((b.drop (Vm.take b).2.1).take (Vm.take b).1), (Vm.take b).2.1 + (Vm.take b).1, 0)
/-- the key, how many bytes, the error, keys, place -/
def takeD (ks : List ByteArray) (e : Nat) (b : List Nat) : ByteArray × Nat × Nat × List ByteArray × Nat :=
  if (Vm.take b).2.2 ≠ 0 then (str [], 0, (Vm.take b).2.2, ks, e) else if ks.length < (Vm.take b).1 then (str [], 0, 9, ks, e) else if 0 < (Vm.take b).1 then (ks[(Vm.take b).1 - 1]?.getD (str []), (Vm.take b).2.1, 0, ks, e)
  else if (newD ks (b.drop (Vm.take b).2.1)).2.2 ≠ 0 then (str [], 0, (newD ks (b.drop (Vm.take b).2.1)).2.2, ks, e)
  else ((newD ks (b.drop (Vm.take b).2.1)).1, (Vm.take b).2.1 + (newD ks (b.drop (Vm.take b).2.1)).2.1, 0, comeD ks e (newD ks (b.drop (Vm.take b).2.1)).1)
/-- a dictionary that may be -/
def Ok (ks : List ByteArray) (e : Nat) : Prop := Nod ks ∧ ks.length ≤ 8 ∧ e < 8 ∧ (∀ k ∈ ks, k.size ≤ 64) ∧ (ks.length < 8 → e = 0)
theorem Ok.nil : Ok [] 0 := ⟨(fun i j k h => by simp at h), by simp, by omega, by simp, fun _ => rfl⟩
theorem Ok.come {ks : List ByteArray} {e : Nat} {k : ByteArray} (h : Ok ks e) (hk : plc ks k = none) (h64 : k.size ≤ 64) : Ok (comeD ks e k).1 (comeD ks e k).2 := by
  obtain ⟨h1, h2, h3, h4, h5⟩ := h
  unfold comeD
  split
  · next hl =>
    refine ⟨nodup_push h1 hk, by simp; omega, h3, fun x hx => ?_, fun _ => h5 hl⟩
    rcases List.mem_append.1 hx with h | h
    · exact h4 x h
    · simp at h; subst h; exact h64
  · refine ⟨nodup_set h1 hk e, by simpa using h2, Nat.mod_lt _ (by omega), fun x hx => ?_, fun h => by simp at h; omega⟩
    rcases List.mem_or_eq_of_mem_set hx with h | h
    · exact h4 x h
    · subst h; exact h64
theorem Ok.put {ks : List ByteArray} {e : Nat} (h : Ok ks e) (k : ByteArray) : Ok (putD ks e k).2.2.1 (putD ks e k).2.2.2 := by
  unfold putD
  split
  · exact h
  · cases hp : plc ks k with
    | some i => exact h
    | none => exact h.come hp (by omega)
theorem newD_ok {ks : List ByteArray} {b : List Nat} (h : (newD ks b).2.2 = 0) : plc ks (newD ks b).1 = none ∧ (newD ks b).1.size ≤ 64 := by
  revert h
  unfold newD
  split
  · next h => intro h2; exact absurd h2 h
  · split
    · intro h; cases h
    · split
      · intro h; cases h
      · next h1 h2 h3 =>
        cases hp : plc ks (str ((b.drop (Vm.take b).2.1).take (Vm.take b).1)) with
        | some i => intro h; cases h
        | none => intro _; exact ⟨hp, by rw [str_size, List.length_take]; omega⟩
theorem Ok.take {ks : List ByteArray} {e : Nat} (h : Ok ks e) (b : List Nat) : Ok (takeD ks e b).2.2.2.1 (takeD ks e b).2.2.2.2 := by
  unfold takeD
  split
  · exact h
  · split
    · exact h
    · split
      · exact h
      · split
        · exact h
        · next h1 h2 h3 h4 =>
          have := newD_ok (ks := ks) (b := b.drop (Vm.take b).2.1) (by omega)
          exact h.come this.1 this.2
end Dm
end Go.Proofs.Ytahichieakdbnaa

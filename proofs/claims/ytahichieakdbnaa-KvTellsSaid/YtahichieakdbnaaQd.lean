/- ref16: a write in plain words (before, the key, behind); two rows of texts. -/
import Derived.Test.YtahichieakdbnaaQc
import Derived.Test.YtahichieakdbnaaKj
namespace Go.Proofs.Ytahichieakdbnaa
open Go.ChangeShapes Go.WideShapes Go.ChangeAt Go.RowKit Go.Maps
set_option linter.unusedVariables false
set_option linter.unusedSimpArgs false

namespace Km
theorem put_app : ∀ {a r : St} {k v : L8}, (∀ p ∈ a, p.1 < k) → put (a ++ r) k v = a ++ put r k v
  | [], r, k, v, _ => rfl
  | (x, y) :: a, r, k, v, h => by
    have h1 : x < k := h (x, y) List.mem_cons_self
    have ih := put_app (r := r) (v := v) (fun p hp => h p (List.mem_cons_of_mem _ hp))
    simp only [List.cons_append, put]
    rw [if_neg (fun e => by rw [e] at h1; exact List.lt_irrefl _ h1), if_neg (fun e => lt_asymm h1 e), ih]
theorem del_app {a r : St} {k : L8} (h : ∀ p ∈ a, p.1 < k) : del (a ++ r) k = a ++ del r k := by
  unfold del
  rw [List.filter_append, List.filter_eq_self.2 (fun p hp => by
    have h1 := h p hp
    simp only [decide_eq_true_eq]
    intro e
    rw [e] at h1
    exact List.lt_irrefl _ h1)]
theorem ge_lt {x k : L8} (h : ¬ x < k) (hne : x ≠ k) : k < x := Decidable.byContradiction fun h2 => hne (List.le_antisymm (List.not_lt.1 h2) (List.not_lt.1 h))
theorem put_ge {x y k v : L8} {r : St} (h : ¬ x < k) : put ((x, y) :: r) k v = (k, v) :: (if x = k then r else (x, y) :: r) := by
  simp only [put]
  by_cases he : x = k
  · rw [if_pos he, if_pos he]
  · rw [if_neg he, if_neg he, if_pos (ge_lt h he)]
theorem del_ge {x y k : L8} {r : St} (hs : Srt ((x, y) :: r)) (h : ¬ x < k) : del ((x, y) :: r) k = if x = k then r else (x, y) :: r := by
  have hr : ∀ p ∈ r, k < p.1 := fun p hp => by
    have h1 : x < p.1 := (List.pairwise_cons.1 hs).1 p hp
    by_cases he : x = k
    · rw [← he]; exact h1
    · exact List.lt_trans (ge_lt h he) h1
  have h2 : r.filter (fun p => decide (p.1 ≠ k)) = r := List.filter_eq_self.2 (fun p hp => by
    have h1 := hr p hp
    simp only [decide_eq_true_eq]
    intro e
    rw [e] at h1
    exact List.lt_irrefl _ h1)
  unfold del
  rw [List.filter_cons]
  by_cases he : x = k
  · rw [if_pos he, if_neg (by simp [he]), h2]
  · rw [if_neg he, if_pos (by simp [he]), h2]
/-- one write -/
def wr1 (st : St) (k v : L8) (g : Bool) : St := if g = true then del st k else put st k v
def mid (k v : L8) (g : Bool) : St := if g = true then [] else [(k, v)]
theorem wr1_end {st : St} {k : L8} (v : L8) (g : Bool) (h : ∀ p ∈ st, p.1 < k) : wr1 st k v g = st ++ mid k v g := by
  unfold wr1 mid
  cases g with
  | false => rw [if_neg (by simp), if_neg (by simp)]; exact put_end h
  | true =>
    rw [if_pos rfl, if_pos rfl]
    have := del_app (a := st) (r := []) h
    rw [List.append_nil] at this
    rw [this]; rfl
theorem wr1_at {st : St} {at_ : Nat} {p : L8 × L8} {k : L8} (v : L8) (g : Bool) (hs : Srt st) (hp : st[at_]? = some p) (hpre : ∀ q ∈ st.take at_, q.1 < k) (hge : ¬ p.1 < k) :
    wr1 st k v g = st.take at_ ++ mid k v g ++ st.drop (if p.1 = k then at_ + 1 else at_) := by
  obtain ⟨hl, hv⟩ := List.getElem?_eq_some_iff.1 hp
  obtain ⟨x, y⟩ := p
  have e1 : st = st.take at_ ++ (x, y) :: st.drop (at_ + 1) := by
    rw [← hv, ← List.drop_eq_getElem_cons hl, List.take_append_drop]
  have hs2 : Srt ((x, y) :: st.drop (at_ + 1)) := by
    have h2 : Srt (st.take at_ ++ (x, y) :: st.drop (at_ + 1)) := by rw [← e1]; exact hs
    exact (List.pairwise_append.1 h2).2.1
  simp only at hge ⊢
  have e2 : st.drop (if x = k then at_ + 1 else at_) = if x = k then st.drop (at_ + 1) else (x, y) :: st.drop (at_ + 1) := by
    by_cases he : x = k
    · rw [if_pos he, if_pos he]
    · rw [if_neg he, if_neg he, List.drop_eq_getElem_cons hl, hv]
  rw [e2]
  unfold wr1 mid
  cases g with
  | false =>
    rw [if_neg (by simp), if_neg (by simp)]
    conv => lhs; rw [e1]
    rw [put_app hpre, put_ge hge, List.append_assoc]
    rfl
  | true =>
    rw [if_pos rfl, if_pos rfl]
    conv => lhs; rw [e1]
    rw [del_app hpre, del_ge hs2 hge, List.append_nil]
theorem wr1_len (st : St) (k v : L8) (g : Bool) : (wr1 st k v g).length ≤ st.length + 1 := by
  unfold wr1
  cases g with
  | true => rw [if_pos rfl]; unfold del; exact Nat.le_trans (List.length_filter_le _ _) (Nat.le_succ _)
  | false =>
    rw [if_neg (by simp)]
    induction st with
    | nil => simp [put]
    | cons a r ih =>
      obtain ⟨a, b⟩ := a
      simp only [put]
      split
      · simp
      · split
        · simp
        · simp only [List.length_cons]; omega
theorem Srt.wr1 {st : St} (h : Srt st) (k v : L8) (g : Bool) : Srt (Km.wr1 st k v g) := by
  have e : Km.appl st [(ba k, ba v, g)] = Km.wr1 st k v g := by
    show (if g = true then Km.del st (ba k).data.toList else Km.put st (ba k).data.toList (ba v).data.toList) = _
    rw [data_ba, data_ba]
    rfl
  rw [← e]
  exact h.appl _
end Km
theorem appl_wr1 (st : St) (l : List Wr) (x : Wr) : Km.appl st (l ++ [x]) = Km.wr1 (Km.appl st l) x.1.data.toList x.2.1.data.toList x.2.2 := appl_snoc st l x
theorem lt_take {st : St} {j : Nat} {p : L8 × L8} {k : L8} (h : ∀ q ∈ st.take j, q.1 < k) (hp : st[j]? = some p) (hl : p.1 < k) : ∀ q ∈ st.take (j + 1), q.1 < k := by
  rw [List.take_add_one, hp]
  intro q hq
  rcases List.mem_append.1 hq with hq | hq
  · exact h q hq
  · rw [Option.toList_some, List.mem_singleton] at hq; rw [hq]; exact hl

/-- two rows of texts, apart -/
def TR (w : World) (B : Nat) (vk vv : Value) (na nb : Nat) (a b : List L8) : Prop := w.ownsRow B 9 1 vk na (a.map encStr) ∧ w.ownsRow B 9 1 vv nb (b.map encStr) ∧ ∀ j, vk.ownBlock = some j → vv.ownBlock ≠ some j
namespace TR
variable {w w' : World} {B : Nat} {vk vv vk' vv' : Value} {na nb na' nb' : Nat} {a b a' b' : List L8}
theorem below (h : TR w B vk vv na nb a b) (hb : Below w.heap.size w w') : TR w' B vk vv na nb a b := ⟨own_below h.1 hb, own_below h.2.1 hb, h.2.2⟩
theorem growK (h : TR w B vk vv na nb a b) (ho : w'.ownsRow B 9 1 vk' na' (a'.map encStr)) (hg : w.grownBy w' vk.ownBlock) (hat : vk'.ownBlock = vk.ownBlock ∨ vk'.ownBlock = some w.heap.size) : TR w' B vk' vv na' nb a' b :=
  ⟨ho, h.2.1.kept hg (by
    cases hv : vv.ownBlock with
    | none => exact .inl rfl
    | some j => exact .inr (fun e => h.2.2 j e.symm hv)), fun j hj hv => by
    rcases hat with e | e
    · exact h.2.2 j (by rw [← e]; exact hj) hv
    · rw [e] at hj
      injection hj with hj
      have := (h.2.1.lt j hv).2
      omega⟩
theorem growV (h : TR w B vk vv na nb a b) (ho : w'.ownsRow B 9 1 vv' nb' (b'.map encStr)) (hg : w.grownBy w' vv.ownBlock) (hat : vv'.ownBlock = vv.ownBlock ∨ vv'.ownBlock = some w.heap.size) : TR w' B vk vv' na nb' a b' :=
  ⟨h.1.kept hg (by
    cases hv : vk.ownBlock with
    | none => exact .inl rfl
    | some j => exact .inr (fun e => h.2.2 j hv e.symm)), ho, fun j hj hv => by
    rcases hat with e | e
    · exact h.2.2 j hj (by rw [← e]; exact hv)
    · rw [e] at hv
      injection hv with hv
      have := (h.1.lt j hj).2
      omega⟩
end TR
/-- what can be read is there to be appended -/
theorem Src.of_rd {w : World} {B : Nat} {A : Option Addr} {m c : Nat} {news : List Value} (h : Rd w B A news) (hl : news.length = m) (hn : A = none → c = 0) : Src w A m c news := by
  cases A with
  | none =>
    have e : news = [] := Decidable.byContradiction fun h0 => by
      obtain ⟨g, o, e, -⟩ := h h0
      cases e
    subst e
    exact .inl ⟨rfl, by rw [← hl]; rfl, hn rfl, rfl⟩
  | some ad =>
    refine .inr ⟨ad, rfl, fun j u hu => ?_⟩
    have hne : news ≠ [] := fun e => by rw [e] at hu; simp at hu
    obtain ⟨g, o, e, -, hc⟩ := h hne
    injection e with e
    subst e
    have h2 := hc j u hu
    unfold Addr.add
    rcases Nat.eq_zero_or_pos j with h3 | h3
    · subst h3; simpa using h2
    · simpa [Nat.ne_of_gt h3] using h2
theorem enc_one (xs : List L8) : ∀ u ∈ xs.map encStr, u.oneCell' = true := fun u hu => by
  obtain ⟨x, -, rfl⟩ := List.mem_map.1 hu
  rfl
theorem strSize : ∀ w, (sizeOf 9).run Try.prog w = .ok 1 w := Try.sizeOf9
/-- b[k:] of an own row of texts -/
theorem slice_strs {w : World} {B n c k : Nat} {A : Option Addr} {xs : List L8} (x : Int) (hx : (k : Int) = x) (h : w.ownsRow B 9 1 (.slice A n c) n (xs.map encStr)) (hk : k ≤ n) :
    ∃ A', (∀ w, (Instr.sliceAt 70 (.slice A n c) (some (.int .i64 x)) none none).run Try.prog w = .ok (.slice A' (n - k) (c - k)) w) ∧
      (∀ (w' : World) (B' : Nat), w'.ownsRow B' 9 1 (.slice A n c) n (xs.map encStr) → Src w' A' (n - k) (c - k) ((xs.drop k).map encStr)) ∧ (xs.drop k).length = n - k := by
  obtain ⟨A0, c0, hv, h1, h2, h3, hr, hn⟩ := own_form h
  injection hv with e1 e2 e3
  subst e1 e3
  obtain ⟨A', q1, q2, q3⟩ := slice_from (P := Try.prog) 70 9 Try.underlying70 strSize A n c k x hx hk h1
  have hl : (xs.map encStr).length = n := by have := h.1; simpa using this
  have hl2 : (xs.drop k).length = n - k := by rw [List.length_drop]; rw [List.length_map] at hl; omega
  refine ⟨A', q1, fun w' B' h' => ?_, hl2⟩
  have h5 := q2 w' w'.heap.size _ hl (Rd.of_own h')
  rw [← List.map_drop] at h5
  exact Src.of_rd h5 (by rw [List.length_map]; exact hl2) (q3 hn)
end Go.Proofs.Ytahichieakdbnaa

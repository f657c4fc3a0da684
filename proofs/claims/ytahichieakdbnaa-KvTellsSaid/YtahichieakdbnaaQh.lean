/- ref16's Load: what lies where, and the steps in plain words. -/
import Derived.Test.YtahichieakdbnaaQg
namespace Go.Proofs.Ytahichieakdbnaa
open Go.ChangeShapes Go.WideShapes Go.ChangeAt Go.RowKit Go.Maps
set_option linter.unusedVariables false
set_option linter.unusedSimpArgs false

namespace Km
variable {f : Nat} {st : St} {last k v : L8} {b : List Nat} {z y e : Nat}
theorem ld_end : ∀ {f : Nat}, ld f st last [] = (some st, 0)
  | 0 => rfl
  | f + 1 => by unfold ld; rw [if_pos rfl]
theorem ld_t1 (hne : b ≠ []) (ht : tk b = (k, z, e)) (he : e ≠ 0) : ld (f + 1) st last b = (none, e) := by
  unfold ld
  rw [if_neg hne, ht]
  simp only
  rw [if_pos he]
theorem ld_ord (hne : b ≠ []) (ht : tk b = (k, z, 0)) (hs : st ≠ []) (hk : k ≤ last) : ld (f + 1) st last b = (none, 3) := by
  unfold ld
  rw [if_neg hne, ht]
  simp only [ne_eq, not_true_eq_false, if_false]
  rw [if_pos ⟨hs, hk⟩]
theorem ld_t2 (hne : b ≠ []) (ht : tk b = (k, z, 0)) (hc : ¬ (st ≠ [] ∧ k ≤ last)) (ht2 : tk (b.drop z) = (v, y, e)) (he : e ≠ 0) : ld (f + 1) st last b = (none, e) := by
  unfold ld
  rw [if_neg hne, ht]
  simp only [ne_eq, not_true_eq_false, if_false]
  rw [if_neg hc, ht2]
  simp only
  rw [if_pos he]
theorem ld_step (hne : b ≠ []) (ht : tk b = (k, z, 0)) (hc : ¬ (st ≠ [] ∧ k ≤ last)) (ht2 : tk (b.drop z) = (v, y, 0)) : ld (f + 1) st last b = ld f (put st k v) k ((b.drop z).drop y) := by
  conv => lhs; unfold ld
  rw [if_neg hne, ht]
  simp only [ne_eq, not_true_eq_false, if_false]
  rw [if_neg hc, ht2]
  simp only [not_true_eq_false, if_false]
end Km
/-- what Load knows -/
def LdI (n : Nat) (bs : List Nat) (a ns f : Nat) (last : L8) (st : St) : Prop := st.length = ns ∧ Km.Srt st ∧ (st = [] ∨ ∃ v, st[ns - 1]? = some (last, v)) ∧ LeM n st ∧ Km.load bs = Km.ld f st last (bs.drop a)
theorem LdI.below {n : Nat} {bs : List Nat} {a ns f : Nat} {last k : L8} {st : St} (h : LdI n bs a ns f last st) (hc : ¬ (st ≠ [] ∧ k ≤ last)) : ∀ p ∈ st, p.1 < k := by
  intro p hp
  obtain ⟨h1, h2, h3, -, -⟩ := h
  rcases h3 with h3 | ⟨v, h3⟩
  · rw [h3] at hp; simp at hp
  · have hne : st ≠ [] := fun e => by rw [e] at hp; simp at hp
    have hlk : last < k := Decidable.byContradiction fun h => hc ⟨hne, List.not_lt.1 h⟩
    obtain ⟨i, hi, hip⟩ := List.getElem_of_mem hp
    obtain ⟨hj, hjp⟩ := List.getElem?_eq_some_iff.1 h3
    rcases Nat.lt_or_ge i (ns - 1) with hlt | hge
    · have h4 : st[i].1 < st[ns - 1].1 := List.pairwise_iff_getElem.1 h2 i (ns - 1) hi hj hlt
      rw [hjp, hip] at h4
      exact List.lt_trans h4 hlk
    · have e : i = ns - 1 := by omega
      subst e
      rw [hjp] at hip
      rw [← hip]
      exact hlk
theorem LdI.push {n : Nat} {bs : List Nat} {a ns f z y : Nat} {last k v : L8} {st : St} (h : LdI n bs a ns (f + 1) last st) (hne : bs.drop a ≠ []) (ht : Km.tk (bs.drop a) = (k, z, 0)) (hc : ¬ (st ≠ [] ∧ k ≤ last)) (ht2 : Km.tk (bs.drop (a + z)) = (v, y, 0)) (hk : k.length ≤ n) (hv : v.length ≤ n) :
    LdI n bs (a + z + y) (ns + 1) f k (st ++ [(k, v)]) := by
  have hp : Km.put st k v = st ++ [(k, v)] := Km.put_end (h.below hc)
  have h1 := h.2.1.put k v
  rw [hp] at h1
  refine ⟨by rw [List.length_append, h.1]; rfl, h1, .inr ⟨v, ?_⟩, fun p hp => ?_, ?_⟩
  · rw [Nat.add_sub_cancel, List.getElem?_append_right (by rw [h.1]; exact Nat.le_refl _), h.1, Nat.sub_self]; rfl
  · rcases List.mem_append.1 hp with hp | hp
    · exact h.2.2.2.1 p hp
    · rw [List.mem_singleton] at hp; rw [hp]; exact ⟨hk, hv⟩
  · rw [h.2.2.2.2, Km.ld_step hne ht hc (by rw [List.drop_drop]; exact ht2), hp, List.drop_drop, List.drop_drop, ← Nat.add_assoc]
/-- from w to x: behind w lie a store and its rows -/
def RP (w x : World) (cK cV vk vv : Value) (na nb : Nat) (a b : List L8) : Prop := Blk x w.heap.size 73 #[cK, cV] ∧ Below w.heap.size w x ∧ TR x w.heap.size vk vv na nb a b
namespace RP
variable {w x x' : World} {cK cV vk vv vk' vv' : Value} {na nb na' nb' : Nat} {a b a' b' : List L8}
theorem below (h : RP w x cK cV vk vv na nb a b) (hb : Below x.heap.size x x') : RP w x' cK cV vk vv na nb a b :=
  ⟨h.1.below hb h.1.lt, h.2.1.trans (hb.mono h.2.1.size), h.2.2.below hb⟩
theorem growK (h : RP w x cK cV vk vv na nb a b) (ho : x'.ownsRow w.heap.size 9 1 vk' na' (a'.map encStr)) (hg : x.grownBy x' vk.ownBlock) (hat : vk'.ownBlock = vk.ownBlock ∨ vk'.ownBlock = some x.heap.size) : RP w x' cK cV vk' vv na' nb a' b :=
  ⟨h.1.grown hg (fun e => own_ne_blk h.2.2.1 h.1 (by decide) _ e.symm rfl), h.2.1.trans (below_own h.2.2.1 hg (Nat.le_refl _) h.2.1.size), h.2.2.growK ho hg hat⟩
theorem growV (h : RP w x cK cV vk vv na nb a b) (ho : x'.ownsRow w.heap.size 9 1 vv' nb' (b'.map encStr)) (hg : x.grownBy x' vv.ownBlock) (hat : vv'.ownBlock = vv.ownBlock ∨ vv'.ownBlock = some x.heap.size) : RP w x' cK cV vk vv' na nb' a b' :=
  ⟨h.1.grown hg (fun e => own_ne_blk h.2.2.2.1 h.1 (by decide) _ e.symm rfl), h.2.1.trans (below_own h.2.2.2.1 hg (Nat.le_refl _) h.2.1.size), h.2.2.growV ho hg hat⟩
theorem only (h : RP w x cK cV vk vv na nb a b) (hO : Only (fun j => j = w.heap.size) x x') : Below w.heap.size w x' ∧ TR x' w.heap.size vk vv na nb a b :=
  ⟨h.2.1.trans (hO.to_below h.2.1.size (fun j hj => by rw [hj]; exact Nat.le_refl _)), hO.own h.2.2.1 (fun j hj => own_ne_blk h.2.2.1 h.1 (by decide) j hj), hO.own h.2.2.2.1 (fun j hj => own_ne_blk h.2.2.2.1 h.1 (by decide) j hj), h.2.2.2.2⟩
theorem setK (h : RP w x cK cV vk vv na nb a b) (v : Value) : RP w (x.setCell ⟨w.heap.size, 0, none⟩ v) v cV vk vv na nb a b :=
  ⟨by have h1 := h.1.set 0 v; simpa using h1, h.only ((Only.refl (fun j => j = w.heap.size) x).set rfl 0 v)⟩
theorem setV (h : RP w x cK cV vk vv na nb a b) (v : Value) : RP w (x.setCell ⟨w.heap.size, 1, none⟩ v) cK v vk vv na nb a b :=
  ⟨by have h1 := h.1.set 1 v; simpa using h1, h.only ((Only.refl (fun j => j = w.heap.size) x).set rfl 1 v)⟩
theorem rs {st : St} (h : RP w x vk vv vk vv na nb a b) (ha : na = st.length) (hb : nb = st.length) (ea : a = st.map (·.1)) (eb : b = st.map (·.2)) : RS x w.heap.size vk vv st := by
  subst ha
  subst ea
  subst hb
  subst eb
  exact ⟨h.1, own_base0K h.2.2.1, own_base0K h.2.2.2.1, h.2.2.2.2⟩
theorem start (w : World) : RP w (w.alloc (.cells #[.slice none 0 0, .slice none 0 0] 73)) (.slice none 0 0) (.slice none 0 0) (.slice none 0 0) (.slice none 0 0) 0 0 [] [] :=
  ⟨Blk.new _ _ _, (Below.refl _ w).alloc (Nat.le_refl _) _, World.ownsRow_nil _ _ _ _, World.ownsRow_nil _ _ _ _, fun j hj => by simp [Value.ownBlock] at hj⟩
end RP
def RLdPost (w : World) (n : Nat) (r : Option St × Nat) (en : Ending) (w' : World) : Prop :=
  Below w.heap.size w w' ∧ ((∃ g vK vV st, r = (some st, 0) ∧ en = .returned (.tuple #[.pointer (some ⟨g, 0, none⟩), .int .i64 0]) ∧ RS w' g vK vV st ∧ w.heap.size ≤ g ∧ Km.Srt st ∧ st.length ≤ n ∧ LeM n st) ∨ ∃ e, e ≠ 0 ∧ r = (none, e) ∧ en = .returned (.tuple #[.pointer none, .int .i64 (e : Int)]))
end Go.Proofs.Ytahichieakdbnaa

/- ref16's Apply: what lies where while it goes on. -/
import Derived.Test.YtahichieakdbnaaQd
namespace Go.Proofs.Ytahichieakdbnaa
open Go.ChangeShapes Go.WideShapes Go.ChangeAt Go.RowKit Go.Maps
set_option linter.unusedVariables false
set_option linter.unusedSimpArgs false

theorem addkK (g j : Nat) : (⟨g, 0, none⟩ : Addr).add j = ⟨g, j, none⟩ := by
  unfold Addr.add
  rcases Nat.eq_zero_or_pos j with h | h
  · subst h; simp
  · simp [Nat.ne_of_gt h]
theorem Only.cellK {S : Nat → Prop} {a b : World} (h : Only S a b) {g i : Nat} (hg : g < a.heap.size) (hn : ¬ S g) : b.cell? ⟨g, i, none⟩ = a.cell? ⟨g, i, none⟩ := by
  unfold World.cell?
  rw [h.2.2.2.2 g hg hn]
/-- from w0 to x: block r holds cK and cV, and two rows of texts grew behind w0 -/
def AP (w0 x : World) (r : Nat) (cK cV vk vv : Value) (na nb : Nat) (a b : List L8) : Prop := Blk x r 73 #[cK, cV] ∧ Only (fun j => j = r) w0 x ∧ TR x w0.heap.size vk vv na nb a b ∧ r < w0.heap.size
namespace AP
variable {w0 x x' : World} {r : Nat} {cK cV vk vv vk' vv' : Value} {na nb na' nb' : Nat} {a b a' b' : List L8}
theorem below (h : AP w0 x r cK cV vk vv na nb a b) (hb : Below x.heap.size x x') : AP w0 x' r cK cV vk vv na nb a b :=
  ⟨h.1.below hb h.1.lt, h.2.1.trans (Only.of_below (S := fun j => j = r) hb) (Sub.refl _ _), h.2.2.1.below hb, h.2.2.2⟩
theorem size (h : AP w0 x r cK cV vk vv na nb a b) : w0.heap.size ≤ x.heap.size := h.2.1.size
theorem grow {v : Value} (h : AP w0 x r cK cV vk vv na nb a b) (hv : ∀ j, v.ownBlock = some j → w0.heap.size ≤ j) (hg : x.grownBy x' v.ownBlock) : Blk x' r 73 #[cK, cV] ∧ Only (fun j => j = r) w0 x' :=
  ⟨h.1.grown hg (fun e => by have := hv r e.symm; have := h.2.2.2; omega), h.2.1.trans (Only.of_grown (S := fun j => v.ownBlock = some j) hg (fun j hj => hj)) (fun j hj => .inr (hv j hj))⟩
theorem growK (h : AP w0 x r cK cV vk vv na nb a b) (ho : x'.ownsRow w0.heap.size 9 1 vk' na' (a'.map encStr)) (hg : x.grownBy x' vk.ownBlock) (hat : vk'.ownBlock = vk.ownBlock ∨ vk'.ownBlock = some x.heap.size) : AP w0 x' r cK cV vk' vv na' nb a' b :=
  let g := h.grow (fun j hj => (h.2.2.1.1.lt j hj).1) hg
  ⟨g.1, g.2, h.2.2.1.growK ho hg hat, h.2.2.2⟩
theorem growV (h : AP w0 x r cK cV vk vv na nb a b) (ho : x'.ownsRow w0.heap.size 9 1 vv' nb' (b'.map encStr)) (hg : x.grownBy x' vv.ownBlock) (hat : vv'.ownBlock = vv.ownBlock ∨ vv'.ownBlock = some x.heap.size) : AP w0 x' r cK cV vk vv' na nb' a b' :=
  let g := h.grow (fun j hj => (h.2.2.1.2.1.lt j hj).1) hg
  ⟨g.1, g.2, h.2.2.1.growV ho hg hat, h.2.2.2⟩
theorem only (h : AP w0 x r cK cV vk vv na nb a b) (hO : Only (fun j => j = r) x x') : TR x' w0.heap.size vk vv na nb a b :=
  ⟨hO.own h.2.2.1.1 (fun j hj e => by have := (h.2.2.1.1.lt j hj).1; have := h.2.2.2; omega), hO.own h.2.2.1.2.1 (fun j hj e => by have := (h.2.2.1.2.1.lt j hj).1; have := h.2.2.2; omega), h.2.2.1.2.2⟩
theorem setK (h : AP w0 x r cK cV vk vv na nb a b) (v : Value) : AP w0 (x.setCell ⟨r, 0, none⟩ v) r v cV vk vv na nb a b :=
  ⟨by have h1 := h.1.set 0 v; simpa using h1, h.2.1.set rfl 0 v, h.only ((Only.refl (fun j => j = r) x).set rfl 0 v), h.2.2.2⟩
theorem setV (h : AP w0 x r cK cV vk vv na nb a b) (v : Value) : AP w0 (x.setCell ⟨r, 1, none⟩ v) r cK v vk vv na nb a b :=
  ⟨by have h1 := h.1.set 1 v; simpa using h1, h.2.1.set rfl 1 v, h.only ((Only.refl (fun j => j = r) x).set rfl 1 v), h.2.2.2⟩
/-- the store that was there can still be read -/
theorem old (h : AP w0 x r cK cV vk vv na nb a b) {oK oV v : Value} {n : Nat} {xs : List Value} (h1 : Blk w0 r 73 #[oK, oV]) (ho : w0.ownsRow 0 9 1 v n xs) : x.ownsRow 0 9 1 v n xs :=
  h.2.1.own ho (fun j hj => own_ne_blk ho h1 (by decide) j hj)
theorem rs {st : St} (h : AP w0 x r vk vv vk vv na nb a b) (ha : na = st.length) (hb : nb = st.length) (ea : a = st.map (·.1)) (eb : b = st.map (·.2)) : RS x r vk vv st := by
  subst ha
  subst ea
  subst hb
  subst eb
  exact ⟨h.1, own_base0K h.2.2.1.1, own_base0K h.2.2.1.2.1, h.2.2.1.2.2⟩
theorem start {w0 : World} {r : Nat} {cK cV : Value} (h : Blk w0 r 73 #[cK, cV]) : AP w0 ((w0.alloc (.cells #[] 9)).alloc (.cells #[] 9)) r cK cV (.slice (some ⟨w0.heap.size, 0, none⟩) 0 0) (.slice (some ⟨w0.heap.size + 1, 0, none⟩) 0 0) 0 0 [] [] := by
  have hb : Below w0.heap.size w0 ((w0.alloc (.cells #[] 9)).alloc (.cells #[] 9)) := ((Below.refl _ w0).alloc (Nat.le_refl _) _).alloc (by simp) _
  refine ⟨h.below hb h.lt, Only.of_below hb, ⟨own_below (own_lit0 w0 9 w0.heap.size (Nat.le_refl _)) ((Below.refl _ _).alloc (Nat.le_refl _) _), ?_, fun j hj hv => ?_⟩, h.lt⟩
  · have h1 := own_lit0 (w0.alloc (.cells #[] 9)) 9 w0.heap.size (by simp)
    simpa using h1
  · simp [Value.ownBlock] at hj hv
    omega
end AP
theorem appl_len : ∀ (l : List Wr) (st : St), (Km.appl st l).length ≤ st.length + l.length
  | [], st => Nat.le_refl _
  | x :: r, st => by
    have e : Km.appl st (x :: r) = Km.appl (Km.wr1 st x.1.data.toList x.2.1.data.toList x.2.2) r := rfl
    rw [e]
    have h1 := appl_len r (Km.wr1 st x.1.data.toList x.2.1.data.toList x.2.2)
    have h2 := Km.wr1_len st x.1.data.toList x.2.1.data.toList x.2.2
    rw [List.length_cons]
    omega
def RApPost (w : World) (r : Nat) (st : St) (en : Ending) (w' : World) : Prop := en = .returned (.tuple #[]) ∧ ∃ vK vV, RS w' r vK vV st ∧ Only (fun j => j = r) w w'
end Go.Proofs.Ytahichieakdbnaa

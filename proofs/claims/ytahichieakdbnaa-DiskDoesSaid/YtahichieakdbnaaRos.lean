/- Slices of structs: what is known of each; and how such a slice that comes in is opened. -/
import Derived.Test.YtahichieakdbnaaBlk
import Derived.Deep.Slices
import Derived.Deep.Fields
import Derived.OpenShut
import Derived.ChangeSlices
namespace Go.Proofs.Ytahichieakdbnaa
open Go.ChangeShapes Go.WideShapes Go.ChangeAt Go.RowKit Go.Deep
set_option linter.unusedVariables false

/-- from A on there lie structs of sz cells: of each R holds -/
def StR {α : Type} (sz : Nat) (R : List Value → α → Prop) (w : World) (B : Nat) (A : Option Addr) (ys : List α) : Prop :=
  ys ≠ [] → ∃ g o, A = some ⟨g, o, none⟩ ∧ g < B ∧ ∀ k a, ys[k]? = some a → ∃ cs, cs.length = sz ∧ R cs a ∧ ∀ j u, cs[j]? = some u → w.cell? ⟨g, o + k * sz + j, none⟩ = some u
namespace StR
variable {α : Type} {sz : Nat} {R R' : List Value → α → Prop} {w w' : World} {B B' : Nat} {A : Option Addr} {ys : List α}
theorem nil (w : World) (B : Nat) (A : Option Addr) : StR sz R w B A [] := fun h => absurd rfl h
theorem keep (h : StR sz R w B A ys) (hk : ∀ p : Addr, p.block < B → w'.cell? p = w.cell? p) (hR : ∀ cs a, R cs a → R' cs a) : StR sz R' w' B A ys := fun hn => by
  obtain ⟨g, o, e, hg, hc⟩ := h hn
  refine ⟨g, o, e, hg, fun k a hk' => ?_⟩
  obtain ⟨cs, h1, h2, h3⟩ := hc k a hk'
  exact ⟨cs, h1, hR _ _ h2, fun j u hu => (hk ⟨g, _, none⟩ hg).trans (h3 j u hu)⟩
theorem below (h : StR sz R w B A ys) (hb : Below B w w') (hR : ∀ cs a, R cs a → R' cs a) : StR sz R' w' B A ys := h.keep (fun _ hp => hb.cell hp) hR
theorem more (h : StR sz R w B A ys) (hB : B ≤ B') : StR sz R w B' A ys := fun hn => by
  obtain ⟨g, o, e, hg, hc⟩ := h hn
  exact ⟨g, o, e, by omega, hc⟩
theorem row (h : StR sz R w B A ys) {k : Nat} (hk : k < ys.length) : ∃ g o a cs, A = some ⟨g, o, none⟩ ∧ g < B ∧ ys[k]? = some a ∧ cs.length = sz ∧ R cs a ∧ ∀ j u, cs[j]? = some u → w.cell? ⟨g, o + k * sz + j, none⟩ = some u := by
  obtain ⟨g, o, e, hg, hc⟩ := h (by intro h0; rw [h0] at hk; simp at hk)
  obtain ⟨cs, h1, h2, h3⟩ := hc k _ (List.getElem?_eq_getElem hk)
  exact ⟨g, o, _, cs, e, hg, List.getElem?_eq_getElem hk, h1, h2, h3⟩
end StR
theorem list_of {α : Type} {p : Nat → α → Prop} : ∀ {n : Nat}, (∀ i, i < n → ∃ a, p i a) → ∃ l : List α, l.length = n ∧ ∀ i a, l[i]? = some a → p i a
  | 0, _ => ⟨[], rfl, fun i a h => by simp at h⟩
  | n + 1, h => by
    obtain ⟨l, hl, hp⟩ := list_of (n := n) (p := p) (fun i hi => h i (by omega))
    obtain ⟨x, hx⟩ := h n (by omega)
    refine ⟨l ++ [x], by simp [hl], fun i a ha => ?_⟩
    by_cases hi : i < l.length
    · rw [List.getElem?_append_left hi] at ha
      exact hp i a ha
    · rw [List.getElem?_append_right (by omega)] at ha
      have h2 := (List.getElem?_eq_some_iff.1 ha).1
      simp at h2
      have h3 : i - l.length = 0 := by omega
      rw [h3] at ha
      simp at ha
      obtain rfl : i = n := by omega
      exact ha ▸ hx
theorem add2_shape {a : Addr} {x y : Nat} {w : World} {v : Value} (h : w.cell? ((a.add x).add y) = some v) : (a.add x).add y = ⟨a.block, a.off + x + y, none⟩ := by
  have hs := World.cell?_spot h
  obtain ⟨b, o, s⟩ := a
  rcases Nat.eq_zero_or_pos x with h0 | h0
  · subst h0
    rcases Nat.eq_zero_or_pos y with h1 | h1
    · subst h1
      simp only [Addr.add, if_true] at hs ⊢
      subst hs
      rfl
    · simp [Addr.add, Nat.ne_of_gt h1]
  · rcases Nat.eq_zero_or_pos y with h1 | h1
    · subst h1
      simp [Addr.add, Nat.ne_of_gt h0]
    · simp [Addr.add, Nat.ne_of_gt h0, Nat.ne_of_gt h1]
theorem trod_field {H : Type} {enc : TypeId × Value → H} {P : Program} {w : World} {base : Nat} {spare : Nat → Bool} {held : Bool} {t : TypeId} {fs : Array Field} {fuel : Nat} {cs : List Value} {x : DataW H × List MemPlace} (ht : P.underlying t = some (.struct fs))
    (h : DataW.trod enc P w base spare held fuel t cs = some x) (i : Nat) (t' : TypeId) (off sz : Nat) (hi : (fs[i]?).map (fun f => (f.type, f.offset)) = some (t', off)) (hsz : P.cellsOf t' = sz) : ∃ y n, DataW.trod enc P w base spare held n t' ((cs.drop off).take sz) = some y := by
  obtain ⟨xs, n, _, _, _, hl, hg⟩ := DataW.trod_struct ht h
  obtain ⟨f, hf, he⟩ := Option.map_eq_some_iff.1 hi
  injection he with e1 e2
  subst e1 e2
  have hlt := (Array.getElem?_eq_some_iff.1 hf).1
  have h1 := hg i f hf
  rw [List.getElem?_eq_getElem (by omega), hsz] at h1
  exact ⟨_, n, h1⟩
/-- a slice of structs that comes in -/
theorem open_str {α H : Type} {enc : TypeId × Value → H} {P : Program} {W : World} {b : Nat} {spare : Nat → Bool} {held : Bool} {t e : TypeId} {sz : Nat} {A : Option Addr} {len cap : Nat} {d : DataW H} {p : List MemPlace} (ht : P.underlying t = some (.slice e)) (hsz : P.cellsOf e = sz) (hpos : 0 < sz)
    (R : List Value → α → Prop) (hR : ∀ fuel cs x, cs.length = sz → DataW.trod enc P W b spare held fuel e cs = some x → ∃ a, R cs a) (h : DataW.Trod enc P W b spare held t (.slice A len cap) d p) :
    ∃ ys : List α, ys.length = len ∧ len ≤ cap ∧ cap ≤ maxLen ∧ StR sz R W W.heap.size A ys := by
  obtain ⟨fuel, hf⟩ := h
  rcases open_slice ht hf with ⟨hcs, _⟩ | ⟨a, l, c, m, n, D, Pl, hcs, hb, hl, hm, hmm, _, hx⟩
  · simp [Value.cells] at hcs
    obtain ⟨rfl, rfl, rfl⟩ := hcs
    exact ⟨[], rfl, Nat.le_refl _, Nat.zero_le _, StR.nil _ _ _⟩
  · simp [Value.cells] at hcs
    obtain ⟨rfl, rfl, rfl⟩ := hcs
    have hlm : len ≤ m := by rw [hmm]; split <;> omega
    obtain ⟨ys, hla, ha⟩ := list_of (n := len) (p := fun i (a' : α) => ∃ cs, cs.length = sz ∧ R cs a' ∧ ∀ j u, cs[j]? = some u → W.cell? ((a.add (i * sz)).add j) = some u) (fun i hi => by
      obtain ⟨cs', h1, h2⟩ := hx i (by omega)
      rw [hsz] at h1
      obtain ⟨_, hlen, hc⟩ := World.cells?_some h1
      obtain ⟨a', ha'⟩ := hR _ _ _ hlen h2
      exact ⟨a', cs', hlen, ha', fun j u hu => (hc j (by have := (List.getElem?_eq_some_iff.1 hu).1; omega)).trans hu⟩)
    refine ⟨ys, hla, hl, hm, fun hne => ?_⟩
    have hp0 : 0 < ys.length := List.length_pos_iff.2 hne
    obtain ⟨cs0, k1, _, k3⟩ := ha 0 _ (List.getElem?_eq_getElem hp0)
    have c0 := k3 0 _ (List.getElem?_eq_getElem (by omega))
    have s0 := add2_shape c0
    have hsp : a.spot = none := by
      have h1 := World.cell?_spot c0
      rw [Nat.zero_mul] at h1
      simpa [Addr.add] using h1
    obtain ⟨g, o, s⟩ := a
    simp only at hsp
    subst hsp
    have hg : g < W.heap.size := by
      rw [s0] at c0
      exact World.block_lt_of_cell? _ _ c0
    refine ⟨g, o, rfl, hg, fun k a' hk => ?_⟩
    obtain ⟨cs, q1, q2, q3⟩ := ha k a' hk
    refine ⟨cs, q1, q2, fun j u hu => ?_⟩
    have c1 := q3 j u hu
    rw [add2_shape c1] at c1
    exact c1
/-- bytes that come in, of one cell -/
theorem open_bytes8 {H : Type} {enc : TypeId × Value → H} {P : Program} {W : World} {b : Nat} {spare : Nat → Bool} {held : Bool} {t e : TypeId} {cs : List Value} {fuel : Nat} {x : DataW H × List MemPlace} (ht : P.underlying t = some (.slice e)) (he : P.underlying e = some (.int .u8)) (h1 : P.cellsOf e = 1)
    (h : DataW.trod enc P W b spare held fuel t cs = some x) : ∃ (A : Option Addr) (c : Nat) (bs : List Nat), cs = [.slice A bs.length c] ∧ Rd W W.heap.size A (u8s bs) ∧ bs.length ≤ c ∧ c ≤ maxLen ∧ (A = none → c = 0) ∧ ∀ b ∈ bs, b < 256 := by
  rcases open_slice ht h with ⟨hcs, _⟩ | ⟨a, l, c, m, n, D, Pl, hcs, hb, hl, hm, hmm, _, hx⟩
  · exact ⟨none, 0, [], hcs, Rd.nil _ _ _, Nat.le_refl _, Nat.zero_le _, fun _ => rfl, by simp⟩
  · have hlm : l ≤ m := by rw [hmm]; split <;> omega
    obtain ⟨bs, hlb, hbs⟩ := list_of (n := l) (p := fun i (v : Nat) => v < 256 ∧ W.cell? (a.add i) = some (.int .u8 (v : Int))) (fun i hi => by
      obtain ⟨cs', k1, k2⟩ := hx i (by omega)
      rw [h1, Nat.mul_one] at k1
      obtain ⟨_, hlen, hc⟩ := World.cells?_some k1
      obtain ⟨v, e1, _, hw⟩ := DataW.trod_int he k2
      subst e1
      have hw' : 0 ≤ v ∧ v ≤ 255 := by simpa [Lit.wf, IntKind.min, IntKind.max, IntKind.signed, IntKind.bits] using hw
      refine ⟨v.toNat, by omega, ?_⟩
      have := hc 0 (by omega)
      rw [show ((v.toNat : Nat) : Int) = v by omega]
      simpa [Addr.add] using this)
    refine ⟨some a, c, bs, by rw [hlb]; exact hcs, fun hne => ?_, by omega, hm, (fun h => by cases h), fun v hv => ?_⟩
    · have hp0 : 0 < bs.length := by
        rcases Nat.eq_zero_or_pos bs.length with h0 | h0
        · exfalso; apply hne; simp [u8s, List.eq_nil_of_length_eq_zero h0]
        · exact h0
      have c0 := (hbs 0 _ (List.getElem?_eq_getElem hp0)).2
      have hsp : a.spot = none := by
        have h2 := World.cell?_spot c0
        simpa [Addr.add] using h2
      obtain ⟨g, o, s⟩ := a
      simp only at hsp
      subst hsp
      have hg : g < W.heap.size := by
        have : (⟨g, o, none⟩ : Addr).add 0 = ⟨g, o, none⟩ := by simp [Addr.add]
        rw [this] at c0
        exact World.block_lt_of_cell? _ _ c0
      refine ⟨g, o, rfl, hg, fun j u hu => ?_⟩
      simp only [u8s, List.getElem?_map, Option.map_eq_some_iff] at hu
      obtain ⟨v, hv, rfl⟩ := hu
      have c1 := (hbs j v hv).2
      have : (⟨g, o, none⟩ : Addr).add j = ⟨g, o + j, none⟩ := by
        rcases Nat.eq_zero_or_pos j with h2 | h2
        · subst h2; simp [Addr.add]
        · simp [Addr.add, Nat.ne_of_gt h2]
      rw [this] at c1
      exact c1
    · obtain ⟨i, hi⟩ := List.getElem?_of_mem hv
      exact (hbs i v hi).1
end Go.Proofs.Ytahichieakdbnaa

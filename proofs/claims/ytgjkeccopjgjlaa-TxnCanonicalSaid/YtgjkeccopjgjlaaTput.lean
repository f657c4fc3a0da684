/- txn.Coder.Put. -/
import Derived.Test.YtgjkeccopjgjlaaCod
import Derived.Test.YtgjkeccopjgjlaaTpm
import Derived.Test.YtgjkeccopjgjlaaTchk
import Derived.Test.YtgjkeccopjgjlaaApp
namespace Go.Proofs.Ytgjkeccopjgjlaa
open Go.ChangeShapes Go.WideShapes Go.ChangeAt Go.RowKit Go.Maps
set_option linter.unusedVariables false
set_option linter.unusedSimpArgs false

theorem own_own {w : World} {b1 b2 : Nat} {e1 e2 : TypeId} {s1 s2 : Nat} {v1 v2 : Value} {n1 n2 : Nat} {x1 x2 : List Value} (h1 : w.ownsRow b1 e1 s1 v1 n1 x1) (h2 : w.ownsRow b2 e2 s2 v2 n2 x2) (he : e1 ≠ e2) : ∀ j, v1.ownBlock = some j → v2.ownBlock ≠ some j := by
  intro j hj1 hj2
  rcases h1.2 with ⟨rfl, _⟩ | ⟨g1, cap1, cur1, rfl, _, hh1, _⟩
  · simp [Value.ownBlock] at hj1
  rcases h2.2 with ⟨rfl, _⟩ | ⟨g2, cap2, cur2, rfl, _, hh2, _⟩
  · simp [Value.ownBlock] at hj2
  simp [Value.ownBlock] at hj1 hj2
  subst hj1 hj2
  rw [hh1] at hh2
  injection hh2 with h3
  injection h3 with _ h _
  exact he h
theorem blk_type {w : World} {g : Nat} {t t' : TypeId} {cs cs' : Array Value} (h : Blk w g t cs) (h' : Blk w g t' cs') : t = t' := by
  unfold Blk at h h'
  rw [h] at h'
  injection h' with h3
  injection h3 with _ h _
theorem DictM.not_own {w : World} {d : Nat} {T : Nat → Prop} {ks : List ByteArray} {e : Nat} (h : DictM w d T ks e) {b n : Nat} {v : Value} {xs : List Value} (ho : w.ownsRow b 5 1 v n xs) : ∀ j, v.ownBlock = some j → ¬ T j := by
  obtain ⟨v1, m, D, h1, h2, h3, h4, h5, h6⟩ := h
  intro j hj ht
  rcases (h6 j).1 ht with rfl | rfl | h7
  · exact own_ne_blk ho h1 (by decide) _ hj rfl
  · exact map_own h3 ho hj
  · exact own_own ho h2 (by decide) j hj h7
theorem DictM.not_blk {w : World} {d : Nat} {T : Nat → Prop} {ks : List ByteArray} {e : Nat} (h : DictM w d T ks e) {g : Nat} {t : TypeId} {cs : Array Value} (hb : Blk w g t cs) (h1t : t ≠ 106) (h2t : t ≠ 9) : ¬ T g := by
  obtain ⟨v1, m, D, h1, h2, h3, h4, h5, h6⟩ := h
  intro ht
  rcases (h6 g).1 ht with rfl | rfl | h7
  · exact h1t (blk_type hb h1)
  · exact map_blk h3 hb rfl
  · exact own_ne_blk h2 hb (fun h => h2t h.symm) _ h7 rfl

abbrev tcs (o s : Int) (dc : Tri3) (A : Option Addr) (len cap : Nat) : Array Value := #[.int .i64 o, .int .i64 s, .int .i64 dc.1, .int .i64 dc.2.1, .int .i64 dc.2.2, .slice A len cap]
/-- what Put knows on its way: the coder's block, the transaction's, the dictionary -/
def PI (w : World) (g d : Nat) (c : Tri3) (cs : Array Value) (T T' : Nat → Prop) (ks : List ByteArray) (e : Nat) (w' : World) : Prop :=
  Blk w' g 78 (ccs d c) ∧ Blk w' w.heap.size 38 cs ∧ DictM w' d T' ks e ∧ Turned w T T' w'
section
variable {w w1 w2 : World} {g d : Nat} {c : Tri3} {cs : Array Value} {T T' : Nat → Prop} {ks : List ByteArray} {e : Nat}
theorem PI.below (h : PI w g d c cs T T' ks e w1) (hb : Below w1.heap.size w1 w2) : PI w g d c cs T T' ks e w2 := ⟨h.1.below hb h.1.lt, h.2.1.below hb h.2.1.lt, h.2.2.1.below hb, h.2.2.2.below hb⟩
theorem PI.drew (h : PI w g d c cs T T' ks e w1) : PI w g d c cs T T' ks e w1.drew := h.below (Below.refl _ _).drew
theorem PI.alloc (h : PI w g d c cs T T' ks e w1) (o : Obj) : PI w g d c cs T T' ks e (w1.alloc o) := h.below ((Below.refl _ _).alloc (Nat.le_refl _) o)
theorem PI.grown (h : PI w g d c cs T T' ks e w1) {b n : Nat} {v : Value} {xs : List Value} (ho : w1.ownsRow b 5 1 v n xs) (hB : w.heap.size ≤ b) (hg : w1.grownBy w2 v.ownBlock) : PI w g d c cs T T' ks e w2 := by
  have hO : Only (fun j => v.ownBlock = some j) w1 w2 := Only.of_grown hg (fun j h => h)
  exact ⟨hO.blk h.1 (fun hj => own_ne_blk ho h.1 (by decide) _ hj rfl), hO.blk h.2.1 (fun hj => own_ne_blk ho h.2.1 (by decide) _ hj rfl), h.2.2.1.only hO (fun j hj ht => h.2.2.1.not_own ho j hj ht),
    h.2.2.2.1, h.2.2.2.2.trans hO (fun j hj => .inr (by have := (ho.lt j hj).1; omega))⟩
theorem PI.turn (h : PI w g d c cs T T' ks e w1) {T'' : Nat → Prop} {ks' : List ByteArray} {e' : Nat} (hD : DictM w2 d T'' ks' e') (ht : Turned w1 T' T'' w2) : PI w g d c cs T T'' ks' e' w2 :=
  ⟨ht.2.blk h.1 (h.2.2.1.not_blk h.1 (by decide) (by decide)), ht.2.blk h.2.1 (h.2.2.1.not_blk h.2.1 (by decide) (by decide)), hD, h.2.2.2.trans ht⟩
theorem PI.own_turn (h : PI w g d c cs T T' ks e w1) {b n : Nat} {v : Value} {xs : List Value} (ho : w1.ownsRow b 5 1 v n xs) {T'' : Nat → Prop} (ht : Turned w1 T' T'' w2) : w2.ownsRow b 5 1 v n xs :=
  ht.2.own ho (fun j hj => h.2.2.1.not_own ho j hj)
theorem PI.cod (h : PI w g d c cs T T' ks e w1) : w1.cell? ⟨g, 0, none⟩ = some (.pointer (some ⟨d, 0, none⟩)) ∧ w1.cell? ⟨g, 1, none⟩ = some (.int .i64 c.1) ∧ w1.cell? ⟨g, 2, none⟩ = some (.int .i64 c.2.1) ∧ w1.cell? ⟨g, 3, none⟩ = some (.int .i64 c.2.2) :=
  ⟨h.1.cell 0, h.1.cell 1, h.1.cell 2, h.1.cell 3⟩
/-- a row of the writes, as it was -/
theorem PI.wr (h : PI w g d c cs T T' ks e w1) {A : Option Addr} {ws : List Wr} (hr : WrR w w.heap.size A ws) (hap : ∀ g' o', A = some ⟨g', o', none⟩ → ws ≠ [] → ¬ T g') : WrR w1 w1.heap.size A ws := fun hn => by
  obtain ⟨g', o', hA, hlt, hc⟩ := hr hn
  have hs := h.2.2.2.2.size
  refine ⟨g', o', hA, by omega, fun k a hk => ?_⟩
  obtain ⟨cs, h1, h2, h3⟩ := hc k a hk
  refine ⟨cs, h1, h2, fun j u hu => ?_⟩
  have h4 := h3 j u hu
  unfold World.cell? at h4 ⊢
  rw [h.2.2.2.2.2.2.2.2 g' hlt (hap g' o' hA hn)]
  exact h4
end
theorem PI.txn {w w1 : World} {g d : Nat} {c dc : Tri3} {o s : Int} {A : Option Addr} {len cap : Nat} {T T' : Nat → Prop} {ks : List ByteArray} {e : Nat} (h : PI w g d c (tcs o s dc A len cap) T T' ks e w1) :
    w1.cell? ⟨w.heap.size, 0, none⟩ = some (.int .i64 o) ∧ w1.cell? ⟨w.heap.size, 1, none⟩ = some (.int .i64 s) ∧ w1.cell? ⟨w.heap.size, 2, none⟩ = some (.int .i64 dc.1) ∧ w1.cell? ⟨w.heap.size, 3, none⟩ = some (.int .i64 dc.2.1) ∧ w1.cell? ⟨w.heap.size, 4, none⟩ = some (.int .i64 dc.2.2) ∧ w1.cell? ⟨w.heap.size, 5, none⟩ = some (.slice A len cap) :=
  ⟨h.2.1.cell 0, h.2.1.cell 1, h.2.1.cell 2, h.2.1.cell 3, h.2.1.cell 4, h.2.1.cell 5⟩
def CPutPost (w : World) (g : Nat) (S : Nat → Prop) (r : (List Nat × Nat) × (List ByteArray × Nat × Tri3)) (en : Ending) (w' : World) : Prop :=
  ∃ v S', en = .returned (.tuple #[v, .int .i64 (r.1.2 : Int)]) ∧ Made w' v r.1.1 r.1.1.length ∧ Fre w S' v ∧ CodM w' g S' r.2.1 r.2.2.1 r.2.2.2 ∧ Turned w S S' w'
/-- the writes' loop -/
def TpRel (w : World) (g d : Nat) (c : Tri3) (cs : Array Value) (T : Nat → Prop) (ks : List ByteArray) (e : Nat) (ws : List Wr) (pre : List Nat) (s7 s53 : Value) (wr : World) : Prop :=
  ∃ (k : Nat) (bs : List Nat) (ks' : List ByteArray) (e' : Nat) (T' : Nat → Prop), s53 = .int .i64 (k : Int) ∧ k ≤ ws.length ∧ Hid (Tm.putWs ks e (ws.take k) = (bs, ks', e')) ∧ wr.ownsRow (w.heap.size + 1) 5 1 s7 (pre ++ bs).length (u8s (pre ++ bs)) ∧ PI w g d c cs T T' ks' e' wr
theorem cput_fine (w : World) (p0 p1 p2 c0 c1 c2 : Int) (hp : rightB p0 p1 p2 = true) (hc : rightB c0 c1 c2 = true) :
    Calls Try.prog 47 #[.agg #[.int .i64 p0, .int .i64 p1, .int .i64 p2], .agg #[.int .i64 c0, .int .i64 c1, .int .i64 c2]] w (fun e w' => ∃ v, e = .returned (.tuple #[v, .int .i64 0]) ∧ Made w' v (putC (p0, p1, p2) (c0, c1, c2)) (putC (p0, p1, p2) (c0, c1, c2)).length ∧ Below w.heap.size w w') :=
  (Cput_any w p0 p1 p2 c0 c1 c2).mono (fun e w' h => by
    obtain ⟨hb, h2⟩ := h
    rw [if_pos ⟨hp, hc⟩] at h2
    obtain ⟨v, h3, h4⟩ := h2
    exact ⟨v, h3, h4, hb⟩)
theorem putC_len (p c : Tri3) : (putC p c).length ≤ 30 := by
  have h1 := put1_le p.1 c.1
  have h2 := put1_le p.2.1 c.2.1
  have h3 := put1_le p.2.2 c.2.2
  unfold putC
  simp only [List.length_append]
  omega
theorem putC_byte {p c : Tri3} (hp : rightT p) (hc : rightT c) : ∀ b ∈ putC p c, b < 256 := by
  obtain ⟨⟨_, _⟩, ⟨_, _⟩, ⟨_, _⟩⟩ := right_le hp
  obtain ⟨⟨_, _⟩, ⟨_, _⟩, ⟨_, _⟩⟩ := right_le hc
  intro b hb
  simp only [putC, List.mem_append] at hb
  rcases hb with (hb | hb) | hb
  · exact put1_byte ‹_› ‹_› ‹_› ‹_› b hb
  · exact put1_byte ‹_› ‹_› ‹_› ‹_› b hb
  · exact put1_byte ‹_› ‹_› ‹_› ‹_› b hb
theorem check_0 {w : World} {t : Txn} {P : Program} {f : Nat} {args : Array Value} (hk : Tm.check t = 0) (h : Calls P f args w (CkP w t)) : Calls P f args w (fun e w' => e = .returned (.int .i64 0) ∧ Below w.heap.size w w') :=
  h.mono (fun e w' h => by
    obtain ⟨h1, h2⟩ := h
    rw [hk] at h1
    exact ⟨h1, h2⟩)
end Go.Proofs.Ytgjkeccopjgjlaa

/- law 21's NetDoes: the net and the document's beside it. -/
import Derived.Test.YtahichieakdbnaaRu
namespace Go.Proofs.Ytahichieakdbnaa
open Go.ChangeShapes Go.WideShapes Go.ChangeAt Go.RowKit Go.Maps
set_option linter.unusedVariables false
set_option linter.unusedSimpArgs false

/-- bytes lie in no block of other things -/
theorem MadeO.offB {w : World} {X : Nat → Prop} {v : Value} {bs : List Nat} {k Z : Nat} {t : TypeId} {cs : Array Value} (h : MadeO w X v bs k) (hb : Blk w Z t cs) (hc : ∀ u ∈ cs, ∀ n, u ≠ .int .u8 n) : ∀ g o n c, v = .slice (some ⟨g, o, none⟩) n c → bs ≠ [] → g ≠ Z := by
  rintro g o n c hv hn rfl
  obtain ⟨A, c', hv', hr, -⟩ := h.1
  rw [hv] at hv'
  injection hv' with e1 _ _
  obtain ⟨g', o', he, _, hcell⟩ := hr (by intro h0; apply hn; exact List.map_eq_nil_iff.1 h0)
  rw [← e1] at he
  injection he with he
  injection he with h1 h2
  subst h1 h2
  cases bs with
  | nil => exact hn rfl
  | cons b r =>
    have h5 := hcell 0 (.int .u8 (b : Int)) (by simp [u8s])
    rw [Nat.add_zero, hb.cell] at h5
    exact hc _ (Array.mem_of_getElem? h5) _ rfl
theorem NetM.noB {w : World} {g : Nat} {S : Nat → Prop} {row : List Snt} (h : NetM w g S row) {q : Nat} {t : TypeId} {cs : Array Value} (hb : Blk w q t cs) (h1 : 138 ≠ t) (h2 : 141 ≠ t) : ¬ S q := fun hs => by
  obtain ⟨v, ms, a, b, c, d⟩ := h
  rcases (d q).1 hs with rfl | hq
  · unfold Blk at a hb
    rw [a] at hb
    injection hb with hb
    injection hb with _ hb _
    exact h1 hb
  · exact own_ne_blk b hb h2 q hq rfl
theorem NetM.noO {w : World} {g : Nat} {S : Nat → Prop} {row : List Snt} (h : NetM w g S row) {base sz n : Nat} {e : TypeId} {u : Value} {xs : List Value} (ho : w.ownsRow base e sz u n xs) (h1 : e ≠ 138) (h2 : 141 ≠ e) : ∀ j, u.ownBlock = some j → ¬ S j := fun j hj hs => by
  obtain ⟨v, ms, a, b, c, d⟩ := h
  rcases (d j).1 hs with rfl | hq
  · exact own_ne_blk ho a h1 j hj rfl
  · exact own_apart b ho h2 j hq hj
theorem NetM.offB {w w' : World} {g Z : Nat} {S : Nat → Prop} {row : List Snt} {t : TypeId} {cs : Array Value} (h : NetM w g S row) (hO : Only (fun j => j = Z) w w') (hZ : ¬ S Z) (hb : Blk w Z t cs) (hc : ∀ u ∈ cs, ∀ n, u ≠ .int .u8 n) : NetM w' g S row :=
  h.only hO (fun j hj hs => hZ (by rw [← hj]; exact hs)) (fun ms hr => ⟨hr.1, fun j m x a b => ⟨(hr.2 j m x a b).1, (hr.2 j m x a b).2.1, (hr.2 j m x a b).2.2.other hO (fun g o n c hv hn hj => (hr.2 j m x a b).2.2.offB hb hc g o n c hv hn hj)⟩⟩)
theorem RN.offB {w w' : World} {r Z : Nat} {X : Nat → Prop} {vL vSp : Value} {row : List Snt} {t : TypeId} {cs : Array Value} (h : RN w r X vL vSp row) (hO : Only (fun j => j = Z) w w') (hr : r ≠ Z) (hL : vL.ownBlock ≠ some Z) (hS : vSp.ownBlock ≠ some Z) (hb : Blk w Z t cs) (hc : ∀ u ∈ cs, ∀ n, u ≠ .int .u8 n) : RN w' r X vL vSp row := by
  obtain ⟨h1, ⟨ms, m1, m2, m3⟩, h3⟩ := h
  exact ⟨hO.blk h1 hr, ⟨ms, m1, hO.own m2 (fun j hj e => hL (by rw [← e]; exact hj)), fun j m x hm hx => ⟨(m3 j m x hm hx).1, (m3 j m x hm hx).2.other hO (fun g o n c hv hn hj => (m3 j m x hm hx).2.offB hb hc g o n c hv hn hj)⟩⟩, hO.own h3 (fun j hj e => hS (by rw [← e]; exact hj))⟩
/-- the net, and the document's beside it, whose letters lie in none of N's blocks -/
def ND (w : World) (g r base : Nat) (N : Nat → Prop) (row1 row2 : List Snt) : Prop :=
  ∃ S vL vSp, NetM w g S row1 ∧ RN w r (fun j => S j ∨ j = r) vL vSp row2 ∧ ¬ S r ∧ (∀ j, S j → base ≤ j) ∧ base ≤ r ∧ (∀ j, vL.ownBlock = some j → ¬ N j) ∧ (∀ j, N j → j < w.heap.size)
/-- what is of other types stays -/
def Kp (w w' : World) : Prop := ∀ (q : Nat) (t : TypeId) (cs : Array Value), 138 ≠ t → 141 ≠ t → 95 ≠ t → Blk w q t cs → Blk w' q t cs
namespace ND
variable {w w' : World} {g r base : Nat} {N N' : Nat → Prop} {row1 row2 : List Snt}
theorem below (h : ND w g r base N row1 row2) (hb : Below w.heap.size w w') : ND w' g r base N row1 row2 := by
  obtain ⟨S, vL, vSp, a, b, c, d, e, f, i⟩ := h
  exact ⟨S, vL, vSp, a.below hb, b.below hb, c, d, e, f, fun j hj => Nat.lt_of_lt_of_le (i j hj) hb.size⟩
theorem fresh (h : ND w g r base N row1 row2) (hb : Below w.heap.size w w') (h1 : ∀ j, N' j → w.heap.size ≤ j) (h2 : ∀ j, N' j → j < w'.heap.size) : ND w' g r base N' row1 row2 := by
  obtain ⟨S, vL, vSp, a, b, c, d, e, f, i⟩ := h
  refine ⟨S, vL, vSp, a.below hb, b.below hb, c, d, e, fun j hj hn => ?_, h2⟩
  obtain ⟨ms, -, h3⟩ := b.ms
  have := own_lt h3 j hj
  have := h1 j hn
  omega
theorem none (h : ND w g r base N row1 row2) : ND w g r base (fun _ => False) row1 row2 := by
  obtain ⟨S, vL, vSp, a, b, c, d, e, f, i⟩ := h
  exact ⟨S, vL, vSp, a, b, c, d, e, fun j hj hn => hn, fun j hj => hj.elim⟩
theorem net (h : ND w g r base N row1 row2) (hB : base ≤ w.heap.size) : ∃ S, NetM w g S row1 ∧ ∀ w' S' row1', NetM w' g S' row1' → Turned w S S' w' → ND w' g r base N row1' row2 ∧ Below base w w' ∧ Kp w w' := by
  obtain ⟨S, vL, vSp, a, b, c, d, e, f, i⟩ := h
  refine ⟨S, a, fun w' S' row1' a' hT => ⟨⟨S', vL, vSp, a', ?_, fun hs => ?_, hT.1.above hB d, e, f, fun j hj => Nat.lt_of_lt_of_le (i j hj) hT.2.size⟩, hT.2.to_below hB d, fun q t cs h1 h2 h3 hk => hT.2.blk hk (a.noB hk h1 h2)⟩⟩
  · obtain ⟨b1, ⟨ms, m1, m2, m3⟩, b3⟩ := b
    refine ⟨hT.2.blk b1 c, ⟨ms, m1, hT.2.own m2 (a.noO m2 (by decide) (by decide)), fun j m x hm hx => ⟨(m3 j m x hm hx).1, (m3 j m x hm hx).2.turn hT.left.left.left⟩⟩, hT.2.own b3 (a.noO b3 (by decide) (by decide))⟩
  · rcases hT.1 r hs with h | h
    · exact c h
    · have := b.1.lt; omega
theorem ref (h : ND w g r base N row1 row2) (hB : base ≤ w.heap.size) : ∃ X vL vSp, RN w r X vL vSp row2 ∧ X r ∧ (∀ j, X j → j < w.heap.size) ∧ (∀ j, X j → base ≤ j) ∧ ∀ w' vL' vSp' row2', RN w' r X vL' vSp' row2' → Only (fun j => j = r) w w' → (∀ j, vL'.ownBlock = some j → vL.ownBlock = some j ∨ w.heap.size ≤ j) → ND w' g r base N row1 row2' ∧ Below base w w' ∧ Kp w w' ∧ ∀ v bs k, Made w v bs k → Made w' v bs k := by
  obtain ⟨S, vL, vSp, a, b, c, d, e, f, i⟩ := h
  have hcs : ∀ u ∈ #[vL, vSp], ∀ n, u ≠ .int .u8 n := by
    obtain ⟨ms, -, h2⟩ := b.ms
    obtain ⟨A1, c1, e1⟩ := own_sl h2
    obtain ⟨A2, c2, e2⟩ := own_sl b.2.2
    intro u hu n
    simp at hu
    rcases hu with rfl | rfl
    · rw [e1]; simp
    · rw [e2]; simp
  refine ⟨_, vL, vSp, b, .inr rfl, fun j hj => ?_, fun j hj => ?_, fun w' vL' vSp' row2' b' hO hn => ⟨⟨S, vL', vSp', a.offB hO c b.1 hcs, b', c, d, e, fun j hj hN => ?_, fun j hj => Nat.lt_of_lt_of_le (i j hj) hO.size⟩, hO.to_below hB (fun j hj => by rw [hj]; exact e), fun q t cs h1 h2 h3 hk => hO.blk hk (fun hq => ?_), fun v bs k hm => (MadeO.other (S := fun _ => False) ⟨hm, fun _ _ _ _ _ _ h => h⟩ hO (fun g o n c hv hn hj => (MadeO.offB (X := fun _ => False) ⟨hm, fun _ _ _ _ _ _ h => h⟩ b.1 hcs g o n c hv hn hj))).1⟩⟩
  · rcases hj with hj | hj
    · exact a.lt j hj
    · rw [hj]; exact b.1.lt
  · rcases hj with hj | hj
    · exact d j hj
    · rw [hj]; exact e
  · rcases hn j hj with h | h
    · exact f j h hN
    · have := i j hN; omega
  · subst hq
    have hb1 := b.1
    unfold Blk at hb1 hk
    rw [hb1] at hk
    injection hk with hk
    injection hk with _ hk _
    exact h3 hk
/-- a letter that lies apart is set -/
theorem setLet {Z : Nat} {t : TypeId} {a : Int} {A : Option Addr} {n c : Nat} (h : ND w g r base N row1 row2) (hk : Blk w Z t #[.int .i64 a, .slice A n c]) (ht : t = 98 ∨ (t = 103 ∧ N Z)) (u v : Value) : ND ((w.setCell ⟨Z, 0, Option.none⟩ u).setCell ⟨Z, 1, Option.none⟩ v) g r base N row1 row2 := by
  obtain ⟨S, vL, vSp, a1, b, c1, d, e, f, i⟩ := h
  have hO := only2 w Z u v
  have hcs : ∀ u ∈ #[Value.int .i64 a, Value.slice A n c], ∀ n, u ≠ .int .u8 n := by
    intro u hu n
    simp at hu
    rcases hu with rfl | rfl <;> simp
  obtain ⟨ms, -, h2⟩ := b.ms
  have hb1 := b.1
  have hrZ : r ≠ Z := fun e => by
    subst e
    unfold Blk at hb1 hk
    rw [hb1] at hk
    injection hk with hk
    injection hk with _ hk _
    rcases ht with h | ⟨h, -⟩ <;> rw [h] at hk <;> exact absurd hk (by decide)
  refine ⟨S, vL, vSp, a1.offB hO (a1.noB hk (by rcases ht with h | ⟨h, -⟩ <;> rw [h] <;> decide) (by rcases ht with h | ⟨h, -⟩ <;> rw [h] <;> decide)) hk hcs, b.offB hO hrZ (fun hj => ?_) (fun hj => own_ne_blk b.2.2 hk (by rcases ht with h | ⟨h, -⟩ <;> rw [h] <;> decide) Z hj rfl) hk hcs, c1, d, e, f, fun j hj => Nat.lt_of_lt_of_le (i j hj) hO.size⟩
  rcases ht with h | ⟨h, hN⟩
  · exact own_ne_blk h2 hk (by rw [h]; decide) Z hj rfl
  · exact f Z hj hN
end ND
def NDP (w : World) (g r base : Nat) (N : Nat → Prop) (e : Bool) (row1 row2 : List Snt) (en : Ending) (w' : World) : Prop := en = .returned (.bool e) ∧ ND w' g r base N row1 row2 ∧ Below base w w' ∧ Kp w w'
section
variable {w : World} {g r base : Nat} {N : Nat → Prop} {row row2 : List Snt}
theorem NDP.ofNet {f : Nat} {args : Array Value} {p : Bool × List Snt} (h : ND w g r base N row row2) (hB : base ≤ w.heap.size) (hC : ∀ S, NetM w g S row → Calls Try.prog f args w (NRes w g S p)) : Calls Try.prog f args w (NDP w g r base N p.1 p.2 row2) := by
  obtain ⟨S, h1, h2⟩ := h.net hB
  refine (hC S h1).mono ?_
  rintro en w' ⟨e, S', a, b⟩
  obtain ⟨c1, c2, c3⟩ := h2 w' S' _ a b
  exact ⟨e, c1, c2, c3⟩
theorem NDP.ofRef {f : Nat} {args : Array Value} {b : Bool} {row2' : List Snt} (h : ND w g r base N row row2) (hB : base ≤ w.heap.size) (hC : ∀ X vL vSp, RN w r X vL vSp row2 → X r → (∀ j, X j → j < w.heap.size) → (∀ j, X j → base ≤ j) → Calls Try.prog f args w (RRes w r X vL b row2')) : Calls Try.prog f args w (NDP w g r base N b row row2') := by
  obtain ⟨X, vL, vSp, h1, h2, h3, h4, h5⟩ := h.ref hB
  refine (hC X vL vSp h1 h2 h3 h4).mono ?_
  rintro en w' ⟨e, vL', vSp', a, b, -, c⟩
  obtain ⟨c1, c2, c3, -⟩ := h5 w' vL' vSp' _ a b c
  exact ⟨e, c1, c2, c3⟩
theorem sendN (to : Int) (A : Option Addr) (n c : Nat) (bs : List Nat) (h : ND w g r base N row row2) (hB : base ≤ w.heap.size) (hr : Rd w base A (u8s bs)) (h256 : ∀ b ∈ bs, b < 256) (hn : bs.length = n) (hl : n ≤ 1099511627776) (hc : n ≤ c) (hnone : A = none → c = 0) (hrl : row.length ≤ 64) :
    Calls Try.prog 54 #[.pointer (some ⟨g, 0, none⟩), .agg #[.int .i64 to, .slice A n c]] w (NDP w g r base N (Nm.send row (to, bs)).1 (Nm.send row (to, bs)).2 row2) :=
  NDP.ofNet h hB (fun S hS => NSend_any w g S row to A n c bs hS (hr.more hB) h256 hn hl hc hnone hrl)
theorem sendR (to : Int) (A : Option Addr) (n c : Nat) (bs : List Nat) (h : ND w g r base N row row2) (hB : base ≤ w.heap.size) (hr : Rd w base A (u8s bs)) (h256 : ∀ b ∈ bs, b < 256) (hn : bs.length = n) (hc : n ≤ c) (hcm : c ≤ maxLen) (hnone : A = none → c = 0) (hrl : row2.length ≤ 64) :
    Calls Try.prog 55 #[.pointer (some ⟨r, 0, none⟩), .agg #[.int .i64 to, .slice A n c]] w (NDP w g r base N (Nm.send row2 (to, bs)).1 row (Nm.send row2 (to, bs)).2) :=
  NDP.ofRef h hB (fun X vL vSp hR hXr hXl hXb => RSend_any w r X vL vSp row2 to A n c bs hR hXr hXl ⟨⟨A, c, rfl, hr.more hB, hn, hc, hcm, h256, hnone⟩, fun b o n' c' hv hne hs => by
    obtain ⟨g', o', he, hlt, -⟩ := hr (by intro h0; apply hne; exact List.map_eq_nil_iff.1 h0)
    injection hv with e1 _ _
    rw [e1] at he
    injection he with he
    injection he with he _
    have := hXb b hs
    omega⟩ hn hrl)
theorem dblN (i : Int) (h : ND w g r base N row row2) (hB : base ≤ w.heap.size) (hi : I64 i) (hrl : row.length ≤ 64) (hbl : ∀ x ∈ row, x.1.2.length ≤ 1099511627776) :
    Calls Try.prog 60 #[.pointer (some ⟨g, 0, none⟩), .int .i64 i] w (NDP w g r base N (Nm.dbl row i).1 (Nm.dbl row i).2 row2) :=
  NDP.ofNet h hB (fun S hS => (NDblQ_any w g S (fun _ => True) row i hS.toT (fun _ _ => trivial) hi.1 hi.2 hrl hbl).mono (fun _ _ h => h.toM))
theorem dblR (i : Int) (h : ND w g r base N row row2) (hB : base ≤ w.heap.size) (hi : I64 i) (hrl : row2.length ≤ 64) (hto : ∀ x ∈ row2, 0 ≤ x.1.1 ∧ x.1.1 ≤ 3) :
    Calls Try.prog 61 #[.pointer (some ⟨r, 0, none⟩), .int .i64 i] w (NDP w g r base N (Nm.dbl row2 i).1 row (Nm.dbl row2 i).2) :=
  NDP.ofRef h hB (fun X vL vSp hR hXr hXl hXb => RDbl_any w r X vL vSp row2 i hR hXr hXl hi.1 hi.2 hrl hto)
theorem trnN (i p : Int) (m : Nat) (h : ND w g r base N row row2) (hB : base ≤ w.heap.size) (hi : I64 i) (hp : I64 p) (hm : m < 4294967296) (hrl : row.length ≤ 64) (hbl : ∀ x ∈ row, x.1.2.length ≤ 1099511627776) :
    Calls Try.prog 62 #[.pointer (some ⟨g, 0, none⟩), .int .i64 i, .int .i64 p, .int .u32 (m : Int)] w (NDP w g r base N (Nm.trn row i p m).1 (Nm.trn row i p m).2 row2) :=
  NDP.ofNet h hB (fun S hS => NTurn_any w g S row i p m hS hi.1 hi.2 hp.1 hp.2 hm hrl hbl)
theorem trnR (i p : Int) (m : Nat) (h : ND w g r base N row row2) (hB : base ≤ w.heap.size) (hi : I64 i) (hp : I64 p) (hm : m < 4294967296) (hrl : row2.length ≤ 64) (hbl : ∀ x ∈ row2, x.1.2.length ≤ 1099511627776) :
    Calls Try.prog 63 #[.pointer (some ⟨r, 0, none⟩), .int .i64 i, .int .i64 p, .int .u32 (m : Int)] w (NDP w g r base N (Nm.trn row2 i p m).1 row (Nm.trn row2 i p m).2) :=
  NDP.ofRef h hB (fun X vL vSp hR hXr hXl hXb => RNTurn_any w r X vL vSp row2 i p m hR hXr hXl hi.1 hi.2 hp.1 hp.2 hm hrl hbl)
def NDT (w : World) (g r base : Nat) (N : Nat → Prop) (p : Let × Bool) (row1 row2 : List Snt) (en : Ending) (w' : World) : Prop :=
  ∃ A c, en = .returned (.tuple #[.agg #[.int .i64 p.1.1, .slice A p.1.2.length c], .bool p.2]) ∧ Made w' (.slice A p.1.2.length c) p.1.2 p.1.2.length ∧ ND w' g r base N row1 row2 ∧ Below base w w' ∧ Kp w w'
theorem takeN (i : Int) (h : ND w g r base N row row2) (hB : base ≤ w.heap.size) (hi : I64 i) (hrl : row.length ≤ 64) (hbl : ∀ x ∈ row, x.1.2.length ≤ 1099511627776) :
    Calls Try.prog 56 #[.pointer (some ⟨g, 0, none⟩), .int .i64 i] w (NDT w g r base N (Nm.take row i).1 (Nm.take row i).2 row2) := by
  obtain ⟨S, h1, h2⟩ := h.net hB
  refine (NTake_any w g S row i h1 hi.1 hi.2 hrl hbl).mono ?_
  rintro en w' ⟨A, c, e, a, b, m⟩
  obtain ⟨c1, c2, c3⟩ := h2 w' S _ a b
  exact ⟨A, c, e, m.1, c1, c2, c3⟩
theorem takeR (i : Int) (h : ND w g r base N row row2) (hB : base ≤ w.heap.size) (hi : I64 i) (hrl : row2.length ≤ 64) :
    Calls Try.prog 57 #[.pointer (some ⟨r, 0, none⟩), .int .i64 i] w (fun en w' => NDT w g r base N (Nm.take row2 i).1 row (Nm.take row2 i).2 en w' ∧ ∀ v bs k, Made w v bs k → Made w' v bs k) := by
  obtain ⟨X, vL, vSp, h1, h2, h3, h4, h5⟩ := h.ref hB
  refine (RTake_any w r X vL vSp row2 i h1 h2 h3 hi.1 hi.2 hrl).mono ?_
  rintro en w' ⟨A, c, e, m, vL', vSp', a, b, cc⟩
  obtain ⟨c1, c2, c3, c4⟩ := h5 w' vL' vSp' _ a b cc
  exact ⟨⟨A, c, e, m.1, c1, c2, c3⟩, c4⟩
end
/-- what is known of those on their way -/
def FacD (row : List Snt) : Prop := row.length ≤ 64 ∧ Nm.Fine 300 row ∧ ∀ x ∈ row, 0 ≤ x.1.1 ∧ x.1.1 ≤ 3
theorem FacD.send {row : List Snt} {l : Let} (h : FacD row) (h1 : l.2.length ≤ 300) (h2 : ∀ b ∈ l.2, b < 256) : FacD (Nm.send row l).2 := by
  refine ⟨Nm.send_len h.1, Nm.Fine.send h.2.1 h1 h2, fun x hx => ?_⟩
  unfold Nm.send at hx
  split at hx
  · exact h.2.2 x hx
  · next hn =>
    unfold Nm.put at hx
    split at hx
    · exact h.2.2 x hx
    · rcases List.mem_append.1 hx with hx | hx
      · exact h.2.2 x hx
      · simp at hx; subst hx; simp only; omega
theorem FacD.take {row : List Snt} {i : Int} (h : FacD row) : FacD (Nm.take row i).2 := by
  refine ⟨Nm.take_len h.1, Nm.Fine.take h.2.1, fun x hx => ?_⟩
  unfold Nm.take at hx
  split at hx
  · exact h.2.2 x hx
  · exact h.2.2 x (List.mem_of_mem_eraseIdx hx)
theorem FacD.dbl {row : List Snt} {i : Int} (h : FacD row) : FacD (Nm.dbl row i).2 := by
  refine ⟨Nm.dbl_len h.1, Nm.Fine.dbl h.2.1, fun x hx => ?_⟩
  unfold Nm.dbl at hx
  split at hx
  · exact h.2.2 x hx
  · next k hk =>
    unfold Nm.put at hx
    split at hx
    · exact h.2.2 x hx
    · rcases List.mem_append.1 hx with hx | hx
      · exact h.2.2 x hx
      · simp at hx; subst hx; exact h.2.2 _ (Nm.at_mem (Nm.plc_lt hk).1)
theorem FacD.trn {row : List Snt} {i p : Int} {m : Nat} (h : FacD row) : FacD (Nm.trn row i p m).2 := by
  refine ⟨Nm.trn_len h.1, Nm.Fine.trn h.2.1, fun x hx => ?_⟩
  unfold Nm.trn at hx
  split at hx
  · exact h.2.2 x hx
  · next k hk =>
    split at hx
    · exact h.2.2 x hx
    · rcases List.mem_or_eq_of_mem_set hx with hx | hx
      · exact h.2.2 x hx
      · subst hx
        have h9 := h.2.2 (row[k]?.getD Nm.s0) (Nm.at_mem (Nm.plc_lt hk).1)
        exact h9
/-- while two calls of one region are made -/
def CD (W : World) (g r base ga : Nat) (ACT : Array Value) (i1 i2 : Nat) (row row' : List Snt) (L : Nat → Bool) (w : World) : Prop :=
  Below base W w ∧ Blk w ga 100 ACT ∧ ND w g r base (fun _ => False) (if L i1 = true then row' else row) (if L i2 = true then row' else row)
namespace CD
variable {W w w' : World} {g r base ga : Nat} {ACT : Array Value} {i1 i2 : Nat} {row row' : List Snt} {L : Nat → Bool}
theorem keep (i : Nat) (h1 : i ≠ i1) (h2 : i ≠ i2) (h : CD W g r base ga ACT i1 i2 row row' L w) (hB : base ≤ W.heap.size) (hb : Below w.heap.size w w') : CD W g r base ga ACT i1 i2 row row' (Inv.upd L i) w' := by
  obtain ⟨a, b, c⟩ := h
  refine ⟨a.trans (hb.mono (Nat.le_trans hB a.size)), b.below hb b.lt, ?_⟩
  rw [upd_ne h1, upd_ne h2]
  exact c.below hb
theorem one (h : CD W g r base ga ACT i1 i2 row row' L w) (hl : L i1 = false) (hne : i1 ≠ i2) {e : Bool} {en : Ending} (hp : NDP w g r base (fun _ => False) e row' (if L i2 = true then row' else row) en w') : CD W g r base ga ACT i1 i2 row row' (Inv.upd L i1) w' := by
  obtain ⟨a, b, c⟩ := h
  obtain ⟨-, p1, p2, p3⟩ := hp
  refine ⟨a.trans p2, p3 _ _ _ (by decide) (by decide) (by decide) b, ?_⟩
  rw [if_pos (Inv.upd_same L i1), upd_ne hne]
  exact p1
theorem two (h : CD W g r base ga ACT i1 i2 row row' L w) (hl : L i2 = false) (hne : i1 ≠ i2) {e : Bool} {en : Ending} (hp : NDP w g r base (fun _ => False) e (if L i1 = true then row' else row) row' en w') : CD W g r base ga ACT i1 i2 row row' (Inv.upd L i2) w' := by
  obtain ⟨a, b, c⟩ := h
  obtain ⟨-, p1, p2, p3⟩ := hp
  refine ⟨a.trans p2, p3 _ _ _ (by decide) (by decide) (by decide) b, ?_⟩
  rw [if_pos (Inv.upd_same L i2), upd_ne (fun e => hne e.symm)]
  exact p1
theorem nd1 (h : CD W g r base ga ACT i1 i2 row row' L w) (hl : L i1 = false) : ND w g r base (fun _ => False) row (if L i2 = true then row' else row) := by
  have h3 := h.2.2
  rw [hl] at h3
  simpa using h3
theorem nd2 (h : CD W g r base ga ACT i1 i2 row row' L w) (hl : L i2 = false) : ND w g r base (fun _ => False) (if L i1 = true then row' else row) row := by
  have h3 := h.2.2
  rw [hl] at h3
  simpa using h3
end CD
end Go.Proofs.Ytahichieakdbnaa

/- Transactions, and acts of layer 6, that come in, opened. -/
import Derived.Test.YtahichieakdbnaaTck
import Derived.Handy
import Derived.Laws.IdiomArrays
import Derived.JoinedOf
import Derived.JoinedAt
import Derived.RowKit3
namespace Go.Proofs.Ytahichieakdbnaa
open Go.ChangeShapes Go.WideShapes Go.ChangeAt Go.RowKit Go.Deep
set_option linter.unusedVariables false
set_option linter.unusedSimpArgs false

/-- a slice of structs that comes in, as one cell -/
theorem open_strC {α H : Type} {enc : TypeId × Value → H} {P : Program} {W : World} {b : Nat} {spare : Nat → Bool} {held : Bool} {t e : TypeId} {sz fuel : Nat} {cs : List Value} {x : DataW H × List MemPlace} (ht : P.underlying t = some (.slice e)) (hsz : P.cellsOf e = sz) (hpos : 0 < sz)
    (R : List Value → α → Prop) (hR : ∀ fuel cs x, cs.length = sz → DataW.trod enc P W b spare held fuel e cs = some x → ∃ a, R cs a) (h : DataW.trod enc P W b spare held fuel t cs = some x) :
    ∃ (A : Option Addr) (cap : Nat) (ys : List α), cs = [.slice A ys.length cap] ∧ ys.length ≤ cap ∧ cap ≤ maxLen ∧ (A = none → cap = 0) ∧ StR sz R W W.heap.size A ys := by
  rcases open_slice ht h with ⟨hcs, _⟩ | ⟨a, len, cap, m, n, D, Pl, hcs, hb, hl, hm, hmm, _, hx⟩
  · exact ⟨none, 0, [], hcs, Nat.le_refl _, Nat.zero_le _, fun _ => rfl, StR.nil _ _ _⟩
  · have hlm : len ≤ m := by rw [hmm]; split <;> omega
    obtain ⟨ys, hla, ha⟩ := list_of (n := len) (p := fun i (a' : α) => ∃ cs, cs.length = sz ∧ R cs a' ∧ ∀ j u, cs[j]? = some u → W.cell? ((a.add (i * sz)).add j) = some u) (fun i hi => by
      obtain ⟨cs', h1, h2⟩ := hx i (by omega)
      rw [hsz] at h1
      obtain ⟨_, hlen, hc⟩ := World.cells?_some h1
      obtain ⟨a', ha'⟩ := hR _ _ _ hlen h2
      exact ⟨a', cs', hlen, ha', fun j u hu => (hc j (by have := (List.getElem?_eq_some_iff.1 hu).1; omega)).trans hu⟩)
    refine ⟨some a, cap, ys, by rw [hla]; exact hcs, by omega, hm, (fun h => by cases h), fun hne => ?_⟩
    have hp0 : 0 < ys.length := List.length_pos_iff.2 hne
    obtain ⟨cs0, k1, _, k3⟩ := ha 0 _ (List.getElem?_eq_getElem hp0)
    have c0 := k3 0 _ (List.getElem?_eq_getElem (by omega))
    have s0 := add2_shape c0
    have hsp : a.spot = none := by
      have h1 := World.cell?_spot c0
      rw [Nat.zero_mul] at h1
      simpa [Addr.add] using h1
    obtain ⟨g, o, s⟩ := a
    simp only at hsp
    subst hsp
    have hg : g < W.heap.size := by
      rw [s0] at c0
      exact World.block_lt_of_cell? _ _ c0
    refine ⟨g, o, rfl, hg, fun k a' hk => ?_⟩
    obtain ⟨cs, q1, q2, q3⟩ := ha k a' hk
    refine ⟨cs, q1, q2, fun j u hu => ?_⟩
    have c1 := q3 j u hu
    rw [add2_shape c1] at c1
    exact c1
def I64 (x : Int) : Prop := -9223372036854775808 ≤ x ∧ x ≤ 9223372036854775807
theorem I64.of_wf {n : Int} (h : (Lit.int .i64 n).wf = true) : I64 n := by
  simpa [I64, Lit.wf, IntKind.min, IntKind.max, IntKind.signed, IntKind.bits] using h
/-- what a transaction that comes in may be -/
def TxB (t : Txn) : Prop := I64 t.1 ∧ I64 t.2.1 ∧ (I64 t.2.2.1.1 ∧ I64 t.2.2.1.2.1 ∧ I64 t.2.2.1.2.2) ∧ ∀ x ∈ t.2.2.2, x.1.size ≤ maxLen ∧ x.2.1.size ≤ maxLen
/-- six cells that are a transaction -/
def RTxn (w : World) (B : Nat) (cs : List Value) (t : Txn) : Prop := ∃ A c, cs = [.int .i64 t.1, .int .i64 t.2.1, .int .i64 t.2.2.1.1, .int .i64 t.2.2.1.2.1, .int .i64 t.2.2.1.2.2, .slice A t.2.2.2.length c] ∧ WrR w B A t.2.2.2 ∧ t.2.2.2.length ≤ c ∧ c ≤ maxLen ∧ (A = none → c = 0) ∧ TxB t
theorem RTxn.below {w w' : World} {B : Nat} (hb : Below B w w') : ∀ cs t, RTxn w B cs t → RTxn w' B cs t := fun cs t ⟨A, c, h1, h2, h3⟩ => ⟨A, c, h1, h2.below hb, h3⟩
theorem RTxn.more {w : World} {B B' : Nat} (hb : B ≤ B') : ∀ cs t, RTxn w B cs t → RTxn w B' cs t := fun cs t ⟨A, c, h1, h2, h3⟩ => ⟨A, c, h1, StR.more h2 hb, h3⟩
theorem list3c {α : Type} (l : List α) (h : l.length = 3) : ∃ a b c, l = [a, b, c] := by
  match l, h with
  | [a, b, c], _ => exact ⟨a, b, c, rfl⟩
theorem list6c {α : Type} (l : List α) (h : l.length = 6) : ∃ a b c d e f, l = [a, b, c, d, e, f] := by
  match l, h with
  | [a, b, c, d, e, f], _ => exact ⟨a, b, c, d, e, f, rfl⟩
theorem list8c {α : Type} (l : List α) (h : l.length = 8) : ∃ a b c d e f g i, l = [a, b, c, d, e, f, g, i] := by
  match l, h with
  | [a, b, c, d, e, f, g, i], _ => exact ⟨a, b, c, d, e, f, g, i, rfl⟩
theorem czWr : Try.prog.cellsOf 82 = 3 := by kernel_rfl
theorem czS : Try.prog.cellsOf 9 = 1 := by kernel_rfl
theorem czBo : Try.prog.cellsOf 4 = 1 := by kernel_rfl
theorem czI : Try.prog.cellsOf 3 = 1 := by kernel_rfl
theorem czI64 : Try.prog.cellsOf 2 = 1 := by kernel_rfl
theorem czClk : Try.prog.cellsOf 77 = 3 := by kernel_rfl
theorem czWrs : Try.prog.cellsOf 78 = 1 := by kernel_rfl
theorem czTxn : Try.prog.cellsOf 80 = 6 := by kernel_rfl
theorem czB : Try.prog.cellsOf 32 = 1 := by kernel_rfl
theorem czU : Try.prog.cellsOf 5 = 1 := by kernel_rfl
set_option maxRecDepth 100000 in
theorem open_wr {H : Type} {enc : TypeId × Value → H} {W : World} {b : Nat} {spare : Nat → Bool} {held : Bool} {fuel : Nat} {cs : List Value} {x : DataW H × List MemPlace} (hl : cs.length = 3)
    (h : DataW.trod enc Try.prog W b spare held fuel 82 cs = some x) : ∃ q : Wr, RWr cs q ∧ q.1.size ≤ maxLen ∧ q.2.1.size ≤ maxLen := by
  obtain ⟨c0, c1, c2, rfl⟩ := list3c cs hl
  obtain ⟨y0, n0, h0⟩ := trod_field Try.underlying82 h 0 9 0 1 rfl czS
  obtain ⟨y1, n1, h1⟩ := trod_field Try.underlying82 h 1 9 1 1 rfl czS
  obtain ⟨y2, n2, h2⟩ := trod_field Try.underlying82 h 2 4 2 1 rfl czBo
  obtain ⟨x0, e0, -, w0⟩ := DataW.trod_string Try.underlying9 h0
  obtain ⟨x1, e1, -, w1⟩ := DataW.trod_string Try.underlying9 h1
  obtain ⟨x2, e2, -⟩ := DataW.trod_bool Try.underlying4 h2
  simp at e0 e1 e2
  subst e0 e1 e2
  exact ⟨(x0, x1, x2), rfl, w0, w1⟩
set_option maxRecDepth 100000 in
theorem open_txn {H : Type} {enc : TypeId × Value → H} {W : World} {b : Nat} {spare : Nat → Bool} {held : Bool} {fuel : Nat} {cs : List Value} {x : DataW H × List MemPlace} (hl : cs.length = 6)
    (h : DataW.trod enc Try.prog W b spare held fuel 80 cs = some x) : ∃ t : Txn, RTxn W W.heap.size cs t := by
  obtain ⟨c0, c1, c2, c3, c4, c5, rfl⟩ := list6c cs hl
  obtain ⟨y0, n0, h0⟩ := trod_field Try.underlying80 h 0 3 0 1 rfl czI
  obtain ⟨y1, n1, h1⟩ := trod_field Try.underlying80 h 1 2 1 1 rfl czI64
  obtain ⟨y2, n2, h2⟩ := trod_field Try.underlying80 h 2 77 2 3 rfl czClk
  obtain ⟨y3, n3, h3⟩ := trod_field Try.underlying80 h 3 78 5 1 rfl czWrs
  obtain ⟨x0, e0, -, w0⟩ := DataW.trod_int Try.underlying3 h0
  obtain ⟨x1, e1, -, w1⟩ := DataW.trod_int Try.underlying2 h1
  obtain ⟨z0, z1, z2, m, hx, hy0, hy1, hy2⟩ := trod_array3 Try.underlying77 czI64 h2
  obtain ⟨d0, g0, -, u0⟩ := DataW.trod_int Try.underlying2 hy0
  obtain ⟨d1, g1, -, u1⟩ := DataW.trod_int Try.underlying2 hy1
  obtain ⟨d2, g2, -, u2⟩ := DataW.trod_int Try.underlying2 hy2
  obtain ⟨A, cap, ys, e3, k1, k2, k3, k4⟩ := open_strC (α := Wr) Try.underlying78 czWr (by omega) (fun cs q => RWr cs q ∧ q.1.size ≤ maxLen ∧ q.2.1.size ≤ maxLen) (fun fuel cs x hl h => open_wr hl h) h3
  simp at e0 e1 g0 g1 g2 e3
  subst e0 e1 g0 g1 g2 e3
  refine ⟨(x0, x1, (d0, d1, d2), ys), A, cap, rfl, k4.keep (fun _ _ => rfl) (fun _ _ hq => hq.1), k1, k2, k3, I64.of_wf w0, I64.of_wf w1, ⟨I64.of_wf u0, I64.of_wf u1, I64.of_wf u2⟩, fun q hq => ?_⟩
  obtain ⟨i, hi⟩ := List.getElem?_of_mem hq
  obtain ⟨g, o, e, hg, hc⟩ := k4 (by rintro rfl; simp at hq)
  obtain ⟨cs, q1, q2, q3⟩ := hc i q hi
  exact q2.2
/-- an act of layer 6 -/
abbrev ActT := Int × Txn × List Nat
/-- eight cells that are an act -/
def RAct6 (w : World) (B : Nat) (cs : List Value) (a : ActT) : Prop := ∃ A c Ab cb, cs = [.int .i64 a.1, .int .i64 a.2.1.1, .int .i64 a.2.1.2.1, .int .i64 a.2.1.2.2.1.1, .int .i64 a.2.1.2.2.1.2.1, .int .i64 a.2.1.2.2.1.2.2, .slice A a.2.1.2.2.2.length c, .slice Ab a.2.2.length cb] ∧
  (WrR w B A a.2.1.2.2.2 ∧ a.2.1.2.2.2.length ≤ c ∧ c ≤ maxLen ∧ (A = none → c = 0) ∧ TxB a.2.1) ∧ Rd w B Ab (u8s a.2.2) ∧ a.2.2.length ≤ cb ∧ cb ≤ maxLen ∧ (Ab = none → cb = 0) ∧ (∀ b ∈ a.2.2, b < 256) ∧ I64 a.1
theorem RAct6.below {w w' : World} {B : Nat} (hb : Below B w w') : ∀ cs a, RAct6 w B cs a → RAct6 w' B cs a := fun cs a ⟨A, c, Ab, cb, h1, h2, h3, h4⟩ => ⟨A, c, Ab, cb, h1, ⟨h2.1.below hb, h2.2⟩, h3.below hb, h4⟩
theorem RAct6.more {w : World} {B B' : Nat} (hb : B ≤ B') : ∀ cs a, RAct6 w B cs a → RAct6 w B' cs a := fun cs a ⟨A, c, Ab, cb, h1, h2, h3, h4⟩ => ⟨A, c, Ab, cb, h1, ⟨StR.more h2.1 hb, h2.2⟩, h3.more hb, h4⟩
abbrev Acts6 (w : World) (B : Nat) (A : Option Addr) (ys : List ActT) : Prop := StR 8 (RAct6 w B) w B A ys
theorem Acts6.below {w w' : World} {B : Nat} {A : Option Addr} {ys : List ActT} (h : Acts6 w B A ys) (hb : Below B w w') : Acts6 w' B A ys := StR.below h hb (RAct6.below hb)
theorem Acts6.step {w w' : World} {A : Option Addr} {ys : List ActT} (h : Acts6 w w.heap.size A ys) (hb : Below w.heap.size w w') : Acts6 w' w'.heap.size A ys :=
  StR.more (StR.below h hb (fun cs a hr => RAct6.more hb.size cs a (RAct6.below hb cs a hr))) hb.size
theorem open_b8 {H : Type} {enc : TypeId × Value → H} {W : World} {b : Nat} {spare : Nat → Bool} {held : Bool} {A : Option Addr} {len cap : Nat} {d : DataW H} {p : List MemPlace}
    (h : DataW.Trod enc Try.prog W b spare held 32 (.slice A len cap) d p) :
    ∃ bs : List Nat, bs.length = len ∧ len ≤ cap ∧ cap ≤ maxLen ∧ (A = none → cap = 0) ∧ Rd W W.heap.size A (u8s bs) ∧ ∀ b ∈ bs, b < 256 := by
  obtain ⟨fuel, hf⟩ := h
  obtain ⟨A', c, bs, hcs, h1, h2, h3, h4, h5⟩ := open_bytes8 Try.underlying32 Try.underlying5 czU hf
  simp [Value.cells] at hcs
  obtain ⟨rfl, rfl, rfl⟩ := hcs
  exact ⟨bs, rfl, h2, h3, h4, h1, h5⟩
end Go.Proofs.Ytahichieakdbnaa

/- net: letters on their way, in plain words, and in memory. -/
import Derived.Test.YtahichieakdbnaaMo
import Derived.Test.YtahichieakdbnaaApp
import Derived.Test.YtahichieakdbnaaTurn
import Derived.Test.YtahichieakdbnaaRos
import Derived.Laws.CopyRow
namespace Go.Proofs.Ytahichieakdbnaa
open Go.ChangeShapes Go.WideShapes Go.ChangeAt Go.RowKit Go.Maps
set_option linter.unusedVariables false
set_option linter.unusedSimpArgs false

abbrev Let := Int × List Nat
/-- a letter on its way, and whether it is spoilt -/
abbrev Snt := Let × Bool
namespace Nm
def s0 : Snt := ((0, []), false)
def put (row : List Snt) (s : Snt) : Bool × List Snt := if 64 ≤ row.length then (false, row) else (true, row ++ [s])
def send (row : List Snt) (l : Let) : Bool × List Snt := if l.1 < 0 ∨ 3 < l.1 then (false, row) else put row (l, false)
def plc (row : List Snt) (i : Int) : Option Nat := if i < 0 ∨ row.length = 0 then none else some (i.toNat % row.length)
def take (row : List Snt) (i : Int) : (Let × Bool) × List Snt := match plc row i with
  | none => (((0, []), false), row)
  | some k => (((row[k]?.getD s0).1, true), row.eraseIdx k)
def dbl (row : List Snt) (i : Int) : Bool × List Snt := match plc row i with
  | none => (false, row)
  | some k => put row (row[k]?.getD s0)
def trn (row : List Snt) (i p : Int) (mask : Nat) : Bool × List Snt := match plc row i with
  | none => (false, row)
  | some k => if (row[k]?.getD s0).2 = true then (false, row) else (true, row.set k (((row[k]?.getD s0).1.1, Cm.turn (row[k]?.getD s0).1.2 p mask), !decide (Cm.turn (row[k]?.getD s0).1.2 p mask = (row[k]?.getD s0).1.2)))
theorem plc_lt {row : List Snt} {i : Int} {k : Nat} (h : plc row i = some k) : k < row.length ∧ 0 ≤ i ∧ k = i.toNat % row.length := by
  unfold plc at h
  split at h
  · cases h
  · next hn =>
    injection h with h
    exact ⟨by rw [← h]; exact Nat.mod_lt _ (by omega), by omega, h.symm⟩
theorem put_len {row : List Snt} {s : Snt} (h : row.length ≤ 64) : (put row s).2.length ≤ 64 := by
  unfold put
  split
  · exact h
  · simp; omega
theorem send_len {row : List Snt} {l : Let} (h : row.length ≤ 64) : (send row l).2.length ≤ 64 := by
  unfold send
  split
  · exact h
  · exact put_len h
theorem take_len {row : List Snt} {i : Int} (h : row.length ≤ 64) : (take row i).2.length ≤ 64 := by
  unfold take
  split
  · exact h
  · simp only [List.length_eraseIdx]
    split <;> omega
theorem dbl_len {row : List Snt} {i : Int} (h : row.length ≤ 64) : (dbl row i).2.length ≤ 64 := by
  unfold dbl
  split
  · exact h
  · exact put_len h
theorem trn_len {row : List Snt} {i p : Int} {mask : Nat} (h : row.length ≤ 64) : (trn row i p mask).2.length ≤ 64 := by
  unfold trn
  split
  · exact h
  · split
    · exact h
    · simpa using h
/-- letters of no more than so many bytes, and bytes they are -/
def Fine (n : Nat) (row : List Snt) : Prop := ∀ x ∈ row, x.1.2.length ≤ n ∧ ∀ b ∈ x.1.2, b < 256
theorem Fine.put {n : Nat} {row : List Snt} {s : Snt} (h : Fine n row) (h1 : s.1.2.length ≤ n) (h2 : ∀ b ∈ s.1.2, b < 256) : Fine n (Nm.put row s).2 := by
  unfold Nm.put
  split
  · exact h
  · intro x hx
    rcases List.mem_append.1 hx with hx | hx
    · exact h x hx
    · simp at hx; subst hx; exact ⟨h1, h2⟩
theorem Fine.send {n : Nat} {row : List Snt} {l : Let} (h : Fine n row) (h1 : l.2.length ≤ n) (h2 : ∀ b ∈ l.2, b < 256) : Fine n (Nm.send row l).2 := by
  unfold Nm.send
  split
  · exact h
  · exact h.put h1 h2
theorem Fine.take {n : Nat} {row : List Snt} {i : Int} (h : Fine n row) : Fine n (Nm.take row i).2 := by
  unfold Nm.take
  split
  · exact h
  · exact fun x hx => h x (List.mem_of_mem_eraseIdx hx)
theorem at_mem {row : List Snt} {k : Nat} (h : k < row.length) : row[k]?.getD s0 ∈ row := by
  rw [List.getElem?_eq_getElem h]
  exact List.getElem_mem h
theorem Fine.dbl {n : Nat} {row : List Snt} {i : Int} (h : Fine n row) : Fine n (Nm.dbl row i).2 := by
  unfold Nm.dbl
  split
  · exact h
  · next k hk =>
    have := h _ (at_mem (plc_lt hk).1)
    exact h.put this.1 this.2
theorem Fine.trn {n : Nat} {row : List Snt} {i p : Int} {mask : Nat} (h : Fine n row) : Fine n (Nm.trn row i p mask).2 := by
  unfold Nm.trn
  split
  · exact h
  · next k hk =>
    split
    · exact h
    · have h3 := h _ (at_mem (plc_lt hk).1)
      intro x hx
      rcases List.mem_or_eq_of_mem_set hx with hx | hx
      · exact h x hx
      · subst hx
        exact ⟨by simp only; rw [Cm.turn_length]; exact h3.1, Cm.turn_byte h3.2 p mask⟩
end Nm
/-- a row as it lies: to whom, the body's slice, whether it is spoilt -/
abbrev Mrow := List (Int × Value × Bool)
def fl3 (ms : Mrow) : List Value := ms.flatMap fun m => [.int .i64 m.1, m.2.1, .bool m.2.2]
theorem fl3_cons (m : Int × Value × Bool) (ms : Mrow) : fl3 (m :: ms) = [.int .i64 m.1, m.2.1, .bool m.2.2] ++ fl3 ms := rfl
theorem fl3_append (a b : Mrow) : fl3 (a ++ b) = fl3 a ++ fl3 b := by simp [fl3]
theorem fl3_length (ms : Mrow) : (fl3 ms).length = ms.length * 3 := by
  induction ms with
  | nil => rfl
  | cons m ms ih => rw [fl3_cons, List.length_append, ih, List.length_cons]; simp; omega
theorem fl3_take : ∀ (ms : Mrow) (k : Nat), fl3 (ms.take k) = (fl3 ms).take (k * 3)
  | [], k => by simp [fl3]
  | m :: ms, 0 => by simp [fl3]
  | m :: ms, k + 1 => by
    rw [List.take_succ_cons, fl3_cons, fl3_cons, fl3_take ms k, List.take_append]
    have : (k + 1) * 3 - [Value.int .i64 m.1, m.2.1, .bool m.2.2].length = k * 3 := by simp; omega
    have h3 : ∀ l : List Value, l.length = 3 → l.take ((k + 1) * 3) = l := fun l hl => List.take_of_length_le (by omega)
    rw [this, h3 _ rfl]
theorem fl3_drop : ∀ (ms : Mrow) (k : Nat), fl3 (ms.drop k) = (fl3 ms).drop (k * 3)
  | [], k => by simp [fl3]
  | m :: ms, 0 => by simp
  | m :: ms, k + 1 => by
    rw [List.drop_succ_cons, fl3_cons, fl3_drop ms k, List.drop_append]
    have : (k + 1) * 3 - [Value.int .i64 m.1, m.2.1, .bool m.2.2].length = k * 3 := by simp; omega
    have h3 : ∀ l : List Value, l.length = 3 → l.drop ((k + 1) * 3) = [] := fun l hl => List.drop_of_length_le (by omega)
    rw [this, h3 _ rfl, List.nil_append]
theorem fl3_get : ∀ (ms : Mrow) (k : Nat) (m : Int × Value × Bool), ms[k]? = some m → ∀ (j : Nat) (u : Value), [Value.int .i64 m.1, m.2.1, .bool m.2.2][j]? = some u → (fl3 ms)[k * 3 + j]? = some u
  | [], k, x, h, j, u, hu => by simp at h
  | y :: l, 0, x, h, j, u, hu => by
    simp at h
    subst h
    rw [fl3_cons, Nat.zero_mul, Nat.zero_add, List.getElem?_append_left (by have := (List.getElem?_eq_some_iff.1 hu).1; exact this)]
    exact hu
  | y :: l, k + 1, x, h, j, u, hu => by
    rw [fl3_cons, List.getElem?_append_right (by simp; omega)]
    have e : (k + 1) * 3 + j - [Value.int .i64 y.1, y.2.1, .bool y.2.2].length = k * 3 + j := by simp; omega
    rw [e]
    exact fl3_get l k x (by simpa using h) j u hu
/-- memory's row is that row; its bodies lie in none of S -/
def NRow (w : World) (S : Nat → Prop) (ms : Mrow) (row : List Snt) : Prop :=
  ms.length = row.length ∧ ∀ (j : Nat) (m : Int × Value × Bool) (x : Snt), ms[j]? = some m → row[j]? = some x → m.1 = x.1.1 ∧ m.2.2 = x.2 ∧ MadeO w S m.2.1 x.1.2 x.1.2.length
namespace NRow
variable {w w' : World} {S S' : Nat → Prop} {ms : Mrow} {row : List Snt}
theorem nil (w : World) (S : Nat → Prop) : NRow w S [] [] := ⟨rfl, fun j m x h => by simp at h⟩
theorem below (h : NRow w S ms row) (hb : Below w.heap.size w w') : NRow w' S ms row := ⟨h.1, fun j m x h1 h2 => ⟨(h.2 j m x h1 h2).1, (h.2 j m x h1 h2).2.1, (h.2 j m x h1 h2).2.2.below hb⟩⟩
theorem turn (h : NRow w S ms row) (ht : Turned w S S' w') : NRow w' S' ms row := ⟨h.1, fun j m x h1 h2 => ⟨(h.2 j m x h1 h2).1, (h.2 j m x h1 h2).2.1, (h.2 j m x h1 h2).2.2.turn ht⟩⟩
theorem snoc (h : NRow w S ms row) {m : Int × Value × Bool} {x : Snt} (h1 : m.1 = x.1.1) (h2 : m.2.2 = x.2) (h3 : MadeO w S m.2.1 x.1.2 x.1.2.length) : NRow w S (ms ++ [m]) (row ++ [x]) := by
  refine ⟨by simp [h.1], fun j a b ha hb => ?_⟩
  by_cases hj : j < ms.length
  · rw [List.getElem?_append_left hj] at ha
    rw [List.getElem?_append_left (by rw [← h.1]; exact hj)] at hb
    exact h.2 j a b ha hb
  · have hj2 : j = ms.length := by
      have := (List.getElem?_eq_some_iff.1 ha).1
      simp at this
      omega
    subst hj2
    rw [List.getElem?_append_right (Nat.le_refl _)] at ha
    rw [List.getElem?_append_right (by rw [h.1]; exact Nat.le_refl _)] at hb
    simp [h.1] at ha hb
    subst ha hb
    exact ⟨h1, h2, h3⟩
theorem erase (h : NRow w S ms row) (k : Nat) : NRow w S (ms.eraseIdx k) (row.eraseIdx k) := by
  refine ⟨by rw [List.length_eraseIdx, List.length_eraseIdx, h.1], fun j a b ha hb => ?_⟩
  rw [List.getElem?_eraseIdx] at ha hb
  split at ha
  · next hj => rw [if_pos hj] at hb; exact h.2 _ a b ha hb
  · next hj => rw [if_neg hj] at hb; exact h.2 _ a b ha hb
theorem set (h : NRow w S ms row) (k : Nat) {m : Int × Value × Bool} {x : Snt} (h1 : m.1 = x.1.1) (h2 : m.2.2 = x.2) (h3 : MadeO w S m.2.1 x.1.2 x.1.2.length) : NRow w S (ms.set k m) (row.set k x) := by
  refine ⟨by simp [h.1], fun j a b ha hb => ?_⟩
  rw [List.getElem?_set] at ha hb
  by_cases hj : k = j
  · subst hj
    rw [if_pos rfl] at ha hb
    split at ha
    · next hl =>
      rw [if_pos (by rw [← h.1]; exact hl)] at hb
      injection ha with ha; injection hb with hb
      subst ha hb
      exact ⟨h1, h2, h3⟩
    · cases ha
  · rw [if_neg hj] at ha hb
    exact h.2 j a b ha hb
theorem at_ (h : NRow w S ms row) {k : Nat} {x : Snt} (hk : row[k]? = some x) : ∃ m, ms[k]? = some m ∧ m.1 = x.1.1 ∧ m.2.2 = x.2 ∧ MadeO w S m.2.1 x.1.2 x.1.2.length := by
  have hl := (List.getElem?_eq_some_iff.1 hk).1
  have hm : ms[k]? = some (ms[k]'(by rw [h.1]; exact hl)) := List.getElem?_eq_getElem _
  exact ⟨_, hm, h.2 k _ x hm hk⟩
end NRow
/-- block g is a net: those that are on their way; in the blocks of S -/
def NetM (w : World) (g : Nat) (S : Nat → Prop) (row : List Snt) : Prop :=
  ∃ v ms, Blk w g 138 #[v] ∧ w.ownsRow 0 141 3 v row.length (fl3 ms) ∧ NRow w S ms row ∧ ∀ j, S j ↔ (j = g ∨ v.ownBlock = some j)
namespace NetM
variable {w w' : World} {g : Nat} {S : Nat → Prop} {row : List Snt}
theorem lt (h : NetM w g S row) : ∀ j, S j → j < w.heap.size := by
  obtain ⟨v, ms, h1, h2, h3, h4⟩ := h
  intro j hj
  rcases (h4 j).1 hj with rfl | hj
  · exact h1.lt
  · exact own_lt h2 j hj
theorem self (h : NetM w g S row) : S g := by
  obtain ⟨v, ms, h1, h2, h3, h4⟩ := h
  exact (h4 g).2 (.inl rfl)
theorem only {T : Nat → Prop} (h : NetM w g S row) (ho : Only T w w') (hT : ∀ j, T j → S j → False) (hB : ∀ ms : Mrow, NRow w S ms row → NRow w' S ms row) : NetM w' g S row := by
  obtain ⟨v, ms, h1, h2, h3, h4⟩ := h
  exact ⟨v, ms, ho.blk h1 (fun ht => hT _ ht ((h4 g).2 (.inl rfl))), ho.own h2 (fun j hj ht => hT j ht ((h4 j).2 (.inr hj))), hB ms h3, h4⟩
theorem below (h : NetM w g S row) (hb : Below w.heap.size w w') : NetM w' g S row := h.only (Only.of_below (S := fun _ => False) hb) (fun _ h _ => h) (fun ms hr => hr.below hb)
end NetM
/-- a net, of whose bodies' slices Q holds -/
def NetQ (w : World) (g : Nat) (S : Nat → Prop) (Q : Value → Prop) (row : List Snt) : Prop :=
  ∃ v ms, Blk w g 138 #[v] ∧ w.ownsRow 0 141 3 v row.length (fl3 ms) ∧ NRow w S ms row ∧ (∀ j, S j ↔ (j = g ∨ v.ownBlock = some j)) ∧ ∀ (j : Nat) (m : Int × Value × Bool), ms[j]? = some m → Q m.2.1
theorem NetQ.toM {w : World} {g : Nat} {S : Nat → Prop} {Q : Value → Prop} {row : List Snt} (h : NetQ w g S Q row) : NetM w g S row := by
  obtain ⟨v, ms, h1, h2, h3, h4, -⟩ := h
  exact ⟨v, ms, h1, h2, h3, h4⟩
theorem NetQ.below {w w' : World} {g : Nat} {S : Nat → Prop} {Q : Value → Prop} {row : List Snt} (h : NetQ w g S Q row) (hb : Below w.heap.size w w') : NetQ w' g S Q row := by
  obtain ⟨v, ms, h1, h2, h3, h4, h5⟩ := h
  exact ⟨v, ms, h1.below hb h1.lt, own_below h2 hb, h3.below hb, h4, h5⟩
theorem NetM.toT {w : World} {g : Nat} {S : Nat → Prop} {row : List Snt} (h : NetM w g S row) : NetQ w g S (fun _ => True) row := by
  obtain ⟨v, ms, h1, h2, h3, h4⟩ := h
  exact ⟨v, ms, h1, h2, h3, h4, fun _ _ _ => trivial⟩
/-- lies below B, or is empty -/
def Low (B : Nat) (v : Value) : Prop := ∀ b o n c, v = .slice (some ⟨b, o, none⟩) n c → 0 < n → b < B
theorem NetM.toL {w : World} {g : Nat} {S : Nat → Prop} {row : List Snt} (h : NetM w g S row) : NetQ w g S (Low w.heap.size) row := by
  obtain ⟨v, ms, h1, h2, h3, h4⟩ := h
  refine ⟨v, ms, h1, h2, h3, h4, fun j m hm b o n c hv hn => ?_⟩
  have hl := (List.getElem?_eq_some_iff.1 hm).1
  have hx : row[j]? = some (row[j]'(by rw [← h3.1]; exact hl)) := List.getElem?_eq_getElem _
  obtain ⟨-, -, h6⟩ := h3.2 j m _ hm hx
  obtain ⟨A', c', e, hr, he, -⟩ := id h6.1
  rw [hv] at e
  injection e with e1 e2 e3
  exact MadeO.lt h6 hv (by intro h0; rw [h0] at e2; simp at e2; omega)
/-! copy of elements of more than one cell -/
theorem run_copy_rowS {P : Program} (w : World) (dT sT ty elem : TypeId) (g o dLen dCap : Nat) (a : Addr) (sLen sCap sz m : Nat) (cur : Array Value) (t : TypeId) (cs : List Value)
    (hu : P.underlying dT = some (.slice elem)) (hs : (P.info? elem).map (·.size) = some sz)
    (hg : w.heap[g]? = some (.cells cur t (0, 0))) (hm : Nat.min sLen dLen = m) (hn : cs.length = m * sz)
    (hsrc : ∀ j v, cs[j]? = some v → w.cell? (a.add j) = some v) (hfit : o + cs.length ≤ cur.size) (h1 : ∀ v ∈ cs, v.oneCell' = true) :
    (Builtin.copy_ #[dT, sT] ty #[.slice (some ⟨g, o, none⟩) dLen dCap, .slice (some a) sLen sCap]).run P w =
      .ok (goInt m) (w.setRow g (cur.toList.take o ++ cs ++ cur.toList.drop (o + cs.length)).toArray) := by
  have hl := run_loadCells_list (P := P) w a cs hsrc
  have hst := run_storeCells_at P g o t cs 0 cur w hg (by simpa using hfit) h1
  cases hq : P.info? elem with
  | none => simp [hq] at hs
  | some i =>
    have hi : i.size = sz := by simpa [hq] using hs
    simp [Builtin.copy_, run_underlying hu, Builtin.lenOf, Builtin.firstCells, sizeOf, typeInfo, hq, hi, hm, ← hn, hl, hst]
theorem nw3 (w : World) (t : TypeId) (x y z : Value) : ∀ (j : Nat) (u : Value), [x, y, z][j]? = some u → (w.alloc (.cells #[x, y, z] t)).cell? ((⟨w.heap.size, 0, none⟩ : Addr).add j) = some u := by
  intro j u hj
  have h := (Blk.new w t #[x, y, z]).cell j
  have e : (⟨w.heap.size, 0, none⟩ : Addr).add j = ⟨w.heap.size, j, none⟩ := by
    rcases Nat.eq_zero_or_pos j with rfl | h0
    · rfl
    · simp [Addr.add, Nat.ne_of_gt h0]
  rw [e, h]
  simpa using hj
end Go.Proofs.Ytahichieakdbnaa

/- Words for memory: slices of one-cell elements that can be read, and what the call owns. -/
import Derived.Test.YtjaifieakcnlmaaRows
import Derived.WalkKit
import Derived.ProofKit
import Derived.OpenShut
import Derived.ShutString
import Derived.ChangeOld
import Derived.Below
import Derived.Handy
import Derived.Outline
import Derived.WalkLawsBesides
import Derived.WalkSpells
import Derived.Lib.Hide
import Derived.Deep.QuietTactic
import Derived.BigQuiet
import Derived.Deep.DeepFit
import Derived.Deep.LoopGhost
import Derived.Laws.AppendOwnNone
import Derived.Deep.RegionWith
import Derived.Deep.RegionLaw
import Derived.Deep.RegionHeld3
import Derived.Deep.DeepMust
import Derived.Lib.SlBytesConst
namespace Go.Proofs.Ytjaifieakcnlmaa
open Go.ChangeShapes Go.WideShapes Go.ChangeAt Go.RowKit
set_option linter.unusedVariables false

/-- The slice that begins at A reads, in blocks below B, as the values xs. -/
def Rd (w : World) (B : Nat) (A : Option Addr) (xs : List Value) : Prop :=
  xs ≠ [] → ∃ g o, A = some ⟨g, o, none⟩ ∧ g < B ∧ ∀ j u, xs[j]? = some u → w.cell? ⟨g, o + j, none⟩ = some u

/-- Bytes as the values that cells hold. -/
def u8s (bs : List Nat) : List Value := bs.map fun (b : Nat) => Value.int .u8 (b : Int)
def u64s (bs : List Nat) : List Value := bs.map fun (b : Nat) => Value.int .u64 (b : Int)
@[simp] theorem u8s_length (bs : List Nat) : (u8s bs).length = bs.length := by simp [u8s]
@[simp] theorem u64s_length (bs : List Nat) : (u64s bs).length = bs.length := by simp [u64s]
theorem u8s_append (a b : List Nat) : u8s (a ++ b) = u8s a ++ u8s b := by simp [u8s]
theorem u8s_inj : ∀ {a b : List Nat}, u8s a = u8s b → a = b
  | [], [], _ => rfl
  | [], _ :: _, h => by simp [u8s] at h
  | _ :: _, [], h => by simp [u8s] at h
  | a :: ar, b :: br, h => by
    simp only [u8s, List.map_cons, List.cons.injEq] at h
    have h1 : a = b := by
      have h0 := h.1
      simp only [Value.int.injEq] at h0
      omega
    rw [h1, u8s_inj (a := ar) (b := br) h.2]

namespace Rd
variable {w w' : World} {B B' : Nat} {A : Option Addr} {xs : List Value}
theorem nil (w : World) (B : Nat) (A : Option Addr) : Rd w B A [] := fun h => absurd rfl h
theorem keep (h : Rd w B A xs) (hk : ∀ p : Addr, p.block < B → w'.cell? p = w.cell? p) : Rd w' B A xs := fun hn => by
  obtain ⟨g, o, e, hb, hc⟩ := h hn
  exact ⟨g, o, e, hb, fun j u hu => (hk ⟨g, o + j, none⟩ hb).trans (hc j u hu)⟩
theorem below (h : Rd w B A xs) (hb : Below B w w') : Rd w' B A xs := h.keep fun _ hp => hb.cell hp
theorem drew (h : Rd w B A xs) : Rd w.drew B A xs := h
theorem drewN (h : Rd w B A xs) (q : Nat) : Rd (w.drewN q) B A xs := h
theorem more (h : Rd w B A xs) (hB : B ≤ B') : Rd w B' A xs := fun hn => by
  obtain ⟨g, o, e, hb, hc⟩ := h hn
  exact ⟨g, o, e, by omega, hc⟩
theorem of_own {base : Nat} {e : TypeId} {n c : Nat} (h : w.ownsRow base e 1 (.slice A n c) n xs) : Rd w w.heap.size A xs := fun hn => by
  have hl := h.1
  rcases h.2 with ⟨hv, h0⟩ | ⟨g, cap, cur, hv, hb, hh, hnc, hm, hs, ht⟩
  · exact absurd (List.eq_nil_of_length_eq_zero (by omega)) hn
  · injection hv with h1 h2 h3
    refine ⟨g, 0, h1, ?_, fun j u hu => ?_⟩
    · rcases Nat.lt_or_ge g w.heap.size with hlt | hge
      · exact hlt
      · rw [Array.getElem?_eq_none hge] at hh; cases hh
    · have := h.cells (g := g) (by rw [h1]; rfl) j u hu
      rcases Nat.eq_zero_or_pos j with h0 | h0
      · subst h0; simpa [Addr.add] using this
      · simpa [Addr.add, Nat.ne_of_gt h0] using this
theorem alloc (h : Rd w w.heap.size A xs) (o : Obj) : Rd (w.alloc o) w.heap.size A xs := h.keep fun p hp => World.cell?_alloc_lt w o p hp
/-- the cell of place k, for bytes -/
theorem u8 {bs : List Nat} (h : Rd w B A (u8s bs)) (hn : bs ≠ []) : ∃ g o, A = some ⟨g, o, none⟩ ∧ g < B ∧ ∀ k, k < bs.length → w.cell? ⟨g, o + k, none⟩ = some (.int .u8 ((bs[k]?.getD 0 : Nat) : Int)) := by
  obtain ⟨g, o, e, hb, hc⟩ := h (by intro h; apply hn; simpa [u8s] using h)
  refine ⟨g, o, e, hb, fun k hk => hc k _ ?_⟩
  simp [u8s, hk]
theorem u64 {bs : List Nat} (h : Rd w B A (u64s bs)) (hn : bs ≠ []) : ∃ g o, A = some ⟨g, o, none⟩ ∧ g < B ∧ ∀ k, k < bs.length → w.cell? ⟨g, o + k, none⟩ = some (.int .u64 ((bs[k]?.getD 0 : Nat) : Int)) := by
  obtain ⟨g, o, e, hb, hc⟩ := h (by intro h; apply hn; simpa [u64s] using h)
  refine ⟨g, o, e, hb, fun k hk => hc k _ ?_⟩
  simp [u64s, hk]
theorem take (h : Rd w B A xs) (k : Nat) : Rd w B A (xs.take k) := fun hn => by
  obtain ⟨g, o, e, hb, hc⟩ := h (by intro h0; apply hn; simp [h0])
  refine ⟨g, o, e, hb, fun j u hu => hc j u ?_⟩
  rw [List.getElem?_take] at hu
  split at hu
  · exact hu
  · cases hu
theorem drop {g o : Nat} (h : Rd w B (some ⟨g, o, none⟩) xs) (k : Nat) : Rd w B (some ⟨g, o + k, none⟩) (xs.drop k) := fun hn => by
  obtain ⟨g', o', e, hb, hc⟩ := h (by intro h0; apply hn; simp [h0])
  injection e with e
  injection e with e1 e2
  subst e1 e2
  refine ⟨_, _, rfl, hb, fun j u hu => ?_⟩
  rw [List.getElem?_drop] at hu
  rw [Nat.add_assoc]
  exact hc _ u hu
/-- where it begins -/
theorem at_ (h : Rd w B A xs) (hn : xs ≠ []) : ∃ g o, A = some ⟨g, o, none⟩ := by
  obtain ⟨g, o, e, _, _⟩ := h hn
  exact ⟨g, o, e⟩
end Rd

/-- What an owned row is as a value. -/
theorem own_form {w : World} {base : Nat} {e : TypeId} {v : Value} {n : Nat} {xs : List Value} (h : w.ownsRow base e 1 v n xs) :
    ∃ A c, v = .slice A n c ∧ n ≤ c ∧ c ≤ maxLen ∧ xs.length = n ∧ Rd w w.heap.size A xs ∧ (A = none → c = 0) := by
  have hl := h.1
  rcases h.2 with ⟨rfl, rfl⟩ | ⟨g, cap, cur, rfl, hb, hh, hnc, hm, hs, ht⟩
  · refine ⟨none, 0, rfl, Nat.le_refl _, Nat.zero_le _, by omega, ?_, fun _ => rfl⟩
    obtain rfl : xs = [] := List.eq_nil_of_length_eq_zero (by omega)
    exact Rd.nil _ _ _
  · exact ⟨_, _, rfl, hnc, hm, by omega, Rd.of_own h, fun h => by cases h⟩

/-- A slice that came in. -/
theorem row8 {w : World} {a : Option Addr} {len cap : Nat} {zs : List Int}
    (h : (a = none ∧ len = 0 ∧ cap = 0 ∧ zs = []) ∨ ∃ x, a = some x ∧ len ≤ cap ∧ cap ≤ maxLen ∧ zs.length = cap ∧ (∀ i, i < zs.length → w.cell? (x.add i) = some (.int .u8 (zs.getD i 0))) ∧ ∀ n ∈ zs, (Lit.int .u8 n).wf = true) :
    ∃ bs : List Nat, bs.length = len ∧ (∀ b ∈ bs, b < 256) ∧ Rd w w.heap.size a (u8s bs) ∧ len ≤ cap ∧ cap ≤ maxLen ∧ (a = none → cap = 0) := by
  rcases h with ⟨rfl, rfl, rfl, rfl⟩ | ⟨x, rfl, hl, hm, hz, hc, hw⟩
  · exact ⟨[], rfl, by simp, Rd.nil _ _ _, by omega, by omega, fun _ => rfl⟩
  · have hwf : ∀ n ∈ zs, 0 ≤ n ∧ n ≤ 255 := fun n hn => by simpa [Lit.wf, IntKind.min, IntKind.max, IntKind.signed, IntKind.bits] using hw n hn
    refine ⟨(zs.take len).map Int.toNat, by simp; omega, ?_, fun hne => ?_, hl, hm, fun h => by cases h⟩
    · intro b hb
      simp only [List.mem_map] at hb
      obtain ⟨n, hn, rfl⟩ := hb
      have := hwf n (List.mem_of_mem_take hn)
      omega
    · have hpos : 0 < zs.length := by
        rcases Nat.eq_zero_or_pos zs.length with h0 | h0
        · exfalso; apply hne; simp [u8s, List.eq_nil_of_length_eq_zero h0]
        · exact h0
      obtain ⟨b, off, spot⟩ := x
      have h0 := hc 0 hpos
      have hspot : spot = none := by simpa [Addr.add] using World.cell?_spot h0
      subst hspot
      refine ⟨b, off, rfl, World.block_lt_of_cell? w _ (by simpa [Addr.add] using h0), fun j u hu => ?_⟩
      have hj : j < len := by
        have := (List.getElem?_eq_some_iff.1 hu).1
        simp [u8s] at this
        omega
      have h1 := hc j (by omega)
      have e1 : (⟨b, off, none⟩ : Addr).add j = ⟨b, off + j, none⟩ := by
        rcases Nat.eq_zero_or_pos j with h2 | h2
        · subst h2; simp [Addr.add]
        · simp [Addr.add, Nat.ne_of_gt h2]
      rw [e1] at h1
      rw [h1]
      have hu2 : u = .int .u8 ((zs[j]'(by omega)).toNat : Int) := by
        simp only [u8s, List.map_map, List.getElem?_map] at hu
        rw [List.getElem?_take_of_lt hj, List.getElem?_eq_getElem (by omega)] at hu
        simpa using hu.symm
      rw [hu2]
      have h3 := hwf _ (List.getElem_mem (l := zs) (n := j) (by omega))
      rw [List.getD_eq_getElem?_getD, List.getElem?_eq_getElem (by omega)]
      simp only [Option.getD_some, Option.some.injEq, Value.int.injEq, true_and]
      omega

theorem row64 {w : World} {a : Option Addr} {len cap : Nat} {zs : List Int}
    (h : (a = none ∧ len = 0 ∧ cap = 0 ∧ zs = []) ∨ ∃ x, a = some x ∧ len ≤ cap ∧ cap ≤ maxLen ∧ zs.length = cap ∧ (∀ i, i < zs.length → w.cell? (x.add i) = some (.int .u64 (zs.getD i 0))) ∧ ∀ n ∈ zs, (Lit.int .u64 n).wf = true) :
    ∃ bs : List Nat, bs.length = len ∧ (∀ b ∈ bs, b ≤ 18446744073709551615) ∧ Rd w w.heap.size a (u64s bs) ∧ len ≤ cap ∧ cap ≤ maxLen ∧ (a = none → cap = 0) := by
  rcases h with ⟨rfl, rfl, rfl, rfl⟩ | ⟨x, rfl, hl, hm, hz, hc, hw⟩
  · exact ⟨[], rfl, by simp, Rd.nil _ _ _, by omega, by omega, fun _ => rfl⟩
  · have hwf : ∀ n ∈ zs, 0 ≤ n ∧ n ≤ 18446744073709551615 := fun n hn => by simpa [Lit.wf, IntKind.min, IntKind.max, IntKind.signed, IntKind.bits] using hw n hn
    refine ⟨(zs.take len).map Int.toNat, by simp; omega, ?_, fun hne => ?_, hl, hm, fun h => by cases h⟩
    · intro b hb
      simp only [List.mem_map] at hb
      obtain ⟨n, hn, rfl⟩ := hb
      have := hwf n (List.mem_of_mem_take hn)
      omega
    · have hpos : 0 < zs.length := by
        rcases Nat.eq_zero_or_pos zs.length with h0 | h0
        · exfalso; apply hne; simp [u64s, List.eq_nil_of_length_eq_zero h0]
        · exact h0
      obtain ⟨b, off, spot⟩ := x
      have h0 := hc 0 hpos
      have hspot : spot = none := by simpa [Addr.add] using World.cell?_spot h0
      subst hspot
      refine ⟨b, off, rfl, World.block_lt_of_cell? w _ (by simpa [Addr.add] using h0), fun j u hu => ?_⟩
      have hj : j < len := by
        have := (List.getElem?_eq_some_iff.1 hu).1
        simp [u64s] at this
        omega
      have h1 := hc j (by omega)
      have e1 : (⟨b, off, none⟩ : Addr).add j = ⟨b, off + j, none⟩ := by
        rcases Nat.eq_zero_or_pos j with h2 | h2
        · subst h2; simp [Addr.add]
        · simp [Addr.add, Nat.ne_of_gt h2]
      rw [e1] at h1
      rw [h1]
      have hu2 : u = .int .u64 ((zs[j]'(by omega)).toNat : Int) := by
        simp only [u64s, List.map_map, List.getElem?_map] at hu
        rw [List.getElem?_take_of_lt hj, List.getElem?_eq_getElem (by omega)] at hu
        simpa using hu.symm
      rw [hu2]
      have h3 := hwf _ (List.getElem_mem (l := zs) (n := j) (by omega))
      rw [List.getD_eq_getElem?_getD, List.getElem?_eq_getElem (by omega)]
      simp only [Option.getD_some, Option.some.injEq, Value.int.injEq, true_and]
      omega

/-- what the call owns stays so behind a call that only makes memory -/
theorem own_below {w w' : World} {base : Nat} {e : TypeId} {size : Nat} {v : Value} {n : Nat} {xs : List Value} (h : w.ownsRow base e size v n xs) (hb : Below w.heap.size w w') : w'.ownsRow base e size v n xs := by
  refine ⟨h.1, ?_⟩
  rcases h.2 with h2 | ⟨g, cap, cur, hv, hg, hh, r⟩
  · exact .inl h2
  · refine .inr ⟨g, cap, cur, hv, hg, ?_, r⟩
    rw [hb.block g ?_]
    · exact hh
    · rcases Nat.lt_or_ge g w.heap.size with hlt | hge
      · exact hlt
      · rw [Array.getElem?_eq_none hge] at hh; cases hh

/-- append onto a row of the call's own, from whatever can be read -/
theorem app_own {P : Program} {w : World} {ops : Array Oper} {rest : List Oper} {o : Oper} {a : Act} {Q : Exit → Act → World → Prop} (hgd : o.guard = none) (s x : Operand) (t : TypeId)
    (ho : o.op = .call { callee := .builtin .append, args := #[s, x], argTypes := #[t, t] })
    (base : Nat) (e : TypeId) (i : TypeInfo) (z : Value) (bytes : Nat) (ht : P.underlying t = some (.slice e)) (hi : P.info? e = some i) (hz : i.zero = some z)
    (hsize : i.size = 1) (hby : i.bytes = bytes) (hzs : z.cells.size = 1)
    (v : Value) (n : Nat) (xs : List Value) (hs : a.eval s = v) (hown : w.ownsRow base e 1 v n xs)
    (B : Nat) (A : Option Addr) (m c : Nat) (news : List Value) (hx : a.eval x = .slice A m c) (hl : news.length = m) (hr : Rd w B A news) (hnone : A = none → c = 0) (h1 : ∀ u ∈ news, u.oneCell' = true)
    (h63 : n + m ≤ maxLen) (hbytes : (n + m) * bytes ≤ 140737488355328) (hbase : base ≤ w.heap.size)
    (h : ∀ v' w', w'.ownsRow base e 1 v' (n + m) (xs ++ news) → w.grownBy w' v.ownBlock → (v ≠ .slice none 0 0 → v' ≠ .slice none 0 0) → wpList P ops Q rest (a.put o.dst v') w') : wpList P ops Q (o :: rest) a w := by
  cases A with
  | none =>
    have hn : news = [] := by
      rcases Classical.em (news = []) with h0 | h0
      · exact h0
      · obtain ⟨g, o, he, _⟩ := hr h0; cases he
    subst hn
    have hm : m = 0 := by simpa using hl.symm
    have hc := hnone rfl
    subst hm hc
    exact wpList_append_own_none hgd s x t ho base e i 1 ht hi v n xs hs hown hx (h v w (by simpa using hown) (World.grownBy.refl w _) id)
  | some ad =>
    refine wpList_append_own _ hgd s x t ho base e i z 1 bytes ht hi hz hsize hby hzs (by omega) v n xs hs hown ad m c news hx (by omega) (fun j u hu => ?_) h1 h63 hbytes hbase fun v' w' h2 h3 h4 => h v' w' h2 h3 (fun hne he => hne (h4.1 he).1)
    obtain ⟨g, o, he, _, hc⟩ := hr (by intro h0; simp [h0] at hu)
    injection he with he
    subst he
    have h5 := hc j u hu
    rcases Nat.eq_zero_or_pos j with h2 | h2
    · subst h2; simpa [Addr.add] using h5
    · simpa [Addr.add, Nat.ne_of_gt h2] using h5
theorem u8s_one (bs : List Nat) : ∀ u ∈ u8s bs, u.oneCell' = true := by
  intro u hu
  simp only [u8s, List.mem_map] at hu
  obtain ⟨b, _, rfl⟩ := hu
  rfl
/-- The empty slice that a literal is. -/
theorem own_lit0 (w : World) (e : TypeId) (base : Nat) (hb : base ≤ w.heap.size) : (w.alloc (.cells #[] e)).ownsRow base e 1 (.slice (some ⟨w.heap.size, 0, none⟩) 0 0) 0 [] :=
  World.ownsRow_made w #[] 0 hb (Nat.zero_le _) rfl

theorem below_trans {B : Nat} {a b c : World} (h : Below a.heap.size a b) (k : Below b.heap.size b c) (hB : B ≤ a.heap.size) : Below B a c :=
  (h.mono hB).trans (k.mono (Nat.le_trans hB h.size))
theorem below_drewN {B : Nat} {a w : World} (h : Below B a w) (n : Nat) : Below B a (w.drewN n) := ⟨h.os, h.tape, h.output, h.size, h.block⟩
/-- One new cell behind a world. -/
theorem one_new (w : World) (x : Value) (t : TypeId) : ∀ (j : Nat) (u : Value), [x][j]? = some u → (w.alloc (.cells #[x] t)).cell? ((⟨w.heap.size, 0, none⟩ : Addr).add j) = some u := by
  intro j u hj
  match j, hj with
  | 0, hj => simp at hj; subst hj; simp [Addr.add]
theorem one_cell {x : Value} (h : x.oneCell' = true) : ∀ u ∈ [x], u.oneCell' = true := by
  intro u hu
  simp at hu
  subst hu
  exact h
theorem ret_eq {a b : Value} (h : a = b) : Ending.returned a = .returned b := by rw [h]
theorem Rd.new (w : World) (cs : Array Value) (t : TypeId) : Rd (w.alloc (.cells cs t)) (w.heap.size + 1) (some ⟨w.heap.size, 0, none⟩) cs.toList := fun hn =>
  ⟨_, _, rfl, by omega, fun j u hu => by
    have h := cell_of_row (w.alloc (.cells cs t)) w.heap.size (0 + j) cs t (0, 0) (heap_alloc_new w _)
    rw [h]
    simpa using hu⟩
theorem Rd.new8 (w : World) (t : TypeId) (bs : List Nat) (cs : Array Value) (h : u8s bs = cs.toList) : Rd (w.alloc (.cells cs t)) (w.heap.size + 1) (some ⟨w.heap.size, 0, none⟩) (u8s bs) := by
  rw [h]; exact Rd.new w cs t
theorem Rd.new64 (w : World) (t : TypeId) (bs : List Nat) (cs : Array Value) (h : u64s bs = cs.toList) : Rd (w.alloc (.cells cs t)) (w.heap.size + 1) (some ⟨w.heap.size, 0, none⟩) (u64s bs) := by
  rw [h]; exact Rd.new w cs t

/-- Bytes that some call made: of so many, so, in that world. -/
def Made (w' : World) (v : Value) (bs : List Nat) (k : Nat) : Prop := ∃ A c, v = .slice A k c ∧ Rd w' w'.heap.size A (u8s bs) ∧ bs.length = k ∧ k ≤ c ∧ c ≤ maxLen ∧ (∀ b ∈ bs, b < 256) ∧ (A = none → c = 0)
theorem Made.keep {w w' : World} {v : Value} {bs : List Nat} {k : Nat} (h : Made w v bs k) (hb : Below w.heap.size w w') : Made w' v bs k := by
  obtain ⟨A, c, e, hr, hk, h1, h2, h3⟩ := h
  exact ⟨A, c, e, (hr.below hb).more hb.size, hk, h1, h2, h3⟩

theorem made_of_own {w : World} {base : Nat} {e : TypeId} {v : Value} {n k : Nat} {bs : List Nat} (h : w.ownsRow base e 1 v n (u8s bs)) (hk : bs.length = k) (h256 : ∀ b ∈ bs, b < 256) : Made w v bs k := by
  obtain ⟨A, c, rfl, h1, h2, h3, h4, h5⟩ := own_form h
  have : n = k := by rw [← h3]; simpa using hk
  subst this
  exact ⟨A, c, rfl, h4, hk, h1, h2, h256, h5⟩
/-- What is known of a world: nothing that was there at first has turned; T holds; these slices read so. -/
def Know (T : World → Prop) (w0 w : World) (ls : List (Option Addr × List Value)) : Prop := Below w0.heap.size w0 w ∧ T w ∧ ∀ x, x ∈ ls → Rd w w.heap.size x.1 x.2
def Keeps (T : World → Prop) : Prop := ∀ w w', T w → Below w.heap.size w w' → T w'
namespace Know
variable {T : World → Prop} {w0 w w' : World} {ls : List (Option Addr × List Value)}
theorem start (h : T w) : Know T w w [] := ⟨Below.refl _ _, h, fun x hx => absurd hx (by simp)⟩
theorem below (h : Know T w0 w ls) : Below w0.heap.size w0 w := h.1
theorem has (h : Know T w0 w ls) : T w := h.2.1
theorem rd (h : Know T w0 w ls) {A : Option Addr} {xs : List Value} (hm : (A, xs) ∈ ls) : Rd w w.heap.size A xs := h.2.2 _ hm
theorem step (hT : Keeps T) (h : Know T w0 w ls) (hb : Below w.heap.size w w') : Know T w0 w' ls :=
  ⟨h.1.trans (hb.mono h.1.size), hT _ _ h.2.1 hb, fun x hx => ((h.2.2 x hx).below hb).more hb.size⟩
theorem add (h : Know T w0 w ls) {A : Option Addr} {xs : List Value} (hr : Rd w w.heap.size A xs) : Know T w0 w ((A, xs) :: ls) :=
  ⟨h.1, h.2.1, fun x hx => by
    rcases List.mem_cons.1 hx with rfl | hx
    · exact hr
    · exact h.2.2 x hx⟩
theorem alloc (hT : Keeps T) (h : Know T w0 w ls) (o : Obj) : Know T w0 (w.alloc o) ls := h.step hT ((Below.refl _ w).alloc (Nat.le_refl _) o)
theorem drewN (hT : Keeps T) (h : Know T w0 w ls) (q : Nat) : Know T w0 (w.drewN q) ls := h.step hT (below_drewN (Below.refl _ w) q)
theorem drew (hT : Keeps T) (h : Know T w0 w ls) : Know T w0 w.drew ls := h.step hT ((Below.refl _ w).drew)
/-- a literal, and what is known behind it -/
theorem lit (hT : Keeps T) (h : Know T w0 w ls) (cs : Array Value) (t : TypeId) (xs : List Value) (hx : xs = cs.toList) : Know T w0 (w.alloc (.cells cs t)) ((some ⟨w.heap.size, 0, none⟩, xs) :: ls) :=
  (h.alloc hT _).add ((by rw [hx]; exact Rd.new w cs t : Rd _ (w.heap.size + 1) _ xs).more (by simp))
theorem lit' (hT : Keeps T) (h : Know T w0 w ls) (cs : Array Value) (t : TypeId) (xs : List Value) (hx : xs = cs.toList) (B : Nat) (hB : B = w.heap.size) : Know T w0 (w.alloc (.cells cs t)) ((some ⟨B, 0, none⟩, xs) :: ls) := by
  subst hB
  exact h.lit hT cs t xs hx
end Know
theorem Rd.newm (w : World) (cs : Array Value) (t : TypeId) (m : Nat × Nat) : Rd (w.alloc (.cells cs t m)) (w.heap.size + 1) (some ⟨w.heap.size, 0, none⟩) cs.toList := fun hn =>
  ⟨_, _, rfl, by omega, fun j u hu => by
    have h := cell_of_row (w.alloc (.cells cs t m)) w.heap.size (0 + j) cs t m (heap_alloc_new w _)
    rw [h]
    simpa using hu⟩
end Go.Proofs.Ytjaifieakcnlmaa

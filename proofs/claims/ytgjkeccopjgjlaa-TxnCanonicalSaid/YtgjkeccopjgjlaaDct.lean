/- dict: what memory holds of a dictionary; New, At, Keys. -/
import Derived.Test.YtgjkeccopjgjlaaOnl
import Derived.Test.YtgjkeccopjgjlaaDm
import Derived.Test.YtgjkeccopjgjlaaShelf
import Derived.Handy
import Derived.StringKeys
import Derived.Laws.EntriesVeiled
namespace Go.Proofs.Ytgjkeccopjgjlaa
open Go.ChangeShapes Go.WideShapes Go.ChangeAt Go.RowKit Go.Maps
set_option linter.unusedVariables false
set_option linter.unusedSimpArgs false

theorem KS : Keyed Try.prog 9 := string_keyed Try.underlying9
theorem keyS {k : ByteArray} (hk : k.size ≤ maxLen) : keyOf Try.prog 9 (.string k) = some (Dm.lit k) := WideMaps.keyOf_string_mk Try.underlying9 hk
theorem zeroI (w : World) : (zeroValue 3).run Try.prog w = .ok (.int .i64 0) w := by kernel_rfl

set_option maxRecDepth 100000 in
theorem look_has {w : World} {m n : Nat} {D : Dm.DU} {ks : List ByteArray} (h : w.ownsMap Try.prog 9 (plainElem Try.prog 3) m n D) (hD : Dm.DI D ks) {k : ByteArray} {i : Nat} (hk : k.size ≤ maxLen) (hp : Dm.plc ks k = some i) :
    (Instr.lookup 104 (.map (some m)) (.string k) true).run Try.prog w = .ok (.tuple #[.int .i64 (i : Int), .bool true]) w := by
  obtain ⟨v, ps, hrun, hv⟩ := h.look_ok KS Try.underlying104 (zeroI w) (zd := .lit (.int .i64 0)) (zp := []) (plainElem_int Try.underlying3 (by decide)) (keyS hk)
  obtain ⟨a, rfl, ha, _⟩ := plainElem_int_inv Try.underlying3 hv
  obtain ⟨h1, h2⟩ := hD.2.2.2.1 k i hp
  rw [h2] at ha
  injection ha with ha _
  injection ha with ha
  injection ha with _ ha
  rw [hrun, h1, ← ha]
set_option maxRecDepth 100000 in
theorem look_no {w : World} {m n : Nat} {D : Dm.DU} {ks : List ByteArray} (h : w.ownsMap Try.prog 9 (plainElem Try.prog 3) m n D) (hD : Dm.DI D ks) {k : ByteArray} (hk : k.size ≤ maxLen) (hp : Dm.plc ks k = none) :
    ∃ c : Int, (Instr.lookup 104 (.map (some m)) (.string k) true).run Try.prog w = .ok (.tuple #[.int .i64 c, .bool false]) w := by
  obtain ⟨v, ps, hrun, hv⟩ := h.look_ok KS Try.underlying104 (zeroI w) (zd := .lit (.int .i64 0)) (zp := []) (plainElem_int Try.underlying3 (by decide)) (keyS hk)
  obtain ⟨a, rfl, ha, _⟩ := plainElem_int_inv Try.underlying3 hv
  rw [hD.2.2.2.2 k hp] at hrun
  exact ⟨a, hrun⟩

def dcs (v : Value) (e m : Nat) : Array Value := #[v, .int .i64 (e : Int), .map (some m)]
/-- block g is a dictionary of these keys, whose next place is e, in the blocks of S -/
def DictM (w : World) (g : Nat) (S : Nat → Prop) (ks : List ByteArray) (e : Nat) : Prop :=
  ∃ v m D, Blk w g 106 (dcs v e m) ∧ w.ownsRow 0 9 1 v ks.length (ks.map .string) ∧ w.ownsMap Try.prog 9 (plainElem Try.prog 3) m 8 D ∧ Dm.DI D ks ∧ Dm.Ok ks e ∧ ∀ j, S j ↔ (j = g ∨ j = m ∨ v.ownBlock = some j)
theorem DictM.only {w w' : World} {g : Nat} {S T : Nat → Prop} {ks : List ByteArray} {e : Nat} (h : DictM w g S ks e) (ho : Only T w w') (hT : ∀ j, T j → S j → False) : DictM w' g S ks e := by
  obtain ⟨v, m, D, h1, h2, h3, h4, h5, h6⟩ := h
  exact ⟨v, m, D, ho.blk h1 (fun ht => hT _ ht ((h6 g).2 (.inl rfl))), ho.own h2 (fun j hj ht => hT _ ht ((h6 j).2 (.inr (.inr hj)))), ho.map h3 (fun ht => hT _ ht ((h6 m).2 (.inr (.inl rfl)))), h4, h5, h6⟩
theorem DictM.lt {w : World} {g : Nat} {S : Nat → Prop} {ks : List ByteArray} {e : Nat} (h : DictM w g S ks e) : ∀ j, S j → j < w.heap.size := by
  obtain ⟨v, m, D, h1, h2, h3, h4, h5, h6⟩ := h
  intro j hj
  rcases (h6 j).1 hj with rfl | rfl | hj
  · exact h1.lt
  · exact h3.lt
  · exact own_lt h2 j hj
theorem DictM.below {w w' : World} {g : Nat} {S : Nat → Prop} {ks : List ByteArray} {e : Nat} (h : DictM w g S ks e) (hb : Below w.heap.size w w') : DictM w' g S ks e := h.only (Only.of_below (S := fun _ => False) hb) (fun _ h _ => h)
theorem DictM.ok {w : World} {g : Nat} {S : Nat → Prop} {ks : List ByteArray} {e : Nat} (h : DictM w g S ks e) : Dm.Ok ks e := by
  obtain ⟨v, m, D, h1, h2, h3, h4, h5, h6⟩ := h
  exact h5
theorem DictM.self {w : World} {g : Nat} {S : Nat → Prop} {ks : List ByteArray} {e : Nat} (h : DictM w g S ks e) : S g := by
  obtain ⟨v, m, D, h1, h2, h3, h4, h5, h6⟩ := h
  exact (h6 g).2 (.inl rfl)
def DNewPost (w : World) (e : Ending) (w' : World) : Prop := ∃ g S, e = .returned (.pointer (some ⟨g, 0, none⟩)) ∧ DictM w' g S [] 0 ∧ (∀ j, S j → w.heap.size ≤ j) ∧ Below w.heap.size w w'
theorem dnew_post (w : World) : DNewPost w (.returned (.pointer (some ⟨w.heap.size + 1, 0, none⟩))) ((w.alloc (.map #[] 0)).alloc (.cells #[.slice none 0 0, .int .i64 0, .map (some w.heap.size)] 106)) := by
  refine ⟨w.heap.size + 1, fun j => j = w.heap.size + 1 ∨ j = w.heap.size, rfl, ⟨.slice none 0 0, w.heap.size, .map [], Blk.new' _ _ _ (by simp), World.ownsRow_nil _ _ _ _, ?_, Dm.DI_nil, Dm.Ok.nil, fun j => ?_⟩, fun j hj => by omega, ((Below.refl _ _).alloc (Nat.le_refl _) _).alloc (by simp) _⟩
  · exact ((World.ownsMap_made w Try.prog 9 (plainElem Try.prog 3)).mono (Nat.zero_le _)).alloc _
  · simp [Value.ownBlock]
set_option maxHeartbeats 1000000 in
theorem DNew_any (w : World) : Calls Try.prog 40 #[] w (DNewPost w) := by
  have HP := Lib.hid (dnew_post w)
  have hmm := @run_makeMap Try.prog
  go_enter Try.func40, Try.ntmps40
  go_wp2
  go_ret
  exact HP.out
/-- a row of texts that can be read -/
def StrR (w : World) (v : Value) (ks : List ByteArray) : Prop := ∃ A c, v = .slice A ks.length c ∧ Rd w w.heap.size A (ks.map Value.string) ∧ ks.length ≤ c ∧ c ≤ maxLen
theorem StrR.below {w w' : World} {v : Value} {ks : List ByteArray} (h : StrR w v ks) (hb : Below w.heap.size w w') : StrR w' v ks := by
  obtain ⟨A, c, h1, h2, h3⟩ := h
  exact ⟨A, c, h1, (h2.below hb).more hb.size, h3⟩
theorem own_base {w : World} {B B' : Nat} {e : TypeId} {s : Nat} {v : Value} {n : Nat} {xs : List Value} (h : w.ownsRow B e s v n xs) (hB : B' ≤ B) : w.ownsRow B' e s v n xs := by
  refine ⟨h.1, ?_⟩
  rcases h.2 with h2 | ⟨g, cap, cur, hv, hb, r⟩
  · exact .inl h2
  · exact .inr ⟨g, cap, cur, hv, by omega, r⟩
theorem CloneS_any (w : World) (A : Option Addr) (c : Nat) (ks : List ByteArray) (h2 : w.ownsRow 0 9 1 (.slice A ks.length c) ks.length (ks.map .string)) (hlen : ks.length ≤ 1000000) :
    Calls Try.prog 68 #[.slice A ks.length c] w fun e w' => ∃ A' c', e = .returned (.slice A' ks.length c') ∧ w'.ownsRow w.heap.size 9 1 (.slice A' ks.length c') ks.length (ks.map .string) ∧ Below w.heap.size w w' := by
  obtain ⟨A', c', hv, hnc, hcm, -, hr, hnone⟩ := own_form h2
  injection hv with e1 _ e2
  subst e1 e2
  cases A with
  | none =>
    obtain rfl : c = 0 := hnone rfl
    obtain rfl : ks = [] := List.eq_nil_of_length_eq_zero (by omega)
    refine (Try.slices_Clone_string_nil 0 0 w).mono ?_
    rintro e w' ⟨rfl, rfl⟩
    exact ⟨none, 0, rfl, World.ownsRow_nil _ _ _ _, Below.refl _ _⟩
  | some a =>
    by_cases h0 : ks = []
    · subst h0
      refine (Try.slices_Clone_string_zero a c w).mono ?_
      rintro e w' ⟨v', rfl, ho, -, hb⟩
      obtain ⟨A', c', rfl, q1, q2, q3, q4, q5⟩ := own_form ho
      exact ⟨A', c', rfl, ho, hb⟩
    · obtain ⟨r, o, ha⟩ := hr.at_ (by simpa using h0)
      injection ha with ha
      subst ha
      obtain ⟨r', o', he, hlt, hcell⟩ := hr (by simpa using h0)
      injection he with he
      injection he with e1 e2
      subst e1 e2
      refine (Try.slices_Clone_string r o ks.length c ks w (Nat.le_refl _) (by omega) (fun j hj => hcell j _ (by simp [hj]))).mono ?_
      rintro e w' ⟨v', rfl, ho, -, hb⟩
      rw [List.take_length] at ho
      obtain ⟨A', c', rfl, q1, q2, q3, q4, q5⟩ := own_form ho
      exact ⟨A', c', rfl, ho, hb⟩
def KeysPost (w : World) (ks : List ByteArray) (e : Ending) (w' : World) : Prop := ∃ v, e = .returned v ∧ StrR w' v ks ∧ (∀ g o n c, v = .slice (some ⟨g, o, none⟩) n c → w.heap.size ≤ g) ∧ Below w.heap.size w w'
end Go.Proofs.Ytgjkeccopjgjlaa

/- slices.IndexFunc, slices.ContainsFunc of writes; txn.Check. -/
import Derived.Test.YtgjkeccopjgjlaaTck
import Derived.Test.YtgjkeccopjgjlaaCput
import Derived.BigQuiet
namespace Go.Proofs.Ytgjkeccopjgjlaa
open Go.ChangeShapes Go.WideShapes Go.ChangeAt Go.RowKit
set_option linter.unusedVariables false
set_option linter.unusedSimpArgs false

def IdxP (w : World) (p : Wr → Bool) (ws : List Wr) (e : Ending) (w' : World) : Prop := ∃ z : Int, e = .returned (.int .i64 z) ∧ (0 ≤ z ↔ ws.any p = true) ∧ Below w.heap.size w w'
theorem idx_yes {w w' : World} {p : Wr → Bool} {ws : List Wr} {k : Nat} {x : Wr} (h : ws[k]? = some x) (hp : p x = true) (hb : Below w.heap.size w w') : IdxP w p ws (.returned (.int .i64 (k : Int))) w' :=
  ⟨k, rfl, ⟨fun _ => List.any_eq_true.2 ⟨x, List.mem_of_getElem? h, hp⟩, fun _ => by omega⟩, hb⟩
theorem idx_no {w w' : World} {p : Wr → Bool} {ws : List Wr} (h : Hid (∀ (j : Nat) x, j < ws.length → ws[j]? = some x → p x = false)) (hb : Below w.heap.size w w') : IdxP w p ws (.returned (.int .i64 (-1))) w' :=
  ⟨-1, rfl, ⟨fun h0 => absurd h0 (by decide), fun h1 => by
    obtain ⟨x, hx, hp⟩ := List.any_eq_true.1 h1
    obtain ⟨j, hj⟩ := List.getElem?_of_mem hx
    rw [h.out j x (List.getElem?_eq_some_iff.1 hj).1 hj] at hp
    cases hp⟩, hb⟩
def IdxRel (w : World) (p : Wr → Bool) (ws : List Wr) (s8 : Value) (wr : World) : Prop :=
  ∃ k : Nat, s8 = .int .i64 (k : Int) ∧ k ≤ ws.length ∧ Hid (∀ (j : Nat) x, j < k → ws[j]? = some x → p x = false) ∧ Below w.heap.size w wr
set_option maxHeartbeats 1000000 in
theorem IndexFunc_any (F : Nat) (p : Wr → Bool) (eg : ∀ args w, (callFunc F args).run Try.prog w = .ok (.enter F args) w) (hF : ∀ (w : World) (x : Wr), Calls Try.prog F #[aggW x] w (BoolP w (p x))) (w : World) (A : Option Addr) (len cap : Nat) (ws : List Wr) (hr : WrR w w.heap.size A ws) (hn : ws.length = len) (hl : len ≤ 1099511627776) :
    Calls Try.prog 61 #[.slice A len cap, .func (.func F) #[] #[]] w (IdxP w p ws) := by
  subst hn
  have HR := Lib.hid hr
  have HB0 := Lib.hid (Below.refl w.heap.size w)
  clear hr
  go_enter Try.func61, Try.ntmps61
  go_wp2
  go_loopw [8] (fun s8 wr => IdxRel w p ws s8 wr) (fun s8 _ => ws.length - (intOf s8).toNat)
  case atStart => exact ⟨0, rfl, by omega, Lib.hid (fun j x hj => absurd hj (by omega)), HB0.out⟩
  case round =>
    clear HB0
    obtain ⟨k, rfl, hk, hall, hbel⟩ := hrel
    have HB := Lib.hid hbel
    by_cases hlt : k < ws.length
    · obtain ⟨g, o, x, rfl, hg, hx, c0, c1, c2⟩ := (WrR.below HR.out hbel).row hlt
      have hgw : g < wr.heap.size := World.block_lt_of_cell? _ _ c0
      have hltI : (k : Int) < (ws.length : Int) := by omega
      have HX := Lib.hid hx
      have HC := Lib.hid (hF wr x)
      have hbs := hbel.size
      clear hbel hx hF
      have hcall := fun args => eg args wr
      clear eg
      by_cases hp : p x = true
      · have hp' := Lib.hid hp
        rw [hp] at HC
        clear hp
        go_wp2_with fail
        refine HC.out.mono ?_
        rintro e w1 ⟨rfl, hb⟩
        have HP := Lib.hid (idx_yes HX.out hp'.out (HB.out.trans (hb.mono hbs)))
        go_wp2
        go_ret
        exact HP.out
      · have hp1 : p x = false := by simpa using hp
        have hp' := Lib.hid hp1
        rw [hp1] at HC
        clear hp hp1
        go_wp2_with fail
        refine HC.out.mono ?_
        rintro e w1 ⟨rfl, hb⟩
        have HP : Hid (Below w.heap.size w w1) := Lib.hid (HB.out.trans (hb.mono hbs))
        have HA : Hid (∀ (j : Nat) x, j < k + 1 → ws[j]? = some x → p x = false) := Lib.hid (fun j y hj hy => by
          by_cases hjk : j < k
          · exact hall.out j y hjk hy
          · obtain rfl : j = k := by omega
            rw [HX.out] at hy
            cases hy
            exact hp'.out)
        clear hall
        go_wp2
        go_roundw
        case rel => exact ⟨k + 1, by go_num, by omega, HA, HP.out⟩
        case measure => simp [intOf]; omega
    · obtain rfl : k = ws.length := by omega
      have HP := Lib.hid (idx_no hall HB.out)
      clear hall hbel HB hF eg
      go_wp2
      go_ret
      exact HP.out
set_option maxHeartbeats 1000000 in
theorem ContainsFunc_any (F : Nat) (p : Wr → Bool) (eg : ∀ args w, (callFunc F args).run Try.prog w = .ok (.enter F args) w) (hF : ∀ (w : World) (x : Wr), Calls Try.prog F #[aggW x] w (BoolP w (p x))) (w : World) (A : Option Addr) (len cap : Nat) (ws : List Wr) (hr : WrR w w.heap.size A ws) (hn : ws.length = len) (hl : len ≤ 1099511627776) :
    Calls Try.prog 42 #[.slice A len cap, .func (.func F) #[] #[]] w (BoolP w (ws.any p)) := by
  have HC := Lib.hid (IndexFunc_any F p eg hF w A len cap ws hr hn hl)
  clear hr hF
  go_enter Try.func42, Try.ntmps42
  go_wp2_with fail
  refine HC.out.mono ?_
  rintro e w1 ⟨z, rfl, hz, hb⟩
  have HB := Lib.hid hb
  clear hb HC
  cases hp : ws.any p with
  | true =>
    have h1 : (0 : Int) ≤ z := hz.2 hp
    have HP : Hid (BoolP w (ws.any p) (.returned (.bool true)) w1) := Lib.hid ⟨by rw [hp], HB.out⟩
    clear hz hp
    go_wp2
    go_ret
    exact HP.out
  | false =>
    have h1 : ¬ (0 : Int) ≤ z := fun h => by rw [hz.1 h] at hp; cases hp
    have HP : Hid (BoolP w (ws.any p) (.returned (.bool false)) w1) := Lib.hid ⟨by rw [hp], HB.out⟩
    have h2 : decide ((0 : Int) ≤ z) = false := by simp [h1]
    clear hz hp
    go_wp2
    go_ret
    exact h2 ▸ HP.out
end Go.Proofs.Ytgjkeccopjgjlaa

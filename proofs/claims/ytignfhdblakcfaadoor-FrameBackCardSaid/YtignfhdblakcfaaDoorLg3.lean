/- law 3's large. -/
import Derived.Test.YtignfhdblakcfaaDoorAw3
namespace Go.Proofs.YtignfhdblakcfaaDoor
open Go.ChangeShapes Go.WideShapes Go.ChangeAt Go.RowKit
set_option linter.unusedVariables false

def Lg3Post (w : World) (ps : List (List Nat)) (e : Ending) (w' : World) : Prop := (∃ b, e = .returned (.bool b) ∧ (b = false → ps.length ≤ 20 ∧ ∀ (j : Nat) (p : List Nat), ps[j]? = some p → p.length ≤ 9000)) ∧ Below w.heap.size w w'
theorem lg3_t {w w' : World} {ps : List (List Nat)} (hb : Below w.heap.size w w') : Lg3Post w ps (.returned (.bool true)) w' := ⟨⟨true, rfl, fun h => by cases h⟩, hb⟩
def Lg3Rel (w : World) (ps : List (List Nat)) (s10 : Value) (wr : World) : Prop := ∃ k : Nat, s10 = .int .i64 (k : Int) ∧ k ≤ ps.length ∧ Hid (∀ (j : Nat) (p : List Nat), j < k → ps[j]? = some p → p.length ≤ 9000) ∧ Below w.heap.size w wr
set_option maxHeartbeats 1000000 in
set_option maxRecDepth 100000 in
theorem large3_any (w : World) (A : Option Addr) (len cap : Nat) (ps : List (List Nat)) (hr : RowsB w w.heap.size A ps) (hn : ps.length = len) (hlc : len ≤ cap) (hcm : cap ≤ maxLen) :
    Calls Tryd.prog 7 #[.slice A len cap] w (Lg3Post w ps) := by
  subst hn
  unfold maxLen at hcm
  by_cases h20 : 20 < ps.length
  · have HP := Lib.hid (lg3_t (ps := ps) (Below.refl w.heap.size w))
    clear hr
    go_enter Tryd.func7, Tryd.ntmps7
    go_wp2
    go_ret
    exact HP.out
  · have HR := Lib.hid hr; clear hr
    have HB0 := Lib.hid (Below.refl w.heap.size w)
    go_enter Tryd.func7, Tryd.ntmps7
    go_wp2
    go_loopw [10] (fun s10 wr => Lg3Rel w ps s10 wr) (fun s10 _ => ps.length - (intOf s10).toNat)
    case atStart => exact ⟨0, rfl, by omega, Lib.hid (fun j p hj => absurd hj (by omega)), HB0.out⟩
    case round =>
      obtain ⟨k, rfl, hk, hall, hbel⟩ := hrel
      have HB := Lib.hid hbel
      by_cases hlt : k < ps.length
      · obtain ⟨g, o, Ak, ck, p, rfl, hg, hp, d0, hrk, hkc, hkm, hkn, hk256⟩ := (HR.out.below hbel).row hlt
        have hgw : g < wr.heap.size := World.block_lt_of_cell? _ _ d0
        have hlt2 : (k : Int) < (ps.length : Int) := by omega
        obtain ⟨lp, hlp⟩ : ∃ lp, p.length = lp := ⟨_, rfl⟩
        rw [hlp] at d0
        have HP := Lib.hid hp; have HLP := Lib.hid hlp
        clear hrk hk256 hp hlp hkn hbel hkc
        by_cases hbig : 9000 < lp
        · have HPP := Lib.hid (lg3_t (ps := ps) HB.out)
          clear hall
          go_wp2
          go_ret
          exact HPP.out
        · have R := Lib.hid (show Lg3Rel w ps (.int .i64 ((k : Int) + 1)) wr from ⟨k + 1, by go_num, hlt, Lib.hid (fun j q hj hq => by
            by_cases hjk : j = k
            · subst hjk; rw [HP.out] at hq; cases hq; have := HLP.out; omega
            · exact hall.out j q (by omega) hq), HB.out⟩)
          clear hall
          go_wp2
          go_roundw
          case rel => exact R.out
          case measure => simp [intOf]; omega
      · obtain rfl : k = ps.length := by omega
        have HPP := Lib.hid (show Lg3Post w ps (.returned (.bool false)) wr from ⟨⟨false, rfl, fun _ => ⟨by omega, fun j p hp => hall.out j p (List.getElem?_eq_some_iff.1 hp).1 hp⟩⟩, HB.out⟩)
        clear hall hbel
        go_wp2
        go_ret
        exact HPP.out
end Go.Proofs.YtignfhdblakcfaaDoor

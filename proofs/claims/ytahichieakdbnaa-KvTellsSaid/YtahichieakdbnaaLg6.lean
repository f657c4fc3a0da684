/- law 6's Large and large. -/
import Derived.Test.YtahichieakdbnaaOp6
namespace Go.Proofs.Ytahichieakdbnaa
open Go.ChangeShapes Go.WideShapes Go.ChangeAt Go.RowKit Go.Deep
set_option linter.unusedVariables false
set_option linter.unusedSimpArgs false

def FineT (t : Txn) : Prop := t.2.2.2.length ≤ 40 ∧ ∀ (j : Nat) (x : Wr), t.2.2.2[j]? = some x → x.1.size ≤ 9000 ∧ x.2.1.size ≤ 9000
def LgTPost (w : World) (t : Txn) (e : Ending) (w' : World) : Prop := (∃ b, e = .returned (.bool b) ∧ (b = false → FineT t)) ∧ Below w.heap.size w w'
theorem lgT_t {w w' : World} {t : Txn} (hb : Below w.heap.size w w') : LgTPost w t (.returned (.bool true)) w' := ⟨⟨true, rfl, fun h => by cases h⟩, hb⟩
set_option maxHeartbeats 4000000 in
set_option maxRecDepth 100000 in
theorem LargeT_any (w : World) (o s x y z : Int) (l : List Wr) (A : Option Addr) (n c : Nat) (hr : WrR w w.heap.size A l) (hn : l.length = n) (hl : n ≤ 9223372036854775807) :
    Calls Try.prog 76 #[.agg #[.int .i64 o, .int .i64 s, .int .i64 x, .int .i64 y, .int .i64 z, .slice A n c]] w (LgTPost w (o, s, (x, y, z), l)) := by
  have hB0 := (Below.refl w.heap.size w).alloc (Nat.le_refl _) (.cells #[.int .i64 o, .int .i64 s, .int .i64 x, .int .i64 y, .int .i64 z, .slice A n c] 80)
  have HB0 := Lib.hid hB0
  have HR := Lib.hid hr; have HN := Lib.hid hn
  by_cases h40 : 40 < n
  · have h40i : (40 : Int) < (n : Int) := by omega
    have HP := Lib.hid (lgT_t (t := (o, s, (x, y, z), l)) hB0)
    clear hr hn hB0
    go_enter Try.func76, Try.ntmps76
    go_wp2
    go_ret
    exact HP.out
  · have h40i : ¬ (40 : Int) < (n : Int) := by omega
    clear hr hn hB0
    go_enter Try.func76, Try.ntmps76
    go_wp2
    obtain ⟨W, hW⟩ : ∃ W, w.alloc (.cells #[.int .i64 o, .int .i64 s, .int .i64 x, .int .i64 y, .int .i64 z, .slice A n c] 80) = W := ⟨_, rfl⟩
    rw [hW] at HB0
    try rw [hW]
    clear hW
    go_loopw [12] (fun s12 wr => ∃ k : Nat, s12 = .int .i64 (k : Int) ∧ k ≤ n ∧ Hid (∀ (j : Nat) (x : Wr), j < k → l[j]? = some x → x.1.size ≤ 9000 ∧ x.2.1.size ≤ 9000) ∧ Below w.heap.size w wr) (fun s12 _ => n - (intOf s12).toNat)
    case atStart => exact ⟨0, rfl, by omega, Lib.hid (fun j p hj => absurd hj (by omega)), HB0.out⟩
    case round =>
      clear HB0
      obtain ⟨k, rfl, hk, hall, hbel⟩ := hrel
      have HB := Lib.hid hbel
      by_cases hlt : k < n
      · obtain ⟨g, o', ⟨q1, q2, q3⟩, rfl, hg, hp, d0, d1, d2⟩ := WrR.row (WrR.below HR.out hbel) (k := k) (by rw [HN.out]; exact hlt)
        simp only at d0 d1 d2
        have hgw : g < wr.heap.size := World.block_lt_of_cell? _ _ d0
        have hltI : (k : Int) < (n : Int) := by omega
        have HP := Lib.hid hp
        have HB1 := Lib.hid (hbel.alloc hbel.size (.cells #[.string q1, .string q2, .bool q3] 82))
        clear hp hbel
        by_cases h1 : 9000 < q1.size
        · have h1i : (9000 : Int) < (q1.size : Int) := by omega
          have HPP := Lib.hid (lgT_t (t := (o, s, (x, y, z), l)) HB1.out)
          clear hall
          go_wp2
          go_ret
          exact HPP.out
        · have h1i : ¬ (9000 : Int) < (q1.size : Int) := by omega
          by_cases h2 : 9000 < q2.size
          · have h2i : (9000 : Int) < (q2.size : Int) := by omega
            have HPP := Lib.hid (lgT_t (t := (o, s, (x, y, z), l)) HB1.out)
            clear hall
            go_wp2
            go_ret
            exact HPP.out
          · have h2i : ¬ (9000 : Int) < (q2.size : Int) := by omega
            have R : Hid (∀ (j : Nat) (x : Wr), j < k + 1 → l[j]? = some x → x.1.size ≤ 9000 ∧ x.2.1.size ≤ 9000) := Lib.hid (fun j q hj hq => by
              by_cases hjk : j = k
              · subst hjk; rw [HP.out] at hq; cases hq; simp only; omega
              · exact hall.out j q (by omega) hq)
            clear hall
            go_wp2
            go_roundw
            case rel => exact ⟨k + 1, by go_num, hlt, R, HB1.out⟩
            case measure => simp [intOf]; omega
      · obtain rfl : k = n := by omega
        have HPP := Lib.hid (show LgTPost w (o, s, (x, y, z), l) (.returned (.bool false)) wr from ⟨⟨false, rfl, fun _ => ⟨by simp only; rw [HN.out]; omega, fun j p hp => hall.out j p (by have := (List.getElem?_eq_some_iff.1 hp).1; simp only at this; rw [HN.out] at this; exact this) hp⟩⟩, HB.out⟩)
        clear hall hbel
        go_wp2
        go_ret
        exact HPP.out
def FineA (a : ActT) : Prop := FineT a.2.1 ∧ a.2.2.length ≤ 9000
def Lg6Post (w : World) (ys : List ActT) (e : Ending) (w' : World) : Prop := (∃ b, e = .returned (.bool b) ∧ (b = false → ys.length ≤ 30 ∧ ∀ (j : Nat) (a : ActT), ys[j]? = some a → FineA a)) ∧ Below w.heap.size w w'
theorem lg6_t {w w' : World} {ys : List ActT} (hb : Below w.heap.size w w') : Lg6Post w ys (.returned (.bool true)) w' := ⟨⟨true, rfl, fun h => by cases h⟩, hb⟩
abbrev acs (d o s x y z : Int) (A : Option Addr) (n c : Nat) (Ab : Option Addr) (nb cb : Nat) : Array Value := #[.int .i64 d, .int .i64 o, .int .i64 s, .int .i64 x, .int .i64 y, .int .i64 z, .slice A n c, .slice Ab nb cb]
theorem Acts6.row {w : World} {B : Nat} {A : Option Addr} {ys : List ActT} (h : Acts6 w B A ys) {k : Nat} (hk : k < ys.length) : ∃ g o' d o s x y z l bs At ct Ab cb, A = some ⟨g, o', none⟩ ∧ g < B ∧ ys[k]? = some (d, (o, s, (x, y, z), l), bs) ∧
    (w.cell? ⟨g, o' + k * 8, none⟩ = some (.int .i64 d) ∧ w.cell? ⟨g, o' + k * 8 + 1, none⟩ = some (.int .i64 o) ∧ w.cell? ⟨g, o' + k * 8 + 2, none⟩ = some (.int .i64 s) ∧ w.cell? ⟨g, o' + k * 8 + 3, none⟩ = some (.int .i64 x) ∧ w.cell? ⟨g, o' + k * 8 + 4, none⟩ = some (.int .i64 y) ∧ w.cell? ⟨g, o' + k * 8 + 5, none⟩ = some (.int .i64 z) ∧ w.cell? ⟨g, o' + k * 8 + 6, none⟩ = some (.slice At l.length ct) ∧ w.cell? ⟨g, o' + k * 8 + 7, none⟩ = some (.slice Ab bs.length cb)) ∧
    (WrR w B At l ∧ l.length ≤ ct ∧ ct ≤ maxLen ∧ (At = none → ct = 0) ∧ TxB (o, s, (x, y, z), l)) ∧ Rd w B Ab (u8s bs) ∧ bs.length ≤ cb ∧ cb ≤ maxLen ∧ (Ab = none → cb = 0) ∧ (∀ b ∈ bs, b < 256) ∧ I64 d := by
  obtain ⟨g, o', ⟨d, ⟨o, s, ⟨x, y, z⟩, l⟩, bs⟩, cs, e, hg, hk', hl, ⟨At, ct, Ab, cb, rfl, r1, r2⟩, hc⟩ := StR.row h hk
  exact ⟨g, o', d, o, s, x, y, z, l, bs, At, ct, Ab, cb, e, hg, hk', ⟨hc 0 _ rfl, hc 1 _ rfl, hc 2 _ rfl, hc 3 _ rfl, hc 4 _ rfl, hc 5 _ rfl, hc 6 _ rfl, hc 7 _ rfl⟩, r1, r2⟩
end Go.Proofs.Ytahichieakdbnaa

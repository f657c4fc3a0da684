/- law 21: acts that come in; large. -/
import Derived.Test.YtahichieakdbnaaNb
import Derived.Handy
namespace Go.Proofs.Ytahichieakdbnaa
open Go.ChangeShapes Go.WideShapes Go.ChangeAt Go.RowKit Go.Maps Go.Deep
set_option linter.unusedVariables false
set_option linter.unusedSimpArgs false

def I64 (x : Int) : Prop := -9223372036854775808 ≤ x ∧ x ≤ 9223372036854775807
theorem I64.of_wf {n : Int} (h : (Lit.int .i64 n).wf = true) : I64 n := by
  simpa [I64, Lit.wf, IntKind.min, IntKind.max, IntKind.signed, IntKind.bits] using h
/-- an act: what, which, where, the mask, the letter -/
abbrev ActN := Int × Int × Int × Nat × Let
def RActN (w : World) (B : Nat) (cs : List Value) (a : ActN) : Prop := ∃ A c, cs = [.int .i64 a.1, .int .i64 a.2.1, .int .i64 a.2.2.1, .int .u32 (a.2.2.2.1 : Int), .int .i64 a.2.2.2.2.1, .slice A a.2.2.2.2.2.length c] ∧
  Rd w B A (u8s a.2.2.2.2.2) ∧ a.2.2.2.2.2.length ≤ c ∧ c ≤ maxLen ∧ (A = none → c = 0) ∧ (∀ b ∈ a.2.2.2.2.2, b < 256) ∧ I64 a.2.1 ∧ I64 a.2.2.1 ∧ a.2.2.2.1 < 4294967296
theorem RActN.below {w w' : World} {B : Nat} (hb : Below B w w') : ∀ cs a, RActN w B cs a → RActN w' B cs a := fun cs a ⟨A, c, h1, h2, h3⟩ => ⟨A, c, h1, h2.below hb, h3⟩
theorem RActN.more {w : World} {B B' : Nat} (hb : B ≤ B') : ∀ cs a, RActN w B cs a → RActN w B' cs a := fun cs a ⟨A, c, h1, h2, h3⟩ => ⟨A, c, h1, h2.more hb, h3⟩
abbrev ActsN (w : World) (B : Nat) (A : Option Addr) (ys : List ActN) : Prop := StR 6 (RActN w B) w B A ys
theorem ActsN.below {w w' : World} {B : Nat} {A : Option Addr} {ys : List ActN} (h : ActsN w B A ys) (hb : Below B w w') : ActsN w' B A ys := StR.below h hb (RActN.below hb)
theorem ActsN.step {w w' : World} {A : Option Addr} {ys : List ActN} (h : ActsN w w.heap.size A ys) (hb : Below w.heap.size w w') : ActsN w' w'.heap.size A ys :=
  StR.more (StR.below h hb (fun cs a hr => RActN.more hb.size cs a (RActN.below hb cs a hr))) hb.size
theorem ActsN.row {w : World} {B : Nat} {A : Option Addr} {ys : List ActN} (h : ActsN w B A ys) {k : Nat} (hk : k < ys.length) : ∃ g o d i p m to bs Ab cb, A = some ⟨g, o, none⟩ ∧ g < B ∧ ys[k]? = some (d, i, p, m, (to, bs)) ∧
    (w.cell? ⟨g, o + k * 6, none⟩ = some (.int .i64 d) ∧ w.cell? ⟨g, o + k * 6 + 1, none⟩ = some (.int .i64 i) ∧ w.cell? ⟨g, o + k * 6 + 2, none⟩ = some (.int .i64 p) ∧ w.cell? ⟨g, o + k * 6 + 3, none⟩ = some (.int .u32 (m : Int)) ∧ w.cell? ⟨g, o + k * 6 + 4, none⟩ = some (.int .i64 to) ∧ w.cell? ⟨g, o + k * 6 + 5, none⟩ = some (.slice Ab bs.length cb)) ∧
    Rd w B Ab (u8s bs) ∧ bs.length ≤ cb ∧ cb ≤ maxLen ∧ (Ab = none → cb = 0) ∧ (∀ b ∈ bs, b < 256) ∧ I64 i ∧ I64 p ∧ m < 4294967296 := by
  obtain ⟨g, o, ⟨d, i, p, m, to, bs⟩, cs, e, hg, hk', hl, ⟨Ab, cb, rfl, r⟩, hc⟩ := StR.row h hk
  exact ⟨g, o, d, i, p, m, to, bs, Ab, cb, e, hg, hk', ⟨hc 0 _ rfl, hc 1 _ rfl, hc 2 _ rfl, hc 3 _ rfl, hc 4 _ rfl, hc 5 _ rfl⟩, r⟩
theorem list6n {α : Type} (l : List α) (h : l.length = 6) : ∃ a b c d e f, l = [a, b, c, d, e, f] := by
  match l, h with
  | [a, b, c, d, e, f], _ => exact ⟨a, b, c, d, e, f, rfl⟩
theorem czI : Try.prog.cellsOf 3 = 1 := by kernel_rfl
theorem czU32 : Try.prog.cellsOf 96 = 1 := by kernel_rfl
theorem czB : Try.prog.cellsOf 32 = 1 := by kernel_rfl
theorem czU : Try.prog.cellsOf 5 = 1 := by kernel_rfl
theorem czLet : Try.prog.cellsOf 98 = 2 := by kernel_rfl
theorem czAct21 : Try.prog.cellsOf 100 = 6 := by kernel_rfl
set_option maxRecDepth 100000 in
theorem open_acts21 {H : Type} {enc : TypeId × Value → H} {W : World} {b : Nat} {spare : Nat → Bool} {held : Bool} {A : Option Addr} {len cap : Nat} {d : DataW H} {p : List MemPlace}
    (h : DataW.Trod enc Try.prog W b spare held 87 (.slice A len cap) d p) :
    ∃ ys : List ActN, ys.length = len ∧ len ≤ cap ∧ cap ≤ maxLen ∧ ActsN W W.heap.size A ys := by
  refine open_str Try.underlying87 czAct21 (by omega) _ (fun fuel cs x hl h => ?_) h
  obtain ⟨c0, c1, c2, c3, c4, c5, rfl⟩ := list6n cs hl
  obtain ⟨y0, n0, h0⟩ := trod_field Try.underlying100 h 0 3 0 1 rfl czI
  obtain ⟨y1, n1, h1⟩ := trod_field Try.underlying100 h 1 3 1 1 rfl czI
  obtain ⟨y2, n2, h2⟩ := trod_field Try.underlying100 h 2 3 2 1 rfl czI
  obtain ⟨y3, n3, h3⟩ := trod_field Try.underlying100 h 3 96 3 1 rfl czU32
  obtain ⟨y4, n4, h4⟩ := trod_field Try.underlying100 h 4 98 4 2 rfl czLet
  obtain ⟨y5, n5, h5⟩ := trod_field Try.underlying98 h4 0 3 0 1 rfl czI
  obtain ⟨y6, n6, h6⟩ := trod_field Try.underlying98 h4 1 32 1 1 rfl czB
  obtain ⟨x0, e0, -, w0⟩ := DataW.trod_int Try.underlying3 h0
  obtain ⟨x1, e1, -, w1⟩ := DataW.trod_int Try.underlying3 h1
  obtain ⟨x2, e2, -, w2⟩ := DataW.trod_int Try.underlying3 h2
  obtain ⟨x3, e3, -, w3⟩ := DataW.trod_int Try.underlying96 h3
  obtain ⟨x5, e5, -, w5⟩ := DataW.trod_int Try.underlying3 h5
  obtain ⟨Ab, cb, bs, e6, r6⟩ := open_bytes8 Try.underlying32 Try.underlying5 czU h6
  simp at e0 e1 e2 e3 e5 e6
  subst e0 e1 e2 e3 e5 e6
  have hw3 : 0 ≤ x3 ∧ x3 ≤ 4294967295 := by simpa [Lit.wf, IntKind.min, IntKind.max, IntKind.signed, IntKind.bits] using w3
  refine ⟨(x0, x1, x2, x3.toNat, (x5, bs)), Ab, cb, ?_, r6.1, r6.2.1, r6.2.2.1, r6.2.2.2.1, r6.2.2.2.2, I64.of_wf w1, I64.of_wf w2, by simp only; omega⟩
  simp only
  rw [show ((x3.toNat : Nat) : Int) = x3 by omega]
def LgNPost (w : World) (ys : List ActN) (e : Ending) (w' : World) : Prop := (∃ b, e = .returned (.bool b) ∧ (b = false → ys.length ≤ 100 ∧ ∀ (j : Nat) (a : ActN), ys[j]? = some a → a.2.2.2.2.2.length ≤ 300)) ∧ Below w.heap.size w w'
theorem lgN_t {w w' : World} {ys : List ActN} (hb : Below w.heap.size w w') : LgNPost w ys (.returned (.bool true)) w' := ⟨⟨true, rfl, fun h => by cases h⟩, hb⟩
set_option maxHeartbeats 3000000 in
set_option maxRecDepth 100000 in
theorem large21_any (w : World) (A : Option Addr) (len cap : Nat) (ys : List ActN) (hr : ActsN w w.heap.size A ys) (hn : ys.length = len) (hlc : len ≤ cap) (hcm : cap ≤ maxLen) :
    Calls Try.prog 52 #[.slice A len cap] w (LgNPost w ys) := by
  have HR := Lib.hid hr; have HN := Lib.hid hn
  unfold maxLen at hcm
  have HB0 := Lib.hid (Below.refl w.heap.size w)
  by_cases h30 : 100 < len
  · have h30i : (100 : Int) < (len : Int) := by omega
    have HP := Lib.hid (lgN_t (ys := ys) HB0.out)
    clear hr hn
    go_enter Try.func52, Try.ntmps52
    go_wp2
    go_ret
    exact HP.out
  · have h30i : ¬ (100 : Int) < (len : Int) := by omega
    clear hr hn
    go_enter Try.func52, Try.ntmps52
    go_wp2
    go_loopw [10] (fun s10 wr => ∃ k : Nat, s10 = .int .i64 (k : Int) ∧ k ≤ len ∧ Hid (∀ (j : Nat) (a : ActN), j < k → ys[j]? = some a → a.2.2.2.2.2.length ≤ 300) ∧ Below w.heap.size w wr) (fun s10 _ => len - (intOf s10).toNat)
    case atStart => exact ⟨0, rfl, by omega, Lib.hid (fun j p hj => absurd hj (by omega)), HB0.out⟩
    case round =>
      clear HB0
      obtain ⟨k, rfl, hk, hall, hbel⟩ := hrel
      have HB := Lib.hid hbel
      by_cases hlt : k < len
      · obtain ⟨g, o, d, i, p, m, to, bs, Ab, cb, rfl, hg, hp, ⟨d0, d1, d2, d3, d4, d5⟩, -, -, hbm, -, -, -, -, -⟩ := ActsN.row (ActsN.below HR.out hbel) (k := k) (by rw [HN.out]; exact hlt)
        have hgw : g < wr.heap.size := World.block_lt_of_cell? _ _ d0
        have hltI : (k : Int) < (len : Int) := by omega
        obtain ⟨nb, hnb⟩ : ∃ q, bs.length = q := ⟨_, rfl⟩
        rw [hnb] at d5
        have HP := Lib.hid hp; have HNB := Lib.hid hnb
        have HB1 := Lib.hid (hbel.alloc hbel.size (.cells #[.int .i64 d, .int .i64 i, .int .i64 p, .int .u32 (m : Int), .int .i64 to, .slice Ab nb cb] 100))
        clear hp hbel hnb hbm
        by_cases h1 : 300 < nb
        · have h1i : (300 : Int) < (nb : Int) := by omega
          have HPP := Lib.hid (lgN_t (ys := ys) HB1.out)
          clear hall
          go_wp2
          go_ret
          exact HPP.out
        · have h1i : ¬ (300 : Int) < (nb : Int) := by omega
          have R : Hid (∀ (j : Nat) (a : ActN), j < k + 1 → ys[j]? = some a → a.2.2.2.2.2.length ≤ 300) := Lib.hid (fun j q hj hq => by
            by_cases hjk : j = k
            · subst hjk; rw [HP.out] at hq; cases hq; simp only; rw [HNB.out]; omega
            · exact hall.out j q (by omega) hq)
          clear hall
          go_wp2
          go_roundw
          case rel => exact ⟨k + 1, by go_num, hlt, R, HB1.out⟩
          case measure => simp [intOf]; omega
      · obtain rfl : k = len := by omega
        have HPP := Lib.hid (show LgNPost w ys (.returned (.bool false)) wr from ⟨⟨false, rfl, fun _ => ⟨by rw [HN.out]; omega, fun j p hp => hall.out j p (by have := (List.getElem?_eq_some_iff.1 hp).1; rw [HN.out] at this; exact this) hp⟩⟩, HB.out⟩)
        clear hall hbel
        go_wp2
        go_ret
        exact HPP.out
end Go.Proofs.Ytahichieakdbnaa

/- law 5: acts that come in; large. -/
import Derived.Test.YtignfhdblakcfaaRos
import Derived.Test.YtignfhdblakcfaaDm
import Derived.Handy
namespace Go.Proofs.Ytignfhdblakcfaa
open Go.ChangeShapes Go.WideShapes Go.ChangeAt Go.RowKit Go.Deep
set_option linter.unusedVariables false

abbrev ActD := Int × ByteArray × List Nat
/-- three cells that are an act -/
def RAct5 (w : World) (B : Nat) (cs : List Value) (a : ActD) : Prop := ∃ A c, cs = [.int .i64 a.1, .string a.2.1, .slice A a.2.2.length c] ∧ Rd w B A (u8s a.2.2) ∧ a.2.2.length ≤ c ∧ c ≤ maxLen ∧ (A = none → c = 0) ∧ (∀ b ∈ a.2.2, b < 256) ∧ a.2.1.size ≤ maxLen ∧ -9223372036854775808 ≤ a.1 ∧ a.1 ≤ 9223372036854775807
theorem RAct5.below {w w' : World} {B : Nat} (hb : Below B w w') : ∀ cs a, RAct5 w B cs a → RAct5 w' B cs a := fun cs a ⟨A, c, h1, h2, h3⟩ => ⟨A, c, h1, h2.below hb, h3⟩
abbrev Acts5 (w : World) (B : Nat) (A : Option Addr) (ys : List ActD) : Prop := StR 3 (RAct5 w B) w B A ys
theorem Acts5.below {w w' : World} {B : Nat} {A : Option Addr} {ys : List ActD} (h : Acts5 w B A ys) (hb : Below B w w') : Acts5 w' B A ys := StR.below h hb (RAct5.below hb)
theorem Acts5.step {w w' : World} {A : Option Addr} {ys : List ActD} (h : Acts5 w w.heap.size A ys) (hb : Below w.heap.size w w') : Acts5 w' w'.heap.size A ys :=
  StR.more (StR.below h hb (fun cs a ⟨A, c, h1, h2, h3⟩ => ⟨A, c, h1, (h2.below hb).more hb.size, h3⟩)) hb.size
theorem Acts5.row {w : World} {B : Nat} {A : Option Addr} {ys : List ActD} (h : Acts5 w B A ys) {k : Nat} (hk : k < ys.length) : ∃ g o d s bs Ab cb, A = some ⟨g, o, none⟩ ∧ g < B ∧ ys[k]? = some (d, s, bs) ∧ w.cell? ⟨g, o + k * 3, none⟩ = some (.int .i64 d) ∧ w.cell? ⟨g, o + k * 3 + 1, none⟩ = some (.string s) ∧ w.cell? ⟨g, o + k * 3 + 2, none⟩ = some (.slice Ab bs.length cb) ∧ Rd w B Ab (u8s bs) ∧ bs.length ≤ cb ∧ cb ≤ maxLen ∧ (Ab = none → cb = 0) ∧ (∀ b ∈ bs, b < 256) ∧ s.size ≤ maxLen ∧ -9223372036854775808 ≤ d ∧ d ≤ 9223372036854775807 := by
  obtain ⟨g, o, ⟨d, s, bs⟩, cs, e, hg, hk', hl, ⟨Ab, cb, rfl, r⟩, hc⟩ := StR.row h hk
  exact ⟨g, o, d, s, bs, Ab, cb, e, hg, hk', hc 0 _ rfl, hc 1 _ rfl, hc 2 _ rfl, r⟩
theorem cellsAct5 : Try.prog.cellsOf 52 = 3 := by kernel_rfl
theorem cellsI1 : Try.prog.cellsOf 3 = 1 := by kernel_rfl
theorem cellsS1 : Try.prog.cellsOf 9 = 1 := by kernel_rfl
theorem cellsB1 : Try.prog.cellsOf 25 = 1 := by kernel_rfl
theorem cellsU1 : Try.prog.cellsOf 5 = 1 := by kernel_rfl
theorem list3 {α : Type} (l : List α) (h : l.length = 3) : ∃ a b c, l = [a, b, c] := by
  match l, h with
  | [a, b, c], _ => exact ⟨a, b, c, rfl⟩
theorem wf_i64 {n : Int} (h : (Lit.int .i64 n).wf = true) : -9223372036854775808 ≤ n ∧ n ≤ 9223372036854775807 := by
  simpa [Lit.wf, IntKind.min, IntKind.max, IntKind.signed, IntKind.bits] using h
set_option maxRecDepth 100000 in
theorem open_acts5 {H : Type} {enc : TypeId × Value → H} {W : World} {b : Nat} {spare : Nat → Bool} {held : Bool} {A : Option Addr} {len cap : Nat} {d : DataW H} {p : List MemPlace}
    (h : DataW.Trod enc Try.prog W b spare held 42 (.slice A len cap) d p) :
    ∃ ys : List ActD, ys.length = len ∧ len ≤ cap ∧ cap ≤ maxLen ∧ Acts5 W W.heap.size A ys := by
  refine open_str Try.underlying42 cellsAct5 (by omega) _ (fun fuel cs x hl h => ?_) h
  obtain ⟨c0, c1, c2, rfl⟩ := list3 cs hl
  obtain ⟨y0, n0, h0⟩ := trod_field Try.underlying52 h 0 3 0 1 rfl cellsI1
  obtain ⟨y1, n1, h1⟩ := trod_field Try.underlying52 h 1 9 1 1 rfl cellsS1
  obtain ⟨y2, n2, h2⟩ := trod_field Try.underlying52 h 2 25 2 1 rfl cellsB1
  obtain ⟨x0, e0, -, w0⟩ := DataW.trod_int Try.underlying3 h0
  obtain ⟨x1, e1, -, w1⟩ := DataW.trod_string Try.underlying9 h1
  obtain ⟨A2, c, bs, e2, r⟩ := open_bytes8 Try.underlying25 Try.underlying5 cellsU1 h2
  simp at e0 e1 e2
  subst e0 e1 e2
  obtain ⟨q1, q2⟩ := wf_i64 w0
  exact ⟨(x0, x1, bs), A2, c, rfl, r.1, r.2.1, r.2.2.1, r.2.2.2.1, r.2.2.2.2, w1, q1, q2⟩
/-! large -/
def Lg5Post (w : World) (ys : List ActD) (e : Ending) (w' : World) : Prop := (∃ b, e = .returned (.bool b) ∧ (b = false → ys.length ≤ 60 ∧ ∀ (j : Nat) (a : ActD), ys[j]? = some a → a.2.1.size ≤ 200 ∧ a.2.2.length ≤ 200)) ∧ Below w.heap.size w w'
theorem lg5_t {w w' : World} {ys : List ActD} (hb : Below w.heap.size w w') : Lg5Post w ys (.returned (.bool true)) w' := ⟨⟨true, rfl, fun h => by cases h⟩, hb⟩
def Lg5Rel (w : World) (ys : List ActD) (s10 : Value) (wr : World) : Prop := ∃ k : Nat, s10 = .int .i64 (k : Int) ∧ k ≤ ys.length ∧ Hid (∀ (j : Nat) (a : ActD), j < k → ys[j]? = some a → a.2.1.size ≤ 200 ∧ a.2.2.length ≤ 200) ∧ Below w.heap.size w wr
set_option maxHeartbeats 2000000 in
set_option maxRecDepth 100000 in
theorem large5_any (w : World) (A : Option Addr) (len cap : Nat) (ys : List ActD) (hr : Acts5 w w.heap.size A ys) (hn : ys.length = len) (hlc : len ≤ cap) (hcm : cap ≤ maxLen) :
    Calls Try.prog 28 #[.slice A len cap] w (Lg5Post w ys) := by
  subst hn
  unfold maxLen at hcm
  by_cases h60 : 60 < ys.length
  · have HP := Lib.hid (lg5_t (ys := ys) (Below.refl w.heap.size w))
    have h60i : (60 : Int) < (ys.length : Int) := by omega
    clear hr
    go_enter Try.func28, Try.ntmps28
    go_wp2
    go_ret
    exact HP.out
  · have HR := Lib.hid hr; clear hr
    have HB0 := Lib.hid (Below.refl w.heap.size w)
    have h60i : ¬ (60 : Int) < (ys.length : Int) := by omega
    go_enter Try.func28, Try.ntmps28
    go_wp2
    go_loopw [10] (fun s10 wr => Lg5Rel w ys s10 wr) (fun s10 _ => ys.length - (intOf s10).toNat)
    case atStart => exact ⟨0, rfl, by omega, Lib.hid (fun j p hj => absurd hj (by omega)), HB0.out⟩
    case round =>
      clear HB0
      obtain ⟨k, rfl, hk, hall, hbel⟩ := hrel
      have HB := Lib.hid hbel
      by_cases hlt : k < ys.length
      · obtain ⟨g, o, d, s, bs, Ab, cb, rfl, hg, hp, d0, d1, d2, -, -, -, -, -, hsm, -, -⟩ := (Acts5.below HR.out hbel).row hlt
        have hgw : g < wr.heap.size := World.block_lt_of_cell? _ _ d0
        have hlt2 : (k : Int) < (ys.length : Int) := by omega
        obtain ⟨lb, hlb⟩ : ∃ lb, bs.length = lb := ⟨_, rfl⟩
        obtain ⟨ls, hls⟩ : ∃ ls, s.size = ls := ⟨_, rfl⟩
        rw [hlb] at d2
        have HP := Lib.hid hp; have HLB := Lib.hid hlb; have HLS := Lib.hid hls
        have hbel1 := ((hbel.alloc hbel.size (.cells #[.int .i64 d, .string s, .slice Ab lb cb] 52)))
        have HB1 := Lib.hid hbel1
        clear hp hlb hbel hsm hbel1
        by_cases hbig : 200 < ls
        · have h1 : (200 : Int) < (s.size : Int) := by rw [hls]; omega
          have HPP := Lib.hid (lg5_t (ys := ys) HB1.out)
          clear hall hls
          go_wp2
          go_ret
          exact HPP.out
        · have h1 : ¬ (200 : Int) < (s.size : Int) := by rw [hls]; omega
          by_cases hbig2 : 200 < lb
          · have h2 : (200 : Int) < (lb : Int) := by omega
            have HPP := Lib.hid (lg5_t (ys := ys) HB1.out)
            clear hall hls
            go_wp2
            go_ret
            exact HPP.out
          · have h2 : ¬ (200 : Int) < (lb : Int) := by omega
            have R := Lib.hid (show Lg5Rel w ys (.int .i64 ((k : Int) + 1)) (wr.alloc (.cells #[.int .i64 d, .string s, .slice Ab lb cb] 52)) from ⟨k + 1, by go_num, hlt, Lib.hid (fun j q hj hq => by
              by_cases hjk : j = k
              · subst hjk; rw [HP.out] at hq; cases hq; have := HLB.out; have := HLS.out; simp only; omega
              · exact hall.out j q (by omega) hq), HB1.out⟩)
            clear hall hls
            go_wp2
            go_roundw
            case rel => exact R.out
            case measure => simp [intOf]; omega
      · obtain rfl : k = ys.length := by omega
        have HPP := Lib.hid (show Lg5Post w ys (.returned (.bool false)) wr from ⟨⟨false, rfl, fun _ => ⟨by omega, fun j p hp => hall.out j p (List.getElem?_eq_some_iff.1 hp).1 hp⟩⟩, HB.out⟩)
        clear hall hbel
        go_wp2
        go_ret
        exact HPP.out
end Go.Proofs.Ytignfhdblakcfaa

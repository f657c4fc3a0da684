/- law 8: acts that come in; large; do. -/
import Derived.Test.YtahichieakdbnaaEc
import Derived.Test.YtahichieakdbnaaRos
import Derived.Handy
namespace Go.Proofs.Ytahichieakdbnaa
open Go.ChangeShapes Go.WideShapes Go.ChangeAt Go.RowKit Go.Maps Go.Deep
set_option linter.unusedVariables false
set_option linter.unusedSimpArgs false

/-- a slice of int that comes in -/
theorem open_i64s {H : Type} {enc : TypeId × Value → H} {P : Program} {W : World} {b : Nat} {spare : Nat → Bool} {held : Bool} {t e : TypeId} {cs : List Value} {fuel : Nat} {x : DataW H × List MemPlace} (ht : P.underlying t = some (.slice e)) (he : P.underlying e = some (.int .i64)) (h1 : P.cellsOf e = 1)
    (h : DataW.trod enc P W b spare held fuel t cs = some x) : ∃ (A : Option Addr) (c : Nat) (ks : List Int), cs = [.slice A ks.length c] ∧ Rd W W.heap.size A (i64i ks) ∧ ks.length ≤ c ∧ c ≤ maxLen ∧ (A = none → c = 0) := by
  rcases open_slice ht h with ⟨hcs, _⟩ | ⟨a, l, c, m, n, D, Pl, hcs, hb, hl, hm, hmm, _, hx⟩
  · exact ⟨none, 0, [], hcs, Rd.nil _ _ _, Nat.le_refl _, Nat.zero_le _, fun _ => rfl⟩
  · have hlm : l ≤ m := by rw [hmm]; split <;> omega
    obtain ⟨ks, hlb, hks⟩ := list_of (n := l) (p := fun i (v : Int) => W.cell? (a.add i) = some (.int .i64 v)) (fun i hi => by
      obtain ⟨cs', k1, k2⟩ := hx i (by omega)
      rw [h1, Nat.mul_one] at k1
      obtain ⟨_, hlen, hc⟩ := World.cells?_some k1
      obtain ⟨v, e1, _, hw⟩ := DataW.trod_int he k2
      subst e1
      refine ⟨v, ?_⟩
      have := hc 0 (by omega)
      simpa [Addr.add] using this)
    refine ⟨some a, c, ks, by rw [hlb]; exact hcs, fun hne => ?_, by omega, hm, (fun h => by cases h)⟩
    have hp0 : 0 < ks.length := by
      rcases Nat.eq_zero_or_pos ks.length with h0 | h0
      · exfalso; apply hne; simp [i64i, List.eq_nil_of_length_eq_zero h0]
      · exact h0
    have c0 := hks 0 _ (List.getElem?_eq_getElem hp0)
    have hsp : a.spot = none := by
      have h2 := World.cell?_spot c0
      simpa [Addr.add] using h2
    obtain ⟨g, o, s⟩ := a
    simp only at hsp
    subst hsp
    have hg : g < W.heap.size := by
      rw [add0] at c0
      exact World.block_lt_of_cell? _ _ c0
    refine ⟨g, o, rfl, hg, fun j u hu => ?_⟩
    simp only [i64i, List.getElem?_map, Option.map_eq_some_iff] at hu
    obtain ⟨v, hv, rfl⟩ := hu
    have c1 := hks j v hv
    have : (⟨g, o, none⟩ : Addr).add j = ⟨g, o + j, none⟩ := by
      rcases Nat.eq_zero_or_pos j with h2 | h2
      · subst h2; exact add0 g o
      · simp [Addr.add, Nat.ne_of_gt h2]
    rw [this] at c1
    exact c1
theorem wf64 {n : Int} (h : (Lit.int .i64 n).wf = true) : -9223372036854775808 ≤ n ∧ n ≤ 9223372036854775807 := by
  simpa [Lit.wf, IntKind.min, IntKind.max, IntKind.signed, IntKind.bits] using h
def RAct8 (w : World) (B : Nat) (cs : List Value) (a : DAct) : Prop := ∃ Ab cb Ak ck, cs = [.int .i64 a.k, .int .i64 a.x, .int .i64 a.n, .slice Ab a.bs.length cb, .slice Ak a.ks.length ck] ∧
  Rd w B Ab (u8s a.bs) ∧ a.bs.length ≤ cb ∧ (Ab = none → cb = 0) ∧ (∀ b ∈ a.bs, b < 256) ∧ Rd w B Ak (i64i a.ks) ∧ a.n ≤ 9223372036854775807
theorem RAct8.below {w w' : World} {B : Nat} (hb : Below B w w') : ∀ cs a, RAct8 w B cs a → RAct8 w' B cs a := fun cs a ⟨Ab, cb, Ak, ck, h1, h2, h3, h4, h5, h6, h7⟩ => ⟨Ab, cb, Ak, ck, h1, h2.below hb, h3, h4, h5, h6.below hb, h7⟩
abbrev Acts8 (w : World) (B : Nat) (A : Option Addr) (ys : List DAct) : Prop := StR 5 (RAct8 w B) w B A ys
theorem Acts8.below {w w' : World} {B : Nat} {A : Option Addr} {ys : List DAct} (h : Acts8 w B A ys) (hb : Below B w w') : Acts8 w' B A ys := StR.below h hb (RAct8.below hb)
theorem Acts8.row {w : World} {B : Nat} {A : Option Addr} {ys : List DAct} (h : Acts8 w B A ys) {k : Nat} (hk : k < ys.length) : ∃ g o a Ab cb Ak ck, A = some ⟨g, o, none⟩ ∧ g < B ∧ ys[k]? = some a ∧
    (w.cell? ⟨g, o + k * 5, none⟩ = some (.int .i64 a.k) ∧ w.cell? ⟨g, o + k * 5 + 1, none⟩ = some (.int .i64 a.x) ∧ w.cell? ⟨g, o + k * 5 + 2, none⟩ = some (.int .i64 a.n) ∧ w.cell? ⟨g, o + k * 5 + 3, none⟩ = some (.slice Ab a.bs.length cb) ∧ w.cell? ⟨g, o + k * 5 + 4, none⟩ = some (.slice Ak a.ks.length ck)) ∧
    Rd w B Ab (u8s a.bs) ∧ a.bs.length ≤ cb ∧ (Ab = none → cb = 0) ∧ (∀ b ∈ a.bs, b < 256) ∧ Rd w B Ak (i64i a.ks) ∧ a.n ≤ 9223372036854775807 := by
  obtain ⟨g, o, a, cs, e, hg, hk', hl, ⟨Ab, cb, Ak, ck, rfl, r⟩, hc⟩ := StR.row h hk
  exact ⟨g, o, a, Ab, cb, Ak, ck, e, hg, hk', ⟨hc 0 _ rfl, hc 1 _ rfl, hc 2 _ rfl, hc 3 _ rfl, hc 4 _ rfl⟩, r⟩
theorem list5d {α : Type} (l : List α) (h : l.length = 5) : ∃ a b c d e, l = [a, b, c, d, e] := by
  match l, h with
  | [a, b, c, d, e], _ => exact ⟨a, b, c, d, e, rfl⟩
theorem czId : Try.prog.cellsOf 3 = 1 := by kernel_rfl
theorem czBd : Try.prog.cellsOf 32 = 1 := by kernel_rfl
theorem czKd : Try.prog.cellsOf 33 = 1 := by kernel_rfl
theorem czUd : Try.prog.cellsOf 5 = 1 := by kernel_rfl
theorem czAct8 : Try.prog.cellsOf 35 = 5 := by kernel_rfl
set_option maxRecDepth 100000 in
theorem open_acts8 {H : Type} {enc : TypeId × Value → H} {W : World} {b : Nat} {spare : Nat → Bool} {held : Bool} {A : Option Addr} {len cap : Nat} {d : DataW H} {p : List MemPlace}
    (h : DataW.Trod enc Try.prog W b spare held 22 (.slice A len cap) d p) :
    ∃ ys : List DAct, ys.length = len ∧ len ≤ cap ∧ cap ≤ maxLen ∧ Acts8 W W.heap.size A ys := by
  refine open_str Try.underlying22 czAct8 (by omega) _ (fun fuel cs x hl h => ?_) h
  obtain ⟨c0, c1, c2, c3, c4, rfl⟩ := list5d cs hl
  obtain ⟨y0, n0, h0⟩ := trod_field Try.underlying35 h 0 3 0 1 rfl czId
  obtain ⟨y1, n1, h1⟩ := trod_field Try.underlying35 h 1 3 1 1 rfl czId
  obtain ⟨y2, n2, h2⟩ := trod_field Try.underlying35 h 2 3 2 1 rfl czId
  obtain ⟨y3, n3, h3⟩ := trod_field Try.underlying35 h 3 32 3 1 rfl czBd
  obtain ⟨y4, n4, h4⟩ := trod_field Try.underlying35 h 4 33 4 1 rfl czKd
  obtain ⟨x0, e0, -, w0⟩ := DataW.trod_int Try.underlying3 h0
  obtain ⟨x1, e1, -, w1⟩ := DataW.trod_int Try.underlying3 h1
  obtain ⟨x2, e2, -, w2⟩ := DataW.trod_int Try.underlying3 h2
  obtain ⟨Ab, cb, bs, e3, r3⟩ := open_bytes8 Try.underlying32 Try.underlying5 czUd h3
  obtain ⟨Ak, ck, ks, e4, r4⟩ := open_i64s Try.underlying33 Try.underlying3 czId h4
  simp at e0 e1 e2 e3 e4
  subst e0 e1 e2 e3 e4
  exact ⟨⟨x0, x1, x2, bs, ks⟩, Ab, cb, Ak, ck, rfl, r3.1, r3.2.1, r3.2.2.2.1, r3.2.2.2.2, r4.1, (wf64 w2).2⟩
def Lg8Post (w : World) (ys : List DAct) (e : Ending) (w' : World) : Prop := (∃ b, e = .returned (.bool b) ∧ (b = false → ys.length ≤ 60 ∧ ∀ (j : Nat) (a : DAct), ys[j]? = some a → a.bs.length ≤ 500 ∧ a.ks.length ≤ 60)) ∧ Below w.heap.size w w'
theorem lg8_t {w w' : World} {ys : List DAct} (hb : Below w.heap.size w w') : Lg8Post w ys (.returned (.bool true)) w' := ⟨⟨true, rfl, fun h => by cases h⟩, hb⟩
set_option maxHeartbeats 3000000 in
set_option maxRecDepth 100000 in
theorem large8_any (w : World) (A : Option Addr) (len cap : Nat) (ys : List DAct) (hr : Acts8 w w.heap.size A ys) (hn : ys.length = len) (hlc : len ≤ cap) (hcm : cap ≤ maxLen) :
    Calls Try.prog 14 #[.slice A len cap] w (Lg8Post w ys) := by
  have HR := Lib.hid hr; have HN := Lib.hid hn
  unfold maxLen at hcm
  have HB0 := Lib.hid (Below.refl w.heap.size w)
  by_cases h30 : 60 < len
  · have h30i : (60 : Int) < (len : Int) := by omega
    have HP := Lib.hid (lg8_t (ys := ys) HB0.out)
    clear hr hn
    go_enter Try.func14, Try.ntmps14
    go_wp2
    go_ret
    exact HP.out
  · have h30i : ¬ (60 : Int) < (len : Int) := by omega
    clear hr hn
    go_enter Try.func14, Try.ntmps14
    go_wp2
    go_loopw [10] (fun s10 wr => ∃ k : Nat, s10 = .int .i64 (k : Int) ∧ k ≤ len ∧ Hid (∀ (j : Nat) (a : DAct), j < k → ys[j]? = some a → a.bs.length ≤ 500 ∧ a.ks.length ≤ 60) ∧ Below w.heap.size w wr) (fun s10 _ => len - (intOf s10).toNat)
    case atStart => exact ⟨0, rfl, by omega, Lib.hid (fun j p hj => absurd hj (by omega)), HB0.out⟩
    case round =>
      clear HB0
      obtain ⟨k, rfl, hk, hall, hbel⟩ := hrel
      have HB := Lib.hid hbel
      by_cases hlt : k < len
      · obtain ⟨g, o, a, Ab, cb, Ak, ck, rfl, hg, hp, ⟨d0, d1, d2, d3, d4⟩, -⟩ := Acts8.row (Acts8.below HR.out hbel) (k := k) (by rw [HN.out]; exact hlt)
        have hgw : g < wr.heap.size := World.block_lt_of_cell? _ _ d0
        have hltI : (k : Int) < (len : Int) := by omega
        obtain ⟨nb, hnb⟩ : ∃ q, a.bs.length = q := ⟨_, rfl⟩
        obtain ⟨nk, hnk⟩ : ∃ q, a.ks.length = q := ⟨_, rfl⟩
        rw [hnb] at d3
        rw [hnk] at d4
        have HP := Lib.hid hp; have HNB := Lib.hid hnb; have HNK := Lib.hid hnk
        have HB1 := Lib.hid (hbel.alloc hbel.size (.cells #[.int .i64 a.k, .int .i64 a.x, .int .i64 a.n, .slice Ab nb cb, .slice Ak nk ck] 35))
        clear hp hbel hnb hnk
        by_cases h1 : 500 < nb
        · have h1i : (500 : Int) < (nb : Int) := by omega
          have HPP := Lib.hid (lg8_t (ys := ys) HB1.out)
          clear hall
          go_wp2
          go_ret
          exact HPP.out
        · have h1i : ¬ (500 : Int) < (nb : Int) := by omega
          by_cases h2 : 60 < nk
          · have h2i : (60 : Int) < (nk : Int) := by omega
            have HPP := Lib.hid (lg8_t (ys := ys) HB1.out)
            clear hall
            go_wp2
            go_ret
            exact HPP.out
          · have h2i : ¬ (60 : Int) < (nk : Int) := by omega
            have R : Hid (∀ (j : Nat) (a : DAct), j < k + 1 → ys[j]? = some a → a.bs.length ≤ 500 ∧ a.ks.length ≤ 60) := Lib.hid (fun j q hj hq => by
              by_cases hjk : j = k
              · subst hjk; rw [HP.out] at hq; cases hq; rw [HNB.out, HNK.out]; omega
              · exact hall.out j q (by omega) hq)
            clear hall
            go_wp2
            go_roundw
            case rel => exact ⟨k + 1, by go_num, hlt, R, HB1.out⟩
            case measure => simp [intOf]; omega
      · obtain rfl : k = len := by omega
        have HPP := Lib.hid (show Lg8Post w ys (.returned (.bool false)) wr from ⟨⟨false, rfl, fun _ => ⟨by rw [HN.out]; omega, fun j p hp => hall.out j p (by have := (List.getElem?_eq_some_iff.1 hp).1; rw [HN.out] at this; exact this) hp⟩⟩, HB.out⟩)
        clear hall hbel
        go_wp2
        go_ret
        exact HPP.out
end Go.Proofs.Ytahichieakdbnaa

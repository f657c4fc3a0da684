/- packetboatref08.Ints: are numbers the same? -/
import Derived.Test.YtjaifieakcnlmaaSame
import Derived.Test.YtjaifieakcnlmaaMo
namespace Go.Proofs.Ytjaifieakcnlmaa
open Go.ChangeShapes Go.WideShapes Go.ChangeAt Go.RowKit
set_option linter.unusedVariables false
set_option linter.unusedSimpArgs false

def i64i (l : List Int) : List Value := l.map fun (n : Int) => Value.int .i64 n
theorem Rd.i64 {w : World} {B : Nat} {A : Option Addr} {ks : List Int} (h : Rd w B A (i64i ks)) (hn : ks ≠ []) : ∃ g o, A = some ⟨g, o, none⟩ ∧ g < B ∧ ∀ j, j < ks.length → w.cell? ⟨g, o + j, none⟩ = some (.int .i64 (ks[j]?.getD 0)) := by
  obtain ⟨g, o, e, hg, hc⟩ := h (by intro h0; apply hn; exact List.map_eq_nil_iff.1 h0)
  refine ⟨g, o, e, hg, fun j hj => hc j _ ?_⟩
  simp [i64i, List.getElem?_eq_getElem hj]
theorem ints_all {bs ds : List Int} (hl : bs.length = ds.length) (h : ∀ j, j < bs.length → bs[j]?.getD 0 = ds[j]?.getD 0) : bs = ds := by
  apply List.ext_getElem hl
  intro i h1 h2
  have := h i h1
  rw [List.getElem?_eq_getElem h1, List.getElem?_eq_getElem h2] at this
  simpa using this
def IntsRel (w : World) (bs ds : List Int) (s3 : Value) (wr : World) : Prop := ∃ k : Nat, s3 = .int .i64 (k : Int) ∧ k ≤ bs.length ∧ (∃ q, wr = w.drewN q) ∧ ∀ j, j < k → bs[j]?.getD 0 = ds[j]?.getD 0
set_option maxRecDepth 100000 in
theorem ints_any (w : World) (A1 A2 : Option Addr) (c1 c2 : Nat) (bs ds : List Int) (B1 B2 : Nat) (h1 : Rd w B1 A1 (i64i bs)) (h2 : Rd w B2 A2 (i64i ds)) (hl : bs.length ≤ maxLen) :
    Calls Try.prog 11 #[.slice A1 bs.length c1, .slice A2 ds.length c2] w (SamePost w (decide (bs = ds))) := by
  unfold maxLen at hl
  by_cases hlen : bs.length = ds.length
  · have hb : ((bs.length : Int) != (ds.length : Int)) = false := by rw [hlen]; simp
    rw [← hlen] at hb ⊢
    have HL := Lib.hid hlen; clear hlen
    go_enter Try.func11, Try.ntmps11
    go_wp2
    go_loopw [5] (fun s3 wr => IntsRel w bs ds s3 wr) (fun s3 _ => bs.length - (intOf s3).toNat)
    case atStart => exact ⟨0, rfl, by omega, ⟨0, rfl⟩, fun j hj => absurd hj (by omega)⟩
    case round =>
      obtain ⟨k, rfl, hk, ⟨q, rfl⟩, hall⟩ := hrel
      have HA := Lib.hid hall; clear hall
      by_cases hlt : k < bs.length
      · obtain ⟨g1, o1, rfl, hg1, hc1⟩ := h1.i64 (by intro h; simp [h] at hlt)
        obtain ⟨g2, o2, rfl, hg2, hc2⟩ := h2.i64 (by intro h; rw [HL.out] at hlt; simp [h] at hlt)
        have e1 := hc1 k hlt
        have e2 := hc2 k (by rw [← HL.out]; exact hlt)
        obtain ⟨x, hx⟩ : ∃ x, x = bs[k]?.getD 0 := ⟨_, rfl⟩
        obtain ⟨y, hy⟩ : ∃ y, y = ds[k]?.getD 0 := ⟨_, rfl⟩
        rw [← hx] at e1
        rw [← hy] at e2
        have HX := Lib.hid hx; clear hx
        have HY := Lib.hid hy; clear hy
        clear hc1 hc2
        have hkl : (k : Int) < (bs.length : Int) := by omega
        by_cases hxy : x = y
        · have hne : (x != y) = false := by rw [hxy]; simp
          have HXY := Lib.hid hxy; clear hxy
          go_wp2
          go_quiet (fail)
          go_wp2
          go_roundw
          case rel => exact ⟨k + 1, by go_num, by omega, ⟨_, rfl⟩, fun j hj => by
            by_cases h : j = k
            · subst h; rw [← HX.out, ← HY.out]; exact HXY.out
            · exact HA.out j (by omega)⟩
          case measure => simp [intOf]; omega
        · have hne : (x != y) = true := by simp; omega
          have hd : decide (bs = ds) = false := by
            simp only [decide_eq_false_iff_not]
            intro h
            apply hxy
            rw [HX.out, HY.out, h]
          have HXY := Lib.hid hxy; clear hxy
          have HD := Lib.hid hd; clear hd
          go_wp2
          go_quiet (fail)
          go_wp2
          go_ret
          exact same_ret HD.out (by first | exact ⟨_, rfl⟩ | exact ⟨_, World.drewN_drewN ..⟩)
      · have hd : decide (bs = ds) = true := by
          simp only [decide_eq_true_eq]
          exact ints_all HL.out (fun j hj => HA.out j (by omega))
        have HD := Lib.hid hd; clear hd
        go_wp2
        go_ret
        exact same_ret HD.out (by first | exact ⟨_, rfl⟩ | exact ⟨_, World.drewN_drewN ..⟩)
  · have hb : ((bs.length : Int) != (ds.length : Int)) = true := by simp; omega
    have hd : decide (bs = ds) = false := by
      simp only [decide_eq_false_iff_not]
      intro h
      exact hlen (by rw [h])
    have HD := Lib.hid hd; clear hd
    have HL := Lib.hid hlen; clear hlen
    go_enter Try.func11, Try.ntmps11
    go_wp2
    go_ret
    exact same_ret HD.out ⟨0, rfl⟩
theorem ints_at (w : World) (A1 A2 : Option Addr) (c1 c2 : Nat) (bs ds : List Int) (B1 B2 n1 n2 : Nat) (x : Bool) (h1 : Rd w B1 A1 (i64i bs)) (h2 : Rd w B2 A2 (i64i ds)) (hl : bs.length ≤ maxLen) (hn1 : bs.length = n1) (hn2 : ds.length = n2) (hx : decide (bs = ds) = x) :
    Calls Try.prog 11 #[.slice A1 n1 c1, .slice A2 n2 c2] w fun e w' => e = .returned (.bool x) ∧ ∃ q, w' = w.drewN q := by
  subst hn1 hn2 hx
  exact ints_any w A1 A2 c1 c2 bs ds B1 B2 h1 h2 hl
theorem rd_blk {w : World} {g : Nat} {t : TypeId} {cs : Array Value} {xs : List Int} (h : Blk w g t cs) (e : i64i xs = cs.toList) : Rd w w.heap.size (some ⟨g, 0, none⟩) (i64i xs) := fun _ => by
  refine ⟨g, 0, rfl, h.lt, fun k v hv => ?_⟩
  rw [h.cell]
  rw [e] at hv
  simpa using hv
end Go.Proofs.Ytjaifieakcnlmaa

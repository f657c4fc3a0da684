/- packetboatref05.Same: of texts that are the same. -/
import Derived.Test.YtahichieakdbnaaW
import Derived.Test.YtahichieakdbnaaDm
namespace Go.Proofs.Ytahichieakdbnaa
open Go.ChangeShapes Go.WideShapes Go.ChangeAt Go.RowKit
set_option linter.unusedVariables false

theorem Rd.strs {w : World} {B : Nat} {A : Option Addr} {ks : List ByteArray} (h : Rd w B A (ks.map Value.string)) (hn : ks ≠ []) : ∃ g o, A = some ⟨g, o, none⟩ ∧ g < B ∧ ∀ (k : Nat) (s : ByteArray), ks[k]? = some s → w.cell? ⟨g, o + k, none⟩ = some (.string s) := by
  obtain ⟨g, o, e, hb, hc⟩ := h (by simpa using hn)
  exact ⟨g, o, e, hb, fun k s hs => hc k _ (by rw [List.getElem?_map, hs]; rfl)⟩
def SSmPost (w : World) (e : Ending) (w' : World) : Prop := e = .returned (.bool true) ∧ ∃ q, w' = w.drewN q
def SSmRel (w : World) (n : Nat) (s5 : Value) (wr : World) : Prop := ∃ k : Nat, s5 = .int .i64 (k : Int) ∧ k ≤ n ∧ ∃ q, wr = w.drewN q
set_option maxHeartbeats 1000000 in
theorem SSame_true (w : World) (A1 A2 : Option Addr) (c1 c2 n : Nat) (ks : List ByteArray) (B1 B2 : Nat) (h1 : Rd w B1 A1 (ks.map Value.string)) (h2 : Rd w B2 A2 (ks.map Value.string)) (hn : ks.length = n) (hl : n ≤ 1000000000) :
    Calls Try.prog 45 #[.slice A1 n c1, .slice A2 n c2] w (SSmPost w) := by
  have HN := Lib.hid hn; have H1 := Lib.hid h1; have H2 := Lib.hid h2
  clear hn h1 h2
  go_enter Try.func45, Try.ntmps45
  go_wp2
  go_loopw [5] (fun s5 wr => SSmRel w n s5 wr) (fun s5 _ => n - (intOf s5).toNat)
  case atStart => exact ⟨0, rfl, by omega, 0, rfl⟩
  case round =>
    obtain ⟨k, rfl, hk, q, rfl⟩ := hrel
    by_cases hlt : k < n
    · have hne : ks ≠ [] := by intro h0; have := HN.out; rw [h0] at this; simp at this; omega
      obtain ⟨g1, o1, rfl, -, hc1⟩ := H1.out.strs hne
      obtain ⟨g2, o2, rfl, -, hc2⟩ := H2.out.strs hne
      obtain ⟨s, hs⟩ : ∃ s, ks[k]? = some s := ⟨_, List.getElem?_eq_getElem (by rw [HN.out]; exact hlt)⟩
      have e1 := hc1 k s hs
      have e2 := hc2 k s hs
      have hlI : (k : Int) < (n : Int) := by omega
      clear hc1 hc2 hs hne
      go_wp2
      go_quiet (fail)
      go_wp2
      go_roundw
      case rel => exact ⟨k + 1, by go_num, by omega, _, rfl⟩
      case measure => simp [intOf]; omega
    · have hge : (n : Int) ≤ (k : Int) := by omega
      go_wp2
      go_ret
      exact ⟨rfl, by first | exact ⟨_, rfl⟩ | exact ⟨_, World.drewN_drewN ..⟩⟩
end Go.Proofs.Ytahichieakdbnaa

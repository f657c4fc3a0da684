/- Bytes made into a text; a text's bytes behind others. -/
import Derived.Test.YtahichieakdbnaaBlk
import Derived.Test.YtahichieakdbnaaDm
import Derived.Laws.BytesString
import Derived.Laws.Cells
import Derived.Lib.AppendStr
namespace Go.Proofs.Ytahichieakdbnaa
open Go.ChangeShapes Go.WideShapes Go.ChangeAt Go.RowKit
set_option linter.unusedVariables false

theorem push_fold : ∀ (l : List Nat) (s : ByteArray), ((l.map Int.ofNat).foldl (fun r (n : Int) => r.push (UInt8.ofNat n.toNat)) s) = ⟨s.data ++ (l.map UInt8.ofNat).toArray⟩
  | [], s => by simp
  | x :: r, s => by
    simp only [List.map_cons, List.foldl_cons]
    rw [push_fold r]
    congr 1
    show (s.data.push _) ++ _ = _
    simp
theorem run_str {P : Program} (w : World) {src dst e : TypeId} {B : Nat} {A : Option Addr} {l : List Nat} {n c : Nat} (hs : P.underlying src = some (.slice e)) (he : P.underlying e = some (.int .u8)) (hd : P.underlying dst = some .string) (hr : Rd w B A (u8s l)) (hn : l.length = n) :
    (convert src dst (.slice A n c)).run P w = .ok (.string (str l)) w := by
  subst hn
  rw [run_convert_bytes_string w src dst e A _ c hs he hd]
  cases A with
  | none =>
    have h0 : l = [] := by
      rcases Classical.em (l = []) with h0 | h0
      · exact h0
      · obtain ⟨g, o, h, _⟩ := hr (by intro h; apply h0; simpa [u8s] using h)
        cases h
    subst h0
    rfl
  | some a =>
    have hl : (loadCells a l.length).run P w = .ok ((l.map Int.ofNat).map (Value.int .u8)).toArray w := by
      have h := run_loadCells_list (P := P) (w := w) a (u8s l) (fun j v hv => by
        obtain ⟨g, o, he, _, hc⟩ := hr (by intro h0; rw [h0] at hv; simp at hv)
        injection he with he
        subst he
        have h5 := hc j v hv
        rcases Nat.eq_zero_or_pos j with h2 | h2
        · subst h2; simpa [Addr.add] using h5
        · simpa [Addr.add, Nat.ne_of_gt h2] using h5)
      rw [u8s_length] at h
      rw [h, List.map_map]
      rfl
    rw [run_bytesToString w a l.length c _ hl, push_fold]
    congr 2
    show (⟨#[] ++ (List.map UInt8.ofNat l).toArray⟩ : ByteArray) = ⟨(List.map UInt8.ofNat l).toArray⟩
    rw [Array.empty_append]
theorem strCells_sb (s : ByteArray) : Lib.strCells s = u8s (sb s) := by
  unfold Lib.strCells u8s sb
  rw [List.map_map]
  rfl
end Go.Proofs.Ytahichieakdbnaa

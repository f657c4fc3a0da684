/- String tests. -/
import Derived.Test.YtahichieakdbnaaBlk
import Derived.Handy
namespace Go.Proofs.Ytahichieakdbnaa
set_option linter.unusedVariables false
theorem bas_loop (s : ByteArray) : ∀ (n i : Nat) (r : List UInt8), s.size - i = n → ByteArray.toList.loop s i r = r.reverse ++ s.data.toList.drop i
  | 0, i, r, h => by
    unfold ByteArray.toList.loop
    rw [if_neg (by omega), List.drop_eq_nil_of_le (by rw [Array.length_toList]; show s.size ≤ i; omega), List.append_nil]
  | n + 1, i, r, h => by
    have hi : i < s.size := by omega
    unfold ByteArray.toList.loop
    rw [if_pos hi, bas_loop s n (i + 1) _ (by omega)]
    have hl : i < s.data.toList.length := by rw [Array.length_toList]; exact hi
    rw [List.drop_eq_getElem_cons hl, List.reverse_cons, List.append_assoc]
    congr 1
    have : s.get! i = s.data.toList[i] := by
      show s.data[i]! = _
      rw [getElem!_pos s.data i hi]
      simp
    rw [this]
    simp
theorem bas_toList (s : ByteArray) : s.toList = s.data.toList := by
  unfold ByteArray.toList
  rw [bas_loop s _ 0 [] rfl]
  simp
theorem bas_inj {x k : ByteArray} (h : x.toList = k.toList) : x = k := by
  rw [bas_toList, bas_toList] at h
  have h3 : x.data = k.data := Array.toList_inj.1 h
  cases x; cases k; simp at h3; rw [h3]
theorem bas_ne {x k : ByteArray} (h : x ≠ k) : (x.toList == k.toList) = false := by
  simp only [beq_eq_false_iff_ne, ne_eq]
  exact fun h2 => h (bas_inj h2)
theorem bas_mt {x : ByteArray} (h : x.size = 0) : x = ⟨#[]⟩ := by
  cases x with | mk d => exact congrArg _ (Array.eq_empty_of_size_eq_zero h)
end Go.Proofs.Ytahichieakdbnaa

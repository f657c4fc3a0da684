/- ref16: Above, text, take; its store in memory; Get. -/
import Derived.Test.YtahichieakdbnaaKj
import Derived.Test.YtahichieakdbnaaRef1
import Derived.Test.YtahichieakdbnaaInr
import Derived.Lib.ConvBytes
namespace Go.Proofs.Ytahichieakdbnaa
open Go.ChangeShapes Go.WideShapes Go.ChangeAt Go.RowKit Go.Maps
set_option linter.unusedVariables false
set_option linter.unusedSimpArgs false

def AbvPost (w : World) (a b : L8) (e : Ending) (w' : World) : Prop := e = .returned (.bool (decide (b < a))) ∧ ∃ q, w' = w.drewN q
theorem lt_step {a b : L8} : ∀ {k : Nat} {x y : UInt8}, a.take k = b.take k → a[k]? = some x → b[k]? = some y → x ≠ y → decide (b < a) = decide (y < x) := by
  induction a generalizing b with
  | nil => intro k x y _ h; simp at h
  | cons a0 a ih =>
    intro k x y ht hx hy hne
    cases b with
    | nil => simp at hy
    | cons b0 b =>
      cases k with
      | zero =>
        simp at hx hy
        subst hx hy
        rw [decide_eq_decide, List.cons_lt_cons_iff]
        exact ⟨fun h => h.elim id (fun h => absurd h.1.symm hne), .inl⟩
      | succ k =>
        simp only [List.take_succ_cons, List.cons.injEq] at ht
        simp only [List.getElem?_cons_succ] at hx hy
        rw [← ih ht.2 hx hy hne, decide_eq_decide, List.cons_lt_cons_iff, ht.1]
        exact ⟨fun h => h.elim (fun h => absurd h (UInt8.lt_irrefl _)) (·.2), fun h => .inr ⟨rfl, h⟩⟩
theorem lt_end {a b : L8} : ∀ {k : Nat}, a.take k = b.take k → (k = a.length ∨ k = b.length) → k ≤ a.length → k ≤ b.length → decide (b < a) = decide (b.length < a.length) := by
  induction a generalizing b with
  | nil => intro k _ _ _ _; simp
  | cons a0 a ih =>
    intro k ht he h1 h2
    cases b with
    | nil => simp
    | cons b0 b =>
      cases k with
      | zero => simp at he
      | succ k =>
        simp only [List.take_succ_cons, List.cons.injEq] at ht
        simp only [List.length_cons] at he h1 h2 ⊢
        have := ih ht.2 (by omega) (by omega) (by omega)
        rw [decide_eq_decide] at this ⊢
        rw [List.cons_lt_cons_iff, ht.1]
        constructor
        · rintro (h | h)
          · exact absurd h (UInt8.lt_irrefl _)
          · have := this.1 h.2; omega
        · intro h; exact .inr ⟨rfl, this.2 (by omega)⟩
theorem ba_byte (x : L8) (k : Nat) {c : UInt8} (h : x[k]? = some c) : (Km.ba x).data[k]? = some c := by simpa [Km.ba] using h
theorem run_idx {P : Program} (w : World) (t : TypeId) (s : ByteArray) (k : Nat) (x : UInt8) (h : P.underlying t = some .string) (hx : s.data[k]? = some x) : (Instr.index t (.string s) (.int .i64 (k : Int))).run P w = .ok (.int .u8 (x.toNat : Int)) w := by
  obtain ⟨hl, hv⟩ := Array.getElem?_eq_some_iff.1 hx
  have hl' : k < s.size := hl
  rw [run_index_string w t s .i64 k h, dif_pos ⟨by omega, by omega⟩]
  simp only [Int.toNat_natCast]
  show Result.ok (Value.int .u8 ((s.data[k]'hl).toNat : Int)) w = _
  rw [hv]
theorem u8_int {x y : UInt8} (h : x ≠ y) : (x.toNat : Int) ≠ (y.toNat : Int) := fun e => h (UInt8.toNat_inj.1 (by omega))
theorem u8_lt {x y : UInt8} : decide (y.toNat < x.toNat) = decide (y < x) := by
  rw [decide_eq_decide, UInt8.lt_iff_toNat_lt]
set_option maxHeartbeats 2000000 in
set_option maxRecDepth 100000 in
theorem Above_any (w : World) (a b : L8) (ha : a.length ≤ 1099511627776) (hb : b.length ≤ 1099511627776) : Calls Try.prog 80 #[.string (Km.ba a), .string (Km.ba b)] w (AbvPost w a b) := by
  obtain ⟨ka, hka⟩ : ∃ q, Km.ba a = q := ⟨_, rfl⟩
  obtain ⟨kb, hkb⟩ : ∃ q, Km.ba b = q := ⟨_, rfl⟩
  have hsa : ka.size = a.length := by rw [← hka, Km.ba_size]
  have hsb : kb.size = b.length := by rw [← hkb, Km.ba_size]
  have HKA := Lib.hid hka; have HKB := Lib.hid hkb; have HSA := Lib.hid hsa; have HSB := Lib.hid hsb
  obtain ⟨na, hna⟩ : ∃ q, ka.size = q := ⟨_, rfl⟩
  obtain ⟨nb, hnb⟩ : ∃ q, kb.size = q := ⟨_, rfl⟩
  have HNA := Lib.hid hna; have HNB := Lib.hid hnb
  obtain ⟨d, hd⟩ : ∃ d, decide (b < a) = d := ⟨_, rfl⟩
  have HD := Lib.hid hd
  unfold AbvPost
  rw [hka, hkb, hd]
  have hla : na ≤ 1099511627776 := by omega
  have hlb : nb ≤ 1099511627776 := by omega
  clear hka hkb hsa hsb hd
  go_enter Try.func80, Try.ntmps80
  go_wp2
  go_loopw [5] (fun s5 wr => ∃ k : Nat, s5 = .int .i64 (k : Int) ∧ k ≤ na ∧ k ≤ nb ∧ Hid (a.take k = b.take k) ∧ ∃ q, wr = w.drewN q) (fun s5 _ => na - (intOf s5).toNat)
  case atStart => exact ⟨0, rfl, Nat.zero_le _, Nat.zero_le _, Lib.hid (by simp), 0, rfl⟩
  case round =>
    obtain ⟨k, rfl, h1, h2, ht, q, rfl⟩ := hrel
    by_cases hlt : k < na ∧ k < nb
    · obtain ⟨hl1, hl2⟩ := hlt
      have hi1 : (k : Int) < (na : Int) := by omega
      have hi2 : (k : Int) < (nb : Int) := by omega
      obtain ⟨x, hx⟩ : ∃ x, a[k]? = some x := ⟨_, List.getElem?_eq_getElem (by have := HSA.out; have := HNA.out; omega)⟩
      obtain ⟨y, hy⟩ : ∃ x, b[k]? = some x := ⟨_, List.getElem?_eq_getElem (by have := HSB.out; have := HNB.out; omega)⟩
      have e1 : ka.data[k]? = some x := by rw [← HKA.out]; exact ba_byte a k hx
      have e2 : kb.data[k]? = some y := by rw [← HKB.out]; exact ba_byte b k hy
      have i1 := fun w => run_idx (P := Try.prog) w 9 ka k x Try.underlying9 e1
      have i2 := fun w => run_idx (P := Try.prog) w 9 kb k y Try.underlying9 e2
      by_cases hxy : x = y
      · subst hxy
        have R : Hid (a.take (k + 1) = b.take (k + 1)) := Lib.hid (by rw [List.take_add_one, List.take_add_one, ht.out, hx, hy])
        clear ht hx hy e1 e2
        go_wp2
        go_quiet (fail)
        go_wp2
        go_roundw
        case rel => exact ⟨k + 1, by go_num, by omega, by omega, R, by first | exact ⟨_, rfl⟩ | exact ⟨_, World.drewN_drewN ..⟩⟩
        case measure => simp [intOf]; omega
      · have hne := u8_int hxy
        have HV : Hid (decide (y.toNat < x.toNat) = d) := Lib.hid (by rw [u8_lt, ← lt_step ht.out hx hy hxy]; exact HD.out)
        clear ht hx hy e1 e2
        go_wp2
        go_quiet (fail)
        go_wp2
        go_quiet (fail)
        go_wp2
        go_ret
        exact ⟨by rw [← HV.out]; rfl, _, by rw [World.drewN_drewN, World.drewN_drewN]⟩
    · have HV : Hid (decide (nb < na) = d) := Lib.hid (by
        have h3 := lt_end ht.out (by have := HSA.out; have := HNA.out; have := HSB.out; have := HNB.out; omega) (by have := HSA.out; have := HNA.out; omega) (by have := HSB.out; have := HNB.out; omega)
        rw [← HD.out, h3, decide_eq_decide]
        have := HSA.out; have := HNA.out; have := HSB.out; have := HNB.out
        omega)
      by_cases hl1 : k < na
      · have hi1 : (k : Int) < (na : Int) := by omega
        have hi2 : ¬ (k : Int) < (nb : Int) := by omega
        clear ht
        go_wp2
        go_ret
        exact ⟨by rw [← HV.out]; rfl, _, rfl⟩
      · have hi1 : ¬ (k : Int) < (na : Int) := by omega
        clear ht
        go_wp2
        go_ret
        exact ⟨by rw [← HV.out]; rfl, _, rfl⟩
end Go.Proofs.Ytahichieakdbnaa

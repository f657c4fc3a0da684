/- The contracts of vint as callers meet them. -/
import Derived.Test.YtjoibfcjijddjaaSize
import Derived.Test.YtjoibfcjijddjaaAll
import Derived.Test.YtjoibfcjijddjaaSame
namespace Go.Proofs.Ytjoibfcjijddjaa
open Go.ChangeShapes Go.WideShapes Go.ChangeAt Go.RowKit
set_option linter.unusedVariables false

theorem Rd.new (w : World) (cs : Array Value) (t : TypeId) : Rd (w.alloc (.cells cs t)) (w.heap.size + 1) (some ⟨w.heap.size, 0, none⟩) cs.toList := fun hn =>
  ⟨_, _, rfl, by omega, fun j u hu => by
    have h := cell_of_row (w.alloc (.cells cs t)) w.heap.size (0 + j) cs t (0, 0) (heap_alloc_new w _)
    rw [h]
    simpa using hu⟩
theorem Rd.new8 (w : World) (t : TypeId) (bs : List Nat) (cs : Array Value) (h : u8s bs = cs.toList) : Rd (w.alloc (.cells cs t)) (w.heap.size + 1) (some ⟨w.heap.size, 0, none⟩) (u8s bs) := by
  rw [h]; exact Rd.new w cs t
theorem Rd.new64 (w : World) (t : TypeId) (bs : List Nat) (cs : Array Value) (h : u64s bs = cs.toList) : Rd (w.alloc (.cells cs t)) (w.heap.size + 1) (some ⟨w.heap.size, 0, none⟩) (u64s bs) := by
  rw [h]; exact Rd.new w cs t

/-- Bytes that some call made: of so many, so, in that world. -/
def Made (w' : World) (v : Value) (bs : List Nat) (k : Nat) : Prop := ∃ A c, v = .slice A k c ∧ Rd w' w'.heap.size A (u8s bs) ∧ bs.length = k ∧ k ≤ c ∧ c ≤ maxLen ∧ (∀ b ∈ bs, b < 256) ∧ (A = none → c = 0)
theorem Made.keep {w w' : World} {v : Value} {bs : List Nat} {k : Nat} (h : Made w v bs k) (hb : Below w.heap.size w w') : Made w' v bs k := by
  obtain ⟨A, c, e, hr, hk, h1, h2, h3⟩ := h
  exact ⟨A, c, e, (hr.below hb).more hb.size, hk, h1, h2, h3⟩

theorem take_at (w : World) (A : Option Addr) (c : Nat) (bs : List Nat) (B n a b d : Nat) (hr : Rd w B A (u8s bs)) (h256 : ∀ b ∈ bs, b < 256) (hl : bs.length ≤ maxLen) (hn : bs.length = n) (ht : Vm.take bs = (a, b, d)) :
    Calls Try.prog 7 #[.slice A n c] w fun e w' => e = .returned (.tuple #[.int .u64 (a : Int), .int .i64 (b : Int), .int .i64 (d : Int)]) ∧ w = w' := by
  subst hn
  refine (take_any w A c bs B hr h256 hl).mono fun e w' h => ?_
  unfold TakePost at h
  rw [ht] at h
  exact h
theorem takeS_at (w : World) (A : Option Addr) (c : Nat) (bs : List Nat) (B n b : Nat) (a : Int) (m : Nat) (hr : Rd w B A (u8s bs)) (h256 : ∀ b ∈ bs, b < 256) (hl : bs.length ≤ maxLen) (hn : bs.length = n) (ht : Vm.take bs = (m, b, 0)) (ha : Vm.zag m = a) :
    Calls Try.prog 9 #[.slice A n c] w fun e w' => e = .returned (.tuple #[.int .i64 a, .int .i64 (b : Int), .int .i64 0]) ∧ w = w' := by
  subst hn ha
  refine (TakeSigned_any w A c bs B hr h256 hl).mono fun e w' h => ?_
  unfold TakeSPost at h
  rw [ht] at h
  simpa using h
theorem takeS_no_at (w : World) (A : Option Addr) (c : Nat) (bs : List Nat) (B n a b d : Nat) (hr : Rd w B A (u8s bs)) (h256 : ∀ b ∈ bs, b < 256) (hl : bs.length ≤ maxLen) (hn : bs.length = n) (ht : Vm.take bs = (a, b, d)) (hd : d ≠ 0) :
    Calls Try.prog 9 #[.slice A n c] w fun e w' => e = .returned (.tuple #[.int .i64 0, .int .i64 0, .int .i64 (d : Int)]) ∧ w = w' := by
  subst hn
  refine (TakeSigned_any w A c bs B hr h256 hl).mono fun e w' h => ?_
  unfold TakeSPost at h
  rw [ht] at h
  simpa [hd] using h
theorem made_of_own {w : World} {base : Nat} {e : TypeId} {v : Value} {n k : Nat} {bs : List Nat} (h : w.ownsRow base e 1 v n (u8s bs)) (hk : bs.length = k) (h256 : ∀ b ∈ bs, b < 256) : Made w v bs k := by
  obtain ⟨A, c, rfl, h1, h2, h3, h4, h5⟩ := own_form h
  have : n = k := by rw [← h3]; simpa using hk
  subst this
  exact ⟨A, c, rfl, h4, hk, h1, h2, h256, h5⟩
theorem Put_at (w : World) (x : Int) (bs : List Nat) (k : Nat) (h0 : 0 ≤ x) (h1 : x ≤ 18446744073709551615) (hbs : Vm.enc x.toNat = bs) (hk : bs.length = k) :
    Calls Try.prog 13 #[.int .u64 x] w fun e w' => ∃ v, e = .returned v ∧ Made w' v bs k ∧ Below w.heap.size w w' := by
  obtain ⟨n, rfl⟩ := Int.eq_ofNat_of_zero_le h0
  rw [Int.toNat_natCast] at hbs
  subst hbs
  refine (Put_any w n (by omega)).mono ?_
  rintro e w' ⟨v, rfl, ho, hb, _⟩
  exact ⟨v, rfl, made_of_own (by simpa using ho) hk (Vm.enc_byte (by omega)), hb⟩
theorem PutS_at (w : World) (x : Int) (bs : List Nat) (k : Nat) (h0 : -9223372036854775808 ≤ x) (h1 : x ≤ 9223372036854775807) (hbs : Vm.enc (Vm.zig x) = bs) (hk : bs.length = k) :
    Calls Try.prog 18 #[.int .i64 x] w fun e w' => ∃ v, e = .returned v ∧ Made w' v bs k ∧ Below w.heap.size w w' := by
  subst hbs
  refine (PutSigned_any w x h0 h1).mono ?_
  rintro e w' ⟨v, rfl, ho, hb, _⟩
  exact ⟨v, rfl, made_of_own (by simpa using ho) hk (Vm.enc_byte (Vm.zig_lt h0 h1)), hb⟩
theorem encs_byte {ls : List Nat} (h : ∀ b ∈ ls, b ≤ 18446744073709551615) : ∀ b ∈ Vm.encs ls, b < 256 := by
  intro b hb
  simp only [Vm.encs, List.mem_flatMap] at hb
  obtain ⟨n, hn, hb⟩ := hb
  exact Vm.enc_byte (by have := h n hn; omega) b hb
theorem All_at (w : World) (A : Option Addr) (c : Nat) (ls : List Nat) (B n : Nat) (hr : Rd w B A (u64s ls)) (hB : B ≤ w.heap.size) (h64 : ∀ b ∈ ls, b ≤ 18446744073709551615) (hl : ls.length ≤ 1000000) (hn : ls.length = n) (bs : List Nat) (k : Nat) (hbs : Vm.encs ls = bs) (hk : bs.length = k) :
    Calls Try.prog 19 #[.slice A n c] w fun e w' => ∃ v, e = .returned v ∧ Made w' v bs k ∧ Below w.heap.size w w' := by
  subst hn hbs
  refine (All_any w A c ls B hr hB h64 hl).mono ?_
  rintro e w' ⟨v, rfl, ho, hb⟩
  exact ⟨v, rfl, made_of_own ho hk (encs_byte h64), hb⟩
theorem same_at (w : World) (A1 A2 : Option Addr) (c1 c2 : Nat) (bs ds : List Nat) (B1 B2 n1 n2 : Nat) (x : Bool) (h1 : Rd w B1 A1 (u8s bs)) (h2 : Rd w B2 A2 (u8s ds)) (hl : bs.length ≤ maxLen) (hn1 : bs.length = n1) (hn2 : ds.length = n2) (hx : decide (bs = ds) = x) :
    Calls Try.prog 12 #[.slice A1 n1 c1, .slice A2 n2 c2] w fun e w' => e = .returned (.bool x) ∧ ∃ q, w' = w.drewN q := by
  subst hn1 hn2 hx
  exact same_any w A1 A2 c1 c2 bs ds B1 B2 h1 h2 hl
theorem Zig_at (w : World) (x y : Int) (h0 : -9223372036854775808 ≤ x) (h1 : x ≤ 9223372036854775807) (hy : (Vm.zig x : Int) = y) :
    Calls Try.prog 15 #[.int .i64 x] w fun e w' => e = .returned (.int .u64 y) ∧ w = w' := by subst hy; exact Zig_any w x h0 h1
theorem Zag_at (w : World) (x y : Int) (h0 : 0 ≤ x) (h1 : x ≤ 18446744073709551615) (hy : Vm.zag x.toNat = y) :
    Calls Try.prog 17 #[.int .u64 x] w fun e w' => e = .returned (.int .i64 y) ∧ w = w' := by
  obtain ⟨n, rfl⟩ := Int.eq_ofNat_of_zero_le h0
  subst hy
  exact Zag_any w n (by omega)
theorem Size_at (w : World) (x : Int) (y : Int) (h0 : 0 ≤ x) (h1 : x ≤ 18446744073709551615) (hy : ((Vm.enc x.toNat).length : Int) = y) :
    Calls Try.prog 14 #[.int .u64 x] w fun e w' => e = .returned (.int .i64 y) ∧ w = w' := by
  obtain ⟨n, rfl⟩ := Int.eq_ofNat_of_zero_le h0
  subst hy
  exact Size_any w n (by omega)
end Go.Proofs.Ytjoibfcjijddjaa

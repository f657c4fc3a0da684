/- vint.put and vint.Put: the bytes of a number. -/
import Derived.Test.YtahichieakdbnaaW
import Derived.Test.YtahichieakdbnaaVm
namespace Go.Proofs.Ytahichieakdbnaa
open Go.ChangeShapes Go.WideShapes Go.ChangeAt Go.RowKit
set_option linter.unusedVariables false

theorem Try.infoB : (Try.prog.info? 5).map (fun i => (i.zero, i.size, i.bytes)) = some (some (.int .u8 0), 1, 1) := by kernel_rfl

/-- what putting a number's bytes behind a row leaves -/
def PutPost (B : Nat) (w : World) (m : Nat) (xs : List Value) (n : Nat) (e : Ending) (w' : World) : Prop :=
  ∃ v', e = .returned v' ∧ w'.ownsRow B 5 1 v' (m + (Vm.enc n).length) (xs ++ u8s (Vm.enc n)) ∧ Below B w w' ∧ v' ≠ .slice none 0 0
def PutRel (B : Nat) (w : World) (m : Nat) (xs : List Value) (n : Nat) (s0 s1 : Value) (wr : World) : Prop :=
  ∃ (nk : Nat) (pre : List Nat), s1 = .int .u64 (nk : Int) ∧ nk ≤ 18446744073709551615 ∧ pre ++ Vm.enc nk = Vm.enc n ∧ wr.ownsRow B 5 1 s0 (m + pre.length) (xs ++ u8s pre) ∧ Below B w wr

theorem or128 {n : Nat} : bits .or .u8 ((n : Int) % 256) 128 = ((n % 128 + 128 : Nat) : Int) := by
  have h : ((n : Int) % 256) = ((n % 256 : Nat) : Int) := by omega
  rw [h, show (128 : Int) = ((128 : Nat) : Int) from rfl, u8_or_nat _ _ (by omega) (by omega)]
  congr 1
  have : ∀ k : Fin 256, k.val ||| 128 = k.val % 128 + 128 := by decide +kernel
  have := this ⟨n % 256, by omega⟩
  simp only at this
  omega

theorem put_step {B : Nat} {w wr w1 : World} {m n nk : Nat} {xs : List Value} {pre : List Nat} {v1 : Value} (h1 : 128 ≤ nk) (h2 : nk ≤ 18446744073709551615) (hp : pre ++ Vm.enc nk = Vm.enc n)
    (ho : w1.ownsRow B 5 1 v1 (m + pre.length + 1) ((xs ++ u8s pre) ++ [.int .u8 ((nk % 128 + 128 : Nat) : Int)])) (hb : Below B w w1) :
    PutRel B w m xs n v1 (.int .u64 ((nk / 128 : Nat) : Int)) w1 := by
  refine ⟨nk / 128, pre ++ [nk % 128 + 128], rfl, by omega, ?_, ?_, hb⟩
  · rw [← hp, Vm.enc_big h1 (by omega)]; simp
  · have e1 : m + (pre ++ [nk % 128 + 128]).length = m + pre.length + 1 := by simp; omega
    have e2 : xs ++ u8s (pre ++ [nk % 128 + 128]) = (xs ++ u8s pre) ++ [.int .u8 ((nk % 128 + 128 : Nat) : Int)] := by simp [u8s]
    rw [e1, e2]; exact ho
theorem put_end {B : Nat} {w wr w1 : World} {m n nk : Nat} {xs : List Value} {pre : List Nat} {v1 : Value} (h1 : nk < 128) (hp : pre ++ Vm.enc nk = Vm.enc n)
    (ho : w1.ownsRow B 5 1 v1 (m + pre.length + 1) ((xs ++ u8s pre) ++ [.int .u8 ((nk : Nat) : Int)])) (hb : Below B w w1) (hne : v1 ≠ .slice none 0 0) :
    PutPost B w m xs n (.returned v1) w1 := by
  refine ⟨v1, rfl, ?_, hb, hne⟩
  rw [← hp, Vm.enc_small h1]
  have e1 : m + (pre ++ [nk]).length = m + pre.length + 1 := by simp; omega
  have e2 : xs ++ u8s (pre ++ [nk]) = (xs ++ u8s pre) ++ [.int .u8 ((nk : Nat) : Int)] := by simp [u8s]
  rw [e1, e2]; exact ho
theorem pre_le {n nk : Nat} {pre : List Nat} (hp : pre ++ Vm.enc nk = Vm.enc n) : pre.length ≤ 10 := by
  have h1 := congrArg List.length hp
  have h2 := Vm.enc_le n
  simp at h1
  omega

set_option maxHeartbeats 400000 in
set_option maxRecDepth 100000 in
theorem put_any (w : World) (B : Nat) (v : Value) (m : Nat) (xs : List Value) (n : Nat) (hown : w.ownsRow B 5 1 v m xs) (hB : B ≤ w.heap.size) (hn : n ≤ 18446744073709551615) (hm : m ≤ 1099511627776) :
    Calls Try.prog 112 #[v, .int .u64 (n : Int)] w (PutPost B w m xs n) := by
  obtain ⟨i0, hi, hz0, hz1, hz2⟩ := info_parts Try.infoB
  go_enter Try.func112, Try.ntmps112
  go_wp2
  go_loopw [0, 1] (fun s0 s1 wr => PutRel B w m xs n s0 s1 wr) (fun _ s1 _ => (intOf s1).toNat)
  case atStart => exact ⟨n, [], rfl, hn, rfl, by simpa [u8s] using hown, Below.refl _ _⟩
  case round =>
    obtain ⟨nk, pre, rfl, hnk, hpre, ho, hbel⟩ := hrel
    have hlen := pre_le hpre
    have HP := Lib.hid hpre; clear hpre
    have hsz := hbel.size
    have hb2 : Below B w (wr.alloc (.cells #[.int .u8 (bits .or .u8 ((nk : Int) % 256) 128)] 5)) := hbel.alloc (by omega) _
    have hb3 : Below B w (wr.alloc (.cells #[.int .u8 (nk : Int)] 5)) := hbel.alloc (by omega) _
    have hrow := fun k hk => (ho.lt k hk).1
    by_cases hbig : 128 ≤ nk
    · go_wp2_with (at_builtin; refine wpList_append_own _ rfl _ _ 32 rfl B 5 i0 (.int .u8 0) 1 1 Try.underlying32 hi hz0 hz1 hz2 rfl (by decide) _ _ _ rfl (ho.alloc _) ⟨wr.heap.size, 0, none⟩ 1 1 [.int .u8 (bits .or .u8 ((nk : Int) % 256) 128)] rfl rfl (one_new _ _ _) (one_cell rfl) (by unfold maxLen; omega) (by omega) (by simp; omega) ?_; intro v1 w1 ho1 hg1 hne1)
      have hb4 := hb2.grown hg1 (by simp; omega) hrow
      have R := put_step (w := w) (wr := wr) hbig hnk HP.out (by rw [or128] at ho1; simpa using ho1) hb4
      clear ho1 hg1 ho hb2 hb3 hrow
      go_wp2
      go_roundw
      case rel => simpa using R
      case measure => simp [intOf]; omega
    · go_wp2_with (at_builtin; refine wpList_append_own _ rfl _ _ 32 rfl B 5 i0 (.int .u8 0) 1 1 Try.underlying32 hi hz0 hz1 hz2 rfl (by decide) _ _ _ rfl (ho.alloc _) ⟨wr.heap.size, 0, none⟩ 1 1 [.int .u8 (nk : Int)] rfl rfl (one_new _ _ _) (one_cell rfl) (by unfold maxLen; omega) (by omega) (by simp; omega) ?_; intro v1 w1 ho1 hg1 hne1)
      have hb4 := hb3.grown hg1 (by simp; omega) hrow
      have R := put_end (w := w) (wr := wr) (by omega) HP.out (by simpa using ho1) hb4 (by simpa using hne1)
      clear ho1 hg1 ho hb2 hb3 hrow
      go_wp2
      go_ret
      exact R

theorem Put_any (w : World) (n : Nat) (hn : n ≤ 18446744073709551615) :
    Calls Try.prog 98 #[.int .u64 (n : Int)] w (PutPost w.heap.size w 0 [] n) := by
  have h := put_any w w.heap.size (.slice none 0 0) 0 [] n (World.ownsRow_nil _ _ _ _) (Nat.le_refl _) hn (by omega)
  have H := Lib.hid h; clear h
  go_enter Try.func98, Try.ntmps98
  go_wp2_with fail
  refine H.out.mono ?_
  rintro e w' ⟨v, rfl, h1⟩
  have H1 := Lib.hid h1; clear h1
  go_wp2
  go_ret
  exact ⟨v, rfl, H1.out⟩
end Go.Proofs.Ytahichieakdbnaa

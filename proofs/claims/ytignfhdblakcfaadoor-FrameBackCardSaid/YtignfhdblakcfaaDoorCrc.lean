/- crc.Sum, crc.Seal, crc.Open. -/
import Derived.Test.YtignfhdblakcfaaDoorMore
import Derived.Deep.DeepMust
namespace Go.Proofs.YtignfhdblakcfaaDoor
open Go.ChangeShapes Go.WideShapes Go.ChangeAt Go.RowKit
set_option linter.unusedVariables false

theorem Tryd.infoB : (Tryd.prog.info? 5).map (fun i => (i.zero, i.size, i.bytes)) = some (some (.int .u8 0), 1, 1) := by kernel_rfl

theorem Sum_any (w : World) (A : Option Addr) (len cap : Nat) (bs : List Nat) (B : Nat) (hT : Tab w) (hr : Rd w B A (u8s bs)) (h256 : ∀ b ∈ bs, b < 256) (hn : bs.length = len) (hl : len ≤ maxLen) :
    Calls Tryd.prog 29 #[.slice A len cap] w (MorePost w (Cm.sum bs)) := by
  have H := Lib.hid (More_any w 0 A len cap bs B hT (by decide) hr h256 hn hl)
  clear hT hr h256 hn hl
  go_enter Tryd.func29, Tryd.ntmps29
  go_wp2_with fail
  refine H.out.mono ?_
  rintro e w' ⟨rfl, rfl⟩
  go_wp2
  go_ret
  exact ⟨rfl, rfl⟩

/-! Seal -/
def SealPost (w : World) (bs : List Nat) (e : Ending) (w' : World) : Prop :=
  ∃ v', e = .returned v' ∧ w'.ownsRow w.heap.size 5 1 v' (Cm.sealed bs).length (u8s (Cm.sealed bs)) ∧ Below w.heap.size w w'
def SealRel (w : World) (bs : List Nat) (x : Nat) (s3 s4 s14 : Value) (wr : World) : Prop :=
  ∃ k y : Nat, s4 = .int .u32 (y : Int) ∧ s14 = .int .i64 (k : Int) ∧ k ≤ 4 ∧ y < 4294967296 ∧ Hid (y = x / 256 ^ k) ∧ wr.ownsRow w.heap.size 5 1 s3 (bs.length + k) (u8s (bs ++ (Cm.le4 x).take k)) ∧ Below w.heap.size w wr
theorem le4_take (x : Nat) : ∀ k, k < 4 → (Cm.le4 x).take (k + 1) = (Cm.le4 x).take k ++ [x / 256 ^ k % 256] := by
  intro k hk
  match k, hk with
  | 0, _ => simp [Cm.le4]
  | 1, _ => simp [Cm.le4]
  | 2, _ => simp [Cm.le4]
  | 3, _ => simp [Cm.le4]
theorem seal_step {w w1 : World} {bs : List Nat} {x k y : Nat} {v1 : Value} (hk : k < 4) (hy : y < 4294967296) (hyx : y = x / 256 ^ k) (ho : w1.ownsRow w.heap.size 5 1 v1 (bs.length + k + 1) (u8s (bs ++ (Cm.le4 x).take k) ++ [.int .u8 ((y : Int) % 256)])) (hb : Below w.heap.size w w1) :
    SealRel w bs x v1 (.int .u32 ((y : Int) / 256)) (.int .i64 ((k : Int) + 1)) w1 := by
  refine ⟨k + 1, y / 256, by go_num, by go_num, by omega, by omega, ?_, ?_, hb⟩
  · show _ = _
    rw [hyx, Nat.pow_succ, Nat.div_div_eq_div_mul]
  · have e : u8s (bs ++ (Cm.le4 x).take (k + 1)) = u8s (bs ++ (Cm.le4 x).take k) ++ [.int .u8 ((y : Int) % 256)] := by
      rw [le4_take x k hk, ← hyx, ← List.append_assoc, u8s_append]
      simp [u8s]
    rw [e]; exact ho

set_option maxHeartbeats 1000000 in
set_option maxRecDepth 100000 in
theorem Seal_any (w : World) (A : Option Addr) (len cap : Nat) (bs : List Nat) (hT : Tab w) (hr : Rd w w.heap.size A (u8s bs)) (h256 : ∀ b ∈ bs, b < 256) (hn : bs.length = len) (hl : len ≤ 1099511627776) (hnone : A = none → cap = 0) :
    Calls Tryd.prog 21 #[.slice A len cap] w (SealPost w bs) := by
  obtain ⟨i0, hi, hz0, hz1, hz2⟩ := info_parts Tryd.infoB
  obtain ⟨x, hx⟩ : ∃ x, x = Cm.sum bs := ⟨_, rfl⟩
  have hxl : x < 4294967296 := by rw [hx]; exact Cm.sum_lt h256
  have cS := Lib.hid (fun (w : World) (B : Nat) (hT : Tab w) (hr : Rd w B A (u8s bs)) => Sum_any w A len cap bs B hT hr h256 hn (by unfold maxLen; omega))
  rw [← hx] at cS
  have hul : (u8s bs).length = len := by simp [hn]
  have HUL := Lib.hid hul
  have HR := Lib.hid hr
  have HN := Lib.hid hnone
  have HT := Lib.hid hT
  have HX := Lib.hid hx
  have HL := Lib.hid hn
  have hbytes : i0.bytes * (len + 4) ≤ 281474976710656 := by rw [hz2]; omega
  have HB := Lib.hid hbytes
  clear hul hr hnone hT hx hn h256 hbytes
  have hcap : (((len + 4 : Nat)) : Int) = (len : Int) + 4 := by omega
  have HC := Lib.hid hcap; clear hcap
  have tok1 : True := trivial
  go_enter Tryd.func21, Tryd.ntmps21
  go_wp2_with (first
    | (at_make; go_must (refine wpList_make_own _ rfl _ _ 22 rfl w.heap.size 5 i0 (.int .u8 0) 1 Tryd.underlying22 hi hz0 hz1 .i64 .i64 ((len : Int) + 4) (len + 4) rfl rfl HC.out.symm HB.out (by unfold maxLen; omega) (Nat.le_refl _) ?_; intro w1 ho1 hg1; have hb1 := (Below.refl w.heap.size w).grown hg1 (Nat.le_refl _) (fun k hk => by cases hk); have hr1 := Lib.hid (HR.out.below hb1); clear hg1))
    | (at_builtin; have _t := tok1; go_must (refine app_own rfl (.tmp 9) (.tmp 10) 22 rfl w.heap.size 5 i0 (.int .u8 0) 1 Tryd.underlying22 hi hz0 hz1 hz2 rfl _ 0 [] rfl ho1 w.heap.size A len cap (u8s bs) rfl HUL.out hr1.out HN.out (u8s_one _) (by unfold maxLen; omega) (by omega) hb1.size ?_; intro v2 w2 ho2 hg2 _hne2; have hb2 := hb1.grown hg2 hb1.size (fun k hk => (ho1.lt k hk).1); simp only [Nat.zero_add, List.nil_append] at ho2; have hr2 := Lib.hid (HR.out.below hb2); have hT2 := Lib.hid (HT.out.below hb2); clear hg2 ho1 hb1 hr1 tok1))
    | fail)
  refine (cS.out _ _ hT2.out hr2.out).mono ?_
  rintro e w' ⟨rfl, rfl⟩
  clear hr2 hT2
  go_wp2
  go_loopw [3, 4, 14] (fun s3 s4 s14 wr => SealRel w bs x s3 s4 s14 wr) (fun _ _ s14 _ => 4 - (intOf s14).toNat)
  case atStart => exact ⟨0, x, rfl, rfl, by omega, hxl, by show _ = _; simp, by simpa [HL.out] using ho2, hb2⟩
  case round =>
    clear ho2 hb2
    obtain ⟨k, y, rfl, rfl, hk, hyl, hyx, ho, hb⟩ := hrel
    have hbl := Lib.hid HL.out
    have hlen : bs.length ≤ 1099511627776 := by rw [HL.out]; exact hl
    have hrow := fun k hk => (ho.lt k hk).1
    have hsz := hb.size
    by_cases hlt : k < 4
    · have hb3 := hb.alloc (hb.size) (.cells #[.int .u8 ((y : Int) % 256)] 5)
      go_wp2_with (at_builtin; go_must (refine wpList_append_own _ rfl _ _ 22 rfl w.heap.size 5 i0 (.int .u8 0) 1 1 Tryd.underlying22 hi hz0 hz1 hz2 rfl (by decide) _ _ _ rfl (ho.alloc _) ⟨wr.heap.size, 0, none⟩ 1 1 [.int .u8 ((y : Int) % 256)] rfl rfl (one_new _ _ _) (one_cell rfl) (by unfold maxLen; omega) (by omega) (by simp; omega) ?_; intro v1 w1 ho1 hg1 hne1))
      have hb4 := hb3.grown hg1 (by simp; omega) hrow
      have R := seal_step hlt hyl hyx.out (by simpa [u8s_append] using ho1) hb4
      have HR4 := Lib.hid R
      clear ho1 hg1 ho hb3 hb hrow R hb4
      go_wp2
      go_roundw
      case rel => exact HR4.out
      case measure => simp [intOf]; omega
    · obtain rfl : k = 4 := by omega
      have R : SealPost w bs (.returned u3) wr := ⟨u3, rfl, by
        have e : Cm.sealed bs = bs ++ (Cm.le4 x).take 4 := by rw [HX.out]; simp [Cm.sealed, Cm.le4]
        have e2 : (Cm.sealed bs).length = bs.length + 4 := by simp [Cm.sealed, Cm.le4]
        rw [e2, e]; exact ho, hb⟩
      have HR4 := Lib.hid R
      clear R ho hb hrow
      go_wp2
      go_ret
      exact HR4.out

/-! Open -/
def OpenPost (w : World) (bs : List Nat) (e : Ending) (w' : World) : Prop :=
  ∃ v, e = .returned (.tuple #[v, .int .i64 (Cm.openE bs : Int)]) ∧ Made w' v (Cm.openB bs) (Cm.openB bs).length ∧ Below w.heap.size w w'
theorem made_nil (w : World) : Made w (.slice none 0 0) [] 0 := ⟨none, 0, rfl, Rd.nil _ _ _, rfl, Nat.le_refl _, Nat.zero_le _, by simp, fun _ => rfl⟩
theorem open_err {w w' : World} {bs : List Nat} {d : Nat} (h : Cm.openE bs = d) (hd : d ≠ 0) (hb : Below w.heap.size w w') : OpenPost w bs (.returned (.tuple #[.slice none 0 0, .int .i64 (d : Int)])) w' := by
  refine ⟨_, by rw [h], ?_, hb⟩
  have e : Cm.openB bs = [] := by unfold Cm.openB; rw [if_neg (by rw [h]; exact hd)]
  rw [e]
  exact made_nil w'
def OpenRel (bs : List Nat) (n : Nat) (s5 s6 : Value) : Prop := ∃ (k S : Nat) (i : Int), s5 = .int .u32 (S : Int) ∧ s6 = .int .i64 i ∧ i + k ≤ n + 3 ∧ (n : Int) + 3 ≤ i + k ∧ k ≤ 4 ∧ Hid (S = Cm.tail bs k)
theorem or8 {S x : Nat} (h : S < 16777216) (hx : x < 256) : bits .or .u32 ((S : Int) * 256) (x : Int) = ((S * 256 + x : Nat) : Int) := by
  rw [show ((S : Int) * 256) = ((S * 256 : Nat) : Int) by omega, u32_or_nat _ _ (by omega) (by omega), nat_join 8 (S * 256) x (by omega) (by omega)]

set_option maxHeartbeats 1000000 in
set_option maxRecDepth 100000 in
theorem Open_any (w : World) (A : Option Addr) (len cap : Nat) (bs : List Nat) (hT : Tab w) (hr : Rd w w.heap.size A (u8s bs)) (h256 : ∀ b ∈ bs, b < 256) (hn : bs.length = len) (hlc : len ≤ cap) (hcm : cap ≤ maxLen) (hl : len ≤ 1099511627776) (hnone : A = none → cap = 0) :
    Calls Tryd.prog 33 #[.slice A len cap] w (OpenPost w bs) := by
  obtain ⟨i0, hi, hz0, hz1, hz2⟩ := info_parts Tryd.infoB
  unfold maxLen at hcm
  by_cases hshort : len < 4
  · have R := open_err (w := w) (w' := w) (Cm.open_short (by rw [hn]; exact hshort)) (by omega) (Below.refl _ _)
    have HR := Lib.hid R
    clear R hT hr h256 hn hnone
    go_enter Tryd.func33, Tryd.ntmps33
    go_wp2
    go_ret2
    exact HR.out
  obtain ⟨n, rfl⟩ : ∃ n, len = n + 4 := ⟨len - 4, by omega⟩
  obtain ⟨hd, hhd⟩ : ∃ hd, hd = bs.take n := ⟨_, rfl⟩
  have hd256 : ∀ b ∈ hd, b < 256 := by rw [hhd]; exact fun b hb => h256 b (List.mem_of_mem_take hb)
  have hdn : hd.length = n := by rw [hhd, List.length_take, hn]; omega
  obtain ⟨x, hx⟩ : ∃ x, x = Cm.sum hd := ⟨_, rfl⟩
  have hrd : ∀ (w' : World) (B : Nat), Rd w' B A (u8s bs) → Rd w' B A (u8s hd) := fun w' B h => by
    rw [hhd, show u8s (bs.take n) = (u8s bs).take n by simp [u8s, List.map_take]]
    exact h.take n
  have cS := Lib.hid (fun (w : World) (hT : Tab w) (hr : Rd w w.heap.size A (u8s hd)) => Sum_any w A n cap hd _ hT hr hd256 hdn (by unfold maxLen; omega))
  rw [← hx] at cS
  have hul : (u8s hd).length = n := by simp [hdn]
  have HUL := Lib.hid hul
  have HRD := Lib.hid hrd
  have HR := Lib.hid hr
  have HN := Lib.hid hnone
  have HT := Lib.hid hT
  have HL := Lib.hid hn
  have H256 := Lib.hid h256
  have HD := Lib.hid hd256
  have HDN := Lib.hid hdn
  have hok : Cm.tail bs 4 = x → Cm.openE bs = 0 ∧ Cm.openB bs = hd := by
    intro h
    have e0 := Cm.open_ok h256 (by omega) (by rw [h, hn, show n + 4 - 4 = n by omega, ← hhd, hx])
    refine ⟨e0, ?_⟩
    unfold Cm.openB
    rw [if_pos e0, hn, show n + 4 - 4 = n by omega, hhd]
  have hno : Cm.tail bs 4 ≠ x → Cm.openE bs = 5 := by
    intro h
    exact Cm.open_no h256 (by omega) (by rw [hn, show n + 4 - 4 = n by omega, ← hhd, ← hx]; exact h)
  have HOK := Lib.hid hok
  have HNO := Lib.hid hno
  clear hul hrd hr hnone hT hn h256 hd256 hdn hok hno hhd hx
  go_enter Tryd.func33, Tryd.ntmps33
  go_wp2
  go_loop [5, 6] (fun s5 s6 => OpenRel bs n s5 s6) (fun _ s6 => (intOf s6 + 1 - n).toNat)
  case atStart => exact ⟨0, 0, _, rfl, rfl, by omega, by omega, by omega, by show _ = _; simp [Cm.tail, Cm.M]⟩
  case round =>
    obtain ⟨k, S, i, rfl, rfl, hi1, hi2, hk, hS⟩ := hrel
    by_cases hlt : k < 4
    · obtain ⟨j, rfl⟩ := Int.eq_ofNat_of_zero_le (show 0 ≤ i by omega)
      have hjl : j < bs.length := by rw [HL.out]; omega
      have hjl2 : (j : Int) < (n : Int) + 4 := by omega
      obtain ⟨g, o, rfl, hg, hc0⟩ := HR.out.u8 (by intro h; simp [h] at hjl)
      have hc := hc0 j hjl
      clear hc0
      obtain ⟨y, hy⟩ : ∃ y, y = bs[j]?.getD 0 := ⟨_, rfl⟩
      have hy256 : y < 256 := by rw [hy, List.getElem?_eq_getElem hjl]; exact H256.out _ (List.getElem_mem hjl)
      rw [← hy] at hc
      have hS24 : S < 16777216 := by
        have h1 := Cm.tail_lt H256.out (k := k) (by rw [HL.out]; omega)
        have h2 : 2 ^ (8 * k) ≤ 2 ^ 24 := Nat.pow_le_pow_right (by omega) (by omega)
        rw [hS.out]
        omega
      have e1 := or8 hS24 hy256
      have hnext : S * 256 + y = Cm.tail bs (k + 1) := by
        rw [Cm.tail_step (by rw [HL.out]; omega), ← hS.out, hy]
        congr 3
        rw [HL.out]; omega
      have HX := Lib.hid hnext
      have HE := Lib.hid e1
      clear hnext e1 hy
      go_wp2
      go_round
      case rel => exact ⟨k + 1, S * 256 + y, (j : Int) - 1, by first | exact congrArg (Value.int .u32) HE.out, rfl, by omega, by omega, by omega, HX.out⟩
      case measure => simp [intOf]; omega
    · obtain rfl : k = 4 := by omega
      obtain rfl : i = (n : Int) - 1 := by omega
      have hrd := Lib.hid (HRD.out _ _ HR.out)
      by_cases heq : S = x
      · have hb : ((S : Int) != (x : Int)) = false := by simp [heq]
        obtain ⟨r1, r2⟩ := HOK.out (by rw [← hS.out]; exact heq)
        have R1 := Lib.hid r1
        have R2 := Lib.hid r2
        have HQ := Lib.hid heq
        clear r1 r2 heq
        go_wp2_with fail
        refine (cS.out _ HT.out hrd.out).mono ?_
        rintro e w' ⟨rfl, rfl⟩
        have hb0 := own_lit0 w 5 w.heap.size (Nat.le_refl _)
        have hbw := (Below.refl w.heap.size w).alloc (Nat.le_refl _) (.cells #[] 5)
        go_wp2_with (at_builtin; go_must (refine app_own rfl (.tmp 34) (.tmp 37) 22 rfl w.heap.size 5 i0 (.int .u8 0) 1 Tryd.underlying22 hi hz0 hz1 hz2 rfl _ 0 [] rfl hb0 w.heap.size A n cap (u8s hd) rfl HUL.out (hrd.out.alloc _) HN.out (u8s_one _) (by unfold maxLen; omega) (by omega) (by simp) ?_; intro v2 w2 ho2 hg2 _hne2))
        have hb2 := hbw.grown hg2 (by simp) (fun k hk => (hb0.lt k hk).1)
        simp only [Nat.zero_add, List.nil_append] at ho2
        have R : OpenPost w bs (.returned (.tuple #[v2, .int .i64 0])) w2 := by
          refine ⟨v2, by rw [R1.out]; rfl, ?_, hb2⟩
          rw [R2.out, HDN.out]
          exact made_of_own ho2 HDN.out HD.out
        have HR2 := Lib.hid R
        clear R hb2 ho2 hg2 hb0 hbw
        go_wp2
        go_ret2
        exact HR2.out
      · have hb : ((S : Int) != (x : Int)) = true := by simp; omega
        have R := open_err (w := w) (w' := w) (HNO.out (by rw [← hS.out]; exact heq)) (by omega) (Below.refl _ _)
        have HR2 := Lib.hid R
        have HQ := Lib.hid heq
        clear R heq
        go_wp2_with fail
        refine (cS.out _ HT.out hrd.out).mono ?_
        rintro e w' ⟨rfl, rfl⟩
        go_wp2
        go_ret2
        exact HR2.out
end Go.Proofs.YtignfhdblakcfaaDoor

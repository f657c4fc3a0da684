/- law 1, VintBack: the walk. -/
import Derived.Test.YtjoibfcjijddjaaAwake1
import Derived.Test.YtjoibfcjijddjaaVm2
import Derived.Deep.DeepMust
import Derived.Deep.RegionHeld3
namespace Go.Proofs.Ytjoibfcjijddjaa
open Go.ChangeShapes Go.WideShapes Go.ChangeAt Go.RowKit
set_option linter.unusedVariables false

set_option maxHeartbeats 4000000 in
set_option maxRecDepth 100000 in
theorem back_walk (w : World) (n : Nat) (m : Int) (A : Option Addr) (len cap : Nat) (bs : List Nat) (hn : n ≤ 18446744073709551615) (hm0 : -9223372036854775808 ≤ m) (hm1 : m ≤ 9223372036854775807)
    (hl : bs.length = len) (h256 : ∀ b ∈ bs, b < 256) (hr : Rd w w.heap.size A (u8s bs)) (hlc : len ≤ cap) (hcm : cap ≤ maxLen) (hnone : A = none → cap = 0) :
    Calls Try.prog 4 #[.int .u64 (n : Int), .int .i64 m, .slice A len cap] w (TruePost w) := by
  obtain ⟨i0, hi, hz0, hz1, hz2⟩ := info_parts Try.infoB
  have cA := Lib.hid (awake_any w)
  by_cases hlong : 1000 < len
  · clear hm0 hm1
    go_enter Try.func4, Try.ntmps4
    go_wp2_with fail
    refine cA.out.mono ?_
    rintro e w1 ⟨rfl, hb1⟩
    go_wp2
    go_ret
    exact ⟨rfl, hb1⟩
  obtain ⟨pa, hpa⟩ : ∃ pa, Vm.enc n = pa := ⟨_, rfl⟩
  obtain ⟨la, hla⟩ : ∃ la, pa.length = la := ⟨_, rfl⟩
  have hla10 : la ≤ 10 := by rw [← hla, ← hpa]; exact Vm.enc_le n
  have hla1 : 1 ≤ la := by rw [← hla, ← hpa]; exact Vm.enc_pos n
  obtain ⟨ps, hps⟩ : ∃ ps, Vm.enc (Vm.zig m) = ps := ⟨_, rfl⟩
  obtain ⟨ls, hls⟩ : ∃ ls, ps.length = ls := ⟨_, rfl⟩
  have hls10 : ls ≤ 10 := by rw [← hls, ← hps]; exact Vm.enc_le _
  have hzg := Vm.zig_lt hm0 hm1
  have t1 : Vm.take (pa ++ bs) = (n, la, 0) := by rw [← hla, ← hpa]; exact Vm.take_enc hn bs
  have t2 : Vm.take (pa.take (la - 1)) = (0, 0, 2) := by rw [← hla, ← hpa]; exact Vm.take_cut hn
  have t3 : Vm.take ps = (Vm.zig m, ls, 0) := by
    have := Vm.take_enc (n := Vm.zig m) (by omega) []
    rw [List.append_nil, hps, hls] at this
    exact this
  have hpa256 : ∀ b ∈ pa, b < 256 := by rw [← hpa]; exact Vm.enc_byte (by omega)
  have hps256 : ∀ b ∈ ps, b < 256 := by rw [← hps]; exact Vm.enc_byte hzg
  have cP := Lib.hid (fun w => Put_at w (n : Int) pa la (by omega) (by omega) hpa hla)
  have cS := Lib.hid (fun w => PutS_at w m ps ls hm0 hm1 hps hls)
  have cT1 := Lib.hid (fun (w : World) (A : Option Addr) (c B : Nat) (h : Rd w B A (u8s (pa ++ bs))) => take_at w A c (pa ++ bs) B (la + len) n la 0 h (fun b hb => (List.mem_append.1 hb).elim (hpa256 b) (h256 b)) (by rw [List.length_append, hla, hl]; unfold maxLen; omega) (by rw [List.length_append, hla, hl]) t1)
  have cT2 := Lib.hid (fun (w : World) (A : Option Addr) (c B : Nat) (h : Rd w B A (u8s pa)) => take_at w A c (pa.take (la - 1)) B (la - 1) 0 0 2 (by rw [show u8s (pa.take (la - 1)) = (u8s pa).take (la - 1) by simp [u8s, List.map_take]]; exact h.take _) (fun b hb => hpa256 b (List.mem_of_mem_take hb)) (by rw [List.length_take]; unfold maxLen; omega) (by rw [List.length_take]; omega) t2)
  have cT3 := Lib.hid (fun (w : World) (A : Option Addr) (c B : Nat) (h : Rd w B A (u8s ps)) => takeS_at w A c ps B ls ls m (Vm.zig m) h hps256 (by rw [hls]; unfold maxLen; omega) hls t3 (Vm.zag_zig m))
  obtain ⟨z, k, g, ht⟩ : ∃ z k g, Vm.take bs = (z, k, g) := ⟨_, _, _, rfl⟩
  have hrange := take_range bs
  rw [ht] at hrange
  simp only at hrange
  obtain ⟨hz, hk10, hg3⟩ := hrange
  have cT4 := Lib.hid (fun (w : World) (A : Option Addr) (c B : Nat) (h : Rd w B A (u8s bs)) => take_at w A c bs B len z k g h h256 (by rw [hl]; unfold maxLen; omega) hl ht)
  have cok : g = 0 → 1 ≤ k ∧ k ≤ len ∧ ∀ w, Calls Try.prog 13 #[.int .u64 (z : Int)] w fun e w' => ∃ v, e = .returned v ∧ Made w' v (bs.take k) k ∧ Below w.heap.size w w' := by
    rintro rfl
    obtain ⟨h1, h2, _, h4⟩ := Vm.take_ok ht h256
    exact ⟨h1, by omega, fun w => Put_at w (z : Int) (bs.take k) k (by omega) (by omega) (by rw [Int.toNat_natCast, h4]) (by rw [List.length_take]; omega)⟩
  have hlpa : pa.length + len ≤ 1010 := by omega
  have hlu : (u8s pa).length = la := by simp [hla]
  have hlb : (u8s bs).length = len := by simp [hl]
  have HL1 := Lib.hid hlu
  have HL2 := Lib.hid hlb
  have HR := Lib.hid hr
  have HN := Lib.hid hnone
  have HKK := Lib.hid cok
  have H256 := Lib.hid h256
  have HL := Lib.hid hl
  clear hlu hlb hr hnone cok t1 t2 t3 ht hps256 hpa256 hpa hps hla hls hm0 hm1 hzg h256 hl
  have hcm' : cap ≤ 9223372036854775807 := by unfold maxLen at hcm; omega
  go_enter Try.func4, Try.ntmps4
  go_wp2_with fail
  refine cA.out.mono ?_
  rintro e w1 ⟨rfl, hb1⟩
  have hr1 := Lib.hid ((HR.out.below hb1).more hb1.size)
  clear HR
  go_wp2_with fail
  refine (cP.out _).mono ?_
  rintro e w2 ⟨v, rfl, hm, hb⟩
  have hb2 := hb1.trans (hb.mono hb1.size)
  have hr2 := Lib.hid ((hr1.out.below hb).more hb.size)
  clear hb hb1 hr1
  obtain ⟨A1, c1, rfl, hp2, _, hc1, hc2, _, hn1⟩ := hm
  have hp2' := Lib.hid hp2; clear hp2
  have hn1' := Lib.hid hn1; clear hn1
  unfold maxLen at hc2
  have tok1 : True := trivial
  go_wp2_with (first
    | (at_builtin; have _t := tok1; go_must (refine app_own rfl (.tmp 36) (.tmp 37) 23 rfl w2.heap.size 5 i0 (.int .u8 0) 1 Try.underlying23 hi hz0 hz1 hz2 rfl _ 0 [] rfl (own_lit0 w2 _ _ (Nat.le_refl _)) w2.heap.size A1 la c1 (u8s pa) rfl HL1.out (hp2'.out.alloc _) hn1'.out (u8s_one _) (by unfold maxLen; omega) (by omega) (by simp) ?_; intro v3 w3 ho3 hg3 _hne3; have hb3 := ((Below.refl w2.heap.size w2).alloc (Nat.le_refl _) _).grown hg3 (by simp) (fun k hk => ((own_lit0 w2 5 _ (Nat.le_refl _)).lt k hk).1); simp only [Nat.zero_add, List.nil_append] at ho3; have hr3 := (hr2.out.below hb3); clear hg3 tok1))
    | (at_builtin; go_must (refine app_own rfl (.tmp 38) (.tmp 39) 23 rfl w2.heap.size 5 i0 (.int .u8 0) 1 Try.underlying23 hi hz0 hz1 hz2 rfl _ la (u8s pa) rfl ho3 w2.heap.size A len cap (u8s bs) rfl HL2.out hr3 HN.out (u8s_one _) (by unfold maxLen; omega) (by omega) hb3.size ?_; intro v4 w4 ho4 hg4 _hne4; have hb4 := hb3.grown hg4 hb3.size (fun k hk => (ho3.lt k hk).1); clear hg4 ho3 hr3 hb3; obtain ⟨A4, c4, rfl, _, _, _, hr4, _⟩ := own_form ho4; rw [← u8s_append] at hr4; clear ho4))
    | fail)
  refine (cT1.out _ _ _ _ hr4).mono ?_
  rintro e w' ⟨rfl, rfl⟩
  have hb5 := hb2.trans (hb4.mono hb2.size)
  have hp5 := Lib.hid (hp2'.out.below hb4)
  have hr5 := Lib.hid ((hr2.out.below hb4).more hb4.size)
  clear hb4 hb2 hr4 hp2' hr2
  go_wp2_with fail
  refine (cT2.out _ _ _ _ hp5.out).mono ?_
  rintro e w' ⟨rfl, rfl⟩
  go_wp2_with fail
  refine (cS.out _).mono ?_
  rintro e w6 ⟨v, rfl, hm, hb⟩
  have hb6 := hb5.trans (hb.mono hb5.size)
  have hr6 := Lib.hid ((hr5.out.below hb).more hb.size)
  clear hb hb5 hr5 hp5
  obtain ⟨A6, c6, rfl, hp6, _, _, _, _, _⟩ := hm
  go_wp2_with fail
  refine (cT3.out _ _ _ _ hp6).mono ?_
  rintro e w' ⟨rfl, rfl⟩
  go_wp2_with fail
  refine (cS.out _).mono ?_
  rintro e w7 ⟨v, rfl, hm, hb⟩
  have hb7 := hb6.trans (hb.mono hb6.size)
  have hr7 := Lib.hid ((hr6.out.below hb).more hb.size)
  clear hb hb6 hr6 hp6
  obtain ⟨A7, c7, rfl, _, _, _, _, _, _⟩ := hm
  go_wp2_with fail
  refine (cT4.out _ _ _ _ hr7.out).mono ?_
  rintro e w' ⟨rfl, rfl⟩
  by_cases hg0 : g = 0
  · obtain ⟨hk1, hkl, cPz⟩ := HKK.out hg0
    have cPz' := Lib.hid cPz; clear cPz
    subst hg0
    have hkl' : (k : Int) ≤ (len : Int) := by omega
    have hk1' : (1 : Int) ≤ (k : Int) := by omega
    go_wp2_with fail
    have hsame : ∀ (w : World) (B1 B2 : Nat) (A1 : Option Addr) (c1 : Nat), Rd w B1 A1 (u8s (bs.take k)) → Rd w B2 A (u8s bs) → Calls Try.prog 12 #[.slice A1 k c1, .slice A k cap] w fun e w' => e = .returned (.bool true) ∧ ∃ q, w' = w.drewN q := fun w B1 B2 A1 c1 h1 h2 =>
      same_at w A1 A c1 cap (bs.take k) (bs.take k) B1 B2 k k true h1 (by rw [show u8s (bs.take k) = (u8s bs).take k by simp [u8s, List.map_take]]; exact h2.take k) (by rw [List.length_take, HL.out]; unfold maxLen; omega) (by rw [List.length_take, HL.out]; omega) (by rw [List.length_take, HL.out]; omega) (by simp)
    have HS := Lib.hid hsame; clear hsame
    have hkc : (k : Int) ≤ (cap : Int) := by omega
    have hk0 : (0 : Int) ≤ (k : Int) := by omega
    go_region_held3 (fun _ => True) (exact trivial) (first
      | (go_at_call 13; refine (cPz'.out _).mono ?_; rintro e w8 ⟨v, rfl, ⟨A8, c8, rfl, hp8, _, _, _, _, _⟩, hb⟩; have hb8 := (hb7.drew).trans (hb.mono hb7.size); have hr8 := Lib.hid ((hr7.out.drew).below hb); clear hb hb7 hr7)
      | (go_at_call 12; refine (HS.out _ _ _ _ _ hp8 hr8.out).mono ?_; rintro e w9 ⟨rfl, q, hq⟩; have hb9 : Below w.heap.size w w9 := (by rw [hq]; exact below_drewN hb8 q); clear hq hb8 hp8 hr8)
      | fail)
    go_wp2
    go_ret
    exact ⟨rfl, hb9⟩
  · have hgn : ((g : Int) != 0) = true := by simp; omega
    have HG := Lib.hid hg0; clear hg0
    go_wp2_with fail
    go_quiet (fail)
    go_wp2
    go_ret
    exact ⟨rfl, below_drewN hb7 _⟩
end Go.Proofs.Ytjoibfcjijddjaa

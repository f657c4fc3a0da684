/- frame.Wrap, Size, bytes.Clone; packetboatref03.Wrap. -/
import Derived.Test.YtignfhdblakcfaaDoorFm
import Derived.Test.YtignfhdblakcfaaDoorAtSF
import Derived.Test.YtignfhdblakcfaaDoorRef1F
import Derived.Test.YtignfhdblakcfaaDoorRef2bF
import Derived.Deep.DeepMust
import Derived.Lib.SliceRun
namespace Go.Proofs.YtignfhdblakcfaaDoor
open Go.ChangeShapes Go.WideShapes Go.ChangeAt Go.RowKit
set_option linter.unusedVariables false

theorem Wrap_no_at (w : World) (A : Option Addr) (len cap : Nat) (h : 8192 < len) (hl : len ≤ 1099511627776) :
    Calls Tryd.prog 8 #[.slice A len cap] w fun e w' => e = .returned (.tuple #[.slice none 0 0, .int .i64 4]) ∧ w = w' := by
  go_enter Tryd.func8, Tryd.ntmps8
  go_wp2
  go_ret2
  exact ⟨rfl, rfl⟩
theorem RWrap_no_at (w : World) (A : Option Addr) (len cap : Nat) (h : 8192 < len) (hl : len ≤ 1099511627776) :
    Calls Tryd.prog 9 #[.slice A len cap] w fun e w' => e = .returned (.tuple #[.slice none 0 0, .int .i64 4]) ∧ w = w' := by
  go_enter Tryd.func9, Tryd.ntmps9
  go_wp2
  go_ret2
  exact ⟨rfl, rfl⟩
set_option maxHeartbeats 1000000 in
set_option maxRecDepth 100000 in
theorem Wrap_at (w : World) (A : Option Addr) (len cap : Nat) (bs : List Nat) (hT : Tab w) (hr : Rd w w.heap.size A (u8s bs)) (h256 : ∀ b ∈ bs, b < 256) (hn : bs.length = len) (hl : len ≤ 8192) (hnone : A = none → cap = 0) (ts : List Nat) (k : Nat) (ht : Fm.fr bs = ts) (hk : ts.length = k) :
    Calls Tryd.prog 8 #[.slice A len cap] w fun e w' => ∃ v, e = .returned (.tuple #[v, .int .i64 0]) ∧ Made w' v ts k ∧ Below w.heap.size w w' := by
  obtain ⟨i0, hi, hz0, hz1, hz2⟩ := info_parts Tryd.infoB
  obtain ⟨es, hes⟩ : ∃ es, es = Vm.enc len := ⟨_, rfl⟩
  obtain ⟨m, hm⟩ : ∃ m, m = es.length := ⟨_, rfl⟩
  have hel : m ≤ 10 := by rw [hm, hes]; exact Vm.enc_le len
  have hfr : Cm.sealed (es ++ bs) = ts := by rw [hes, ← hn]; exact ht
  have he256 : ∀ b ∈ es ++ bs, b < 256 := by
    intro b hb
    rcases List.mem_append.1 hb with hb | hb
    · rw [hes] at hb; exact Vm.enc_byte (by omega) b hb
    · exact h256 b hb
  have HUL : Hid ((u8s bs).length = len) := Lib.hid (by simp [hn])
  have HEL : Hid ((es ++ bs).length = m + len) := Lib.hid (by simp [hn, hm])
  have HR := Lib.hid hr; have HN := Lib.hid hnone; have HF := Lib.hid hfr; have H256 := Lib.hid he256; have HK := Lib.hid hk; have HES := Lib.hid hes; have HM := Lib.hid hm
  have HT := Lib.hid hT; clear hT
  clear hr hnone hfr he256 hn hk ht h256 hes hm
  have tok1 : True := trivial
  go_enter Tryd.func8, Tryd.ntmps8
  go_wp2_with fail
  refine (Put_any w len (by omega)).mono ?_
  rintro e w1 ⟨v1, rfl, ho1, hb1, _⟩
  rw [← HES.out, ← HM.out, List.nil_append, Nat.zero_add] at ho1
  go_wp2_with (first
    | (at_builtin; have _t := tok1; go_must (refine app_own rfl (.tmp 10) (.tmp 11) 22 rfl w.heap.size 5 i0 (.int .u8 0) 1 Tryd.underlying22 hi hz0 hz1 hz2 rfl v1 m (u8s es) rfl ho1 w.heap.size A len cap (u8s bs) rfl HUL.out (HR.out.below hb1) HN.out (u8s_one _) (by unfold maxLen; omega) (by omega) hb1.size ?_; intro v2 w2 ho2 hg2 _hne2; have hb2 := hb1.grown hg2 hb1.size (fun k hk => (ho1.lt k hk).1); rw [← u8s_append] at ho2; clear hg2 ho1 hb1 tok1))
    | fail)
  obtain ⟨A2, c2, rfl, hr2, hl2, _, _, _, hn2⟩ := made_of_own ho2 HEL.out H256.out
  refine (Seal_at _ A2 (m + len) c2 (es ++ bs) (HT.out.below hb2) hr2 H256.out HEL.out (by omega) hn2 ts k HF.out HK.out).mono ?_
  rintro e w3 ⟨v3, rfl, hm3, hb3⟩
  have HP := Lib.hid (show ∃ v, Ending.returned (.tuple #[v3, .int .i64 0]) = .returned (.tuple #[v, .int .i64 0]) ∧ Made w3 v ts k ∧ Below w.heap.size w w3 from ⟨v3, rfl, hm3, hb2.trans (hb3.mono hb2.size)⟩)
  clear hm3 hb3 hb2 ho2 hr2
  go_wp2
  go_ret2
  exact HP.out
set_option maxHeartbeats 1000000 in
set_option maxRecDepth 100000 in
theorem RWrap_at (w : World) (A : Option Addr) (len cap : Nat) (bs : List Nat) (hr : Rd w w.heap.size A (u8s bs)) (h256 : ∀ b ∈ bs, b < 256) (hn : bs.length = len) (hl : len ≤ 8192) (hnone : A = none → cap = 0) (ts : List Nat) (k : Nat) (ht : Fm.fr bs = ts) (hk : ts.length = k) :
    Calls Tryd.prog 9 #[.slice A len cap] w fun e w' => ∃ v, e = .returned (.tuple #[v, .int .i64 0]) ∧ Made w' v ts k ∧ Below w.heap.size w w' := by
  obtain ⟨i0, hi, hz0, hz1, hz2⟩ := info_parts Tryd.infoB
  obtain ⟨es, hes⟩ : ∃ es, es = Vm.enc len := ⟨_, rfl⟩
  obtain ⟨m, hm⟩ : ∃ m, m = es.length := ⟨_, rfl⟩
  have hel : m ≤ 10 := by rw [hm, hes]; exact Vm.enc_le len
  have hfr : Cm.sealed (es ++ bs) = ts := by rw [hes, ← hn]; exact ht
  have he256 : ∀ b ∈ es ++ bs, b < 256 := by
    intro b hb
    rcases List.mem_append.1 hb with hb | hb
    · rw [hes] at hb; exact Vm.enc_byte (by omega) b hb
    · exact h256 b hb
  have HUL : Hid ((u8s bs).length = len) := Lib.hid (by simp [hn])
  have HEL : Hid ((es ++ bs).length = m + len) := Lib.hid (by simp [hn, hm])
  have HR := Lib.hid hr; have HN := Lib.hid hnone; have HF := Lib.hid hfr; have H256 := Lib.hid he256; have HK := Lib.hid hk; have HES := Lib.hid hes; have HM := Lib.hid hm
  
  clear hr hnone hfr he256 hn hk ht h256 hes hm
  have tok1 : True := trivial
  go_enter Tryd.func9, Tryd.ntmps9
  go_wp2_with fail
  refine (RPut_any w len (by omega)).mono ?_
  rintro e w1 ⟨v1, rfl, ho1, hb1, _⟩
  rw [← HES.out, ← HM.out, List.nil_append, Nat.zero_add] at ho1
  go_wp2_with (first
    | (at_builtin; have _t := tok1; go_must (refine app_own rfl (.tmp 10) (.tmp 11) 22 rfl w.heap.size 5 i0 (.int .u8 0) 1 Tryd.underlying22 hi hz0 hz1 hz2 rfl v1 m (u8s es) rfl ho1 w.heap.size A len cap (u8s bs) rfl HUL.out (HR.out.below hb1) HN.out (u8s_one _) (by unfold maxLen; omega) (by omega) hb1.size ?_; intro v2 w2 ho2 hg2 _hne2; have hb2 := hb1.grown hg2 hb1.size (fun k hk => (ho1.lt k hk).1); rw [← u8s_append] at ho2; clear hg2 ho1 hb1 tok1))
    | fail)
  obtain ⟨A2, c2, rfl, hr2, hl2, _, _, _, hn2⟩ := made_of_own ho2 HEL.out H256.out
  refine (RSeal_any _ A2 (m + len) c2 (es ++ bs) hr2 H256.out HEL.out (by omega) hn2).mono ?_
  rintro e w3 ⟨v3, rfl, ho3, hb3⟩
  rw [HF.out] at ho3
  have hm3 : Made w3 v3 ts k := made_of_own ho3 HK.out (by rw [← HF.out]; exact sealed_byte H256.out)
  have HP := Lib.hid (show ∃ v, Ending.returned (.tuple #[v3, .int .i64 0]) = .returned (.tuple #[v, .int .i64 0]) ∧ Made w3 v ts k ∧ Below w.heap.size w w3 from ⟨v3, rfl, hm3, hb2.trans (hb3.mono hb2.size)⟩)
  clear hm3 hb3 hb2 ho2 hr2
  go_wp2
  go_ret2
  exact HP.out
/-- bytes.Clone -/
theorem Clone_nil (w : World) : Calls Tryd.prog 25 #[.slice none 0 0] w fun e w' => e = .returned (.slice none 0 0) ∧ w = w' := by
  have qT : ∀ (w : World) (a : Option Addr) (n c n' c' : Nat), (binOp .eql 22 (.slice a n c) (.slice none n' c')).run Tryd.prog w = .ok (.bool a.isNone) w := fun w a n c n' c' => Lib.run_eql_slice_nil w _ _ a n c n' c' Tryd.underlying22
  go_enter Tryd.func25, Tryd.ntmps25
  go_wp2
  go_ret
  exact ⟨rfl, rfl⟩
set_option maxRecDepth 100000 in
theorem Clone_at (w : World) (a : Addr) (len cap : Nat) (bs : List Nat) (hr : Rd w w.heap.size (some a) (u8s bs)) (h256 : ∀ b ∈ bs, b < 256) (hn : bs.length = len) (hl : len ≤ 1099511627776) :
    Calls Tryd.prog 25 #[.slice (some a) len cap] w fun e w' => ∃ v, e = .returned v ∧ Made w' v bs len ∧ Below w.heap.size w w' := by
  obtain ⟨i0, hi, hz0, hz1, hz2⟩ := info_parts Tryd.infoB
  have HUL : Hid ((u8s bs).length = len) := Lib.hid (by simp [hn])
  have hb0 := own_lit0 w 5 w.heap.size (Nat.le_refl _)
  have hbw := (Below.refl w.heap.size w).alloc (Nat.le_refl _) (.cells #[] 5)
  have HR := Lib.hid hr; have H256 := Lib.hid h256; have HL := Lib.hid hn
  clear hr h256 hn
  have tok1 : True := trivial
  have qT : ∀ (w : World) (a : Option Addr) (n c n' c' : Nat), (binOp .eql 22 (.slice a n c) (.slice none n' c')).run Tryd.prog w = .ok (.bool a.isNone) w := fun w a n c n' c' => Lib.run_eql_slice_nil w _ _ a n c n' c' Tryd.underlying22
  go_enter Tryd.func25, Tryd.ntmps25
  go_wp2_with (first
    | (at_builtin; have _t := tok1; go_must (refine app_own rfl (.tmp 5) (.tmp 6) 22 rfl w.heap.size 5 i0 (.int .u8 0) 1 Tryd.underlying22 hi hz0 hz1 hz2 rfl (.slice (some ⟨w.heap.size, 0, none⟩) 0 0) 0 [] rfl hb0 w.heap.size (some a) len cap (u8s bs) rfl HUL.out (HR.out.alloc _) (fun h => by cases h) (u8s_one _) (by unfold maxLen; omega) (by omega) (by simp) ?_; intro v2 w2 ho2 hg2 _hne2; have hb2 := hbw.grown hg2 (by simp) (fun k hk => (hb0.lt k hk).1); simp only [Nat.zero_add, List.nil_append] at ho2; clear hg2 hb0 hbw tok1))
    | fail)
  go_ret
  exact ⟨v2, rfl, made_of_own ho2 HL.out H256.out, hb2⟩
theorem FSize_at (w : World) (A : Option Addr) (len cap : Nat) (y : Int) (hl : len ≤ 1099511627776) (hy : ((Vm.enc len).length : Int) + len + 4 = y) :
    Calls Tryd.prog 18 #[.slice A len cap] w fun e w' => e = .returned (.int .i64 y) ∧ w = w' := by
  obtain ⟨m, hm⟩ : ∃ m, m = (Vm.enc len).length := ⟨_, rfl⟩
  have hel : m ≤ 10 := by rw [hm]; exact Vm.enc_le len
  have cS := Lib.hid (fun w : World => Size_any w len (by omega))
  rw [← hm] at hy cS
  clear hm
  go_enter Tryd.func18, Tryd.ntmps18
  go_wp2_with fail
  refine (cS.out _).mono ?_
  rintro e w' ⟨rfl, rfl⟩
  go_wp2
  go_ret
  subst hy
  exact ⟨rfl, rfl⟩
end Go.Proofs.YtignfhdblakcfaaDoor

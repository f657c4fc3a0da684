/- law 5's awake. -/
import Derived.Test.YtignfhdblakcfaaDtk
import Derived.Test.YtignfhdblakcfaaSame
namespace Go.Proofs.Ytignfhdblakcfaa
open Go.ChangeShapes Go.WideShapes Go.ChangeAt Go.RowKit Go.Maps
set_option linter.unusedVariables false
set_option linter.unusedSimpArgs false

theorem Turned.alloc0 {w w' : World} {S S' : Nat → Prop} {o : Obj} (h : Turned (w.alloc o) S S' w') : Turned w S S' w' :=
  ⟨fun j hj => by
    rcases h.1 j hj with h1 | h1
    · exact .inl h1
    · exact .inr (by simp at h1; omega), ((Only.refl S w).alloc o).trans h.2 (Sub.refl _ _)⟩
theorem Made.rd_of {w : World} {A : Option Addr} {n c : Nat} {bs : List Nat} {k : Nat} (h : Made w (.slice A n c) bs k) : Rd w w.heap.size A (u8s bs) := by
  obtain ⟨A', c', hv, hr, _⟩ := h
  injection hv with e1 _ _
  subst e1
  exact hr
theorem DPut_at (w : World) (g : Nat) (S : Nat → Prop) (ks : List ByteArray) (e : Nat) (k : ByteArray) (hkm : k.size ≤ maxLen) (h : DictM w g S ks e) (bs : List Nat) (d n : Nat) (ks' : List ByteArray) (e' : Nat) (hr : Dm.putD ks e k = (bs, d, ks', e')) (hn : bs.length = n) :
    Calls Try.prog 30 #[.pointer (some ⟨g, 0, none⟩), .string k] w fun en w' => ∃ v S', en = .returned (.tuple #[v, .int .i64 (d : Int)]) ∧ Made w' v bs n ∧ Fre w S' v ∧ DictM w' g S' ks' e' ∧ Turned w S S' w' := by
  have h1 := DPut_any w g S ks e k hkm h
  rw [hr] at h1
  subst hn
  exact h1
theorem DTake_at (w : World) (g : Nat) (S : Nat → Prop) (ks : List ByteArray) (e : Nat) (A : Option Addr) (n c : Nat) (bs : List Nat) (h : DictM w g S ks e) (hrd : Rd w w.heap.size A (u8s bs)) (h256 : ∀ b ∈ bs, b < 256) (hn : bs.length = n) (hl : n ≤ 1099511627776) (hc : n ≤ c) (hcm : c ≤ maxLen) (k : ByteArray) (m d : Nat) (ks' : List ByteArray) (e' : Nat) (hr : Dm.takeD ks e bs = (k, m, d, ks', e')) :
    Calls Try.prog 32 #[.pointer (some ⟨g, 0, none⟩), .slice A n c] w fun en w' => ∃ S', en = .returned (.tuple #[.string k, .int .i64 (m : Int), .int .i64 (d : Int)]) ∧ DictM w' g S' ks' e' ∧ Turned w S S' w' := by
  have h1 := DTake_any w g S ks e A n c bs h hrd h256 hn hl hc hcm
  rw [hr] at h1
  exact h1
theorem DTake_lit (w : World) (g : Nat) (S : Nat → Prop) (ks : List ByteArray) (e : Nat) (cs : Array Value) (n : Nat) (bs : List Nat) (h : DictM w g S ks e) (hcs : u8s bs = cs.toList) (h256 : ∀ b ∈ bs, b < 256) (hn : bs.length = n) (hl : n ≤ 1000) (k : ByteArray) (m d : Nat) (ks' : List ByteArray) (e' : Nat) (hr : Dm.takeD ks e bs = (k, m, d, ks', e')) :
    Calls Try.prog 32 #[.pointer (some ⟨g, 0, none⟩), .slice (some ⟨w.heap.size, 0, none⟩) n n] (w.alloc (.cells cs 5)) fun en w' => ∃ S', en = .returned (.tuple #[.string k, .int .i64 (m : Int), .int .i64 (d : Int)]) ∧ DictM w' g S' ks' e' ∧ Turned w S S' w' := by
  refine (DTake_at _ g S ks e _ n n bs (h.below ((Below.refl _ w).alloc (Nat.le_refl _) _)) (by have := Rd.new8 w 5 bs cs hcs; simpa using this) h256 hn (by omega) (Nat.le_refl _) (by unfold maxLen; omega) k m d ks' e' hr).mono ?_
  rintro en w' ⟨S', h1, h2, h3⟩
  exact ⟨S', h1, h2, h3.alloc0⟩
theorem DAt_at (w : World) (g : Nat) (S : Nat → Prop) (ks : List ByteArray) (e : Nat) (k : ByteArray) (hk : k.size ≤ maxLen) (h : DictM w g S ks e) (i : Int) (hi : Dm.atD ks k = i) :
    Calls Try.prog 37 #[.pointer (some ⟨g, 0, none⟩), .string k] w fun en w' => en = .returned (.int .i64 i) ∧ w = w' := by
  subst hi; exact DAt_any w g S ks e k hk h
theorem DKeys_at (w : World) (g : Nat) (S : Nat → Prop) (ks : List ByteArray) (e : Nat) (h : DictM w g S ks e) (n : Nat) (hn : ks.length = n) :
    Calls Try.prog 36 #[.pointer (some ⟨g, 0, none⟩)] w fun en w' => ∃ A c, en = .returned (.slice A n c) ∧ Rd w' w'.heap.size A (ks.map Value.string) ∧ n ≤ c ∧ c ≤ maxLen ∧ (∀ g o, A = some ⟨g, o, none⟩ → w.heap.size ≤ g) ∧ Below w.heap.size w w' := by
  subst hn
  refine (DKeys_any w g S ks e h).mono ?_
  rintro en w' ⟨v, rfl, ⟨A, c, rfl, h1, h2, h3⟩, h4, h5⟩
  exact ⟨A, c, rfl, h1, h2, h3, fun g o hA => h4 g o _ _ (by rw [hA]), h5⟩
def TrueP5 (w : World) (e : Ending) (w' : World) : Prop := e = .returned (.bool true) ∧ Below w.heap.size w w'
set_option maxRecDepth 100000 in
set_option maxHeartbeats 8000000 in
theorem awake5_any (w : World) : Calls Try.prog 27 #[] w (TrueP5 w) := by
  have HS0 := Lib.hid (Below.refl w.heap.size w)
  go_enter Try.func27, Try.ntmps27
  go_wp2_with fail
  refine (DNew_any w).mono ?_
  rintro en w1 ⟨g, S1, rfl, hd, hS, hb⟩
  have D1 := Lib.hid hd; have A1 := Lib.hid hS; have B1 := Lib.hid hb
  clear hd hS hb
  go_wp2_with fail
  refine (DPut_at w1 g S1 [] 0 ⟨#[97]⟩ (by decide) D1.out [0, 1, 97] 0 3 [⟨#[97]⟩] 0 (by decide +kernel) rfl).mono ?_
  rintro en w2 ⟨v, S2, rfl, hm, hf, hd, hT⟩
  have D2 := Lib.hid hd; have A2 := Lib.hid (hT.1.above B1.out.size A1.out); have B2 := Lib.hid (B1.out.trans (hT.2.to_below B1.out.size A1.out))
  obtain ⟨V2, C2, rfl, -⟩ := id hm
  have MA2 := Lib.hid (MadeO.of_fre hm hf)
  clear hm hf hd hT
  go_wp2_with fail
  refine (DPut_at w2 g S2 [⟨#[97]⟩] 0 ⟨#[98]⟩ (by decide) D2.out [0, 1, 98] 0 3 [⟨#[97]⟩, ⟨#[98]⟩] 0 (by decide +kernel) rfl).mono ?_
  rintro en w3 ⟨v, S3, rfl, hm, hf, hd, hT⟩
  have D3 := Lib.hid hd; have A3 := Lib.hid (hT.1.above B2.out.size A2.out); have B3 := Lib.hid (B2.out.trans (hT.2.to_below B2.out.size A2.out))
  obtain ⟨V3, C3, rfl, -⟩ := id hm
  have MA3 := Lib.hid (MA2.out.turn hT)
  have MB3 := Lib.hid (MadeO.of_fre hm hf)
  clear hm hf hd hT
  go_wp2_with fail
  refine (DPut_at w3 g S3 [⟨#[97]⟩, ⟨#[98]⟩] 0 ⟨#[97]⟩ (by decide) D3.out [1] 0 1 [⟨#[97]⟩, ⟨#[98]⟩] 0 (by decide +kernel) rfl).mono ?_
  rintro en w4 ⟨v, S4, rfl, hm, hf, hd, hT⟩
  have D4 := Lib.hid hd; have A4 := Lib.hid (hT.1.above B3.out.size A3.out); have B4 := Lib.hid (B3.out.trans (hT.2.to_below B3.out.size A3.out))
  obtain ⟨V4, C4, rfl, -⟩ := id hm
  have MA4 := Lib.hid (MA3.out.turn hT)
  have MB4 := Lib.hid (MB3.out.turn hT)
  have MC4 := Lib.hid (MadeO.of_fre hm hf)
  clear hm hf hd hT
  go_wp2_with fail
  refine (DCopy_any w4 g S4 [⟨#[97]⟩, ⟨#[98]⟩] 0 D4.out).mono ?_
  rintro en w5 ⟨f, T5, rfl, hd, hS, hb⟩
  have D5 := Lib.hid (D4.out.below hb); have A5 := A4; have B5 := Lib.hid (B4.out.trans (hb.mono B4.out.size))
  have S5d : Hid (∀ j, S4 j ↔ S4 j) := Lib.hid (fun _ => Iff.rfl)
  have F5 := Lib.hid hd; have AF5 := Lib.hid (fun j hj => Nat.le_trans B4.out.size (hS j hj)); have X5 : Hid (Apart S4 T5) := Lib.hid (fun j h1 h2 => by have := D4.out.lt j h1; have := hS j h2; omega)
  have MA5 := Lib.hid (MA4.out.more hb hS)
  have MB5 := Lib.hid (MB4.out.more hb hS)
  have MC5 := Lib.hid (MC4.out.more hb hS)
  clear hd hS hb
  go_wp2_with fail
  refine (DTake_lit w5 g S4 [⟨#[97]⟩, ⟨#[98]⟩] 0 #[.int .u8 0, .int .u8 1, .int .u8 99, .int .u8 9] 4 [0, 1, 99, 9] D5.out rfl (by decide) rfl (by omega) ⟨#[99]⟩ 3 0 [⟨#[97]⟩, ⟨#[98]⟩, ⟨#[99]⟩] 0 (by decide +kernel)).mono ?_
  rintro en w6 ⟨S6, rfl, hd, hT⟩
  have D6 := Lib.hid hd; have A6 := Lib.hid (hT.1.above B5.out.size A5.out); have B6 := Lib.hid (B5.out.trans (hT.2.to_below B5.out.size A5.out))
  have F6 := Lib.hid (F5.out.only hT.2 X5.out); have AF6 := AF5; have X6 := Lib.hid (X5.out.turn hT F5.out.lt)
  have MA6 := Lib.hid (MA5.out.turn hT.left)
  have MB6 := Lib.hid (MB5.out.turn hT.left)
  have MC6 := Lib.hid (MC5.out.turn hT.left)
  clear hd hT
  go_wp2_with fail
  refine (DTake_lit w6 g S6 [⟨#[97]⟩, ⟨#[98]⟩, ⟨#[99]⟩] 0 #[.int .u8 0, .int .u8 1, .int .u8 99] 3 [0, 1, 99] D6.out rfl (by decide) rfl (by omega) ⟨#[]⟩ 0 3 [⟨#[97]⟩, ⟨#[98]⟩, ⟨#[99]⟩] 0 (by decide +kernel)).mono ?_
  rintro en w7 ⟨S7, rfl, hd, hT⟩
  have D7 := Lib.hid hd; have A7 := Lib.hid (hT.1.above B6.out.size A6.out); have B7 := Lib.hid (B6.out.trans (hT.2.to_below B6.out.size A6.out))
  have F7 := Lib.hid (F6.out.only hT.2 X6.out); have AF7 := AF6; have X7 := Lib.hid (X6.out.turn hT F6.out.lt)
  have MA7 := Lib.hid (MA6.out.turn hT.left)
  have MB7 := Lib.hid (MB6.out.turn hT.left)
  have MC7 := Lib.hid (MC6.out.turn hT.left)
  clear hd hT
  go_wp2_with fail
  refine (DTake_lit w7 g S7 [⟨#[97]⟩, ⟨#[98]⟩, ⟨#[99]⟩] 0 #[.int .u8 4] 1 [4] D7.out rfl (by decide) rfl (by omega) ⟨#[]⟩ 0 9 [⟨#[97]⟩, ⟨#[98]⟩, ⟨#[99]⟩] 0 (by decide +kernel)).mono ?_
  rintro en w8 ⟨S8, rfl, hd, hT⟩
  have D8 := Lib.hid hd; have A8 := Lib.hid (hT.1.above B7.out.size A7.out); have B8 := Lib.hid (B7.out.trans (hT.2.to_below B7.out.size A7.out))
  have F8 := Lib.hid (F7.out.only hT.2 X7.out); have AF8 := AF7; have X8 := Lib.hid (X7.out.turn hT F7.out.lt)
  have MA8 := Lib.hid (MA7.out.turn hT.left)
  have MB8 := Lib.hid (MB7.out.turn hT.left)
  have MC8 := Lib.hid (MC7.out.turn hT.left)
  clear hd hT
  go_wp2_with fail
  refine (DTake_lit w8 g S8 [⟨#[97]⟩, ⟨#[98]⟩, ⟨#[99]⟩] 0 #[.int .u8 0, .int .u8 65] 2 [0, 65] D8.out rfl (by decide) rfl (by omega) ⟨#[]⟩ 0 4 [⟨#[97]⟩, ⟨#[98]⟩, ⟨#[99]⟩] 0 (by decide +kernel)).mono ?_
  rintro en w9 ⟨S9, rfl, hd, hT⟩
  have D9 := Lib.hid hd; have A9 := Lib.hid (hT.1.above B8.out.size A8.out); have B9 := Lib.hid (B8.out.trans (hT.2.to_below B8.out.size A8.out))
  have F9 := Lib.hid (F8.out.only hT.2 X8.out); have AF9 := AF8; have X9 := Lib.hid (X8.out.turn hT F8.out.lt)
  have MA9 := Lib.hid (MA8.out.turn hT.left)
  have MB9 := Lib.hid (MB8.out.turn hT.left)
  have MC9 := Lib.hid (MC8.out.turn hT.left)
  clear hd hT
  go_wp2_with fail
  refine (DTake_lit w9 g S9 [⟨#[97]⟩, ⟨#[98]⟩, ⟨#[99]⟩] 0 #[.int .u8 0, .int .u8 2, .int .u8 120] 3 [0, 2, 120] D9.out rfl (by decide) rfl (by omega) ⟨#[]⟩ 0 2 [⟨#[97]⟩, ⟨#[98]⟩, ⟨#[99]⟩] 0 (by decide +kernel)).mono ?_
  rintro en w10 ⟨S10, rfl, hd, hT⟩
  have D10 := Lib.hid hd; have A10 := Lib.hid (hT.1.above B9.out.size A9.out); have B10 := Lib.hid (B9.out.trans (hT.2.to_below B9.out.size A9.out))
  have F10 := Lib.hid (F9.out.only hT.2 X9.out); have AF10 := AF9; have X10 := Lib.hid (X9.out.turn hT F9.out.lt)
  have MA10 := Lib.hid (MA9.out.turn hT.left)
  have MB10 := Lib.hid (MB9.out.turn hT.left)
  have MC10 := Lib.hid (MC9.out.turn hT.left)
  clear hd hT
  go_wp2_with fail
  refine (DTake_lit w10 g S10 [⟨#[97]⟩, ⟨#[98]⟩, ⟨#[99]⟩] 0 #[.int .u8 2] 1 [2] D10.out rfl (by decide) rfl (by omega) ⟨#[98]⟩ 1 0 [⟨#[97]⟩, ⟨#[98]⟩, ⟨#[99]⟩] 0 (by decide +kernel)).mono ?_
  rintro en w11 ⟨S11, rfl, hd, hT⟩
  have D11 := Lib.hid hd; have A11 := Lib.hid (hT.1.above B10.out.size A10.out); have B11 := Lib.hid (B10.out.trans (hT.2.to_below B10.out.size A10.out))
  have F11 := Lib.hid (F10.out.only hT.2 X10.out); have AF11 := AF10; have X11 := Lib.hid (X10.out.turn hT F10.out.lt)
  have MA11 := Lib.hid (MA10.out.turn hT.left)
  have MB11 := Lib.hid (MB10.out.turn hT.left)
  have MC11 := Lib.hid (MC10.out.turn hT.left)
  clear hd hT
  have hmk : ∀ w, (Instr.makeSlice 25 (.int .i64 65) (.int .i64 65)).run Try.prog w = .ok (.slice (some ⟨w.heap.size, 0, none⟩) 65 65) (w.alloc (.cells (Array.replicate 65 (.int .u8 0)) 5)) := fun w => by kernel_rfl
  have hst := run_str (P := Try.prog) (w11.alloc (.cells (Array.replicate 65 (.int .u8 0)) 5)) (src := 25) (dst := 9) (e := 5) (n := 65) (c := 65) (l := List.replicate 65 0) Try.underlying25 Try.underlying5 Try.underlying9 (Rd.new8 w11 5 (List.replicate 65 0) (Array.replicate 65 (.int .u8 0)) (by simp [u8s])) (by simp)
  obtain ⟨kz, hkz⟩ : ∃ kz, str (List.replicate 65 0) = kz := ⟨_, rfl⟩
  rw [hkz] at hst
  have hkzs : kz.size = 65 := by rw [← hkz, str_size]; simp
  have HKZ := Lib.hid hkzs
  clear hkz hkzs
  go_wp2_with fail
  refine (DPut_at (w11.alloc (.cells (Array.replicate 65 (.int .u8 0)) 5)) g S11 [⟨#[97]⟩, ⟨#[98]⟩, ⟨#[99]⟩] 0 kz (by rw [HKZ.out]; decide) (D11.out.below ((Below.refl _ _).alloc (Nat.le_refl _) _)) [] 4 0 [⟨#[97]⟩, ⟨#[98]⟩, ⟨#[99]⟩] 0 (by unfold Dm.putD; rw [if_pos (by rw [HKZ.out]; omega)]) rfl).mono ?_
  rintro en w12 ⟨v, S12, rfl, hm, hf, hd, hT⟩
  replace hT := hT.alloc0
  obtain ⟨Vz, Cz, rfl, -⟩ := id hm
  clear hm hf hst hmk
  have D12 := Lib.hid hd; have A12 := Lib.hid (hT.1.above B11.out.size A11.out); have B12 := Lib.hid (B11.out.trans (hT.2.to_below B11.out.size A11.out))
  have F12 := Lib.hid (F11.out.only hT.2 X11.out); have AF12 := AF11; have X12 := Lib.hid (X11.out.turn hT F11.out.lt)
  have MA12 := Lib.hid (MA11.out.turn hT.left)
  have MB12 := Lib.hid (MB11.out.turn hT.left)
  have MC12 := Lib.hid (MC11.out.turn hT.left)
  clear hd hT
  go_wp2_with fail
  refine wp_loop_rounds 8 ?_
  rw [rounds_succ]
  have hcv1 : ∀ w, (convert 3 21 (.int .i64 99)).run Try.prog w = .ok (.int .i32 99) w := fun w => by kernel_rfl
  have hcv2 : ∀ w, (convert 21 9 (.int .i32 99)).run Try.prog w = .ok (.string ⟨#[99]⟩) w := fun w => by kernel_rfl
  go_wp2_with fail
  refine (DPut_at w12 f T5 [⟨#[97]⟩, ⟨#[98]⟩] 0 ⟨#[99]⟩ (by decide) F12.out [0, 1, 99] 0 3 [⟨#[97]⟩, ⟨#[98]⟩, ⟨#[99]⟩] 0 (by decide +kernel) rfl).mono ?_
  rintro en w13 ⟨v, T13, rfl, hm, hf, hd, hT⟩
  have F13 := Lib.hid hd; have AF13 := Lib.hid (hT.1.above B12.out.size AF12.out); have B13 := Lib.hid (B12.out.trans (hT.2.to_below B12.out.size AF12.out))
  have D13 := Lib.hid (D12.out.only hT.2 X12.out.symm); have A13 := A12; have X13 := Lib.hid (X12.out.symm.turn hT D12.out.lt).symm
  have MA13 := Lib.hid (MA12.out.turn hT.right)
  have MB13 := Lib.hid (MB12.out.turn hT.right)
  have MC13 := Lib.hid (MC12.out.turn hT.right)
  obtain ⟨V13, C13, rfl, -⟩ := id hm
  clear hm hf hd hT hcv1 hcv2
  go_wp2_with fail
  rw [rounds_succ]
  have hcv1 : ∀ w, (convert 3 21 (.int .i64 100)).run Try.prog w = .ok (.int .i32 100) w := fun w => by kernel_rfl
  have hcv2 : ∀ w, (convert 21 9 (.int .i32 100)).run Try.prog w = .ok (.string ⟨#[100]⟩) w := fun w => by kernel_rfl
  go_wp2_with fail
  refine (DPut_at w13 f T13 [⟨#[97]⟩, ⟨#[98]⟩, ⟨#[99]⟩] 0 ⟨#[100]⟩ (by decide) F13.out [0, 1, 100] 0 3 [⟨#[97]⟩, ⟨#[98]⟩, ⟨#[99]⟩, ⟨#[100]⟩] 0 (by decide +kernel) rfl).mono ?_
  rintro en w14 ⟨v, T14, rfl, hm, hf, hd, hT⟩
  have F14 := Lib.hid hd; have AF14 := Lib.hid (hT.1.above B13.out.size AF13.out); have B14 := Lib.hid (B13.out.trans (hT.2.to_below B13.out.size AF13.out))
  have D14 := Lib.hid (D13.out.only hT.2 X13.out.symm); have A14 := A13; have X14 := Lib.hid (X13.out.symm.turn hT D13.out.lt).symm
  have MA14 := Lib.hid (MA13.out.turn hT.right)
  have MB14 := Lib.hid (MB13.out.turn hT.right)
  have MC14 := Lib.hid (MC13.out.turn hT.right)
  obtain ⟨V14, C14, rfl, -⟩ := id hm
  clear hm hf hd hT hcv1 hcv2
  go_wp2_with fail
  rw [rounds_succ]
  have hcv1 : ∀ w, (convert 3 21 (.int .i64 101)).run Try.prog w = .ok (.int .i32 101) w := fun w => by kernel_rfl
  have hcv2 : ∀ w, (convert 21 9 (.int .i32 101)).run Try.prog w = .ok (.string ⟨#[101]⟩) w := fun w => by kernel_rfl
  go_wp2_with fail
  refine (DPut_at w14 f T14 [⟨#[97]⟩, ⟨#[98]⟩, ⟨#[99]⟩, ⟨#[100]⟩] 0 ⟨#[101]⟩ (by decide) F14.out [0, 1, 101] 0 3 [⟨#[97]⟩, ⟨#[98]⟩, ⟨#[99]⟩, ⟨#[100]⟩, ⟨#[101]⟩] 0 (by decide +kernel) rfl).mono ?_
  rintro en w15 ⟨v, T15, rfl, hm, hf, hd, hT⟩
  have F15 := Lib.hid hd; have AF15 := Lib.hid (hT.1.above B14.out.size AF14.out); have B15 := Lib.hid (B14.out.trans (hT.2.to_below B14.out.size AF14.out))
  have D15 := Lib.hid (D14.out.only hT.2 X14.out.symm); have A15 := A14; have X15 := Lib.hid (X14.out.symm.turn hT D14.out.lt).symm
  have MA15 := Lib.hid (MA14.out.turn hT.right)
  have MB15 := Lib.hid (MB14.out.turn hT.right)
  have MC15 := Lib.hid (MC14.out.turn hT.right)
  obtain ⟨V15, C15, rfl, -⟩ := id hm
  clear hm hf hd hT hcv1 hcv2
  go_wp2_with fail
  rw [rounds_succ]
  have hcv1 : ∀ w, (convert 3 21 (.int .i64 102)).run Try.prog w = .ok (.int .i32 102) w := fun w => by kernel_rfl
  have hcv2 : ∀ w, (convert 21 9 (.int .i32 102)).run Try.prog w = .ok (.string ⟨#[102]⟩) w := fun w => by kernel_rfl
  go_wp2_with fail
  refine (DPut_at w15 f T15 [⟨#[97]⟩, ⟨#[98]⟩, ⟨#[99]⟩, ⟨#[100]⟩, ⟨#[101]⟩] 0 ⟨#[102]⟩ (by decide) F15.out [0, 1, 102] 0 3 [⟨#[97]⟩, ⟨#[98]⟩, ⟨#[99]⟩, ⟨#[100]⟩, ⟨#[101]⟩, ⟨#[102]⟩] 0 (by decide +kernel) rfl).mono ?_
  rintro en w16 ⟨v, T16, rfl, hm, hf, hd, hT⟩
  have F16 := Lib.hid hd; have AF16 := Lib.hid (hT.1.above B15.out.size AF15.out); have B16 := Lib.hid (B15.out.trans (hT.2.to_below B15.out.size AF15.out))
  have D16 := Lib.hid (D15.out.only hT.2 X15.out.symm); have A16 := A15; have X16 := Lib.hid (X15.out.symm.turn hT D15.out.lt).symm
  have MA16 := Lib.hid (MA15.out.turn hT.right)
  have MB16 := Lib.hid (MB15.out.turn hT.right)
  have MC16 := Lib.hid (MC15.out.turn hT.right)
  obtain ⟨V16, C16, rfl, -⟩ := id hm
  clear hm hf hd hT hcv1 hcv2
  go_wp2_with fail
  rw [rounds_succ]
  have hcv1 : ∀ w, (convert 3 21 (.int .i64 103)).run Try.prog w = .ok (.int .i32 103) w := fun w => by kernel_rfl
  have hcv2 : ∀ w, (convert 21 9 (.int .i32 103)).run Try.prog w = .ok (.string ⟨#[103]⟩) w := fun w => by kernel_rfl
  go_wp2_with fail
  refine (DPut_at w16 f T16 [⟨#[97]⟩, ⟨#[98]⟩, ⟨#[99]⟩, ⟨#[100]⟩, ⟨#[101]⟩, ⟨#[102]⟩] 0 ⟨#[103]⟩ (by decide) F16.out [0, 1, 103] 0 3 [⟨#[97]⟩, ⟨#[98]⟩, ⟨#[99]⟩, ⟨#[100]⟩, ⟨#[101]⟩, ⟨#[102]⟩, ⟨#[103]⟩] 0 (by decide +kernel) rfl).mono ?_
  rintro en w17 ⟨v, T17, rfl, hm, hf, hd, hT⟩
  have F17 := Lib.hid hd; have AF17 := Lib.hid (hT.1.above B16.out.size AF16.out); have B17 := Lib.hid (B16.out.trans (hT.2.to_below B16.out.size AF16.out))
  have D17 := Lib.hid (D16.out.only hT.2 X16.out.symm); have A17 := A16; have X17 := Lib.hid (X16.out.symm.turn hT D16.out.lt).symm
  have MA17 := Lib.hid (MA16.out.turn hT.right)
  have MB17 := Lib.hid (MB16.out.turn hT.right)
  have MC17 := Lib.hid (MC16.out.turn hT.right)
  obtain ⟨V17, C17, rfl, -⟩ := id hm
  clear hm hf hd hT hcv1 hcv2
  go_wp2_with fail
  rw [rounds_succ]
  have hcv1 : ∀ w, (convert 3 21 (.int .i64 104)).run Try.prog w = .ok (.int .i32 104) w := fun w => by kernel_rfl
  have hcv2 : ∀ w, (convert 21 9 (.int .i32 104)).run Try.prog w = .ok (.string ⟨#[104]⟩) w := fun w => by kernel_rfl
  go_wp2_with fail
  refine (DPut_at w17 f T17 [⟨#[97]⟩, ⟨#[98]⟩, ⟨#[99]⟩, ⟨#[100]⟩, ⟨#[101]⟩, ⟨#[102]⟩, ⟨#[103]⟩] 0 ⟨#[104]⟩ (by decide) F17.out [0, 1, 104] 0 3 [⟨#[97]⟩, ⟨#[98]⟩, ⟨#[99]⟩, ⟨#[100]⟩, ⟨#[101]⟩, ⟨#[102]⟩, ⟨#[103]⟩, ⟨#[104]⟩] 0 (by decide +kernel) rfl).mono ?_
  rintro en w18 ⟨v, T18, rfl, hm, hf, hd, hT⟩
  have F18 := Lib.hid hd; have AF18 := Lib.hid (hT.1.above B17.out.size AF17.out); have B18 := Lib.hid (B17.out.trans (hT.2.to_below B17.out.size AF17.out))
  have D18 := Lib.hid (D17.out.only hT.2 X17.out.symm); have A18 := A17; have X18 := Lib.hid (X17.out.symm.turn hT D17.out.lt).symm
  have MA18 := Lib.hid (MA17.out.turn hT.right)
  have MB18 := Lib.hid (MB17.out.turn hT.right)
  have MC18 := Lib.hid (MC17.out.turn hT.right)
  obtain ⟨V18, C18, rfl, -⟩ := id hm
  clear hm hf hd hT hcv1 hcv2
  go_wp2_with fail
  rw [rounds_succ]
  have hcv1 : ∀ w, (convert 3 21 (.int .i64 105)).run Try.prog w = .ok (.int .i32 105) w := fun w => by kernel_rfl
  have hcv2 : ∀ w, (convert 21 9 (.int .i32 105)).run Try.prog w = .ok (.string ⟨#[105]⟩) w := fun w => by kernel_rfl
  go_wp2_with fail
  refine (DPut_at w18 f T18 [⟨#[97]⟩, ⟨#[98]⟩, ⟨#[99]⟩, ⟨#[100]⟩, ⟨#[101]⟩, ⟨#[102]⟩, ⟨#[103]⟩, ⟨#[104]⟩] 0 ⟨#[105]⟩ (by decide) F18.out [0, 1, 105] 0 3 [⟨#[105]⟩, ⟨#[98]⟩, ⟨#[99]⟩, ⟨#[100]⟩, ⟨#[101]⟩, ⟨#[102]⟩, ⟨#[103]⟩, ⟨#[104]⟩] 1 (by decide +kernel) rfl).mono ?_
  rintro en w19 ⟨v, T19, rfl, hm, hf, hd, hT⟩
  have F19 := Lib.hid hd; have AF19 := Lib.hid (hT.1.above B18.out.size AF18.out); have B19 := Lib.hid (B18.out.trans (hT.2.to_below B18.out.size AF18.out))
  have D19 := Lib.hid (D18.out.only hT.2 X18.out.symm); have A19 := A18; have X19 := Lib.hid (X18.out.symm.turn hT D18.out.lt).symm
  have MA19 := Lib.hid (MA18.out.turn hT.right)
  have MB19 := Lib.hid (MB18.out.turn hT.right)
  have MC19 := Lib.hid (MC18.out.turn hT.right)
  obtain ⟨V19, C19, rfl, -⟩ := id hm
  clear hm hf hd hT hcv1 hcv2
  go_wp2_with fail
  rw [rounds_succ]
  go_wp2_with fail
  refine (DAt_at w19 f T19 [⟨#[105]⟩, ⟨#[98]⟩, ⟨#[99]⟩, ⟨#[100]⟩, ⟨#[101]⟩, ⟨#[102]⟩, ⟨#[103]⟩, ⟨#[104]⟩] 1 ⟨#[105]⟩ (by decide) F19.out (0) (by decide +kernel)).mono ?_
  rintro en w' ⟨rfl, rfl⟩
  go_wp2_with fail
  refine (DAt_at w19 f T19 [⟨#[105]⟩, ⟨#[98]⟩, ⟨#[99]⟩, ⟨#[100]⟩, ⟨#[101]⟩, ⟨#[102]⟩, ⟨#[103]⟩, ⟨#[104]⟩] 1 ⟨#[97]⟩ (by decide) F19.out (-1) (by decide +kernel)).mono ?_
  rintro en w' ⟨rfl, rfl⟩
  go_wp2_with fail
  refine (DReset_any w19 g S12 [⟨#[97]⟩, ⟨#[98]⟩, ⟨#[99]⟩] 0 D19.out).mono ?_
  rintro en w20 ⟨rfl, S20, hd, hT⟩
  have D20 := Lib.hid hd; have A20 := Lib.hid (hT.1.above B19.out.size A19.out); have B20 := Lib.hid (B19.out.trans (hT.2.to_below B19.out.size A19.out))
  have F20 := Lib.hid (F19.out.only hT.2 X19.out); have AF20 := AF19; have X20 := Lib.hid (X19.out.turn hT F19.out.lt)
  have MA20 := Lib.hid (MA19.out.turn hT.left)
  have MB20 := Lib.hid (MB19.out.turn hT.left)
  have MC20 := Lib.hid (MC19.out.turn hT.left)
  clear hd hT
  go_wp2_with fail
  refine (same_at _ _ (some ⟨w20.heap.size, 0, none⟩) _ 3 [0, 1, 97] [0, 1, 97] _ _ 3 3 true (id (MadeO.below MA20.out ((Below.refl _ _).alloc (Nat.le_refl _) (.cells #[.int .u8 0, .int .u8 1, .int .u8 97] 5)))).1.rd_of (Rd.new8 w20 5 [0, 1, 97] #[.int .u8 0, .int .u8 1, .int .u8 97] rfl) (by simp [maxLen]) rfl rfl (by decide)).mono ?_
  rintro en w21 ⟨rfl, q, hq⟩
  have hb : Below w20.heap.size w20 w21 := by rw [hq]; exact below_drewN ((Below.refl _ _).alloc (Nat.le_refl _) _) q
  clear hq
  have D21 := Lib.hid (D20.out.below hb); have F21 := Lib.hid (F20.out.below hb); have B21 := Lib.hid (B20.out.trans (hb.mono B20.out.size))
  have MA21 := Lib.hid (MA20.out.below hb)
  have MB21 := Lib.hid (MB20.out.below hb)
  have MC21 := Lib.hid (MC20.out.below hb)
  clear hb
  go_wp2_with fail
  refine (same_at _ _ (some ⟨w21.heap.size, 0, none⟩) _ 3 [0, 1, 98] [0, 1, 98] _ _ 3 3 true (id (MadeO.below MB21.out ((Below.refl _ _).alloc (Nat.le_refl _) (.cells #[.int .u8 0, .int .u8 1, .int .u8 98] 5)))).1.rd_of (Rd.new8 w21 5 [0, 1, 98] #[.int .u8 0, .int .u8 1, .int .u8 98] rfl) (by simp [maxLen]) rfl rfl (by decide)).mono ?_
  rintro en w22 ⟨rfl, q, hq⟩
  have hb : Below w21.heap.size w21 w22 := by rw [hq]; exact below_drewN ((Below.refl _ _).alloc (Nat.le_refl _) _) q
  clear hq
  have D22 := Lib.hid (D21.out.below hb); have F22 := Lib.hid (F21.out.below hb); have B22 := Lib.hid (B21.out.trans (hb.mono B21.out.size))
  have MA22 := Lib.hid (MA21.out.below hb)
  have MB22 := Lib.hid (MB21.out.below hb)
  have MC22 := Lib.hid (MC21.out.below hb)
  clear hb
  go_wp2_with fail
  refine (same_at _ _ (some ⟨w22.heap.size, 0, none⟩) _ 1 [1] [1] _ _ 1 1 true (id (MadeO.below MC22.out ((Below.refl _ _).alloc (Nat.le_refl _) (.cells #[.int .u8 1] 5)))).1.rd_of (Rd.new8 w22 5 [1] #[.int .u8 1] rfl) (by simp [maxLen]) rfl rfl (by decide)).mono ?_
  rintro en w23 ⟨rfl, q, hq⟩
  have hb : Below w22.heap.size w22 w23 := by rw [hq]; exact below_drewN ((Below.refl _ _).alloc (Nat.le_refl _) _) q
  clear hq
  have D23 := Lib.hid (D22.out.below hb); have F23 := Lib.hid (F22.out.below hb); have B23 := Lib.hid (B22.out.trans (hb.mono B22.out.size))
  have MA23 := Lib.hid (MA22.out.below hb)
  have MB23 := Lib.hid (MB22.out.below hb)
  have MC23 := Lib.hid (MC22.out.below hb)
  clear hb
  go_wp2_with fail
  refine (DKeys_at w23 f T19 [⟨#[105]⟩, ⟨#[98]⟩, ⟨#[99]⟩, ⟨#[100]⟩, ⟨#[101]⟩, ⟨#[102]⟩, ⟨#[103]⟩, ⟨#[104]⟩] 1 F23.out 8 rfl).mono ?_
  rintro en w24 ⟨A24, c24, rfl, -, -, -, -, hb⟩
  have D24 := Lib.hid (D23.out.below hb); have F24 := Lib.hid (F23.out.below hb); have B24 := Lib.hid (B23.out.trans (hb.mono B23.out.size))
  clear hb
  go_wp2_with fail
  refine (DKeys_at w24 g S20 [] 0 D24.out 0 rfl).mono ?_
  rintro en w25 ⟨A25, c25, rfl, -, -, -, -, hb⟩
  have D25 := Lib.hid (D24.out.below hb); have F25 := Lib.hid (F24.out.below hb); have B25 := Lib.hid (B24.out.trans (hb.mono B24.out.size))
  clear hb
  go_wp2
  go_ret
  exact ⟨rfl, B25.out⟩
end Go.Proofs.Ytignfhdblakcfaa

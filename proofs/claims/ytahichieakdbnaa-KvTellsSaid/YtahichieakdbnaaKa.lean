/- law 16: awake; what it looks at. -/
import Derived.Test.YtahichieakdbnaaKl
import Derived.Test.YtahichieakdbnaaSsm
import Derived.Test.YtahichieakdbnaaSame
import Derived.Test.YtahichieakdbnaaLg6
namespace Go.Proofs.Ytahichieakdbnaa
open Go.ChangeShapes Go.WideShapes Go.ChangeAt Go.RowKit Go.Maps
set_option linter.unusedVariables false
set_option linter.unusedSimpArgs false

def wfl (l : List Wr) : List Value := l.flatMap fun x => [.string x.1, .string x.2.1, .bool x.2.2]
theorem wfl_get : ∀ (l : List Wr) (k : Nat) (x : Wr), l[k]? = some x → ∀ (j : Nat) (u : Value), [Value.string x.1, .string x.2.1, .bool x.2.2][j]? = some u → (wfl l)[k * 3 + j]? = some u
  | [], k, x, h, j, u, hu => by simp at h
  | y :: l, 0, x, h, j, u, hu => by
    simp at h
    subst h
    have e : wfl (y :: l) = [Value.string y.1, .string y.2.1, .bool y.2.2] ++ wfl l := rfl
    rw [e, Nat.zero_mul, Nat.zero_add, List.getElem?_append_left (by have := (List.getElem?_eq_some_iff.1 hu).1; exact this)]
    exact hu
  | y :: l, k + 1, x, h, j, u, hu => by
    have e : wfl (y :: l) = [Value.string y.1, .string y.2.1, .bool y.2.2] ++ wfl l := rfl
    rw [e, List.getElem?_append_right (by simp; omega)]
    have e2 : (k + 1) * 3 + j - [Value.string y.1, .string y.2.1, .bool y.2.2].length = k * 3 + j := by simp; omega
    rw [e2]
    exact wfl_get l k x (by simpa using h) j u hu
/-- writes that a literal holds -/
theorem wr_lit {w : World} {q : Nat} {ws : List Wr} {cs : Array Value} (h : Blk w q 82 cs) (e : cs.toList = wfl ws) : WrR w w.heap.size (some ⟨q, 0, none⟩) ws := fun _ =>
  ⟨q, 0, rfl, h.lt, fun k a hk => ⟨[.string a.1, .string a.2.1, .bool a.2.2], rfl, rfl, fun j u hu => by
    rw [h.cell, ← Array.getElem?_toList, e]
    have := wfl_get ws k a hk j u hu
    simpa using this⟩⟩
theorem rd_lit {w : World} {q : Nat} {bs : List Nat} {cs : Array Value} (h : Blk w q 5 cs) (e : cs.toList = u8s bs) : Rd w w.heap.size (some ⟨q, 0, none⟩) (u8s bs) := fun _ =>
  ⟨q, 0, rfl, h.lt, fun j u hu => by rw [Nat.zero_add, h.cell, ← Array.getElem?_toList, e]; exact hu⟩
theorem rd_litS {w : World} {q : Nat} {ks : List ByteArray} {cs : Array Value} (h : Blk w q 9 cs) (e : cs.toList = ks.map Value.string) : Rd w w.heap.size (some ⟨q, 0, none⟩) (ks.map Value.string) := fun _ =>
  ⟨q, 0, rfl, h.lt, fun j u hu => by rw [Nat.zero_add, h.cell, ← Array.getElem?_toList, e]; exact hu⟩
abbrev ba1 (x : UInt8) : ByteArray := ⟨#[x]⟩
def ws3 : List Wr := [(⟨#[98]⟩, ⟨#[120]⟩, false), (⟨#[97]⟩, ⟨#[121, 122]⟩, false), (⟨#[98]⟩, ⟨#[]⟩, true)]
def ws1 : List Wr := [(⟨#[97]⟩, ⟨#[]⟩, false)]
abbrev st1 : St := [([97], [121, 122])]
abbrev st2 : St := [([97], [])]
theorem ap3 : Km.appl [] ws3 = st1 := by decide +kernel
theorem ap1 : Km.appl st1 ws1 = st2 := by decide +kernel
theorem tx1 : Km.txt st1 = [1, 97, 2, 121, 122] := by decide +kernel
theorem ld1 : Km.load [1, 97, 2, 121, 122] = (some st1, 0) := by decide +kernel
theorem ld2 : Km.load [1, 98, 0, 1, 97, 0] = (none, 3) := by decide +kernel
theorem ld3 : Km.load [1] = (none, 2) := by decide +kernel
theorem KLdPost.none {w w' : World} {n : Nat} {r : Option St × Nat} {en : Ending} {e : Nat} (h : KLdPost w n r en w') (hr : r = (none, e)) : en = .returned (.tuple #[.pointer none, .int .i64 (e : Int)]) ∧ Below w.heap.size w w' := by
  obtain ⟨hb, ⟨g, S, st, h1, h2, h3, h4⟩ | ⟨e', h1, h2, h3⟩⟩ := h
  · rw [hr] at h1; cases h1
  · rw [hr] at h2; injection h2 with _ h2; subst h2; exact ⟨h3, hb⟩
theorem KLdPost.some {w w' : World} {n : Nat} {r : Option St × Nat} {en : Ending} {st : St} (h : KLdPost w n r en w') (hr : r = (some st, 0)) : ∃ g S, en = .returned (.tuple #[.pointer (some ⟨g, 0, Option.none⟩), .int .i64 0]) ∧ StoreM w' g S n st ∧ (∀ j, S j → w.heap.size ≤ j) ∧ Below w.heap.size w w' := by
  obtain ⟨hb, ⟨g, S, st', h1, h2, h3, h4⟩ | ⟨e', h1, h2, h3⟩⟩ := h
  · rw [hr] at h1; injection h1 with h1 _; injection h1 with h1; subst h1; exact ⟨g, S, h2, h3, h4, hb⟩
  · rw [hr] at h2; injection h2 with h2 _; cases h2
def TrueK (w : World) (e : Ending) (w' : World) : Prop := e = .returned (.bool true) ∧ Below w.heap.size w w'
theorem lt16 {st : St} {M : Nat} (h : st.all (fun p => decide (p.1.length ≤ M) && decide (p.2.length ≤ M)) = true) : ∀ p ∈ st, p.1.length ≤ M ∧ p.2.length ≤ M := fun p hp => by
  have := List.all_eq_true.1 h p hp
  simpa using this
set_option maxHeartbeats 6000000 in
set_option maxRecDepth 100000 in
theorem awake16_any (w : World) : Calls Try.prog 37 #[] w (TrueK w) := by
  go_enter Try.func37, Try.ntmps37
  go_wp2_with fail
  refine (KNew_any w).mono ?_
  rintro en w1 ⟨g1, S1, rfl, h1, hS1, hb1⟩
  have hbA : Below w1.heap.size w1 (w1.alloc (.cells #[.string ⟨#[98]⟩, .string ⟨#[120]⟩, .bool false, .string ⟨#[97]⟩, .string ⟨#[121, 122]⟩, .bool false, .string ⟨#[98]⟩, .string ⟨#[]⟩, .bool true] 82)) := (Below.refl _ w1).alloc (Nat.le_refl _) _
  have HA := Lib.hid (KApply_any _ g1 S1 0 [] ws3 (some ⟨w1.heap.size, 0, none⟩) 3 3 (h1.below hbA) (wr_lit (Blk.new w1 82 _) rfl) (fun g' o' e _ hs => by injection e with e; injection e with e _; have := h1.lt g' hs; omega) rfl (by decide) (by decide))
  have HS1 := Lib.hid (fun j (hj : S1 j) => Nat.le_trans (Nat.le_refl _) (hS1 j hj))
  have B1 := Lib.hid (hb1.trans (hbA.mono hb1.size))
  clear h1 hS1 hb1 hbA
  go_wp2_with fail
  refine HA.out.mono ?_
  rintro en w2 ⟨rfl, h1, hO⟩
  rw [ap3] at h1
  have H1 := Lib.hid h1; have B2 := Lib.hid (B1.out.trans (hO.to_below B1.out.size HS1.out))
  clear h1 hO HA B1
  go_wp2_with fail
  refine (KCopy_any w2 g1 S1 3 st1 H1.out).mono ?_
  rintro en w3 ⟨g2, S2, rfl, h2, hS2, hb⟩
  have hbA : Below w3.heap.size w3 (w3.alloc (.cells #[.string ⟨#[97]⟩, .string ⟨#[]⟩, .bool false] 82)) := (Below.refl _ w3).alloc (Nat.le_refl _) _
  have HA := Lib.hid (KApply_any _ g2 S2 3 st1 ws1 (some ⟨w3.heap.size, 0, none⟩) 1 1 (h2.below hbA) (wr_lit (Blk.new w3 82 _) rfl) (fun g' o' e _ hs => by injection e with e; injection e with e _; have := h2.lt g' hs; omega) rfl (by decide) (by decide))
  have H3 := Lib.hid ((H1.out.below hb).below hbA); have HS2 := Lib.hid hS2; have HL1 := Lib.hid H1.out.lt
  have B3 := Lib.hid ((B2.out.trans (hb.mono B2.out.size)).trans (hbA.mono (Nat.le_trans B2.out.size hb.size)))
  have hs23 := hb.size
  clear h2 hS2 hb hbA H1
  go_wp2_with fail
  refine HA.out.mono ?_
  rintro en w4 ⟨rfl, h2, hO⟩
  rw [ap1] at h2
  have H2 := Lib.hid h2
  have H1 := Lib.hid (H3.out.only hO (fun j hj hs => by have := HS2.out j hj; have := HL1.out j hs; omega))
  have B4 := Lib.hid (B3.out.trans (hO.to_below B3.out.size (fun j hj => Nat.le_trans B2.out.size (HS2.out j hj))))
  clear h2 hO HA B3 H3 hs23
  go_wp2_with fail
  refine (KGet_any w4 g1 S1 3 st1 ⟨#[97]⟩ H1.out (by decide)).mono ?_
  rintro en w5 ⟨rfl, rfl⟩
  have e1 : (Km.ba ((Km.get st1 (⟨#[97]⟩ : ByteArray).data.toList).getD [])) = ⟨#[121, 122]⟩ := by decide +kernel
  have e2 : (Km.get st1 (⟨#[97]⟩ : ByteArray).data.toList).isSome = true := by decide +kernel
  rw [e1, e2]
  clear e1 e2
  go_wp2_with fail
  refine (KGet_any w4 g1 S1 3 st1 ⟨#[98]⟩ H1.out (by decide)).mono ?_
  rintro en w5 ⟨rfl, rfl⟩
  have e1 : (Km.ba ((Km.get st1 (⟨#[98]⟩ : ByteArray).data.toList).getD [])) = ⟨#[]⟩ := by decide +kernel
  have e2 : (Km.get st1 (⟨#[98]⟩ : ByteArray).data.toList).isSome = false := by decide +kernel
  rw [e1, e2]
  clear e1 e2
  go_wp2_with fail
  refine (KGet_any w4 g2 S2 (3 + 1) st2 ⟨#[97]⟩ H2.out (by decide)).mono ?_
  rintro en w5 ⟨rfl, rfl⟩
  have e1 : (Km.ba ((Km.get st2 (⟨#[97]⟩ : ByteArray).data.toList).getD [])) = ⟨#[]⟩ := by decide +kernel
  have e2 : (Km.get st2 (⟨#[97]⟩ : ByteArray).data.toList).isSome = true := by decide +kernel
  rw [e1, e2]
  clear e1 e2 H2
  go_wp2_with fail
  refine (KText_any w4 g1 S1 3 100 st1 H1.out (by omega) (by decide) (lt16 (by decide)) (by omega)).mono ?_
  rintro en w5 ⟨v5, rfl, hm5, -, hb5⟩
  rw [tx1] at hm5
  obtain ⟨A5, c5, rfl, hr5, -, hc5, hcm5, h256, -⟩ := hm5
  have HL := Lib.hid (KLoad_any w5 A5 5 c5 [1, 97, 2, 121, 122] w5.heap.size hr5 (Nat.le_refl _) (by decide) rfl (by omega) hc5 hcm5)
  have H5 := Lib.hid (H1.out.below hb5); have B5 := Lib.hid (B4.out.trans (hb5.mono B4.out.size))
  clear hb5 hr5 H1 B4
  simp only [List.length_cons, List.length_nil]
  go_wp2_with fail
  refine HL.out.mono ?_
  intro en w6 hpost
  obtain ⟨g3, S3, rfl, h3, hS3, hb6⟩ := hpost.some ld1
  have hbA : Below w6.heap.size w6 (w6.alloc (.cells #[.int .u8 1, .int .u8 98, .int .u8 0, .int .u8 1, .int .u8 97, .int .u8 0] 5)) := (Below.refl _ w6).alloc (Nat.le_refl _) _
  have HL2 := Lib.hid (KLoad_any _ (some ⟨w6.heap.size, 0, none⟩) 6 6 [1, 98, 0, 1, 97, 0] _ (rd_lit (Blk.new w6 5 #[.int .u8 1, .int .u8 98, .int .u8 0, .int .u8 1, .int .u8 97, .int .u8 0]) rfl) (Nat.le_refl _) (by decide) rfl (by omega) (Nat.le_refl _) (by decide))
  have H6 := Lib.hid ((H5.out.below hb6).below hbA); have G6 := Lib.hid (h3.below hbA); have B6 := Lib.hid ((B5.out.trans (hb6.mono B5.out.size)).trans (hbA.mono (Nat.le_trans B5.out.size hb6.size)))
  clear hpost h3 hS3 hb6 hbA HL H5 B5
  go_wp2_with fail
  refine HL2.out.mono ?_
  intro en w7 hpost
  obtain ⟨rfl, hb7⟩ := hpost.none ld2
  have hbA : Below w7.heap.size w7 (w7.alloc (.cells #[.int .u8 1] 5)) := (Below.refl _ w7).alloc (Nat.le_refl _) _
  have HL3 := Lib.hid (KLoad_any _ (some ⟨w7.heap.size, 0, none⟩) 1 1 [1] _ (rd_lit (Blk.new w7 5 #[.int .u8 1]) rfl) (Nat.le_refl _) (by decide) rfl (by omega) (Nat.le_refl _) (by decide))
  have H7 := Lib.hid ((H6.out.below hb7).below hbA); have G7 := Lib.hid ((G6.out.below hb7).below hbA); have B7 := Lib.hid ((B6.out.trans (hb7.mono B6.out.size)).trans (hbA.mono (Nat.le_trans B6.out.size hb7.size)))
  clear hpost hb7 hbA HL2 H6 G6 B6
  go_wp2_with fail
  refine HL3.out.mono ?_
  intro en w8 hpost
  obtain ⟨rfl, hb8⟩ := hpost.none ld3
  have H8 := Lib.hid (H7.out.below hb8); have G8 := Lib.hid (G7.out.below hb8); have B8 := Lib.hid (B7.out.trans (hb8.mono B7.out.size))
  clear hpost hb8 HL3 H7 G7 B7
  go_wp2_with fail
  refine (KText_any w8 g1 S1 3 100 st1 H8.out (by omega) (by decide) (lt16 (by decide)) (by omega)).mono ?_
  rintro en w9 ⟨v9, rfl, hm9, -, hb9⟩
  rw [tx1] at hm9
  obtain ⟨A9, c9, rfl, hr9, -, hc9, hcm9, -, -⟩ := hm9
  have hbA : Below w9.heap.size w9 (w9.alloc (.cells #[.int .u8 1, .int .u8 97, .int .u8 2, .int .u8 121, .int .u8 122] 5)) := (Below.refl _ w9).alloc (Nat.le_refl _) _
  have HSm := Lib.hid (same_at _ A9 (some ⟨w9.heap.size, 0, none⟩) c9 5 [1, 97, 2, 121, 122] [1, 97, 2, 121, 122] _ _ 5 5 true (hr9.below hbA) (rd_lit (Blk.new w9 5 #[.int .u8 1, .int .u8 97, .int .u8 2, .int .u8 121, .int .u8 122]) rfl) (by decide) rfl rfl (by decide))
  have H9 := Lib.hid ((H8.out.below hb9).below hbA); have G9 := Lib.hid ((G8.out.below hb9).below hbA); have B9 := Lib.hid ((B8.out.trans (hb9.mono B8.out.size)).trans (hbA.mono (Nat.le_trans B8.out.size hb9.size)))
  clear hb9 hbA hr9 H8 G8 B8
  simp only [List.length_cons, List.length_nil]
  go_wp2_with fail
  refine HSm.out.mono ?_
  rintro en w10 ⟨rfl, q10, rfl⟩
  have hb10 : Below (w9.alloc (.cells #[.int .u8 1, .int .u8 97, .int .u8 2, .int .u8 121, .int .u8 122] 5)).heap.size (w9.alloc (.cells #[.int .u8 1, .int .u8 97, .int .u8 2, .int .u8 121, .int .u8 122] 5)) ((w9.alloc (.cells #[.int .u8 1, .int .u8 97, .int .u8 2, .int .u8 121, .int .u8 122] 5)).drewN q10) := below_drewN (Below.refl _ _) _
  generalize hW : (w9.alloc (.cells #[.int .u8 1, .int .u8 97, .int .u8 2, .int .u8 121, .int .u8 122] 5)).drewN q10 = w10 at hb10 ⊢
  have H10 := Lib.hid (H9.out.below hb10); have G10 := Lib.hid (G9.out.below hb10); have B10 := Lib.hid (B9.out.trans (hb10.mono B9.out.size))
  clear hb10 hW HSm H9 G9 B9
  go_wp2_with fail
  refine (KText_any w10 g3 S3 5 100 st1 G10.out (by omega) (by decide) (lt16 (by decide)) (by omega)).mono ?_
  rintro en w11 ⟨v11, rfl, hm11, -, hb11⟩
  rw [tx1] at hm11
  have H11 := Lib.hid (H10.out.below hb11); have B11 := Lib.hid (B10.out.trans (hb11.mono B10.out.size)); have M11 := Lib.hid hm11
  obtain ⟨A11, c11, rfl, -⟩ := id hm11
  clear hb11 hm11 H10 G10 B10
  go_wp2_with fail
  refine (KText_any w11 g1 S1 3 100 st1 H11.out (by omega) (by decide) (lt16 (by decide)) (by omega)).mono ?_
  rintro en w12 ⟨v12, rfl, hm12, -, hb12⟩
  rw [tx1] at hm12
  obtain ⟨A12, c12, rfl, hr12, -⟩ := hm12
  have M12 := (MadeO.below (S := fun _ => False) ⟨M11.out, fun _ _ _ _ _ _ h => h⟩ hb12).1
  obtain ⟨A11', c11', hv11, hr11, -⟩ := M12
  injection hv11 with ea eb ec
  subst ea ec
  have HSm := Lib.hid (same_at w12 A11 A12 c11 c12 [1, 97, 2, 121, 122] [1, 97, 2, 121, 122] _ _ 5 5 true hr11 hr12 (by decide) rfl rfl (by decide))
  have H12 := Lib.hid (H11.out.below hb12); have B12 := Lib.hid (B11.out.trans (hb12.mono B11.out.size))
  clear hb12 hr12 hr11 H11 B11 M11 eb
  simp only [List.length_cons, List.length_nil]
  go_wp2_with fail
  refine HSm.out.mono ?_
  rintro en w13 ⟨rfl, q13, rfl⟩
  have hb13 : Below w12.heap.size w12 (w12.drewN q13) := below_drewN (Below.refl _ _) _
  generalize hW : w12.drewN q13 = w13 at hb13 ⊢
  have H13 := Lib.hid (H12.out.below hb13); have B13 := Lib.hid (B12.out.trans (hb13.mono B12.out.size))
  clear hb13 hW HSm H12 B12
  go_wp2_with fail
  refine (KKeys_any w13 g1 S1 3 st1 H13.out (by omega)).mono ?_
  rintro en w14 ⟨v14, rfl, ho14, hb14⟩
  obtain ⟨q14, cp14, rfl, -, hq14⟩ := ho14.form (by decide)
  have hbA : Below w14.heap.size w14 (w14.alloc (.cells #[.string ⟨#[97]⟩] 9)) := (Below.refl _ w14).alloc (Nat.le_refl _) _
  have hr14 : Rd w14 w14.heap.size (some ⟨q14, 0, none⟩) ([(⟨#[97]⟩ : ByteArray)].map Value.string) := fun _ => ⟨q14, 0, rfl, hq14, fun j u hu => by
    have h := ho14.cells (g := q14) rfl j u hu
    rw [addk0] at h
    simpa using h⟩
  have HSm := Lib.hid (SSame_true (w14.alloc (.cells #[.string ⟨#[97]⟩] 9)) (some ⟨q14, 0, none⟩) (some ⟨w14.heap.size, 0, none⟩) cp14 1 1 [⟨#[97]⟩] _ _ (hr14.below hbA) (rd_litS (Blk.new w14 9 #[.string ⟨#[97]⟩]) rfl) rfl (by omega))
  have B14 := Lib.hid ((B13.out.trans (hb14.mono B13.out.size)).trans (hbA.mono (Nat.le_trans B13.out.size hb14.size)))
  clear hb14 hbA hr14 ho14 H13 B13 hq14
  simp only [List.length_cons, List.length_nil]
  go_wp2_with fail
  refine HSm.out.mono ?_
  rintro en w15 ⟨rfl, q15, rfl⟩
  have hb15 : Below w.heap.size w ((w14.alloc (.cells #[.string ⟨#[97]⟩] 9)).drewN q15) := below_drewN B14.out _
  generalize hW : (w14.alloc (.cells #[.string ⟨#[97]⟩] 9)).drewN q15 = w15 at hb15 ⊢
  have B15 := Lib.hid hb15
  clear hb15 hW HSm B14
  go_wp2_with fail
  refine (KFold_any w15 [] none 0 0 (StR.nil _ _ _) rfl (by omega) (by simp)).mono ?_
  rintro en w16 ⟨g4, S4, rfl, -, -, hb16⟩
  have HP := Lib.hid (show TrueK w (.returned (.bool true)) w16 from ⟨rfl, B15.out.trans (hb16.mono B15.out.size)⟩)
  clear hb16
  go_wp2
  go_ret
  exact HP.out
end Go.Proofs.Ytahichieakdbnaa

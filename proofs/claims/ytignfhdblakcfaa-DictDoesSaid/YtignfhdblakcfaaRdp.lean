/- packetboatref05.Dict: At, Put, Take. -/
import Derived.Test.YtignfhdblakcfaaRdf
import Derived.Test.YtignfhdblakcfaaDtk
import Derived.Test.YtignfhdblakcfaaRef1
import Derived.Lib.ConvBytes
namespace Go.Proofs.Ytignfhdblakcfaa
open Go.ChangeShapes Go.WideShapes Go.ChangeAt Go.RowKit Go.Maps
set_option linter.unusedVariables false
set_option linter.unusedSimpArgs false

theorem ba_loop (s : ByteArray) : ∀ (n i : Nat) (r : List UInt8), s.size - i = n → ByteArray.toList.loop s i r = r.reverse ++ s.data.toList.drop i
  | 0, i, r, h => by
    unfold ByteArray.toList.loop
    rw [if_neg (by omega), List.drop_eq_nil_of_le (by rw [Array.length_toList]; show s.size ≤ i; omega), List.append_nil]
  | n + 1, i, r, h => by
    have hi : i < s.size := by omega
    unfold ByteArray.toList.loop
    rw [if_pos hi, ba_loop s n (i + 1) _ (by omega)]
    have hl : i < s.data.toList.length := by rw [Array.length_toList]; exact hi
    rw [List.drop_eq_getElem_cons hl, List.reverse_cons, List.append_assoc]
    congr 1
    have : s.get! i = s.data.toList[i] := by
      show s.data[i]! = _
      rw [getElem!_pos s.data i hi]
      simp
    rw [this]
    rfl
theorem ba_toList (s : ByteArray) : s.toList = s.data.toList := by
  unfold ByteArray.toList
  rw [ba_loop s _ 0 [] rfl]
  simp
theorem ba_ne {x k : ByteArray} (h : x ≠ k) : (x.toList == k.toList) = false := by
  rw [ba_toList, ba_toList]
  simp only [beq_eq_false_iff_ne, ne_eq]
  intro h2
  apply h
  have h3 : x.data = k.data := Array.toList_inj.1 h2
  cases x; cases k; simp at h3; rw [h3]
theorem conv_bytes {P : Program} (w : World) {src dst e : TypeId} (s : ByteArray) (hs : P.underlying src = some .string) (hd : P.underlying dst = some (.slice e)) (he : P.underlying e = some (.int .u8)) (hl : s.size ≤ 1000000000) :
    ∃ A c w', (convert src dst (.string s)).run P w = .ok (.slice A s.size c) w' ∧ Rd w' w'.heap.size A (u8s (sb s)) ∧ (A = none → c = 0) ∧ Below w.heap.size w w' := by
  refine ⟨_, _, _, Lib.run_convert_string_bytes w src dst e s hs hd he, fun _ => ⟨w.heap.size, 0, rfl, by rw [Lib.bytesWorld_size]; omega, fun j u hu => ?_⟩, (fun h => by cases h), ?_⟩
  · have hj := (List.getElem?_eq_some_iff.1 hu).1
    rw [u8s_length, sb_length] at hj
    rw [Nat.zero_add, Lib.bytesWorld_cell w e s j hj]
    simp only [u8s, sb, List.map_map, List.getElem?_map] at hu
    obtain ⟨b, hb, rfl⟩ := Option.map_eq_some_iff.1 hu
    rw [List.getD_eq_getElem?_getD, hb]
    try rfl
  · exact ⟨rfl, rfl, rfl, by rw [Lib.bytesWorld_size]; omega, fun j hj => Lib.bytesWorld_at_old w e s j hj⟩
/-- the document's dictionary that knows ks, and whose eldest key is at e -/
def RDR (w : World) (g : Nat) (U : Nat → Prop) (ks : List ByteArray) (e now : Nat) : Prop := ∃ ws, RDM w g U ks ws now ∧ Dm.RI ks e ws now
theorem RDR.only {w w' : World} {g e now : Nat} {U T : Nat → Prop} {ks : List ByteArray} (h : RDR w g U ks e now) (ho : Only T w w') (hT : ∀ j, T j → U j → False) : RDR w' g U ks e now := by
  obtain ⟨ws, h1, h2⟩ := h; exact ⟨ws, h1.only ho hT, h2⟩
theorem RDR.below {w w' : World} {g e now : Nat} {U : Nat → Prop} {ks : List ByteArray} (h : RDR w g U ks e now) (hb : Below w.heap.size w w') : RDR w' g U ks e now := by
  obtain ⟨ws, h1, h2⟩ := h; exact ⟨ws, h1.below hb, h2⟩
theorem RDR.lt {w : World} {g e now : Nat} {U : Nat → Prop} {ks : List ByteArray} (h : RDR w g U ks e now) : ∀ j, U j → j < w.heap.size := by
  obtain ⟨ws, h1, h2⟩ := h; exact h1.lt
theorem RDR.self {w : World} {g e now : Nat} {U : Nat → Prop} {ks : List ByteArray} (h : RDR w g U ks e now) : U g := by
  obtain ⟨ws, h1, h2⟩ := h; exact h1.self
def RCom (w : World) (g : Nat) (U : Nat → Prop) (ks : List ByteArray) (e now : Nat) (en : Ending) (w' : World) : Prop := en = .returned (.tuple #[]) ∧ ∃ U', RDR w' g U' ks e now ∧ Turned w U U' w'
theorem rcomes_any (w : World) (g : Nat) (U : Nat → Prop) (ks : List ByteArray) (e now : Nat) (k : ByteArray) (h : RDR w g U ks e now) (hnow : now ≤ 1000000) :
    Calls Try.prog 66 #[.pointer (some ⟨g, 0, none⟩), .string k] w (RCom w g U (Dm.comeD ks e k).1 (Dm.comeD ks e k).2 (now + 1)) := by
  obtain ⟨ws, h1, h2⟩ := h
  have h3 := h2.come k
  by_cases hl : ks.length < 8
  · refine (rcome_lt w g U ks ws now k h1 hl h2.1 hnow).mono ?_
    rintro en w' ⟨he, U', hd, hT⟩
    rw [if_pos hl] at h3
    refine ⟨he, U', ⟨_, ?_, h3⟩, hT⟩
    unfold Dm.comeD
    rw [if_pos hl]
    exact hd
  · have h8 : ks.length = 8 := by have := h2.2.1; omega
    refine (rcome_full w g U ks ws now e k h1 h8 h2.1 hnow (fun x hx => by have := h2.bound x hx; omega) (fun f hf hm => h2.min h8 hf hm)).mono ?_
    rintro en w' ⟨he, U', hd, hT⟩
    rw [if_neg hl] at h3
    refine ⟨he, U', ⟨_, ?_, h3⟩, hT⟩
    unfold Dm.comeD
    rw [if_neg hl]
    exact hd
theorem plc_take {ks : List ByteArray} {k x : ByteArray} {i : Nat} (h : Dm.plc (ks.take i) k = none) (hx : ks[i]? = some x) : (x = k → Dm.plc ks k = some i) ∧ (x ≠ k → Dm.plc (ks.take (i + 1)) k = none) := by
  refine ⟨?_, fun hne => ?_⟩
  · rintro rfl
    induction ks generalizing i with
    | nil => simp at hx
    | cons y r ih =>
      cases i with
      | zero => simp at hx; subst hx; simp [Dm.plc]
      | succ i =>
        simp only [List.take_succ_cons] at h
        unfold Dm.plc at h ⊢
        split at h
        · cases h
        · next hne =>
          rw [if_neg hne]
          rw [Option.map_eq_none_iff] at h
          rw [ih (by simpa using hx) h]
          rfl
  · rw [Dm.plc_none] at h ⊢
    intro hm
    rw [List.take_add_one, hx] at hm
    rcases List.mem_append.1 hm with h1 | h1
    · exact h h1
    · simp at h1; exact hne h1.symm
set_option maxHeartbeats 2000000 in
set_option maxRecDepth 100000 in
theorem RAt_any (w : World) (g : Nat) (U : Nat → Prop) (ks : List ByteArray) (e now : Nat) (k : ByteArray) (h : RDR w g U ks e now) :
    Calls Try.prog 38 #[.pointer (some ⟨g, 0, none⟩), .string k] w fun en w' => en = .returned (.int .i64 (Dm.atD ks k)) ∧ w = w' := by
  obtain ⟨ws, ⟨A, c, A2, c2, h1, h2, h3, h4⟩, h5⟩ := h
  have h8 := h5.2.1
  obtain ⟨c0, c1, c2', -⟩ := Blk.three h1
  obtain ⟨A', c', hv, hnc, hcm, -, hr, -⟩ := own_form h2
  injection hv with e1 _ e2
  subst e1 e2
  have HR := Lib.hid hr
  obtain ⟨n, hn⟩ : ∃ n, ks.length = n := ⟨_, rfl⟩
  rw [hn] at c0 h8
  have HN := Lib.hid hn
  clear h1 h2 h3 h4 h5 hr hn hnc hcm
  go_enter Try.func38, Try.ntmps38
  go_wp2
  go_loop [5] (fun s5 => ∃ i : Nat, s5 = .int .i64 (i : Int) ∧ i ≤ n ∧ Hid (Dm.plc (ks.take i) k = none)) (fun s5 => n - (intOf s5).toNat)
  case atStart => exact ⟨0, rfl, Nat.zero_le _, Lib.hid (by simp [Dm.plc])⟩
  case round =>
    obtain ⟨i, rfl, hi, hp⟩ := hrel
    by_cases hlt : i < n
    · obtain ⟨x, hx⟩ : ∃ x, ks[i]? = some x := ⟨_, List.getElem?_eq_getElem (by rw [HN.out]; exact hlt)⟩
      obtain ⟨r, o, rfl, -, hc⟩ := HR.out (by intro h0; have h1 := congrArg List.length h0; rw [List.length_map, HN.out] at h1; simp only [List.length_nil] at h1; omega)
      have d0 := hc i (.string x) (by rw [List.getElem?_map, hx]; rfl)
      have hiI : (i : Int) < (n : Int) := by omega
      have hst := Lib.hid (plc_take hp.out hx)
      clear hc hx
      by_cases hxk : x = k
      · subst hxk
        have HP := Lib.hid (show Ending.returned (.int .i64 (i : Int)) = .returned (.int .i64 (Dm.atD ks x)) by unfold Dm.atD; rw [hst.out.1 rfl])
        clear hst hp
        go_wp2
        go_ret
        exact ⟨HP.out, rfl⟩
      · have R := Lib.hid (hst.out.2 hxk)
        have n1 := ba_ne hxk
        clear hst hp
        go_wp2
        go_round
        case rel => exact ⟨i + 1, by go_num, by omega, R⟩
        case measure => simp [intOf]; omega
    · obtain rfl : i = n := by omega
      have hge : ¬ (i : Int) < (i : Int) := by omega
      have HP := Lib.hid (show Ending.returned (.int .i64 (-1)) = .returned (.int .i64 (Dm.atD ks k)) by
        have := hp.out
        rw [← HN.out, List.take_length] at this
        unfold Dm.atD; rw [this])
      clear hp
      go_wp2
      go_ret
      exact ⟨HP.out, rfl⟩
def RPutP (w : World) (g : Nat) (U : Nat → Prop) (now : Nat) (r : List Nat × Nat × List ByteArray × Nat) (en : Ending) (w' : World) : Prop :=
  ∃ v U' now', en = .returned (.tuple #[v, .int .i64 (r.2.1 : Int)]) ∧ Made w' v r.1 r.1.length ∧ RDR w' g U' r.2.2.1 r.2.2.2 now' ∧ now' ≤ now + 1 ∧ Turned w U U' w'
theorem own_lit1 (w : World) (e : TypeId) (x : Value) (base : Nat) (hb : base ≤ w.heap.size) : (w.alloc (.cells #[x] e)).ownsRow base e 1 (.slice (some ⟨w.heap.size, 0, none⟩) 1 1) 1 [x] :=
  ⟨rfl, .inr ⟨w.heap.size, 1, #[x], rfl, hb, heap_alloc_new w _, Nat.le_refl _, by unfold maxLen; omega, rfl, rfl⟩⟩
set_option maxHeartbeats 4000000 in
set_option maxRecDepth 100000 in
theorem RPut5_any (w : World) (g : Nat) (U : Nat → Prop) (ks : List ByteArray) (e now : Nat) (k : ByteArray) (h : RDR w g U ks e now) (hnow : now ≤ 1000000) :
    Calls Try.prog 31 #[.pointer (some ⟨g, 0, none⟩), .string k] w (RPutP w g U now (Dm.putD ks e k)) := by
  obtain ⟨i0, hi, hz0, hz1, hz2⟩ := info_parts infoU8
  have HM := Lib.hid h
  by_cases h64 : 64 < k.size
  · have HP := Lib.hid (show RPutP w g U now (Dm.putD ks e k) (.returned (.tuple #[.slice none 0 0, .int .i64 4])) w by
      unfold Dm.putD; rw [if_pos h64]; exact ⟨_, U, now, rfl, made_none _, h, by omega, Turned.refl _ _⟩)
    have h64i : (64 : Int) < (k.size : Int) := by omega
    clear h
    go_enter Try.func31, Try.ntmps31
    go_wp2
    go_ret2
    exact HP.out
  · have h64i : ¬ (64 : Int) < (k.size : Int) := by omega
    have h8 : ks.length ≤ 8 := by obtain ⟨ws, _, h2⟩ := h; exact h2.2.1
    have cA := RAt_any w g U ks e now k h
    cases hp : Dm.plc ks k with
    | some i =>
      have hil := Dm.plc_lt hp
      have ha : Dm.atD ks k = (i : Int) := by unfold Dm.atD; rw [hp]
      rw [ha] at cA
      have CA := Lib.hid cA
      have hi1 : (i : Int) ≤ 8 := by omega
      obtain ⟨bs, hbs⟩ : ∃ bs, Vm.enc (i + 1) = bs := ⟨_, rfl⟩
      have HP : Hid (∀ v w', Made w' v bs bs.length → Below w.heap.size w w' → RPutP w g U now (Dm.putD ks e k) (.returned (.tuple #[v, .int .i64 0])) w') := Lib.hid (fun v w' hm hb => by
        unfold Dm.putD; rw [if_neg h64, hp]; simp only; rw [hbs]; exact ⟨v, U, now, rfl, hm, HM.out.below hb, by omega, (Turned.refl _ _).below hb⟩)
      have cP := Lib.hid (RPut_at w ((i : Int) + 1) bs bs.length (by omega) (by omega) (by rw [show ((i : Int) + 1).toNat = i + 1 by omega]; exact hbs) rfl)
      clear h hp hbs hil ha cA h8
      go_enter Try.func31, Try.ntmps31
      go_wp2_with fail
      refine CA.out.mono ?_
      rintro e1 w' ⟨rfl, rfl⟩
      go_wp2_with fail
      refine CA.out.mono ?_
      rintro e1 w' ⟨rfl, rfl⟩
      go_wp2_with fail
      refine cP.out.mono ?_
      rintro e1 w1 ⟨v1, rfl, hmd, hb⟩
      have HPP := Lib.hid (HP.out v1 w1 hmd hb)
      clear hmd hb
      go_wp2
      go_ret2
      exact HPP.out
    | none =>
      have ha : Dm.atD ks k = -1 := by unfold Dm.atD; rw [hp]
      rw [ha] at cA
      have CA := Lib.hid cA
      have cC := Lib.hid (rcomes_any w g U ks e now k h hnow)
      have HP0 : Hid (Dm.putD ks e k = (Vm.enc 0 ++ (Vm.enc k.size ++ sb k), 0, Dm.comeD ks e k)) := Lib.hid (by unfold Dm.putD; rw [if_neg h64, hp])
      obtain ⟨cd, hcd⟩ : ∃ cd, Dm.comeD ks e k = cd := ⟨_, rfl⟩
      rw [hcd] at cC HP0
      rw [HP0.out]
      obtain ⟨en, hen⟩ : ∃ en, Vm.enc k.size = en := ⟨_, rfl⟩
      obtain ⟨nn, hnn⟩ : ∃ nn, en.length = nn := ⟨_, rfl⟩
      have hel : nn ≤ 10 := by rw [← hnn, ← hen]; exact Vm.enc_le _
      have h256 : ∀ b ∈ Vm.enc 0 ++ (Vm.enc k.size ++ sb k), b < 256 := by
        intro b hb
        rcases List.mem_append.1 hb with hb | hb
        · exact Vm.enc_byte (by omega) b hb
        · rcases List.mem_append.1 hb with hb | hb
          · exact Vm.enc_byte (by omega) b hb
          · exact sb_byte k b hb
      have HEN := Lib.hid hen; have H256 := Lib.hid h256; have HNN := Lib.hid hnn
      clear h hp hcd hen h256 HP0 HM ha cA h8 hnn
      go_enter Try.func31, Try.ntmps31
      go_wp2_with fail
      refine CA.out.mono ?_
      rintro e1 w' ⟨rfl, rfl⟩
      go_wp2_with fail
      refine cC.out.mono ?_
      rintro e1 w1 ⟨rfl, U1, hD1, hT1⟩
      have HD1 := Lib.hid hD1; have HT1 := Lib.hid hT1
      clear hD1 hT1 cC CA
      have ho1 := own_lit1 w1 5 (.int .u8 0) w1.heap.size (Nat.le_refl _)
      have hal : Below w1.heap.size w1 (w1.alloc (.cells #[.int .u8 0] 5)) := (Below.refl _ _).alloc (Nat.le_refl _) _
      have HAL := Lib.hid hal
      clear hal
      go_wp2_with fail
      refine (RPut_at _ (k.size : Int) en nn (by omega) (by omega) (by rw [Int.toNat_natCast]; exact HEN.out) HNN.out).mono ?_
      rintro e1 w2 ⟨v2, rfl, ⟨A2, c2, rfl, hr2, -, hc2, hm2, -, hn2⟩, hb2⟩
      have HO1 := Lib.hid (own_below ho1 hb2); have HB2 := Lib.hid (HAL.out.trans (hb2.mono (by simp))); have HR2 := Lib.hid hr2; have HN2 := Lib.hid hn2
      clear ho1 hb2 hr2 hn2
      have HUL : Hid ((u8s en).length = nn) := Lib.hid (by rw [u8s_length, HNN.out])
      have HUS : Hid ((u8s (sb k)).length = k.size) := Lib.hid (by rw [u8s_length, sb_length])
      have tok1 : True := trivial
      go_wp2_with (first
        | (at_builtin; have _t := tok1; go_must (refine app_own rfl (.tmp 22) (.tmp 26) 25 rfl w1.heap.size 5 i0 (.int .u8 0) 1 Try.underlying25 hi hz0 hz1 hz2 rfl (.slice (some ⟨w1.heap.size, 0, none⟩) 1 1) 1 [.int .u8 0] rfl HO1.out _ A2 nn c2 (u8s en) rfl HUL.out HR2.out HN2.out (u8s_one _) (by unfold maxLen; omega) (by omega) HB2.out.size ?_; intro v3 w3 ho3 hg3 _hne3; have HO3 := Lib.hid ho3; have HB3 := Lib.hid (below_own (B := w1.heap.size) HO1.out hg3 (Nat.le_refl _) HB2.out.size); obtain ⟨A4, c4, w4, hcv, hr4, hn4, hb4⟩ := conv_bytes (P := Try.prog) w3 (src := 9) (dst := 25) (e := 5) k Try.underlying9 Try.underlying25 Try.underlying5 (by omega); have HR4 := Lib.hid hr4; have HN4 := Lib.hid hn4; have HB4 := Lib.hid hb4; clear ho3 hg3 tok1 _t _hne3 hr4 hn4 hb4))
        | (at_builtin; go_must (refine app_own rfl (.tmp 27) (.tmp 29) 25 rfl w1.heap.size 5 i0 (.int .u8 0) 1 Try.underlying25 hi hz0 hz1 hz2 rfl v3 (1 + nn) ([.int .u8 0] ++ u8s en) rfl (own_below HO3.out HB4.out) _ A4 k.size c4 (u8s (sb k)) rfl HUS.out HR4.out HN4.out (u8s_one _) (by unfold maxLen; omega) (by omega) (by have := HB2.out.size; have := HB3.out.size; have := HB4.out.size; omega) ?_; intro v5 w5 ho5 hg5 _hne5; have HO5 := Lib.hid ho5; have HB5 := Lib.hid (below_own (B := w1.heap.size) (own_below HO3.out HB4.out) hg5 (Nat.le_refl _) (by have := HB2.out.size; have := HB3.out.size; have := HB4.out.size; omega)); clear ho5 hg5 _hne5)))
      go_ret2
      have hs3 := HB3.out.size
      have hB := ((HB2.out.trans HB3.out).trans (HB4.out.mono (by have := HB2.out.size; omega))).trans HB5.out
      have ho5 := HO5.out
      rw [show ([Value.int .u8 0] ++ u8s en) ++ u8s (sb k) = u8s (Vm.enc 0 ++ (Vm.enc k.size ++ sb k)) by rw [HEN.out, u8s_append, u8s_append, List.append_assoc]; rfl] at ho5
      exact ⟨v5, U1, now + 1, rfl, made_of_own ho5 rfl H256.out, HD1.out.below hB, by omega, HT1.out.below hB⟩
def RTakeP (w : World) (g : Nat) (U : Nat → Prop) (now : Nat) (r : ByteArray × Nat × Nat × List ByteArray × Nat) (en : Ending) (w' : World) : Prop :=
  ∃ U' now', en = .returned (.tuple #[.string r.1, .int .i64 (r.2.1 : Int), .int .i64 (r.2.2.1 : Int)]) ∧ RDR w' g U' r.2.2.2.1 r.2.2.2.2 now' ∧ now' ≤ now + 1 ∧ Turned w U U' w'
set_option maxHeartbeats 8000000 in
set_option maxRecDepth 100000 in
theorem RTake5_any (w : World) (g : Nat) (U : Nat → Prop) (ks : List ByteArray) (e now : Nat) (A : Option Addr) (n c : Nat) (bs : List Nat) (h : RDR w g U ks e now) (hnow : now ≤ 1000000) (hr : Rd w w.heap.size A (u8s bs)) (h256 : ∀ b ∈ bs, b < 256) (hn : bs.length = n) (hl : n ≤ 1099511627776) (hc : n ≤ c) (hcm : c ≤ maxLen) :
    Calls Try.prog 33 #[.pointer (some ⟨g, 0, none⟩), .slice A n c] w (RTakeP w g U now (Dm.takeD ks e bs)) := by
  obtain ⟨⟨a, b, d⟩, ht⟩ : ∃ r, Vm.take bs = r := ⟨_, rfl⟩
  have cT := Lib.hid (rtake_at w A c bs n a b d hr h256 hc hcm hn ht)
  have HM := Lib.hid h
  by_cases hd : d = 0
  · subst hd
    obtain ⟨hb1, hbl, hb10, -⟩ := Vm.take_ok ht h256
    rw [hn] at hbl
    have hlen : ks.length ≤ 8 := by obtain ⟨ws, _, h2⟩ := h; exact h2.2.1
    clear h
    by_cases ha0 : 0 < a
    · have hai0 : (0 : Int) < (a : Int) := by omega
      by_cases ha : ks.length < a
      · have HP : Hid (∀ w', Below w.heap.size w w' → RTakeP w g U now (Dm.takeD ks e bs) (.returned (.tuple #[.string ⟨#[]⟩, .int .i64 0, .int .i64 9])) w') := Lib.hid (fun w' hb => by
          unfold Dm.takeD; rw [ht]; simp only; rw [if_neg (by simp), if_pos ha]; exact ⟨U, now, rfl, HM.out.below hb, by omega, (Turned.refl _ _).below hb⟩)
        have hai : (ks.length : Int) < (a : Int) := by omega
        clear hr h256 hn ht
        go_enter Try.func33, Try.ntmps33
        go_wp2_with fail
        refine cT.out.mono ?_
        rintro e1 w1 ⟨rfl, hb⟩
        have HPP := Lib.hid (HP.out _ hb)
        obtain ⟨ws, ⟨A1, cc, A2, c2, h1, h2, h3, h4⟩, h5⟩ := HM.out.below hb
        obtain ⟨c0, c1, c2', -⟩ := Blk.three h1
        clear h1 h2 h3 h4 h5 hb
        go_wp2
        go_ret3
        exact HPP.out
      · have hai : ¬ (ks.length : Int) < (a : Int) := by omega
        obtain ⟨k, hk⟩ : ∃ k, ks[a - 1]? = some k := ⟨ks[a - 1]'(by omega), List.getElem?_eq_getElem (by omega)⟩
        have HP : Hid (∀ w', Below w.heap.size w w' → RTakeP w g U now (Dm.takeD ks e bs) (.returned (.tuple #[.string k, .int .i64 (b : Int), .int .i64 0])) w') := Lib.hid (fun w' hb => by
          unfold Dm.takeD; rw [ht]; simp only; rw [if_neg (by simp), if_neg ha, if_pos ha0, hk]; exact ⟨U, now, rfl, HM.out.below hb, by omega, (Turned.refl _ _).below hb⟩)
        have hx1 : ((a : Int) - 1) < (ks.length : Int) := by omega
        have hx2 : (0 : Int) ≤ (a : Int) - 1 := by omega
        have hx3 : ((a : Int) - 1).toNat = a - 1 := by omega
        have hx4 : 1 ≤ (a : Int) := by omega
        have HK := Lib.hid hk
        clear hr h256 hn ht hk
        go_enter Try.func33, Try.ntmps33
        go_wp2_with fail
        refine cT.out.mono ?_
        rintro e1 w1 ⟨rfl, hb⟩
        have HPP := Lib.hid (HP.out _ hb)
        obtain ⟨ws, ⟨A1, cc, A2, c2, h1, h2, h3, h4⟩, h5⟩ := HM.out.below hb
        obtain ⟨c0, c1, c2', -⟩ := Blk.three h1
        obtain ⟨r, rfl, -⟩ := own_some h2 (by omega)
        obtain ⟨y0, y1⟩ := own_cell (i := a - 1) (u := .string k) h2 (by omega) (by rw [List.getElem?_map, HK.out]; rfl)
        clear h1 h2 h3 h4 h5 hb
        go_wp2
        go_ret3
        exact HPP.out
    · obtain rfl : a = 0 := by omega
      obtain ⟨A', q1, q2, q2n⟩ := slice_from (P := Try.prog) 25 5 Try.underlying25 sizeOfU8 A n c b (b : Int) rfl hbl hc
      have q3 := q2 w w.heap.size (u8s bs) (by simp [hn]) hr
      rw [show (u8s bs).drop b = u8s (bs.drop b) by simp [u8s, List.map_drop]] at q3
      have h256' : ∀ x ∈ bs.drop b, x < 256 := fun x hx => h256 x (List.mem_of_mem_drop hx)
      obtain ⟨⟨a2, b2, d2⟩, ht2⟩ : ∃ r, Vm.take (bs.drop b) = r := ⟨_, rfl⟩
      have hdl : (bs.drop b).length = n - b := by rw [List.length_drop, hn]
      have hbI : (b : Int) ≤ (n : Int) := by omega
      have hbc : (b : Int) ≤ (c : Int) := by omega
      have cT2 := Lib.hid (fun (w1 : World) (hb : Below w.heap.size w w1) => rtake_at w1 A' (c - b) (bs.drop b) (n - b) a2 b2 d2 ((q3.below hb).more hb.size) h256' (by omega) (by omega) hdl ht2)
      have HTD : Hid (Dm.takeD ks e bs = if (Dm.newD ks (bs.drop b)).2.2 ≠ 0 then (str [], 0, (Dm.newD ks (bs.drop b)).2.2, ks, e) else ((Dm.newD ks (bs.drop b)).1, b + (Dm.newD ks (bs.drop b)).2.1, 0, Dm.comeD ks e (Dm.newD ks (bs.drop b)).1)) := Lib.hid (by
        unfold Dm.takeD; rw [ht]; simp only; rw [if_neg (by simp), if_neg (by omega), if_neg ha0])
      have hret : ∀ d', d' ≠ 0 → Dm.newD ks (bs.drop b) = (str [], 0, d') → ∀ w', Below w.heap.size w w' → RTakeP w g U now (Dm.takeD ks e bs) (.returned (.tuple #[.string ⟨#[]⟩, .int .i64 0, .int .i64 (d' : Int)])) w' := fun d' hd' hnw w' hb => by
        rw [HTD.out, hnw]; simp only; rw [if_pos hd']; exact ⟨U, now, rfl, HM.out.below hb, by omega, (Turned.refl _ _).below hb⟩
      have HRET := Lib.hid hret
      clear hret q2 q2n ha0
      by_cases hd2 : d2 = 0
      · subst hd2
        obtain ⟨hb21, hbl2, hb210, -⟩ := Vm.take_ok ht2 h256'
        rw [hdl] at hbl2
        by_cases ha2 : 64 < a2
        · have HP := Lib.hid (HRET.out 4 (by omega) (by unfold Dm.newD; rw [ht2]; simp only; rw [if_neg (by simp), if_pos ha2]))
          have hai : (64 : Int) < (a2 : Int) := by omega
          clear hr h256 hn ht q3 ht2 h256' hdl
          go_enter Try.func33, Try.ntmps33
          go_wp2_with fail
          refine cT.out.mono ?_
          rintro e1 w1 ⟨rfl, hb⟩
          have HB := Lib.hid hb; clear hb
          go_wp2_with fail
          refine (cT2.out _ HB.out).mono ?_
          rintro e1 w2 ⟨rfl, hb⟩
          have HPP := Lib.hid (HP.out _ (HB.out.trans (hb.mono HB.out.size)))
          clear hb
          go_wp2
          go_ret3
          exact HPP.out
        · have hai : ¬ (64 : Int) < (a2 : Int) := by omega
          have hsum : (b : Int) + (b2 : Int) ≤ (n : Int) := by omega
          by_cases hs : n - b - b2 < a2
          · have HP := Lib.hid (HRET.out 2 (by omega) (by unfold Dm.newD; rw [ht2]; simp only; rw [if_neg (by simp), if_neg ha2, hdl, if_pos hs]))
            have hsI : (n : Int) < (b : Int) + (b2 : Int) + (a2 : Int) := by omega
            clear hr h256 hn ht q3 ht2 h256' hdl
            go_enter Try.func33, Try.ntmps33
            go_wp2_with fail
            refine cT.out.mono ?_
            rintro e1 w1 ⟨rfl, hb⟩
            have HB := Lib.hid hb; clear hb
            go_wp2_with fail
            refine (cT2.out _ HB.out).mono ?_
            rintro e1 w2 ⟨rfl, hb⟩
            have HPP := Lib.hid (HP.out _ (HB.out.trans (hb.mono HB.out.size)))
            clear hb
            go_wp2
            go_ret3
            exact HPP.out
          · have hsI : ¬ (n : Int) < (b : Int) + (b2 : Int) + (a2 : Int) := by omega
            obtain ⟨A3, p1, p2, -⟩ := slice_lh (P := Try.prog) 25 5 Try.underlying25 sizeOfU8 A n c (b + b2) (b + b2 + a2) ((b : Int) + (b2 : Int)) ((b : Int) + (b2 : Int) + (a2 : Int)) (by omega) (by omega) (by omega) (by omega)
            rw [show b + b2 + a2 - (b + b2) = a2 by omega] at p1 p2
            obtain ⟨kk, hkk⟩ : ∃ kk, str (((bs.drop b).drop b2).take a2) = kk := ⟨_, rfl⟩
            have hkl : (((bs.drop b).drop b2).take a2).length = a2 := by rw [List.length_take, List.length_drop, hdl]; omega
            have hks : kk.size = a2 := by rw [← hkk, str_size, hkl]
            have p3 := p2 w w.heap.size (u8s bs) (by simp [hn]; omega) hr
            rw [show ((u8s bs).drop (b + b2)).take a2 = u8s (((bs.drop b).drop b2).take a2) by simp [u8s, List.map_take, List.map_drop]] at p3
            have P4 := Lib.hid (fun (w2 : World) (hb : Below w.heap.size w w2) => by
              have := run_str (P := Try.prog) w2 (src := 25) (dst := 9) (e := 5) (n := a2) (c := c - (b + b2)) Try.underlying25 Try.underlying5 Try.underlying9 ((p3.below hb).more hb.size) hkl
              rw [hkk] at this
              exact this)
            have hcI : (b : Int) + (b2 : Int) + (a2 : Int) ≤ (c : Int) := by omega
            have cA := Lib.hid (fun (w2 : World) (hb : Below w.heap.size w w2) => RAt_any w2 g U ks e now kk (HM.out.below hb))
            cases hp : Dm.plc ks kk with
            | some i =>
              have HP := Lib.hid (HRET.out 3 (by omega) (by unfold Dm.newD; rw [ht2]; simp only; rw [if_neg (by simp), if_neg ha2, hdl, if_neg hs, hkk, hp]))
              have hat : Dm.atD ks kk = (i : Int) := by unfold Dm.atD; rw [hp]
              rw [hat] at cA
              clear hr h256 hn ht q3 ht2 h256' hdl p2 p3 hkk hp hks hkl hat
              go_enter Try.func33, Try.ntmps33
              go_wp2_with fail
              refine cT.out.mono ?_
              rintro e1 w1 ⟨rfl, hb⟩
              have HB := Lib.hid hb; clear hb
              go_wp2_with fail
              refine (cT2.out _ HB.out).mono ?_
              rintro e1 w2 ⟨rfl, hb⟩
              have HB2 := Lib.hid (HB.out.trans (hb.mono HB.out.size))
              have HPP := Lib.hid (HP.out _ HB2.out)
              have p5 := P4.out w2 HB2.out
              clear hb
              go_wp2_with fail
              refine (cA.out _ HB2.out).mono ?_
              rintro e1 w' ⟨rfl, rfl⟩
              go_wp2
              go_ret3
              exact HPP.out
            | none =>
              have hnw : Dm.newD ks (bs.drop b) = (kk, b2 + a2, 0) := by unfold Dm.newD; rw [ht2]; simp only; rw [if_neg (by simp), if_neg ha2, hdl, if_neg hs, hkk, hp]
              have HNW := Lib.hid hnw
              have hat : Dm.atD ks kk = -1 := by unfold Dm.atD; rw [hp]
              rw [hat] at cA
              have cC := Lib.hid (fun (w2 : World) (hb : Below w.heap.size w w2) => rcomes_any w2 g U ks e now kk (HM.out.below hb) hnow)
              clear hr h256 hn ht q3 ht2 h256' hdl p2 p3 hkk hp hks hkl hat hnw
              go_enter Try.func33, Try.ntmps33
              go_wp2_with fail
              refine cT.out.mono ?_
              rintro e1 w1 ⟨rfl, hb⟩
              have HB := Lib.hid hb; clear hb
              go_wp2_with fail
              refine (cT2.out _ HB.out).mono ?_
              rintro e1 w2 ⟨rfl, hb⟩
              have HB2 := Lib.hid (HB.out.trans (hb.mono HB.out.size))
              have p5 := P4.out w2 HB2.out
              clear hb
              go_wp2_with fail
              refine (cA.out _ HB2.out).mono ?_
              rintro e1 w' ⟨rfl, rfl⟩
              go_wp2_with fail
              refine (cC.out _ HB2.out).mono ?_
              rintro e1 w3 ⟨rfl, U', hd3, hT⟩
              have HPP := Lib.hid (show RTakeP w g U now (Dm.takeD ks e bs) (.returned (.tuple #[.string kk, .int .i64 ((b : Int) + (b2 : Int) + (a2 : Int)), .int .i64 0])) w3 from by
                rw [HTD.out, HNW.out]; simp only; rw [if_neg (by simp)]
                refine ⟨U', now + 1, ?_, hd3, by omega, ?_⟩
                · rw [show (((b + (b2 + a2) : Nat)) : Int) = (b : Int) + (b2 : Int) + (a2 : Int) by omega]; rfl
                · exact ⟨fun j hj => by
                    rcases hT.1 j hj with h1 | h1
                    · exact .inl h1
                    · have := HB2.out.size; exact .inr (by omega), (Only.of_below (S := U) HB2.out).trans hT.2 (Sub.refl _ _)⟩)
              clear hd3 hT
              go_wp2
              go_ret3
              exact HPP.out
      · have HP := Lib.hid (HRET.out d2 hd2 (by unfold Dm.newD; rw [ht2]; simp only; rw [if_pos hd2]))
        have hdn : ((d2 : Int) == 0) = false := by simp; omega
        clear hr h256 hn ht q3 ht2 h256' hdl
        go_enter Try.func33, Try.ntmps33
        go_wp2_with fail
        refine cT.out.mono ?_
        rintro e1 w1 ⟨rfl, hb⟩
        have HB := Lib.hid hb; clear hb
        go_wp2_with fail
        refine (cT2.out _ HB.out).mono ?_
        rintro e1 w2 ⟨rfl, hb⟩
        have HPP := Lib.hid (HP.out _ (HB.out.trans (hb.mono HB.out.size)))
        clear hb
        go_wp2
        go_ret3
        exact HPP.out
  · have HP : Hid (∀ w', Below w.heap.size w w' → RTakeP w g U now (Dm.takeD ks e bs) (.returned (.tuple #[.string ⟨#[]⟩, .int .i64 0, .int .i64 (d : Int)])) w') := Lib.hid (fun w' hb => by
      unfold Dm.takeD; rw [ht]; simp only; rw [if_pos hd]; exact ⟨U, now, rfl, HM.out.below hb, by omega, (Turned.refl _ _).below hb⟩)
    have hdn : ((d : Int) == 0) = false := by simp; omega
    clear h hr h256 hn ht
    go_enter Try.func33, Try.ntmps33
    go_wp2_with fail
    refine cT.out.mono ?_
    rintro e1 w1 ⟨rfl, hb⟩
    have HPP := Lib.hid (HP.out _ hb)
    clear hb
    go_wp2
    go_ret3
    exact HPP.out
end Go.Proofs.Ytignfhdblakcfaa

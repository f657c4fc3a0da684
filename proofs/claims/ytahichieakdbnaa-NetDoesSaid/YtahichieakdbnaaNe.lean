/- law 21's NetTrue: the walk. -/
import Derived.Test.YtahichieakdbnaaNd
import Derived.Test.YtahichieakdbnaaInr
namespace Go.Proofs.Ytahichieakdbnaa
open Go.ChangeShapes Go.WideShapes Go.ChangeAt Go.RowKit Go.Maps
set_option linter.unusedVariables false
set_option linter.unusedSimpArgs false

/-- what is known of those on their way, of what was sent, taken, doubled -/
def Fac (row : List Snt) (sl : List Let) (ns tk db : Nat) : Prop := row.length ≤ 64 ∧ Nm.Fine 300 row ∧ (∀ x ∈ row, x.2 = false) ∧ (∀ x ∈ row, x.1 ∈ sl) ∧ row.length + tk = ns + db
theorem send_cases (row : List Snt) (l : Let) : Nm.send row l = (false, row) ∨ (Nm.send row l = (true, row ++ [(l, false)]) ∧ row.length < 64) := by
  unfold Nm.send Nm.put
  by_cases h : l.1 < 0 ∨ 3 < l.1
  · rw [if_pos h]; exact .inl rfl
  · rw [if_neg h]
    by_cases h2 : 64 ≤ row.length
    · rw [if_pos h2]; exact .inl rfl
    · rw [if_neg h2]; exact .inr ⟨rfl, by omega⟩
theorem Fac.send {row : List Snt} {sl : List Let} {ns tk db : Nat} {l : Let} (h : Fac row sl ns tk db) (h64 : row.length < 64) (h1 : l.2.length ≤ 300) (h2 : ∀ b ∈ l.2, b < 256) : Fac (row ++ [(l, false)]) (sl ++ [l]) (ns + 1) tk db := by
  obtain ⟨a, b, c, d, e⟩ := h
  refine ⟨by simp; omega, fun x hx => ?_, fun x hx => ?_, fun x hx => ?_, by simp; omega⟩
  · rcases List.mem_append.1 hx with hx | hx
    · exact b x hx
    · simp at hx; subst hx; exact ⟨h1, h2⟩
  · rcases List.mem_append.1 hx with hx | hx
    · exact c x hx
    · simp at hx; subst hx; rfl
  · rcases List.mem_append.1 hx with hx | hx
    · exact List.mem_append_left _ (d x hx)
    · simp at hx; subst hx; simp
theorem Fac.take {row : List Snt} {sl : List Let} {ns tk db k : Nat} {i : Int} (h : Fac row sl ns tk db) (hp : Nm.plc row i = some k) : Fac (row.eraseIdx k) sl ns (tk + 1) db := by
  obtain ⟨a, b, c, d, e⟩ := h
  have hk := (Nm.plc_lt hp).1
  refine ⟨by rw [List.length_eraseIdx]; split <;> omega, fun x hx => b x (List.mem_of_mem_eraseIdx hx), fun x hx => c x (List.mem_of_mem_eraseIdx hx), fun x hx => d x (List.mem_of_mem_eraseIdx hx), by rw [List.length_eraseIdx, if_pos hk]; omega⟩
theorem dbl_cases {row : List Snt} (i : Int) (hF : ∀ x ∈ row, x.2 = false) : Nm.dbl row i = (false, row) ∨ ∃ x, x ∈ row ∧ Nm.dbl row i = (true, row ++ [x]) ∧ row.length < 64 := by
  unfold Nm.dbl
  cases hp : Nm.plc row i with
  | none => exact .inl rfl
  | some k =>
    simp only
    unfold Nm.put
    by_cases h2 : 64 ≤ row.length
    · rw [if_pos h2]; exact .inl rfl
    · rw [if_neg h2]; exact .inr ⟨_, Nm.at_mem (Nm.plc_lt hp).1, rfl, by omega⟩
theorem Fac.dbl {row : List Snt} {sl : List Let} {ns tk db : Nat} {x : Snt} (h : Fac row sl ns tk db) (hx : x ∈ row) (h64 : row.length < 64) : Fac (row ++ [x]) sl ns tk (db + 1) := by
  obtain ⟨a, b, c, d, e⟩ := h
  refine ⟨by simp; omega, fun y hy => ?_, fun y hy => ?_, fun y hy => ?_, by simp; omega⟩
  · rcases List.mem_append.1 hy with hy | hy
    · exact b y hy
    · simp at hy; subst hy; exact b y hx
  · rcases List.mem_append.1 hy with hy | hy
    · exact c y hy
    · simp at hy; subst hy; exact c y hx
  · rcases List.mem_append.1 hy with hy | hy
    · exact d y hy
    · simp at hy; subst hy; exact d y hx
theorem LRowX.turnS {t : TypeId} {w w' : World} {base : Nat} {S S' : Nat → Prop} {v : Value} {ls : List Let} (h : LRowX t w base S v ls) (hT : Turned w S S' w') (hv : ∀ j, v.ownBlock = some j → ¬ S j) : LRowX t w' base S' v ls ∧ ∀ j, v.ownBlock = some j → ¬ S' j := by
  obtain ⟨ms, h1, h2, h3⟩ := h
  refine ⟨⟨ms, h1, hT.2.own h2 hv, fun j m x hm hx => ⟨(h3 j m x hm hx).1, (h3 j m x hm hx).2.turn hT.left⟩⟩, fun j hj hs => ?_⟩
  rcases hT.1 j hs with h | h
  · exact hv j hj h
  · have := own_lt h2 j hj; omega
/-- a slice that does not lie in v's own block, or is empty -/
def Off (v x : Value) : Prop := ∀ b o n c, x = .slice (some ⟨b, o, none⟩) n c → 0 < n → v.ownBlock ≠ some b
theorem Off.new {w : World} {v : Value} {base n s : Nat} {t : TypeId} {xs : List Value} (h : w.ownsRow base t s v n xs) {w' : World} (hs : w.heap.size ≤ w'.heap.size) : QNew w' (Off v) := fun x hx b o n c e _ hv => by
  have h1 := own_lt h b hv
  have h2 := (hx b o n c e).1
  omega
theorem NetM.empty {w : World} {g : Nat} {S : Nat → Prop} {Q : Value → Prop} (h : NetM w g S []) : NetQ w g S Q [] := by
  obtain ⟨v, ms, h1, h2, h3, h4⟩ := h
  have h5 : ms = [] := List.length_eq_zero_iff.1 h3.1
  exact ⟨v, ms, h1, h2, h3, h4, fun j m hm => by subst h5; simp at hm⟩
theorem NetQ.growA {w w' : World} {g : Nat} {S : Nat → Prop} {v v' : Value} {row : List Snt} (h : NetQ w g S (Off v) row) (hO : Only (fun j => v.ownBlock = some j) w w') (hd : ∀ j, v.ownBlock = some j → ¬ S j) (hat : v'.ownBlock = v.ownBlock ∨ v'.ownBlock = some w.heap.size) : NetQ w' g S (Off v') row := by
  obtain ⟨u, ms, h1, h2, h3, h4, h5⟩ := h
  have hlen : ∀ (j : Nat) (m : Int × Value × Bool), ms[j]? = some m → ∃ x, row[j]? = some x := fun j m hm => ⟨_, List.getElem?_eq_getElem (by rw [← h3.1]; exact (List.getElem?_eq_some_iff.1 hm).1)⟩
  refine ⟨u, ms, hO.blk h1 (fun ht => hd _ ht ((h4 g).2 (.inl rfl))), hO.own h2 (fun j hj ht => hd j ht ((h4 j).2 (.inr hj))), ⟨h3.1, fun j m x hm hx => ⟨(h3.2 j m x hm hx).1, (h3.2 j m x hm hx).2.1, (h3.2 j m x hm hx).2.2.other hO (fun b o n c hv hn ht => ?_)⟩⟩, h4, fun j m hm b o n c hv hn => ?_⟩
  · have h6 := (h3.2 j m x hm hx).2.2.1
    obtain ⟨A', c', e, -, he, -⟩ := id h6
    rw [hv] at e
    injection e with e1 e2 e3
    exact h5 j m hm b o n c hv (by rw [e2]; exact List.length_pos_iff.2 hn) ht
  · rcases hat with h | h
    · rw [h]; exact h5 j m hm b o n c hv hn
    · obtain ⟨x, hx⟩ := hlen j m hm
      have h6 := (h3.2 j m x hm hx).2.2
      obtain ⟨A', c', e, -, he, -⟩ := id h6.1
      rw [hv] at e
      injection e with e1 e2 e3
      have h7 := MadeO.lt h6 hv (by intro h0; rw [h0] at e2; simp at e2; omega)
      rw [h]
      intro h8
      injection h8 with h8
      omega
theorem take_cases (row : List Snt) (i : Int) : Nm.take row i = (((0, []), false), row) ∨ ∃ kk x, Nm.plc row i = some kk ∧ x ∈ row ∧ Nm.take row i = ((x.1, true), row.eraseIdx kk) := by
  unfold Nm.take
  cases hp : Nm.plc row i with
  | none => exact .inl rfl
  | some kk => exact .inr ⟨kk, _, rfl, Nm.at_mem (Nm.plc_lt hp).1, rfl⟩
theorem LetR.one {w : World} {t : TypeId} {to : Int} {A : Option Addr} {n c : Nat} {bs : List Nat} (hr : Rd w w.heap.size A (u8s bs)) (hn : bs.length = n) (hc : n ≤ c) (hm : c ≤ maxLen) (h0 : A = none → c = 0) (h6 : ∀ b ∈ bs, b < 256) :
    LetR (w.alloc (.cells #[.int .i64 to, .slice A n c] t)) (w.alloc (.cells #[.int .i64 to, .slice A n c] t)).heap.size (some ⟨w.heap.size, 0, none⟩) [(to, bs)] := fun _ => by
  have hb : Below w.heap.size w (w.alloc (.cells #[.int .i64 to, .slice A n c] t)) := (Below.refl _ w).alloc (Nat.le_refl _) _
  refine ⟨w.heap.size, 0, rfl, by simp, fun k a hk => ?_⟩
  have hl := (List.getElem?_eq_some_iff.1 hk).1
  obtain rfl : k = 0 := by simp at hl; omega
  simp at hk
  subst hk
  refine ⟨[.int .i64 to, .slice A n c], rfl, ⟨A, c, by rw [hn], (hr.below hb).more hb.size, by rw [hn]; exact hc, hm, h0, h6⟩, fun j u hu => ?_⟩
  have h := nw2 w t (.int .i64 to) (.slice A n c) j u hu
  rw [addk] at h
  simpa using h
theorem mem_take_succ {ls : List Let} {x y : Let} {j : Nat} (hy : ls[j]? = some y) (hn : x ∉ ls.take j) : decide (x ∈ ls.take (j + 1)) = decide ([x] = [y]) := by
  rw [List.take_add_one, hy]
  by_cases h : x = y
  · subst h; simp
  · simp [h, hn]
theorem mem_take_grow {ls : List Let} {x : Let} {j : Nat} (hn : x ∈ ls.take j) : decide (x ∈ ls.take (j + 1)) = true := by
  rw [List.take_add_one]
  simp [hn]
def TR (w : World) (g len : Nat) (s4 s5 s6 s24 : Value) (wr : World) : Prop :=
  ∃ (k : Nat) (S : Nat → Prop) (row : List Snt) (sl : List Let) (ns tk db : Nat), s5 = .int .i64 (tk : Int) ∧ s6 = .int .i64 (db : Int) ∧ s24 = .int .i64 (k : Int) ∧ k ≤ len ∧ LRowX 103 wr w.heap.size S s4 sl ∧ (∀ j, s4.ownBlock = some j → ¬ S j) ∧ sl.length = ns ∧ (ns ≤ k ∧ tk ≤ k ∧ db ≤ k) ∧ NetQ wr g S (Off s4) row ∧ Fac row sl ns tk db ∧ (∀ j, S j → w.heap.size ≤ j) ∧ Below w.heap.size w wr
set_option maxRecDepth 100000 in
set_option maxHeartbeats 6000000 in
theorem NetTrue_walk (w : World) (A : Option Addr) (len cap : Nat) (ys : List ActN) (hn : ys.length = len) (hlc : len ≤ cap) (hcm : cap ≤ maxLen) (hr : ActsN w w.heap.size A ys) :
    Calls Try.prog 10 #[.slice A len cap] w (TrueN w) := by
  obtain ⟨i0, hi, hz0, hz1, hz2⟩ := info_parts infoRLet
  have HN := Lib.hid hn; have HLC := Lib.hid hlc; have HCM := Lib.hid hcm; have HR := Lib.hid hr
  have hcm' : cap ≤ 9223372036854775807 := hcm
  clear hn hr hcm
  go_enter Try.func10, Try.ntmps10
  go_wp2_with fail
  refine (awake21_any w).mono ?_
  rintro en w1 ⟨rfl, hb1⟩
  have B1 := Lib.hid hb1; clear hb1
  go_wp2_with fail
  refine (large21_any w1 A len cap ys (ActsN.step HR.out B1.out) HN.out HLC.out HCM.out).mono ?_
  rintro en w2 ⟨⟨lb, rfl, hfine⟩, hb2⟩
  have B2 := Lib.hid (B1.out.trans (hb2.mono B1.out.size)); have HFI := Lib.hid hfine
  clear hb2 hfine
  cases lb with
  | true =>
    have HP := Lib.hid (show TrueN w (.returned (.bool true)) w2 from ⟨rfl, B2.out⟩)
    go_wp2
    go_ret
    exact HP.out
  | false =>
    obtain ⟨h100, hsh⟩ := HFI.out rfl
    have HSH := Lib.hid hsh
    have hl100 : len ≤ 100 := by rw [← HN.out]; exact h100
    clear hsh HFI h100
    go_wp2_with fail
    refine (NNew_any w2).mono ?_
    rintro en w3 ⟨g, S3, rfl, hd, hS, hb⟩
    have hb3 : Below w3.heap.size w3 (w3.alloc (.cells #[] 103)) := (Below.refl _ w3).alloc (Nat.le_refl _) _
    have hB3 := B2.out.trans (hb.mono B2.out.size)
    have START := Lib.hid (show TR w g len (.slice (some ⟨w3.heap.size, 0, none⟩) 0 0) (.int .i64 0) (.int .i64 0) (.int .i64 0) (w3.alloc (.cells #[] 103)) from ⟨0, S3, [], [], 0, 0, 0, rfl, rfl, rfl, Nat.zero_le _, LRowX.lit _ w3 _ _ hB3.size, fun j hj hs => by have := hd.lt j hs; simp [Value.ownBlock] at hj; omega, rfl, ⟨by omega, by omega, by omega⟩, (NetM.empty hd).below hb3, ⟨by simp, fun x hx => by simp at hx, fun x hx => by simp at hx, fun x hx => by simp at hx, rfl⟩, fun j hj => Nat.le_trans B2.out.size (hS j hj), hB3.trans (hb3.mono hB3.size)⟩)
    clear hd hS hb hb3 hB3
    go_wp2
    go_loopw [4, 5, 6, 24] (fun s4 s5 s6 s24 wr => TR w g len s4 s5 s6 s24 wr) (fun _ _ _ s24 _ => len - (intOf s24).toNat)
    case atStart => exact START.out
    case round =>
      clear START
      obtain ⟨k, S, row, sl, ns, tk, db, rfl, rfl, rfl, hk, hL, hV, hns, ⟨hk1, hk2, hk3⟩, hd, hF, hS, hbel⟩ := hrel
      obtain ⟨A4, c4, rfl⟩ := own_sl hL.toL.choose_spec.2.1
      rw [hns] at hL hV hd
      have HB := Lib.hid hbel; have D0 := Lib.hid hd; have HF := Lib.hid hF; have AS := Lib.hid hS; have L0 := Lib.hid hL; have V0 := Lib.hid hV; have HNS' := Lib.hid hns
      by_cases hlt : k < len
      · obtain ⟨ga, o', d, i, p, m, to, bs, Ab, cb, rfl, hga, hp, ⟨d0, d1, d2, d3, d4, d5⟩, hrb, hbc, hbm, hbn, hb256, hI, hPP, hM⟩ := ActsN.row (ActsN.below HR.out hbel) (k := k) (by rw [HN.out]; exact hlt)
        have hgw : ga < wr.heap.size := World.block_lt_of_cell? _ _ d0
        have hltI : (k : Int) < (len : Int) := by omega
        have hl3 := HSH.out k _ hp
        simp only at hl3
        obtain ⟨nb, hnb⟩ : ∃ q, bs.length = q := ⟨_, rfl⟩
        rw [hnb] at d5 hbc hl3
        have HNB := Lib.hid hnb; have RB := Lib.hid hrb; have H256 := Lib.hid hb256; have HNO := Lib.hid hbn; have HI := Lib.hid hI; have HLT := Lib.hid hlt; have HBM := Lib.hid hbm
        rw [hns]
        clear hd hF hS hbel hL hV hns hp hnb hrb hb256 hbn hI hPP hM hbm
        by_cases hq0 : d = 0
        · subst hq0
          go_wp2_with fail
          generalize hW : wr.alloc (.cells #[.int .i64 0, .int .i64 i, .int .i64 p, .int .u32 (m : Int), .int .i64 to, .slice Ab nb cb] 100) = w4
          have hb : Below wr.heap.size wr w4 := by rw [← hW]; exact (Below.refl _ wr).alloc (Nat.le_refl _) _
          have D4 := Lib.hid (D0.out.below hb); have B4 := Lib.hid (HB.out.trans (hb.mono HB.out.size)); have L4 := Lib.hid (L0.out.below hb)
          have RB4 := Lib.hid ((RB.out.below (hb.mono HB.out.size)).more B4.out.size)
          have Z4 : Hid (Blk w4 wr.heap.size 100 #[.int .i64 0, .int .i64 i, .int .i64 p, .int .u32 (m : Int), .int .i64 to, .slice Ab nb cb]) := Lib.hid (by rw [← hW]; exact Blk.new wr _ _)
          have B4s := Lib.hid hb.size; have BB4 := Lib.hid (hb.mono HB.out.size)
          clear hb hW d0 d1 d2 d3 d4 d5
          refine (NSendQ_any w4 g S (Off (.slice A4 ns c4)) row to Ab nb cb bs D4.out (Off.new L0.out.toL.choose_spec.2.1 (by have := B4s.out; omega)) RB4.out H256.out HNB.out (by omega) hbc HNO.out HF.out.1).mono ?_
          rintro en w5 ⟨rfl, S5, hd5, hT⟩
          have hL5 := L4.out.turnS hT V0.out
          have L5 := Lib.hid hL5.1; have V5 := Lib.hid hL5.2
          have B5 := Lib.hid (B4.out.trans (hT.2.to_below B4.out.size AS.out)); have BB5 := Lib.hid (BB4.out.trans (hT.2.to_below B4.out.size AS.out))
          have AS5 := Lib.hid (hT.1.above B4.out.size AS.out)
          have Z5 := Lib.hid (hT.2.blk Z4.out (fun hs => by have := D0.out.toM.lt _ hs; omega))
          clear hL5 hT
          rcases send_cases row (to, bs) with e | ⟨e, h64'⟩
          · rw [e] at hd5 ⊢
            have D5 := Lib.hid hd5
            clear hd5 e
            simp only at D5
            go_wp2_with fail
            obtain ⟨nr, hnr⟩ : ∃ q, (row).length = q := ⟨_, rfl⟩
            have HNRR := Lib.hid hnr
            have hsum : nr + (tk) = (ns) + (db) := by rw [← hnr]; exact HF.out.2.2.2.2
            have h64 : ¬ (64 : Int) < (nr : Int) := by have := HF.out.1; rw [hnr] at this; omega
            have hadd : IntKind.i64.wrap (((ns : Nat) : Int) + ((db : Nat) : Int)) = ((ns : Nat) : Int) + ((db : Nat) : Int) := IntWalk.i64_in _ ⟨by omega, by omega⟩
            have hsub : IntKind.i64.wrap (((ns : Nat) : Int) + ((db : Nat) : Int) - ((tk : Nat) : Int)) = (nr : Int) := by rw [IntWalk.i64_in _ ⟨by omega, by omega⟩]; omega
            have R := Lib.hid (show TR w g len (.slice A4 ns c4) (.int .i64 (tk : Int)) (.int .i64 (db : Int)) (.int .i64 ((k : Int) + 1)) w5 from ⟨k + 1, S5, row, sl, ns, tk, db, by first | rfl | go_num, by first | rfl | go_num, by go_num, HLT.out, L5.out, V5.out, HNS'.out, ⟨by omega, by omega, by omega⟩, D5.out, HF.out, AS5.out, B5.out⟩)
            have HLEN := fun (en : Ending) (w' : World) (h : en = .returned (.int .i64 (nr : Int)) ∧ w5 = w') => h
            clear hnr hsum
            push_cast at hadd hsub
            go_wp2_with fail
            refine (NLen_any w5 g S5 (row) D5.out.toM).mono ?_
            rintro en w' ⟨rfl, rfl⟩
            rw [HNRR.out]
            go_wp2_with fail
            refine (NLen_any w5 g S5 (row) D5.out.toM).mono ?_
            rintro en w' ⟨rfl, rfl⟩
            rw [HNRR.out]
            go_wp2
            go_roundw
            case rel => exact R.out
            case measure => simp [intOf]; have := HLT.out; omega
          · rw [e] at hd5 ⊢
            have hb8 : Below w5.heap.size w5 (w5.alloc (.cells #[.int .i64 to, .slice Ab nb cb] 103)) := (Below.refl _ w5).alloc (Nat.le_refl _) _
            have D8 := Lib.hid (hd5.below hb8); have B8 := Lib.hid (B5.out.trans (hb8.mono B5.out.size)); have BB8 := Lib.hid (BB5.out.trans (hb8.mono B5.out.size))
            have F9 := Lib.hid (HF.out.send (l := (to, bs)) h64' (by simp only; rw [HNB.out]; omega) H256.out)
            obtain ⟨ms, m1, m2, m3⟩ := L5.out.below hb8
            have M1 := Lib.hid m1; have M2 := Lib.hid m2; have M3 := Lib.hid m3
            have M2' : Hid (World.ownsRow (w5.alloc (.cells #[.int .i64 to, .slice Ab nb cb] 103)) w.heap.size 103 2 (.slice A4 ns c4) ns (fl2 ms)) := Lib.hid (by have h := M2.out; rw [HNS'.out] at h; exact h)
            have HW2 : Hid (w.heap.size ≤ (w5.alloc (.cells #[.int .i64 to, .slice Ab nb cb] 103)).heap.size) := Lib.hid B8.out.size
            have HNW := Lib.hid (nw2 w5 103 (.int .i64 to) (.slice Ab nb cb))
            have z4 : w5.cell? ⟨wr.heap.size, 4, none⟩ = some (.int .i64 to) := Z5.out.cell 4
            have z5 : w5.cell? ⟨wr.heap.size, 5, none⟩ = some (.slice Ab nb cb) := Z5.out.cell 5
            clear hd5 e h64' m1 m2 m3 hb8
            simp only at D8
            go_wp2_with (at_builtin; go_must (refine wpList_append_own_at _ rfl (.tmp 36) (.tmp 39) 92 rfl w.heap.size 103 i0 (.agg #[.int .i64 0, .slice none 0 0]) 2 32 Try.underlying92 hi hz0 hz1 hz2 rfl (by decide) _ ns (fl2 ms) rfl M2'.out ⟨w5.heap.size, 0, none⟩ 1 1 [.int .i64 to, .slice Ab nb cb] rfl rfl HNW.out (by intro u hu; simp at hu; rcases hu with rfl | rfl <;> rfl) (by unfold maxLen; omega) (by omega) HW2.out ?_; intro v3 w9 ho3 hg3 hn3 hat3; obtain ⟨A9, c9, rfl⟩ := own_sl ho3; have HO3 := Lib.hid ho3; have HG3 := Lib.hid hg3; have HAT := Lib.hid hat3; clear ho3 hg3 hn3 hat3))
            have hO9 := Only.of_grown (S := fun q => (Value.slice A4 ns c4).ownBlock = some q) HG3.out (fun q hq => hq)
            have L9 : Hid (LRowX 103 w9 w.heap.size S5 (.slice A9 (ns + 1) c9) (sl ++ [(to, bs)])) := Lib.hid (by
              refine LRowX.push (ms := ms) (v := .slice A4 ns c4) M1.out M2.out M3.out (by rw [HNS'.out]; exact HO3.out) HG3.out HAT.out ?_
              refine ⟨⟨Ab, cb, by rw [HNB.out], (RB.out.below BB8.out).more HW2.out, rfl, by rw [HNB.out]; exact hbc, HBM.out, H256.out, HNO.out⟩, fun b o n' c' hv hne hj => ?_⟩
              obtain ⟨b', o', e', hlt', -⟩ := RB.out (by intro h0; apply hne; exact List.map_eq_nil_iff.1 h0)
              injection hv with e1 _ _
              rw [e1] at e'
              injection e' with e'
              injection e' with e' _ _
              rcases hj with hj | hj
              · have := AS5.out b hj; omega
              · have := (M2'.out.lt b hj).1; omega)
            have HNS9 : Hid ((sl ++ [(to, bs)]).length = ns + 1) := Lib.hid (by rw [List.length_append, HNS'.out]; rfl)
            have V9 : Hid (∀ j, (Value.slice A9 (ns + 1) c9).ownBlock = some j → ¬ S5 j) := Lib.hid (fun j hj hs => by
              rcases HAT.out with h | h
              · exact V5.out j (h.symm.trans hj) hs
              · have hj := h.symm.trans hj
                injection hj with hj
                have := D8.out.toM.lt j hs
                omega)
            have D9 := Lib.hid (D8.out.growA hO9 V5.out HAT.out)
            have B9 := Lib.hid (B8.out.trans (hO9.to_below B8.out.size (fun j hj => (M2'.out.lt j hj).1)))
            clear hO9
            obtain ⟨nr, hnr⟩ : ∃ q, (row ++ [((to, bs), false)]).length = q := ⟨_, rfl⟩
            have HNRR := Lib.hid hnr
            have hsum : nr + (tk) = (ns + 1) + (db) := by rw [← hnr]; exact F9.out.2.2.2.2
            have h64 : ¬ (64 : Int) < (nr : Int) := by have := F9.out.1; rw [hnr] at this; omega
            have hadd : IntKind.i64.wrap (((ns + 1 : Nat) : Int) + ((db : Nat) : Int)) = ((ns + 1 : Nat) : Int) + ((db : Nat) : Int) := IntWalk.i64_in _ ⟨by omega, by omega⟩
            have hsub : IntKind.i64.wrap (((ns + 1 : Nat) : Int) + ((db : Nat) : Int) - ((tk : Nat) : Int)) = (nr : Int) := by rw [IntWalk.i64_in _ ⟨by omega, by omega⟩]; omega
            have R := Lib.hid (show TR w g len (.slice A9 (ns + 1) c9) (.int .i64 (tk : Int)) (.int .i64 (db : Int)) (.int .i64 ((k : Int) + 1)) w9 from ⟨k + 1, S5, row ++ [((to, bs), false)], sl ++ [(to, bs)], ns + 1, tk, db, by first | rfl | go_num, by first | rfl | go_num, by go_num, HLT.out, L9.out, V9.out, HNS9.out, ⟨by omega, by omega, by omega⟩, D9.out, F9.out, AS5.out, B9.out⟩)
            have HLEN := fun (en : Ending) (w' : World) (h : en = .returned (.int .i64 (nr : Int)) ∧ w9 = w') => h
            clear hnr hsum
            push_cast at hadd hsub
            go_wp2_with fail
            refine (NLen_any w9 g S5 (row ++ [((to, bs), false)]) D9.out.toM).mono ?_
            rintro en w' ⟨rfl, rfl⟩
            rw [HNRR.out]
            go_wp2_with fail
            refine (NLen_any w9 g S5 (row ++ [((to, bs), false)]) D9.out.toM).mono ?_
            rintro en w' ⟨rfl, rfl⟩
            rw [HNRR.out]
            go_wp2
            go_roundw
            case rel => exact R.out
            case measure => simp [intOf]; have := HLT.out; omega
        · have n01 : (d == 0) = false := by simp [hq0]
          have n02 : decide (d = 0) = false := by simp [hq0]
          by_cases hq1 : d = 1
          · subst hq1
            go_wp2_with fail
            generalize hW : wr.alloc (.cells #[.int .i64 1, .int .i64 i, .int .i64 p, .int .u32 (m : Int), .int .i64 to, .slice Ab nb cb] 100) = w4
            have hb : Below wr.heap.size wr w4 := by rw [← hW]; exact (Below.refl _ wr).alloc (Nat.le_refl _) _
            have D4 := Lib.hid (D0.out.below hb); have B4 := Lib.hid (HB.out.trans (hb.mono HB.out.size)); have L4 := Lib.hid (L0.out.below hb)
            have RB4 := Lib.hid ((RB.out.below (hb.mono HB.out.size)).more B4.out.size)
            have Z4 : Hid (Blk w4 wr.heap.size 100 #[.int .i64 1, .int .i64 i, .int .i64 p, .int .u32 (m : Int), .int .i64 to, .slice Ab nb cb]) := Lib.hid (by rw [← hW]; exact Blk.new wr _ _)
            have B4s := Lib.hid hb.size
            clear hb hW d0 d1 d2 d3 d4 d5
            refine (NTakeQ_any w4 g S (Off (.slice A4 ns c4)) row i D4.out HI.out.1 HI.out.2 HF.out.1 (fun x hx => by have := (HF.out.2.1 x hx).1; omega)).mono ?_
            rintro en w5 ⟨R5, C5, rfl, hd5, hT, hm5, -⟩
            have hL5 := L4.out.turnS hT V0.out
            have L5 := Lib.hid hL5.1; have V5 := Lib.hid hL5.2
            have B5 := Lib.hid (B4.out.trans (hT.2.to_below B4.out.size AS.out))
            have AS5 := Lib.hid (hT.1.above B4.out.size AS.out)
            clear hL5 hT
            rcases take_cases row i with e | ⟨kk, x, hp, hx, e⟩
            · rw [e] at hd5 ⊢
              have hb8 : Below w5.heap.size w5 (w5.alloc (.cells #[.int .i64 0, .slice R5 0 C5] 98)) := (Below.refl _ w5).alloc (Nat.le_refl _) _
              have R := Lib.hid (show TR w g len (.slice A4 ns c4) (.int .i64 (tk : Int)) (.int .i64 (db : Int)) (.int .i64 ((k : Int) + 1)) (w5.alloc (.cells #[.int .i64 0, .slice R5 0 C5] 98)) from ⟨k + 1, S, row, sl, ns, tk, db, rfl, rfl, by go_num, HLT.out, L5.out.below hb8, V5.out, HNS'.out, ⟨by omega, by omega, by omega⟩, hd5.below hb8, HF.out, AS5.out, B5.out.trans (hb8.mono B5.out.size)⟩)
              clear hd5 hm5 e hb8
              simp only [List.length_nil]
              go_wp2
              go_roundw
              case rel => exact R.out
              case measure => simp [intOf]; have := HLT.out; omega
            · obtain ⟨⟨tx, bx⟩, spx⟩ := x
              have F9 := Lib.hid (HF.out.take hp)
              have MX := Lib.hid (HF.out.2.2.2.1 _ hx)
              rw [e] at hd5 hm5 ⊢
              simp only at hd5 hm5 MX ⊢
              obtain ⟨nx, hnx⟩ : ∃ q, bx.length = q := ⟨_, rfl⟩
              rw [hnx] at hm5 ⊢
              obtain ⟨hrx, hcx, hcmx, hnox, h256x⟩ := hm5.1.parts
              have hb8 : Below w5.heap.size w5 (w5.alloc (.cells #[.int .i64 tx, .slice R5 nx C5] 98)) := (Below.refl _ w5).alloc (Nat.le_refl _) _
              have HNX := Lib.hid hnx; have HCX := Lib.hid (And.intro hcx (And.intro hcmx (And.intro hnox h256x)))
              have D6 := Lib.hid (hd5.below hb8); have B6 := Lib.hid (B5.out.trans (hb8.mono B5.out.size)); have L6 := Lib.hid (L5.out.below hb8); have RX := Lib.hid ((hrx.below hb8).more hb8.size)
              have Z6 := Lib.hid (Blk.new w5 98 #[.int .i64 tx, .slice R5 nx C5])
              have hs6 : w5.heap.size < (w5.alloc (.cells #[.int .i64 tx, .slice R5 nx C5] 98)).heap.size := by simp
              clear hd5 hm5 e hb8 hp hx hnx hrx hcx hcmx hnox h256x
              go_wp2
              generalize hW : (w5.alloc (.cells #[.int .i64 tx, .slice R5 nx C5] 98)) = w6 at D6 B6 L6 RX Z6 hs6 ⊢
              clear hW
              go_loopw [11, 56] (fun s11 s56 wr => ∃ j : Nat, s11 = .bool (decide ((tx, bx) ∈ sl.take j)) ∧ s56 = .int .i64 (j : Int) ∧ j ≤ ns ∧ Below w6.heap.size w6 wr) (fun _ s56 _ => ns - (intOf s56).toNat)
              case atStart => exact ⟨0, by simp, rfl, Nat.zero_le _, Below.refl _ _⟩
              case round =>
                obtain ⟨j, rfl, rfl, hj, hbel⟩ := hrel
                have HBW := Lib.hid hbel
                by_cases hjl : j < ns
                · have HJL := Lib.hid hjl
                  have hjI : (j : Int) < (ns : Int) := by omega
                  obtain ⟨AL, cL, hvL, hLR, -, -⟩ := L6.out.toL.letR B6.out.size
                  have eA : A4 = AL := by injection hvL
                  clear hvL
                  subst eA
                  obtain ⟨g4, o4, ty, by', Ay, cy, rfl, hg4, hy, y0, y1, hry, hcy, hcmy, hnoy, h256y⟩ := LetR.row (LetR.below hLR hbel) (k := j) (by rw [HNS'.out]; exact hjl)
                  have hg4w : g4 < wr.heap.size := Nat.lt_of_lt_of_le hg4 hbel.size
                  obtain ⟨ny, hny⟩ : ∃ q, by'.length = q := ⟨_, rfl⟩
                  rw [hny] at y1 hcy
                  have HNY := Lib.hid hny; have HCY := Lib.hid (And.intro hcy (And.intro hcmy (And.intro hnoy h256y))); have HY := Lib.hid hy
                  have hb7 : Below wr.heap.size wr (wr.alloc (.cells #[.int .i64 ty, .slice Ay ny cy] 103)) := (Below.refl _ wr).alloc (Nat.le_refl _) _
                  have HBW := Lib.hid (hbel.trans (hb7.mono hbel.size))
                  have RX7 := Lib.hid ((RX.out.below HBW.out).more HBW.out.size)
                  have RY7 := Lib.hid (((hry.more hbel.size).below hb7).more hb7.size)
                  have z70 := (HBW.out.cell (p := ⟨w5.heap.size, 0, none⟩) hs6).trans (Z6.out.cell 0)
                  have z71 := (HBW.out.cell (p := ⟨w5.heap.size, 1, none⟩) hs6).trans (Z6.out.cell 1)
                  have e70 := (Blk.new wr 103 #[.int .i64 ty, .slice Ay ny cy]).cell 0
                  have e71 := (Blk.new wr 103 #[.int .i64 ty, .slice Ay ny cy]).cell 1
                  have hz7 : w5.heap.size < (wr.alloc (.cells #[.int .i64 ty, .slice Ay ny cy] 103)).heap.size := Nat.lt_of_lt_of_le hs6 HBW.out.size
                  have he7 : wr.heap.size < (wr.alloc (.cells #[.int .i64 ty, .slice Ay ny cy] 103)).heap.size := by simp
                  have Z7 := Lib.hid (And.intro z70 (And.intro z71 (And.intro e70 (And.intro e71 (And.intro hz7 he7)))))
                  clear hny hcy hcmy hnoy h256y hy hry hb7 hLR z70 z71 e70 e71 hz7 he7
                  by_cases hin : (tx, bx) ∈ sl.take j
                  · rw [decide_eq_true hin]
                    have HIN := Lib.hid (mem_take_grow hin)
                    clear hin
                    go_wp2
                    generalize hW : wr.alloc (.cells #[.int .i64 ty, .slice Ay ny cy] 103) = w7 at HBW RX7 RY7 Z7 ⊢
                    clear hW
                    refine Inr.region_below (fun i v w' => match i with
                        | 0 => v = .bool true
                        | 1 => v = .bool true
                        | 2 => True
                        | 3 => True
                        | 4 => True
                        | 5 => True
                        | 6 => True
                        | 7 => True
                        | 8 => v = .bool true
                        | 9 => v = .bool true
                        | _ => True)
                      (fun w' => Below w7.heap.size w7 w' ∧ True) 95 [60, 61, 62, 63, 64, 65, 66, 67, 68, 11] (by kernel_rfl) rfl (by kernel_rfl) (by kernel_rfl) ?_ ?_ ?_ ?_
                    · intro v v' hC hb
                      obtain ⟨hB, -⟩ := hC
                      exact ⟨hB.trans (hb.mono hB.size), trivial⟩
                    · exact ⟨(Below.refl _ _).drew, trivial⟩
                    · refine ⟨⟨fun _ _ _ h _ => h, ?_⟩, ⟨fun _ _ _ h _ => h, ?_⟩, ⟨fun _ _ _ h _ => h, ?_⟩, ⟨fun _ _ _ h _ => h, ?_⟩, ⟨fun _ _ _ h _ => h, ?_⟩, ⟨fun _ _ _ h _ => h, ?_⟩, ⟨fun _ _ _ h _ => h, ?_⟩, ⟨fun _ _ _ h _ => h, ?_⟩, ⟨fun _ _ _ h _ => h, ?_⟩, ⟨fun _ _ _ h _ => h, ?_⟩, trivial⟩
                      · intro act wa hC hd H O NN K hK
                        clear hd
                        obtain ⟨hB, -⟩ := hC
                        have h11 := NN 12 9 11 (by kernel_rfl) rfl
                        have g11 := Array.getD_eq_getD_getElem?.symm.trans h11
                        clear H O NN
                        go_simp
                        exact hK _ _ (Below.refl _ _) (fun _ => rfl)
                      · intro act wa hC hd H O NN K hK
                        clear hd
                        obtain ⟨hB, -⟩ := hC
                        have h60 : act.tmps.getD 60 undef = .bool true := H 1 0 60 (by kernel_rfl) rfl
                        have g60 := Array.getD_eq_getD_getElem?.symm.trans h60
                        clear H O NN
                        go_simp
                        exact hK _ _ (Below.refl _ _) (fun _ => rfl)
                      · intro act wa hC hd H O NN K hK
                        clear hd
                        obtain ⟨hB, -⟩ := hC
                        have h9 := O 9 (by kernel_rfl)
                        have g9 := Array.getD_eq_getD_getElem?.symm.trans h9
                        have h61 : act.tmps.getD 61 undef = .bool true := H 1 1 61 (by kernel_rfl) rfl
                        have g61 := Array.getD_eq_getD_getElem?.symm.trans h61
                        have k61 := Inv.some_bool g61
                        clear H O NN
                        go_simp
                        exact hK _ _ (Below.refl _ _) (fun _ => trivial)
                      · intro act wa hC hd H O NN K hK
                        clear hd
                        obtain ⟨hB, -⟩ := hC
                        have h62 : True := H 1 2 62 (by kernel_rfl) rfl
                        have h61 : act.tmps.getD 61 undef = .bool true := H 1 1 61 (by kernel_rfl) rfl
                        have g61 := Array.getD_eq_getD_getElem?.symm.trans h61
                        have k61 := Inv.some_bool g61
                        clear H O NN
                        go_simp
                        exact hK _ _ (Below.refl _ _) (fun _ => trivial)
                      · intro act wa hC hd H O NN K hK
                        clear hd
                        obtain ⟨hB, -⟩ := hC
                        have h63 : True := H 1 3 63 (by kernel_rfl) rfl
                        have h61 : act.tmps.getD 61 undef = .bool true := H 1 1 61 (by kernel_rfl) rfl
                        have g61 := Array.getD_eq_getD_getElem?.symm.trans h61
                        have k61 := Inv.some_bool g61
                        clear H O NN
                        go_simp
                        exact hK _ _ (Below.refl _ _) (fun _ => trivial)
                      · intro act wa hC hd H O NN K hK
                        clear hd
                        obtain ⟨hB, -⟩ := hC
                        have h13 := O 13 (by kernel_rfl)
                        have g13 := Array.getD_eq_getD_getElem?.symm.trans h13
                        have h61 : act.tmps.getD 61 undef = .bool true := H 1 1 61 (by kernel_rfl) rfl
                        have g61 := Array.getD_eq_getD_getElem?.symm.trans h61
                        have k61 := Inv.some_bool g61
                        clear H O NN
                        go_simp
                        exact hK _ _ (Below.refl _ _) (fun _ => trivial)
                      · intro act wa hC hd H O NN K hK
                        clear hd
                        obtain ⟨hB, -⟩ := hC
                        have h65 : True := H 1 5 65 (by kernel_rfl) rfl
                        have h61 : act.tmps.getD 61 undef = .bool true := H 1 1 61 (by kernel_rfl) rfl
                        have g61 := Array.getD_eq_getD_getElem?.symm.trans h61
                        have k61 := Inv.some_bool g61
                        clear H O NN
                        go_simp
                        exact hK _ _ (Below.refl _ _) (fun _ => trivial)
                      · intro act wa hC hd H O NN K hK
                        clear hd
                        obtain ⟨hB, -⟩ := hC
                        have h64 : True := H 1 4 64 (by kernel_rfl) rfl
                        have h66 : True := H 1 6 66 (by kernel_rfl) rfl
                        have h61 : act.tmps.getD 61 undef = .bool true := H 1 1 61 (by kernel_rfl) rfl
                        have g61 := Array.getD_eq_getD_getElem?.symm.trans h61
                        have k61 := Inv.some_bool g61
                        clear H O NN
                        go_simp
                        exact hK _ _ (Below.refl _ _) (fun _ => trivial)
                      · intro act wa hC hd H O NN K hK
                        clear hd
                        obtain ⟨hB, -⟩ := hC
                        have h61 : act.tmps.getD 61 undef = .bool true := H 1 1 61 (by kernel_rfl) rfl
                        have g61 := Array.getD_eq_getD_getElem?.symm.trans h61
                        have h67 : True := H 1 7 67 (by kernel_rfl) rfl
                        clear H O NN
                        go_simp
                        exact hK _ _ (Below.refl _ _) (fun _ => rfl)
                      · intro act wa hC hd H O NN K hK
                        clear hd
                        obtain ⟨hB, -⟩ := hC
                        have h68 : act.tmps.getD 68 undef = .bool true := H 1 8 68 (by kernel_rfl) rfl
                        have g68 := Array.getD_eq_getD_getElem?.symm.trans h68
                        clear H O NN
                        go_simp
                        exact hK _ _ (Below.refl _ _) (fun _ => rfl)
                    · intro us w' hC hF
                      obtain ⟨hB, -⟩ := hC
                      have u11 : us 11 = .bool true := hF 9 11 rfl
                      clear hF
                      simp only [List.foldl]
                      go_simp
                      have e68 : us 11 = .bool (true) := u11
                      have HBB := Lib.hid (HBW.out.trans (hB.mono HBW.out.size))
                      clear hB u11
                      try rw [e68]
                      go_wp2
                      go_roundw
                      case rel => exact ⟨j + 1, by rw [HIN.out], by go_num, by have := HJL.out; omega, HBB.out⟩
                      case measure => simp [intOf]; have := HJL.out; omega

                  · rw [decide_eq_false hin]
                    obtain ⟨q, hq⟩ : ∃ q, decide ([(tx, bx)] = [(ty, by')]) = q := ⟨_, rfl⟩
                    have HIN := Lib.hid ((mem_take_succ HY.out hin).trans hq)
                    have HQ := Lib.hid hq
                    clear hin hq
                    go_wp2
                    generalize hW : wr.alloc (.cells #[.int .i64 ty, .slice Ay ny cy] 103) = w7 at HBW RX7 RY7 Z7 ⊢
                    clear hW
                    obtain ⟨z70, z71, e70, e71, hz7, he7⟩ := Z7.out
                    refine Inr.region_below (fun i v w' => match i with
                        | 0 => v = .bool false
                        | 1 => v = .bool false
                        | 2 => v = .agg #[.int .i64 tx, .slice R5 nx C5]
                        | 3 => ∃ A, v = .slice A 1 1 ∧ LetR w' w'.heap.size A [(tx, bx)]
                        | 4 => ∃ A c, v = .slice A 1 c ∧ LetR w' w'.heap.size A [(tx, bx)]
                        | 5 => v = .agg #[.int .i64 ty, .slice Ay ny cy]
                        | 6 => ∃ A, v = .slice A 1 1 ∧ LetR w' w'.heap.size A [(ty, by')]
                        | 7 => v = .bool q
                        | 8 => v = .bool q
                        | 9 => v = .bool q
                        | _ => True)
                      (fun w' => Below w7.heap.size w7 w' ∧ True) 95 [60, 61, 62, 63, 64, 65, 66, 67, 68, 11] (by kernel_rfl) rfl (by kernel_rfl) (by kernel_rfl) ?_ ?_ ?_ ?_
                    · intro v v' hC hb
                      obtain ⟨hB, -⟩ := hC
                      exact ⟨hB.trans (hb.mono hB.size), trivial⟩
                    · exact ⟨(Below.refl _ _).drew, trivial⟩
                    · refine ⟨⟨fun _ _ _ h _ => h, ?_⟩, ⟨fun _ _ _ h _ => h, ?_⟩, ⟨fun _ _ _ h _ => h, ?_⟩, ⟨fun v w w' ⟨A, h1, h2⟩ hb => ⟨A, h1, h2.step hb⟩, ?_⟩, ⟨fun v w w' ⟨A, c, h1, h2⟩ hb => ⟨A, c, h1, h2.step hb⟩, ?_⟩, ⟨fun _ _ _ h _ => h, ?_⟩, ⟨fun v w w' ⟨A, h1, h2⟩ hb => ⟨A, h1, h2.step hb⟩, ?_⟩, ⟨fun _ _ _ h _ => h, ?_⟩, ⟨fun _ _ _ h _ => h, ?_⟩, ⟨fun _ _ _ h _ => h, ?_⟩, trivial⟩
                      · intro act wa hC hd H O NN K hK
                        clear hd
                        obtain ⟨hB, -⟩ := hC
                        have h11 := NN 12 9 11 (by kernel_rfl) rfl
                        have g11 := Array.getD_eq_getD_getElem?.symm.trans h11
                        clear H O NN
                        have ya := (hB.cell (p := ⟨w5.heap.size, 0, none⟩) hz7).trans z70
                        have yb := (hB.cell (p := ⟨w5.heap.size, 1, none⟩) hz7).trans z71
                        have yc := (hB.cell (p := ⟨wr.heap.size, 0, none⟩) he7).trans e70
                        have yd := (hB.cell (p := ⟨wr.heap.size, 1, none⟩) he7).trans e71
                        go_simp
                        exact hK _ _ (Below.refl _ _) (fun _ => rfl)
                      · intro act wa hC hd H O NN K hK
                        clear hd
                        obtain ⟨hB, -⟩ := hC
                        have h60 : act.tmps.getD 60 undef = .bool false := H 1 0 60 (by kernel_rfl) rfl
                        have g60 := Array.getD_eq_getD_getElem?.symm.trans h60
                        clear H O NN
                        have ya := (hB.cell (p := ⟨w5.heap.size, 0, none⟩) hz7).trans z70
                        have yb := (hB.cell (p := ⟨w5.heap.size, 1, none⟩) hz7).trans z71
                        have yc := (hB.cell (p := ⟨wr.heap.size, 0, none⟩) he7).trans e70
                        have yd := (hB.cell (p := ⟨wr.heap.size, 1, none⟩) he7).trans e71
                        go_simp
                        exact hK _ _ (Below.refl _ _) (fun _ => rfl)
                      · intro act wa hC hd H O NN K hK
                        clear hd
                        obtain ⟨hB, -⟩ := hC
                        have h9 := O 9 (by kernel_rfl)
                        have g9 := Array.getD_eq_getD_getElem?.symm.trans h9
                        have h61 : act.tmps.getD 61 undef = .bool false := H 1 1 61 (by kernel_rfl) rfl
                        have g61 := Array.getD_eq_getD_getElem?.symm.trans h61
                        have k61 := Inv.some_bool g61
                        clear H O NN
                        have ya := (hB.cell (p := ⟨w5.heap.size, 0, none⟩) hz7).trans z70
                        have yb := (hB.cell (p := ⟨w5.heap.size, 1, none⟩) hz7).trans z71
                        have yc := (hB.cell (p := ⟨wr.heap.size, 0, none⟩) he7).trans e70
                        have yd := (hB.cell (p := ⟨wr.heap.size, 1, none⟩) he7).trans e71
                        go_simp
                        exact hK _ _ (Below.refl _ _) (fun _ => rfl)
                      · intro act wa hC hd H O NN K hK
                        clear hd
                        obtain ⟨hB, -⟩ := hC
                        have h62 : act.tmps.getD 62 undef = .agg #[.int .i64 tx, .slice R5 nx C5] := H 1 2 62 (by kernel_rfl) rfl
                        have g62 := Array.getD_eq_getD_getElem?.symm.trans h62
                        have h61 : act.tmps.getD 61 undef = .bool false := H 1 1 61 (by kernel_rfl) rfl
                        have g61 := Array.getD_eq_getD_getElem?.symm.trans h61
                        have k61 := Inv.some_bool g61
                        clear H O NN
                        have ya := (hB.cell (p := ⟨w5.heap.size, 0, none⟩) hz7).trans z70
                        have yb := (hB.cell (p := ⟨w5.heap.size, 1, none⟩) hz7).trans z71
                        have yc := (hB.cell (p := ⟨wr.heap.size, 0, none⟩) he7).trans e70
                        have yd := (hB.cell (p := ⟨wr.heap.size, 1, none⟩) he7).trans e71
                        go_simp
                        exact hK _ _ ((Below.refl _ _).alloc (Nat.le_refl _) _) (fun _ => ⟨_, rfl, LetR.one ((RX7.out.below hB).more hB.size) HNX.out HCX.out.1 HCX.out.2.1 HCX.out.2.2.1 HCX.out.2.2.2⟩)
                      · intro act wa hC hd H O NN K hK
                        clear hd
                        obtain ⟨hB, -⟩ := hC
                        have h63 : ∃ A, act.tmps.getD 63 undef = .slice A 1 1 ∧ LetR wa wa.heap.size A [(tx, bx)] := H 1 3 63 (by kernel_rfl) rfl
                        obtain ⟨A63, h63, l63⟩ := h63
                        have h61 : act.tmps.getD 61 undef = .bool false := H 1 1 61 (by kernel_rfl) rfl
                        have g61 := Array.getD_eq_getD_getElem?.symm.trans h61
                        have k61 := Inv.some_bool g61
                        clear H O NN
                        have ya := (hB.cell (p := ⟨w5.heap.size, 0, none⟩) hz7).trans z70
                        have yb := (hB.cell (p := ⟨w5.heap.size, 1, none⟩) hz7).trans z71
                        have yc := (hB.cell (p := ⟨wr.heap.size, 0, none⟩) he7).trans e70
                        have yd := (hB.cell (p := ⟨wr.heap.size, 1, none⟩) he7).trans e71
                        go_simp
                        refine (Lown_any wa A63 1 1 _ l63 rfl (by omega)).mono ?_
                        rintro e1 w1 ⟨v8, rfl, hl8, hb⟩
                        obtain ⟨A8, c8, rfl, hr8, -, -⟩ := hl8.letR hb.size
                        exact hK _ _ hb (fun _ => ⟨A8, c8, rfl, hr8⟩)
                      · intro act wa hC hd H O NN K hK
                        clear hd
                        obtain ⟨hB, -⟩ := hC
                        have h13 := O 13 (by kernel_rfl)
                        have g13 := Array.getD_eq_getD_getElem?.symm.trans h13
                        have h61 : act.tmps.getD 61 undef = .bool false := H 1 1 61 (by kernel_rfl) rfl
                        have g61 := Array.getD_eq_getD_getElem?.symm.trans h61
                        have k61 := Inv.some_bool g61
                        clear H O NN
                        have ya := (hB.cell (p := ⟨w5.heap.size, 0, none⟩) hz7).trans z70
                        have yb := (hB.cell (p := ⟨w5.heap.size, 1, none⟩) hz7).trans z71
                        have yc := (hB.cell (p := ⟨wr.heap.size, 0, none⟩) he7).trans e70
                        have yd := (hB.cell (p := ⟨wr.heap.size, 1, none⟩) he7).trans e71
                        go_simp
                        exact hK _ _ (Below.refl _ _) (fun _ => rfl)
                      · intro act wa hC hd H O NN K hK
                        clear hd
                        obtain ⟨hB, -⟩ := hC
                        have h65 : act.tmps.getD 65 undef = .agg #[.int .i64 ty, .slice Ay ny cy] := H 1 5 65 (by kernel_rfl) rfl
                        have g65 := Array.getD_eq_getD_getElem?.symm.trans h65
                        have h61 : act.tmps.getD 61 undef = .bool false := H 1 1 61 (by kernel_rfl) rfl
                        have g61 := Array.getD_eq_getD_getElem?.symm.trans h61
                        have k61 := Inv.some_bool g61
                        clear H O NN
                        have ya := (hB.cell (p := ⟨w5.heap.size, 0, none⟩) hz7).trans z70
                        have yb := (hB.cell (p := ⟨w5.heap.size, 1, none⟩) hz7).trans z71
                        have yc := (hB.cell (p := ⟨wr.heap.size, 0, none⟩) he7).trans e70
                        have yd := (hB.cell (p := ⟨wr.heap.size, 1, none⟩) he7).trans e71
                        go_simp
                        exact hK _ _ ((Below.refl _ _).alloc (Nat.le_refl _) _) (fun _ => ⟨_, rfl, LetR.one ((RY7.out.below hB).more hB.size) HNY.out HCY.out.1 HCY.out.2.1 HCY.out.2.2.1 HCY.out.2.2.2⟩)
                      · intro act wa hC hd H O NN K hK
                        clear hd
                        obtain ⟨hB, -⟩ := hC
                        have h64 : ∃ A c, act.tmps.getD 64 undef = .slice A 1 c ∧ LetR wa wa.heap.size A [(tx, bx)] := H 1 4 64 (by kernel_rfl) rfl
                        obtain ⟨A64, c64, h64', l64⟩ := h64
                        have h66 : ∃ A, act.tmps.getD 66 undef = .slice A 1 1 ∧ LetR wa wa.heap.size A [(ty, by')] := H 1 6 66 (by kernel_rfl) rfl
                        obtain ⟨A66, h66, l66⟩ := h66
                        have h61 : act.tmps.getD 61 undef = .bool false := H 1 1 61 (by kernel_rfl) rfl
                        have g61 := Array.getD_eq_getD_getElem?.symm.trans h61
                        have k61 := Inv.some_bool g61
                        clear H O NN
                        have ya := (hB.cell (p := ⟨w5.heap.size, 0, none⟩) hz7).trans z70
                        have yb := (hB.cell (p := ⟨w5.heap.size, 1, none⟩) hz7).trans z71
                        have yc := (hB.cell (p := ⟨wr.heap.size, 0, none⟩) he7).trans e70
                        have yd := (hB.cell (p := ⟨wr.heap.size, 1, none⟩) he7).trans e71
                        go_simp
                        refine (LSame_any wa A64 A66 1 1 c64 1 _ _ l64 l66 rfl rfl (by omega) (by omega)).mono ?_
                        rintro e1 w1 ⟨rfl, hb⟩
                        rw [HQ.out]
                        exact hK _ _ hb (fun _ => rfl)
                      · intro act wa hC hd H O NN K hK
                        clear hd
                        obtain ⟨hB, -⟩ := hC
                        have h61 : act.tmps.getD 61 undef = .bool false := H 1 1 61 (by kernel_rfl) rfl
                        have g61 := Array.getD_eq_getD_getElem?.symm.trans h61
                        have h67 : act.tmps.getD 67 undef = .bool q := H 1 7 67 (by kernel_rfl) rfl
                        have g67 := Array.getD_eq_getD_getElem?.symm.trans h67
                        clear H O NN
                        have ya := (hB.cell (p := ⟨w5.heap.size, 0, none⟩) hz7).trans z70
                        have yb := (hB.cell (p := ⟨w5.heap.size, 1, none⟩) hz7).trans z71
                        have yc := (hB.cell (p := ⟨wr.heap.size, 0, none⟩) he7).trans e70
                        have yd := (hB.cell (p := ⟨wr.heap.size, 1, none⟩) he7).trans e71
                        go_simp
                        exact hK _ _ (Below.refl _ _) (fun _ => rfl)
                      · intro act wa hC hd H O NN K hK
                        clear hd
                        obtain ⟨hB, -⟩ := hC
                        have h68 : act.tmps.getD 68 undef = .bool q := H 1 8 68 (by kernel_rfl) rfl
                        have g68 := Array.getD_eq_getD_getElem?.symm.trans h68
                        clear H O NN
                        have ya := (hB.cell (p := ⟨w5.heap.size, 0, none⟩) hz7).trans z70
                        have yb := (hB.cell (p := ⟨w5.heap.size, 1, none⟩) hz7).trans z71
                        have yc := (hB.cell (p := ⟨wr.heap.size, 0, none⟩) he7).trans e70
                        have yd := (hB.cell (p := ⟨wr.heap.size, 1, none⟩) he7).trans e71
                        go_simp
                        exact hK _ _ (Below.refl _ _) (fun _ => rfl)
                    · intro us w' hC hF
                      obtain ⟨hB, -⟩ := hC
                      have u11 : us 11 = .bool q := hF 9 11 rfl
                      clear hF
                      simp only [List.foldl]
                      go_simp
                      have e68 : us 11 = .bool (q) := u11
                      have HBB := Lib.hid (HBW.out.trans (hB.mono HBW.out.size))
                      clear hB u11
                      try rw [e68]
                      go_wp2
                      go_roundw
                      case rel => exact ⟨j + 1, by rw [HIN.out], by go_num, by have := HJL.out; omega, HBB.out⟩
                      case measure => simp [intOf]; have := HJL.out; omega

                · obtain rfl : j = ns := by omega
                  have D9 := Lib.hid (D6.out.below hbel); have L9 := Lib.hid (L6.out.below hbel); have B9 := Lib.hid (B6.out.trans (hbel.mono B6.out.size))
                  have hall : decide ((tx, bx) ∈ sl.take j) = true := by rw [List.take_of_length_le (by rw [HNS'.out]; exact Nat.le_refl _)]; exact decide_eq_true MX.out
                  rw [hall]
                  clear hbel hall
                  go_wp2_with fail
                  obtain ⟨nr, hnr⟩ : ∃ q, (row.eraseIdx kk).length = q := ⟨_, rfl⟩
                  have HNRR := Lib.hid hnr
                  have hsum : nr + (tk + 1) = (j) + (db) := by rw [← hnr]; exact F9.out.2.2.2.2
                  have h64 : ¬ (64 : Int) < (nr : Int) := by have := F9.out.1; rw [hnr] at this; omega
                  have hadd : IntKind.i64.wrap (((j : Nat) : Int) + ((db : Nat) : Int)) = ((j : Nat) : Int) + ((db : Nat) : Int) := IntWalk.i64_in _ ⟨by omega, by omega⟩
                  have hsub : IntKind.i64.wrap (((j : Nat) : Int) + ((db : Nat) : Int) - ((tk + 1 : Nat) : Int)) = (nr : Int) := by rw [IntWalk.i64_in _ ⟨by omega, by omega⟩]; omega
                  have R := Lib.hid (show TR w g len (.slice A4 j c4) (.int .i64 ((tk : Int) + 1)) (.int .i64 (db : Int)) (.int .i64 ((k : Int) + 1)) wr from ⟨k + 1, S, row.eraseIdx kk, sl, j, tk + 1, db, by first | rfl | go_num, by first | rfl | go_num, by go_num, HLT.out, L9.out, V5.out, HNS'.out, ⟨by omega, by omega, by omega⟩, D9.out, F9.out, AS5.out, B9.out⟩)
                  have HLEN := fun (en : Ending) (w' : World) (h : en = .returned (.int .i64 (nr : Int)) ∧ wr = w') => h
                  clear hnr hsum
                  push_cast at hadd hsub
                  go_wp2_with fail
                  refine (NLen_any wr g S (row.eraseIdx kk) D9.out.toM).mono ?_
                  rintro en w' ⟨rfl, rfl⟩
                  rw [HNRR.out]
                  go_wp2_with fail
                  refine (NLen_any wr g S (row.eraseIdx kk) D9.out.toM).mono ?_
                  rintro en w' ⟨rfl, rfl⟩
                  rw [HNRR.out]
                  go_wp2
                  go_roundw
                  case rel => exact R.out
                  case measure => simp [intOf]; have := HLT.out; omega
          · have n11 : (d == 1) = false := by simp [hq1]
            have n12 : decide (d = 1) = false := by simp [hq1]
            by_cases hq2 : d = 2
            · subst hq2
              go_wp2_with fail
              generalize hW : wr.alloc (.cells #[.int .i64 2, .int .i64 i, .int .i64 p, .int .u32 (m : Int), .int .i64 to, .slice Ab nb cb] 100) = w4
              have hb : Below wr.heap.size wr w4 := by rw [← hW]; exact (Below.refl _ wr).alloc (Nat.le_refl _) _
              have D4 := Lib.hid (D0.out.below hb); have B4 := Lib.hid (HB.out.trans (hb.mono HB.out.size)); have L4 := Lib.hid (L0.out.below hb)
              have RB4 := Lib.hid ((RB.out.below (hb.mono HB.out.size)).more B4.out.size)
              have Z4 : Hid (Blk w4 wr.heap.size 100 #[.int .i64 2, .int .i64 i, .int .i64 p, .int .u32 (m : Int), .int .i64 to, .slice Ab nb cb]) := Lib.hid (by rw [← hW]; exact Blk.new wr _ _)
              have B4s := Lib.hid hb.size
              clear hb hW d0 d1 d2 d3 d4 d5
              refine (NDblQ_any w4 g S (Off (.slice A4 ns c4)) row i D4.out (Off.new L0.out.toL.choose_spec.2.1 (by have := B4s.out; omega)) HI.out.1 HI.out.2 HF.out.1 (fun x hx => by have := (HF.out.2.1 x hx).1; omega)).mono ?_
              rintro en w5 ⟨rfl, S5, hd5, hT⟩
              have hL5 := L4.out.turnS hT V0.out
              have L5 := Lib.hid hL5.1; have V5 := Lib.hid hL5.2
              have B5 := Lib.hid (B4.out.trans (hT.2.to_below B4.out.size AS.out))
              have AS5 := Lib.hid (hT.1.above B4.out.size AS.out)
              clear hL5 hT
              rcases dbl_cases i HF.out.2.2.1 with e | ⟨x, hx, e, h64'⟩
              · rw [e] at hd5 ⊢
                have D5 := Lib.hid hd5
                clear hd5 e
                simp only at D5
                go_wp2_with fail
                obtain ⟨nr, hnr⟩ : ∃ q, (row).length = q := ⟨_, rfl⟩
                have HNRR := Lib.hid hnr
                have hsum : nr + (tk) = (ns) + (db) := by rw [← hnr]; exact HF.out.2.2.2.2
                have h64 : ¬ (64 : Int) < (nr : Int) := by have := HF.out.1; rw [hnr] at this; omega
                have hadd : IntKind.i64.wrap (((ns : Nat) : Int) + ((db : Nat) : Int)) = ((ns : Nat) : Int) + ((db : Nat) : Int) := IntWalk.i64_in _ ⟨by omega, by omega⟩
                have hsub : IntKind.i64.wrap (((ns : Nat) : Int) + ((db : Nat) : Int) - ((tk : Nat) : Int)) = (nr : Int) := by rw [IntWalk.i64_in _ ⟨by omega, by omega⟩]; omega
                have R := Lib.hid (show TR w g len (.slice A4 ns c4) (.int .i64 (tk : Int)) (.int .i64 (db : Int)) (.int .i64 ((k : Int) + 1)) w5 from ⟨k + 1, S5, row, sl, ns, tk, db, by first | rfl | go_num, by first | rfl | go_num, by go_num, HLT.out, L5.out, V5.out, HNS'.out, ⟨by omega, by omega, by omega⟩, D5.out, HF.out, AS5.out, B5.out⟩)
                have HLEN := fun (en : Ending) (w' : World) (h : en = .returned (.int .i64 (nr : Int)) ∧ w5 = w') => h
                clear hnr hsum
                push_cast at hadd hsub
                go_wp2_with fail
                refine (NLen_any w5 g S5 (row) D5.out.toM).mono ?_
                rintro en w' ⟨rfl, rfl⟩
                rw [HNRR.out]
                go_wp2_with fail
                refine (NLen_any w5 g S5 (row) D5.out.toM).mono ?_
                rintro en w' ⟨rfl, rfl⟩
                rw [HNRR.out]
                go_wp2
                go_roundw
                case rel => exact R.out
                case measure => simp [intOf]; have := HLT.out; omega
              · rw [e] at hd5 ⊢
                have D5 := Lib.hid hd5
                have HF5 := Lib.hid (HF.out.dbl hx h64')
                clear hd5 e hx h64'
                simp only at D5
                obtain ⟨nr, hnr⟩ : ∃ q, (row ++ [x]).length = q := ⟨_, rfl⟩
                have HNRR := Lib.hid hnr
                have hsum : nr + (tk) = (ns) + (db + 1) := by rw [← hnr]; exact HF5.out.2.2.2.2
                have h64 : ¬ (64 : Int) < (nr : Int) := by have := HF5.out.1; rw [hnr] at this; omega
                have hadd : IntKind.i64.wrap (((ns : Nat) : Int) + ((db + 1 : Nat) : Int)) = ((ns : Nat) : Int) + ((db + 1 : Nat) : Int) := IntWalk.i64_in _ ⟨by omega, by omega⟩
                have hsub : IntKind.i64.wrap (((ns : Nat) : Int) + ((db + 1 : Nat) : Int) - ((tk : Nat) : Int)) = (nr : Int) := by rw [IntWalk.i64_in _ ⟨by omega, by omega⟩]; omega
                have R := Lib.hid (show TR w g len (.slice A4 ns c4) (.int .i64 (tk : Int)) (.int .i64 ((db : Int) + 1)) (.int .i64 ((k : Int) + 1)) w5 from ⟨k + 1, S5, row ++ [x], sl, ns, tk, db + 1, by first | rfl | go_num, by first | rfl | go_num, by go_num, HLT.out, L5.out, V5.out, HNS'.out, ⟨by omega, by omega, by omega⟩, D5.out, HF5.out, AS5.out, B5.out⟩)
                have HLEN := fun (en : Ending) (w' : World) (h : en = .returned (.int .i64 (nr : Int)) ∧ w5 = w') => h
                clear hnr hsum
                push_cast at hadd hsub
                go_wp2_with fail
                refine (NLen_any w5 g S5 (row ++ [x]) D5.out.toM).mono ?_
                rintro en w' ⟨rfl, rfl⟩
                rw [HNRR.out]
                go_wp2_with fail
                refine (NLen_any w5 g S5 (row ++ [x]) D5.out.toM).mono ?_
                rintro en w' ⟨rfl, rfl⟩
                rw [HNRR.out]
                go_wp2
                go_roundw
                case rel => exact R.out
                case measure => simp [intOf]; have := HLT.out; omega
            · have n21 : (d == 2) = false := by simp [hq2]
              have n22 : decide (d = 2) = false := by simp [hq2]
              have hb : Below wr.heap.size wr (wr.alloc (.cells #[.int .i64 d, .int .i64 i, .int .i64 p, .int .u32 (m : Int), .int .i64 to, .slice Ab nb cb] 100)) := (Below.refl _ wr).alloc (Nat.le_refl _) _
              have D4 := Lib.hid (D0.out.below hb); have B4 := Lib.hid (HB.out.trans (hb.mono HB.out.size)); have L4 := Lib.hid (L0.out.below hb)
              clear hb
              obtain ⟨nr, hnr⟩ : ∃ q, (row).length = q := ⟨_, rfl⟩
              have HNRR := Lib.hid hnr
              have hsum : nr + (tk) = (ns) + (db) := by rw [← hnr]; exact HF.out.2.2.2.2
              have h64 : ¬ (64 : Int) < (nr : Int) := by have := HF.out.1; rw [hnr] at this; omega
              have hadd : IntKind.i64.wrap (((ns : Nat) : Int) + ((db : Nat) : Int)) = ((ns : Nat) : Int) + ((db : Nat) : Int) := IntWalk.i64_in _ ⟨by omega, by omega⟩
              have hsub : IntKind.i64.wrap (((ns : Nat) : Int) + ((db : Nat) : Int) - ((tk : Nat) : Int)) = (nr : Int) := by rw [IntWalk.i64_in _ ⟨by omega, by omega⟩]; omega
              have R := Lib.hid (show TR w g len (.slice A4 ns c4) (.int .i64 (tk : Int)) (.int .i64 (db : Int)) (.int .i64 ((k : Int) + 1)) (wr.alloc (.cells #[.int .i64 d, .int .i64 i, .int .i64 p, .int .u32 (m : Int), .int .i64 to, .slice Ab nb cb] 100)) from ⟨k + 1, S, row, sl, ns, tk, db, by first | rfl | go_num, by first | rfl | go_num, by go_num, HLT.out, L4.out, V0.out, HNS'.out, ⟨by omega, by omega, by omega⟩, D4.out, HF.out, AS.out, B4.out⟩)
              have HLEN := fun (en : Ending) (w' : World) (h : en = .returned (.int .i64 (nr : Int)) ∧ (wr.alloc (.cells #[.int .i64 d, .int .i64 i, .int .i64 p, .int .u32 (m : Int), .int .i64 to, .slice Ab nb cb] 100)) = w') => h
              clear hnr hsum
              push_cast at hadd hsub
              go_wp2_with fail
              refine (NLen_any (wr.alloc (.cells #[.int .i64 d, .int .i64 i, .int .i64 p, .int .u32 (m : Int), .int .i64 to, .slice Ab nb cb] 100)) g S (row) D4.out.toM).mono ?_
              rintro en w' ⟨rfl, rfl⟩
              rw [HNRR.out]
              go_wp2_with fail
              refine (NLen_any (wr.alloc (.cells #[.int .i64 d, .int .i64 i, .int .i64 p, .int .u32 (m : Int), .int .i64 to, .slice Ab nb cb] 100)) g S (row) D4.out.toM).mono ?_
              rintro en w' ⟨rfl, rfl⟩
              rw [HNRR.out]
              go_wp2
              go_roundw
              case rel => exact R.out
              case measure => simp [intOf]; have := HLT.out; omega
      · obtain rfl : k = len := by omega
        have HP := Lib.hid (show TrueN w (.returned (.bool true)) wr from ⟨rfl, HB.out⟩)
        clear hd hF hS hbel hL hV
        go_wp2
        go_ret
        exact HP.out
end Go.Proofs.Ytahichieakdbnaa

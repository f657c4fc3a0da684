/- ref16: its store in memory; Get, text, take. -/
import Derived.Test.YtahichieakdbnaaQa
namespace Go.Proofs.Ytahichieakdbnaa
open Go.ChangeShapes Go.WideShapes Go.ChangeAt Go.RowKit Go.Maps
set_option linter.unusedVariables false
set_option linter.unusedSimpArgs false

/-- block r is the document's store -/
def RS (w : World) (r : Nat) (vK vV : Value) (st : St) : Prop := Blk w r 73 #[vK, vV] ∧ w.ownsRow 0 9 1 vK st.length ((st.map (·.1)).map encStr) ∧ w.ownsRow 0 9 1 vV st.length ((st.map (·.2)).map encStr) ∧ ∀ j, vK.ownBlock = some j → vV.ownBlock ≠ some j
theorem RS.below {w w' : World} {r : Nat} {vK vV : Value} {st : St} (h : RS w r vK vV st) (hb : Below w.heap.size w w') : RS w' r vK vV st := ⟨h.1.below hb h.1.lt, own_below h.2.1 hb, own_below h.2.2.1 hb, h.2.2.2⟩
/-- a cell of an own row of texts -/
theorem strs_cell {w : World} {base n c : Nat} {A : Option Addr} {xs : List L8} (h : w.ownsRow base 9 1 (.slice A n c) n (xs.map encStr)) {k : Nat} {x : L8} (hx : xs[k]? = some x) (hk : k < n) : ∃ q, A = some ⟨q, 0, none⟩ ∧ w.cell? ⟨q, k, none⟩ = some (.string (Km.ba x)) ∧ q < w.heap.size := by
  obtain ⟨q, cp, hv, -, hq⟩ := h.form (by omega)
  injection hv with e1 _ _
  have h2 := h.cells (g := q) (by rw [e1]; rfl) k (encStr x) (by rw [List.getElem?_map, hx]; rfl)
  rw [addk0] at h2
  exact ⟨q, e1, h2, hq⟩
theorem get_drop {st : St} {k : Nat} {p : L8 × L8} (h : st[k]? = some p) (x : L8) : Km.get (st.drop k) x = if p.1 = x then some p.2 else Km.get (st.drop (k + 1)) x := by
  obtain ⟨hl, hv⟩ := List.getElem?_eq_some_iff.1 h
  rw [List.drop_eq_getElem_cons hl, hv]
  rfl
set_option maxHeartbeats 2000000 in
set_option maxRecDepth 100000 in
theorem RGet_any (w : World) (r : Nat) (vK vV : Value) (st : St) (key : ByteArray) (h : RS w r vK vV st) (hl : st.length ≤ 1000000000) : Calls Try.prog 44 #[.pointer (some ⟨r, 0, none⟩), .string key] w (KGetPost w st key) := by
  obtain ⟨h1, h2, h3, h4⟩ := h
  obtain ⟨AK, cK, rfl⟩ := own_sl h2
  obtain ⟨AV, cV, rfl⟩ := own_sl h3
  have a0 := h1.cell 0
  have a1 := h1.cell 1
  simp at a0 a1
  have hrl := h1.lt
  obtain ⟨x, hx⟩ : ∃ x, key.data.toList = x := ⟨_, rfl⟩
  have hkb : key = Km.ba x := by rw [← hx, Km.ba_data]
  obtain ⟨n, hn⟩ : ∃ q, st.length = q := ⟨_, rfl⟩
  have HN := Lib.hid hn; have H2 := Lib.hid h2; have H3 := Lib.hid h3
  obtain ⟨g0, hg0⟩ : ∃ q, Km.get st x = q := ⟨_, rfl⟩
  have HG0 := Lib.hid hg0; have HKB := Lib.hid hkb
  unfold KGetPost
  rw [hx, hg0]
  rw [hn] at a0 a1 hl H2 H3
  clear h1 h2 h3 h4 hx hkb hn hg0
  go_enter Try.func44, Try.ntmps44
  go_wp2
  go_loopw [6] (fun s6 wr => ∃ k : Nat, s6 = .int .i64 (k : Int) ∧ k ≤ n ∧ Hid (g0 = Km.get (st.drop k) x) ∧ wr = w) (fun s6 _ => n - (intOf s6).toNat)
  case atStart => exact ⟨0, rfl, Nat.zero_le _, Lib.hid (by rw [List.drop_zero]; exact HG0.out.symm), rfl⟩
  case round =>
    obtain ⟨k, rfl, hk, hg, rfl⟩ := hrel
    by_cases hlt : k < n
    · have hltI : (k : Int) < (n : Int) := by omega
      obtain ⟨⟨a, b⟩, hp⟩ : ∃ p, st[k]? = some p := ⟨_, List.getElem?_eq_getElem (by rw [HN.out]; exact hlt)⟩
      obtain ⟨qk, rfl, y0, hqk⟩ := strs_cell H2.out (k := k) (x := a) (by rw [List.getElem?_map, hp]; rfl) hlt
      obtain ⟨qv, rfl, z0, hqv⟩ := strs_cell H3.out (k := k) (x := b) (by rw [List.getElem?_map, hp]; rfl) hlt
      have hgs := hg.out
      rw [get_drop hp] at hgs
      have hcmp := (cmpK a x).2
      rw [← HKB.out] at hcmp
      obtain ⟨ab, hab⟩ : ∃ q, Km.ba a = q := ⟨_, rfl⟩
      rw [hab] at hcmp y0
      by_cases hax : a = x
      · rw [decide_eq_true hax] at hcmp
        rw [if_pos hax] at hgs
        have HGS := Lib.hid hgs
        obtain ⟨bb, hbb⟩ : ∃ q, Km.ba b = q := ⟨_, rfl⟩
        have HBB := Lib.hid hbb
        rw [hbb] at z0
        clear hp hg hgs hab hbb
        go_wp2
        go_ret2
        exact ⟨by rw [HGS.out, ← HBB.out]; rfl, rfl⟩
      · rw [decide_eq_false hax] at hcmp
        rw [if_neg hax] at hgs
        have HGS := Lib.hid hgs
        clear hp hg hgs hab
        go_wp2
        go_roundw
        case rel => exact ⟨k + 1, by go_num, by omega, HGS, trivial⟩
        case measure => simp [intOf]; omega
    · obtain rfl : k = n := by omega
      have hgs := hg.out
      rw [List.drop_of_length_le (by rw [HN.out]; exact Nat.le_refl _)] at hgs
      have HGS := Lib.hid hgs
      clear hg hgs
      go_wp2
      go_ret2
      exact ⟨by rw [HGS.out]; rfl, rfl⟩
theorem conv_bytesK {P : Program} (w : World) {src dst e : TypeId} (s : ByteArray) (hs : P.underlying src = some .string) (hd : P.underlying dst = some (.slice e)) (he : P.underlying e = some (.int .u8)) (hl : s.size ≤ 1000000000) :
    ∃ A c w', (convert src dst (.string s)).run P w = .ok (.slice A s.size c) w' ∧ Rd w' w'.heap.size A (u8s (sb s)) ∧ (A = none → c = 0) ∧ Below w.heap.size w w' := by
  refine ⟨_, _, _, Lib.run_convert_string_bytes w src dst e s hs hd he, fun _ => ⟨w.heap.size, 0, rfl, by rw [Lib.bytesWorld_size]; omega, fun j u hu => ?_⟩, (fun h => by cases h), ?_⟩
  · have hj := (List.getElem?_eq_some_iff.1 hu).1
    rw [u8s_length, sb_length] at hj
    rw [Nat.zero_add, Lib.bytesWorld_cell w e s j hj]
    simp only [u8s, sb, List.map_map, List.getElem?_map] at hu
    obtain ⟨b, hb, rfl⟩ := Option.map_eq_some_iff.1 hu
    rw [List.getD_eq_getElem?_getD, hb]
    try rfl
  · exact ⟨rfl, rfl, rfl, by rw [Lib.bytesWorld_size]; omega, fun j hj => Lib.bytesWorld_at_old w e s j hj⟩
def RTxPost (w : World) (t : ByteArray) (en : Ending) (w' : World) : Prop := ∃ v, en = .returned v ∧ Made w' v (txtB t) (txtB t).length ∧ Fre w (fun _ => False) v ∧ Below w.heap.size w w'
set_option maxHeartbeats 2000000 in
set_option maxRecDepth 100000 in
theorem Rtext_any (w : World) (t : ByteArray) (ht : t.size ≤ 1000000000) : Calls Try.prog 83 #[.string t] w (RTxPost w t) := by
  obtain ⟨i0, hi, hz0, hz1, hz2⟩ := info_parts Try.infoB
  have HP := Lib.hid (RPut_any w t.size (by omega))
  have hcv : IntKind.u64.wrap (t.size : Int) = (t.size : Int) := u64_nat (by omega)
  go_enter Try.func83, Try.ntmps83
  go_wp2_with fail
  refine HP.out.mono ?_
  rintro en w1 ⟨v, rfl, ho, hb, hne⟩
  simp only [Nat.zero_add, List.nil_append] at ho
  obtain ⟨es, hes⟩ : ∃ es, Vm.enc t.size = es := ⟨_, rfl⟩
  obtain ⟨ne, hnel⟩ : ∃ ne, es.length = ne := ⟨_, rfl⟩
  have hne10 : ne ≤ 10 := by rw [← hnel, ← hes]; exact Vm.enc_le _
  have hesb : ∀ b ∈ es, b < 256 := by rw [← hes]; exact Vm.enc_byte (by omega)
  have HT : Hid (txtB t = es ++ sb t) := Lib.hid (by unfold txtB; rw [hes])
  rw [hes, hnel] at ho
  obtain ⟨A1, c1, rfl⟩ := own_sl ho
  obtain ⟨A2, c2, w2, hconv, hr2, hn2, hb2⟩ := conv_bytesK (P := Try.prog) w1 (src := 9) (dst := 32) (e := 5) t Try.underlying9 Try.underlying32 Try.underlying5 ht
  have HO := Lib.hid (own_below ho hb2); have HR := Lib.hid hr2; have HB := Lib.hid (hb.trans (hb2.mono hb.size)); have HNE := Lib.hid hnel; have HEB := Lib.hid hesb
  have hs2 : w.heap.size ≤ w2.heap.size := HB.out.size
  clear ho hb hne hr2 hb2 hes hnel hesb
  go_wp2_with (at_builtin; go_must (refine app_own rfl (.tmp 6) (.tmp 8) 32 rfl w.heap.size 5 i0 (.int .u8 0) 1 Try.underlying32 hi hz0 hz1 hz2 rfl _ ne (u8s es) rfl HO.out w2.heap.size A2 t.size c2 (u8s (sb t)) rfl (by simp [sb_length]) HR.out hn2 (u8s_one _) (by unfold maxLen; omega) (by omega) hs2 ?_; intro v3 w3 ho3 hg3 hne3; obtain ⟨A3, c3, rfl⟩ := own_sl ho3; have HO3 := Lib.hid ho3; have HB3 := Lib.hid (below_own HO.out hg3 (Nat.le_refl _) hs2); clear ho3 hg3 hne3))
  have HQ := Lib.hid (show RTxPost w t (.returned (.slice A3 (ne + t.size) c3)) w3 from by
    have e1 : u8s es ++ u8s (sb t) = u8s (txtB t) := by rw [HT.out]; simp [u8s]
    have e2 : (txtB t).length = ne + t.size := by rw [HT.out, List.length_append, HNE.out, sb_length]
    have h := HO3.out
    rw [e1] at h
    refine ⟨_, rfl, made_of_own h rfl (by rw [HT.out]; intro b hb; rcases List.mem_append.1 hb with hb | hb; exact HEB.out b hb; exact sb_byte t b hb), fun g o n c hv => ⟨(h.lt g (by rw [hv]; rfl)).1, fun h => h⟩, HB.out.trans HB3.out⟩)
  go_ret
  exact HQ.out
set_option maxHeartbeats 2000000 in
set_option maxRecDepth 100000 in
theorem Rtake_any (w : World) (A : Option Addr) (n c : Nat) (bs : List Nat) (hr : Rd w w.heap.size A (u8s bs)) (h256 : ∀ b ∈ bs, b < 256) (hn : bs.length = n) (hl : n ≤ 1099511627776) (hc : n ≤ c) (hcm : c ≤ maxLen) :
    Calls Try.prog 79 #[.slice A n c] w (fun en w' => en = .returned (.tuple #[.string (Km.ba (Km.tk bs).1), .int .i64 ((Km.tk bs).2.1 : Int), .int .i64 ((Km.tk bs).2.2 : Int)]) ∧ Below w.heap.size w w') := by
  obtain ⟨⟨a, b, d⟩, ht⟩ : ∃ r, Vm.take bs = r := ⟨_, rfl⟩
  have cT := Lib.hid (rtake_at w A c bs n a b d hr h256 hc hcm hn ht)
  have hrg := take_range bs
  rw [ht] at hrg
  simp only at hrg
  by_cases hd : d = 0
  · subst hd
    obtain ⟨hb1, hbl, hb10, -⟩ := Vm.take_ok ht h256
    rw [hn] at hbl
    have hw1 : IntKind.i64.wrap ((n : Int) - (b : Int)) = ((n - b : Nat) : Int) := by rw [IntWalk.i64_in _ ⟨by omega, by omega⟩]; omega
    have hw2 : IntKind.u64.wrap ((n - b : Nat) : Int) = ((n - b : Nat) : Int) := u64_nat (by omega)
    by_cases hs : n - b < a
    · have HP : Hid (Km.tk bs = ([], 0, 2)) := Lib.hid (by unfold Km.tk; rw [ht]; simp only; rw [if_neg (by simp), hn, if_pos hs])
      have hsI : (((n - b : Nat) : Int)) < (a : Int) := by omega
      have hsI2 : (n : Int) - (b : Int) < (a : Int) := by omega
      rw [HP.out]
      clear hr h256 hn ht
      go_enter Try.func79, Try.ntmps79
      go_wp2_with fail
      refine cT.out.mono ?_
      rintro e1 w' ⟨rfl, hb⟩
      have HB := Lib.hid hb
      clear hb
      go_wp2
      go_ret3
      exact ⟨rfl, HB.out⟩
    · have hsI : ¬ (((n - b : Nat) : Int)) < (a : Int) := by omega
      have hsI2 : ¬ (n : Int) - (b : Int) < (a : Int) := by omega
      obtain ⟨A', q1, q2, -⟩ := slice_lh (P := Try.prog) 32 5 Try.underlying32 sizeOfU8K A n c b (b + a) (b : Int) ((b : Int) + (a : Int)) rfl (by omega) (by omega) (by omega)
      have hkl : ((bs.drop b).take a).length = a := by rw [List.length_take, List.length_drop]; omega
      have q4 : ∀ w2, Below w.heap.size w w2 → (convert 32 9 (.slice A' a (c - b))).run Try.prog w2 = .ok (.string (str ((bs.drop b).take a))) w2 := fun w2 hb => by
        have q3 := q2 w2 w.heap.size (u8s bs) (by simp [hn]; omega) (hr.below hb)
        rw [show ((u8s bs).drop b).take (b + a - b) = u8s ((bs.drop b).take a) by simp [u8s, List.map_take, List.map_drop]] at q3
        exact run_str (P := Try.prog) w2 (src := 32) (dst := 9) (e := 5) (n := a) (c := c - b) Try.underlying32 Try.underlying5 Try.underlying9 q3 hkl
      have HP : Hid (Km.tk bs = (((bs.drop b).take a).map UInt8.ofNat, b + a, 0)) := Lib.hid (by unfold Km.tk; rw [ht]; simp only; rw [if_neg (by simp), hn, if_neg hs])
      obtain ⟨kk, hkk⟩ : ∃ kk, str ((bs.drop b).take a) = kk := ⟨_, rfl⟩
      have hkk2 : Km.ba (((bs.drop b).take a).map UInt8.ofNat) = kk := hkk
      simp only [hkk] at q4
      rw [HP.out]
      simp only [hkk2]
      have Q4 := Lib.hid q4
      have hcI : (b : Int) + (a : Int) ≤ (c : Int) := by omega
      have hw3 : IntKind.i64.wrap (a : Int) = (a : Int) := IntWalk.i64_in _ ⟨by omega, by omega⟩
      have hw4 : IntKind.i64.wrap ((b : Int) + (a : Int)) = (b : Int) + (a : Int) := IntWalk.i64_in _ ⟨by omega, by omega⟩
      clear hr h256 hn ht q2 hkk hkk2 hkl q4
      go_enter Try.func79, Try.ntmps79
      go_wp2_with fail
      refine cT.out.mono ?_
      rintro e1 w' ⟨rfl, hb⟩
      have HB := Lib.hid hb
      have q5 := Q4.out w' hb
      clear hb
      go_wp2
      go_ret3
      exact ⟨by first | rfl | (rw [show ((b + a : Nat) : Int) = (b : Int) + (a : Int) from by omega]; rfl), HB.out⟩
  · have HP : Hid (Km.tk bs = ([], 0, d)) := Lib.hid (by unfold Km.tk; rw [ht]; simp only; rw [if_pos hd])
    have hdi : (d : Int) ≠ 0 := by omega
    rw [HP.out]
    clear hr h256 hn ht
    go_enter Try.func79, Try.ntmps79
    go_wp2_with fail
    refine cT.out.mono ?_
    rintro e1 w' ⟨rfl, hb⟩
    have HB := Lib.hid hb
    clear hb
    go_wp2
    go_ret3
    exact ⟨rfl, HB.out⟩
end Go.Proofs.Ytahichieakdbnaa

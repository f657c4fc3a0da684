/- frame.All, packetboatref03.All: frames of rows of bytes. -/
import Derived.Test.YtignfhdblakcfaaDoorWrp
namespace Go.Proofs.YtignfhdblakcfaaDoor
open Go.ChangeShapes Go.WideShapes Go.ChangeAt Go.RowKit
set_option linter.unusedVariables false

/-- a value that is the bytes p -/
def IsB (w : World) (B : Nat) (v : Value) (p : List Nat) : Prop := ∃ A c, v = .slice A p.length c ∧ Rd w B A (u8s p) ∧ p.length ≤ c ∧ c ≤ maxLen ∧ (A = none → c = 0) ∧ ∀ b ∈ p, b < 256
/-- rows of bytes -/
def RowsB (w : World) (B : Nat) (A : Option Addr) (ps : List (List Nat)) : Prop := ∃ vs : List Value, vs.length = ps.length ∧ Rd w B A vs ∧ ∀ (j : Nat) (v : Value) (p : List Nat), vs[j]? = some v → ps[j]? = some p → IsB w B v p
theorem IsB.below {w w' : World} {B : Nat} {v : Value} {p : List Nat} (h : IsB w B v p) (hb : Below B w w') : IsB w' B v p := by
  obtain ⟨A, c, h1, h2, h3⟩ := h
  exact ⟨A, c, h1, h2.below hb, h3⟩
theorem RowsB.below {w w' : World} {B : Nat} {A : Option Addr} {ps : List (List Nat)} (h : RowsB w B A ps) (hb : Below B w w') : RowsB w' B A ps := by
  obtain ⟨vs, h1, h2, h3⟩ := h
  exact ⟨vs, h1, h2.below hb, fun j v p hv hp => (h3 j v p hv hp).below hb⟩
theorem RowsB.row {w : World} {B : Nat} {A : Option Addr} {ps : List (List Nat)} (h : RowsB w B A ps) {k : Nat} (hk : k < ps.length) : ∃ g o Ak ck p, A = some ⟨g, o, none⟩ ∧ g < B ∧ ps[k]? = some p ∧ w.cell? ⟨g, o + k, none⟩ = some (.slice Ak p.length ck) ∧ Rd w B Ak (u8s p) ∧ p.length ≤ ck ∧ ck ≤ maxLen ∧ (Ak = none → ck = 0) ∧ ∀ b ∈ p, b < 256 := by
  obtain ⟨vs, h1, h2, h3⟩ := h
  obtain ⟨g, o, rfl, hg, hc⟩ := h2 (by intro h0; rw [h0] at h1; simp at h1; omega)
  have hv : vs[k]? = some (vs[k]'(by omega)) := List.getElem?_eq_getElem _
  have hp : ps[k]? = some (ps[k]'hk) := List.getElem?_eq_getElem _
  obtain ⟨Ak, ck, hvk, r⟩ := h3 k _ _ hv hp
  have hcell := hc k _ hv
  rw [hvk] at hcell
  exact ⟨g, o, Ak, ck, _, rfl, hg, hp, hcell, r⟩
def frs (ps : List (List Nat)) : List Nat := ps.flatMap Fm.fr
theorem frs_snoc {ps : List (List Nat)} {k : Nat} {p : List Nat} (h : ps[k]? = some p) : frs (ps.take (k + 1)) = frs (ps.take k) ++ Fm.fr p := by
  unfold frs
  rw [List.take_add_one, h]
  simp
def allE (ps : List (List Nat)) : Nat := if ∀ p ∈ ps, p.length ≤ 8192 then 0 else 4
def allB (ps : List (List Nat)) : List Nat := if ∀ p ∈ ps, p.length ≤ 8192 then frs ps else []
theorem all_ok {ps : List (List Nat)} (h : ∀ j p, j < ps.length → ps[j]? = some p → p.length ≤ 8192) : allE ps = 0 ∧ allB ps = frs ps := by
  have : ∀ p ∈ ps, p.length ≤ 8192 := fun p hp => by
    obtain ⟨j, hj⟩ := List.getElem?_of_mem hp
    exact h j p (List.getElem?_eq_some_iff.1 hj).1 hj
  exact ⟨if_pos this, if_pos this⟩
theorem all_no {ps : List (List Nat)} {k : Nat} {p : List Nat} (h : ps[k]? = some p) (hp : 8192 < p.length) : allE ps = 4 ∧ allB ps = [] := by
  have : ¬ ∀ p ∈ ps, p.length ≤ 8192 := fun h2 => by have := h2 p (List.mem_of_getElem? h); omega
  exact ⟨if_neg this, if_neg this⟩
def AllPost (w : World) (ps : List (List Nat)) (e : Ending) (w' : World) : Prop :=
  ∃ v, e = .returned (.tuple #[v, .int .i64 (allE ps : Int)]) ∧ Made w' v (allB ps) (allB ps).length ∧ Below w.heap.size w w'
theorem all_err {w w' : World} {ps : List (List Nat)} {k : Nat} {p : List Nat} (h : ps[k]? = some p) (hp : 8192 < p.length) (hb : Below w.heap.size w w') : AllPost w ps (.returned (.tuple #[.slice none 0 0, .int .i64 4])) w' := by
  obtain ⟨h1, h2⟩ := all_no h hp
  unfold AllPost
  rw [h1, h2]
  exact ⟨_, rfl, made_nil _, hb⟩
def AllRel (w : World) (ps : List (List Nat)) (s4 s11 : Value) (wr : World) : Prop :=
  ∃ k : Nat, s11 = .int .i64 (k : Int) ∧ k ≤ ps.length ∧ Hid (∀ j p, j < k → ps[j]? = some p → p.length ≤ 8192) ∧ (∃ m, m ≤ 8206 * k ∧ Hid ((frs (ps.take k)).length = m) ∧ wr.ownsRow w.heap.size 5 1 s4 m (u8s (frs (ps.take k)))) ∧ (∀ b ∈ frs (ps.take k), b < 256) ∧ Below w.heap.size w wr
set_option maxHeartbeats 1000000 in
set_option maxRecDepth 100000 in
theorem All_any (w : World) (A : Option Addr) (len cap : Nat) (ps : List (List Nat)) (hT : Tab w) (hr : RowsB w w.heap.size A ps) (hn : ps.length = len) (hlc : len ≤ cap) (hcm : cap ≤ maxLen) (hl : len ≤ 10000) (hbd : ∀ (j : Nat) (p : List Nat), ps[j]? = some p → p.length ≤ 1099511627776) :
    Calls Tryd.prog 14 #[.slice A len cap] w (AllPost w ps) := by
  obtain ⟨i0, hi, hz0, hz1, hz2⟩ := info_parts Tryd.infoB
  subst hn
  unfold maxLen at hcm
  have HR := Lib.hid hr; clear hr
  have HT := Lib.hid hT; clear hT
  have HB0 := Lib.hid (World.ownsRow_nil w w.heap.size 5 1)
  have hbw := Lib.hid (Below.refl w.heap.size w)
  skip
  go_enter Tryd.func14, Tryd.ntmps14
  go_wp2
  go_loopw [4, 11] (fun s4 s11 wr => AllRel w ps s4 s11 wr) (fun _ s11 _ => ps.length - (intOf s11).toNat)
  case atStart => exact ⟨0, rfl, by omega, Lib.hid (fun j p hj => absurd hj (by omega)), ⟨0, by omega, Lib.hid rfl, HB0.out⟩, by simp [frs], hbw.out⟩
  case round =>
    clear HB0 hbw
    obtain ⟨k, rfl, hk, hall, ⟨m, hm, hml, ho⟩, h256, hbel⟩ := hrel
    have HB := Lib.hid hbel
    have H256 := Lib.hid h256; clear h256
    by_cases hlt : k < ps.length
    · obtain ⟨g, o, Ak, ck, p, rfl, hg, hp, d0, hrk, hkc, hkm, hkn, hk256⟩ := (HR.out.below hbel).row hlt
      have hgw : g < wr.heap.size := World.block_lt_of_cell? _ _ d0
      have hlt2 : (k : Int) < (ps.length : Int) := by omega
      obtain ⟨lp, hlp⟩ : ∃ lp, p.length = lp := ⟨_, rfl⟩
      rw [hlp] at d0 hkc
      by_cases hsm : lp ≤ 8192
      · obtain ⟨fs, hfs⟩ : ∃ fs, Fm.fr p = fs := ⟨_, rfl⟩
        obtain ⟨fl, hfl⟩ : ∃ fl, fs.length = fl := ⟨_, rfl⟩
        have hfl2 : fl ≤ 8206 := by
          have h1 := Fm.fr_length p
          have h2 := Vm.enc_le p.length
          rw [hfs, hfl, hlp] at h1
          rw [hlp] at h2
          omega
        have HW := Lib.hid (Wrap_at wr Ak lp ck p (HT.out.below HB.out) (hrk.more HB.out.size) hk256 hlp hsm hkn fs fl hfs hfl)
        have HFL : Hid ((u8s fs).length = fl) := Lib.hid (by simp [hfl])
        have HO := Lib.hid ho
        have R : ∀ v' w', w'.ownsRow w.heap.size 5 1 v' (m + fl) (u8s (frs (ps.take k)) ++ u8s fs) → (∀ b ∈ fs, b < 256) → Below w.heap.size w w' → AllRel w ps v' (.int .i64 ((k : Int) + 1)) w' := fun v' w' h1 h1' h2 => ⟨k + 1, by go_num, hlt, Lib.hid (fun j q hj hq => by
          by_cases hjk : j = k
          · subst hjk; rw [hp] at hq; cases hq; omega
          · exact hall.out j q (by omega) hq), ⟨m + fl, by omega, Lib.hid (by rw [frs_snoc hp, List.length_append, hml.out, hfs, hfl]), by rw [frs_snoc hp, u8s_append, hfs]; exact h1⟩, by
          rw [frs_snoc hp, hfs]
          intro b hb
          rcases List.mem_append.1 hb with hb | hb
          · exact H256.out b hb
          · exact h1' b hb, h2⟩
        have HRR := Lib.hid R
        clear R hrk hk256 hp hlp hkn hfs hfl hall ho hml hbel
        have hbig : m + fl ≤ 82060000 + 8206 := by omega
        have tok1 : True := trivial
        go_wp2_with fail
        refine HW.out.mono ?_
        rintro e w2 ⟨v2, rfl, ⟨A2, c2, rfl, hr2, _, hc2, hm2, h2256, hn2⟩, hb2⟩
        have ho2 := own_below HO.out hb2
        have hb3 := HB.out.trans (hb2.mono HB.out.size)
        have HR2 := Lib.hid hr2; have HN2 := Lib.hid hn2; have H2256 := Lib.hid h2256
        clear hr2 hn2 hb2 h2256
        go_wp2_with (first
          | (at_builtin; have _t := tok1; go_must (refine app_own rfl (.tmp 23) (.tmp 24) 22 rfl w.heap.size 5 i0 (.int .u8 0) 1 Tryd.underlying22 hi hz0 hz1 hz2 rfl _ m (u8s (frs (ps.take k))) rfl ho2 _ A2 fl c2 (u8s fs) rfl HFL.out HR2.out HN2.out (u8s_one _) (by unfold maxLen; omega) (by omega) hb3.size ?_; intro v3 w3 ho3 hg3 _hne3; have hb4 := hb3.grown hg3 hb3.size (fun k hk => (ho2.lt k hk).1); clear hg3 ho2 hb3 tok1))
          | fail)
        have R2 := Lib.hid (HRR.out v3 w3 ho3 H2256.out hb4)
        clear ho3 hb4
        go_wp2
        go_roundw
        case rel => exact R2.out
        case measure => simp [intOf]; omega
      · have HP := Lib.hid (all_err (w := w) (w' := wr) hp (by omega) HB.out)
        have HLP := Lib.hid (hbd k p hp)
        rw [hlp] at HLP
        have HW := Lib.hid (Wrap_no_at wr Ak lp ck (by omega))
        clear hrk hk256 hp hkn hall ho hml hbel
        go_wp2_with fail
        refine (HW.out HLP.out).mono ?_
        rintro e w' ⟨rfl, rfl⟩
        go_wp2
        go_ret2
        exact HP.out
    · obtain rfl : k = ps.length := by omega
      have HP : AllPost w ps (.returned (.tuple #[u4, .int .i64 0])) wr := by
        obtain ⟨h1, h2⟩ := all_ok (fun j p hj hp => hall.out j p hj hp)
        unfold AllPost
        rw [h1, h2]
        rw [List.take_length] at ho hml H256
        exact ⟨_, rfl, made_of_own ho rfl H256.out, HB.out⟩
      have HPP := Lib.hid HP
      clear HP ho hml hall hbel
      go_wp2
      go_ret2
      exact HPP.out
set_option maxHeartbeats 1000000 in
set_option maxRecDepth 100000 in
theorem RAll_any (w : World) (A : Option Addr) (len cap : Nat) (ps : List (List Nat)) (hr : RowsB w w.heap.size A ps) (hn : ps.length = len) (hlc : len ≤ cap) (hcm : cap ≤ maxLen) (hl : len ≤ 10000) (hbd : ∀ (j : Nat) (p : List Nat), ps[j]? = some p → p.length ≤ 1099511627776) :
    Calls Tryd.prog 15 #[.slice A len cap] w (AllPost w ps) := by
  obtain ⟨i0, hi, hz0, hz1, hz2⟩ := info_parts Tryd.infoB
  subst hn
  unfold maxLen at hcm
  have HR := Lib.hid hr; clear hr
  have hb0 := own_lit0 w 5 w.heap.size (Nat.le_refl _)
  have HB0 := Lib.hid hb0
  have hbw := Lib.hid ((Below.refl w.heap.size w).alloc (Nat.le_refl _) (.cells #[] 5))
  clear hb0
  go_enter Tryd.func15, Tryd.ntmps15
  go_wp2
  go_loopw [4, 5] (fun s4 s11 wr => AllRel w ps s4 s11 wr) (fun _ s11 _ => ps.length - (intOf s11).toNat)
  case atStart => exact ⟨0, rfl, by omega, Lib.hid (fun j p hj => absurd hj (by omega)), ⟨0, by omega, Lib.hid rfl, HB0.out⟩, by simp [frs], hbw.out⟩
  case round =>
    clear HB0 hbw
    obtain ⟨k, rfl, hk, hall, ⟨m, hm, hml, ho⟩, h256, hbel⟩ := hrel
    have HB := Lib.hid hbel
    have H256 := Lib.hid h256; clear h256
    by_cases hlt : k < ps.length
    · obtain ⟨g, o, Ak, ck, p, rfl, hg, hp, d0, hrk, hkc, hkm, hkn, hk256⟩ := (HR.out.below hbel).row hlt
      have hgw : g < wr.heap.size := World.block_lt_of_cell? _ _ d0
      have hlt2 : (k : Int) < (ps.length : Int) := by omega
      obtain ⟨lp, hlp⟩ : ∃ lp, p.length = lp := ⟨_, rfl⟩
      rw [hlp] at d0 hkc
      by_cases hsm : lp ≤ 8192
      · obtain ⟨fs, hfs⟩ : ∃ fs, Fm.fr p = fs := ⟨_, rfl⟩
        obtain ⟨fl, hfl⟩ : ∃ fl, fs.length = fl := ⟨_, rfl⟩
        have hfl2 : fl ≤ 8206 := by
          have h1 := Fm.fr_length p
          have h2 := Vm.enc_le p.length
          rw [hfs, hfl, hlp] at h1
          rw [hlp] at h2
          omega
        have HW := Lib.hid (RWrap_at wr Ak lp ck p (hrk.more HB.out.size) hk256 hlp hsm hkn fs fl hfs hfl)
        have HFL : Hid ((u8s fs).length = fl) := Lib.hid (by simp [hfl])
        have HO := Lib.hid ho
        have R : ∀ v' w', w'.ownsRow w.heap.size 5 1 v' (m + fl) (u8s (frs (ps.take k)) ++ u8s fs) → (∀ b ∈ fs, b < 256) → Below w.heap.size w w' → AllRel w ps v' (.int .i64 ((k : Int) + 1)) w' := fun v' w' h1 h1' h2 => ⟨k + 1, by go_num, hlt, Lib.hid (fun j q hj hq => by
          by_cases hjk : j = k
          · subst hjk; rw [hp] at hq; cases hq; omega
          · exact hall.out j q (by omega) hq), ⟨m + fl, by omega, Lib.hid (by rw [frs_snoc hp, List.length_append, hml.out, hfs, hfl]), by rw [frs_snoc hp, u8s_append, hfs]; exact h1⟩, by
          rw [frs_snoc hp, hfs]
          intro b hb
          rcases List.mem_append.1 hb with hb | hb
          · exact H256.out b hb
          · exact h1' b hb, h2⟩
        have HRR := Lib.hid R
        clear R hrk hk256 hp hlp hkn hfs hfl hall ho hml hbel
        have hbig : m + fl ≤ 82060000 + 8206 := by omega
        have tok1 : True := trivial
        go_wp2_with fail
        refine HW.out.mono ?_
        rintro e w2 ⟨v2, rfl, ⟨A2, c2, rfl, hr2, _, hc2, hm2, h2256, hn2⟩, hb2⟩
        have ho2 := own_below HO.out hb2
        have hb3 := HB.out.trans (hb2.mono HB.out.size)
        have HR2 := Lib.hid hr2; have HN2 := Lib.hid hn2; have H2256 := Lib.hid h2256
        clear hr2 hn2 hb2 h2256
        go_wp2_with (first
          | (at_builtin; have _t := tok1; go_must (refine app_own rfl (.tmp 26) (.tmp 27) 22 rfl w.heap.size 5 i0 (.int .u8 0) 1 Tryd.underlying22 hi hz0 hz1 hz2 rfl _ m (u8s (frs (ps.take k))) rfl ho2 _ A2 fl c2 (u8s fs) rfl HFL.out HR2.out HN2.out (u8s_one _) (by unfold maxLen; omega) (by omega) hb3.size ?_; intro v3 w3 ho3 hg3 _hne3; have hb4 := hb3.grown hg3 hb3.size (fun k hk => (ho2.lt k hk).1); clear hg3 ho2 hb3 tok1))
          | fail)
        have R2 := Lib.hid (HRR.out v3 w3 ho3 H2256.out hb4)
        clear ho3 hb4
        go_wp2
        go_roundw
        case rel => exact R2.out
        case measure => simp [intOf]; omega
      · have HP := Lib.hid (all_err (w := w) (w' := wr) hp (by omega) HB.out)
        have HLP := Lib.hid (hbd k p hp)
        rw [hlp] at HLP
        have HW := Lib.hid (RWrap_no_at wr Ak lp ck (by omega))
        clear hrk hk256 hp hkn hall ho hml hbel
        go_wp2_with fail
        refine (HW.out HLP.out).mono ?_
        rintro e w' ⟨rfl, rfl⟩
        go_wp2
        go_ret2
        exact HP.out
    · obtain rfl : k = ps.length := by omega
      have HP : AllPost w ps (.returned (.tuple #[u4, .int .i64 0])) wr := by
        obtain ⟨h1, h2⟩ := all_ok (fun j p hj hp => hall.out j p hj hp)
        unfold AllPost
        rw [h1, h2]
        rw [List.take_length] at ho hml H256
        exact ⟨_, rfl, made_of_own ho rfl H256.out, HB.out⟩
      have HPP := Lib.hid HP
      clear HP ho hml hall hbel
      go_wp2
      go_ret2
      exact HPP.out
end Go.Proofs.YtignfhdblakcfaaDoor

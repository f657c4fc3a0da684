/- law 5's DictBack: the walk. -/
import Derived.Test.YtignfhdblakcfaaAw5
import Derived.Test.YtignfhdblakcfaaSsm
import Derived.Test.YtignfhdblakcfaaRos
import Derived.Test.YtignfhdblakcfaaApp
namespace Go.Proofs.Ytignfhdblakcfaa
open Go.ChangeShapes Go.WideShapes Go.ChangeAt Go.RowKit Go.Maps
set_option linter.unusedVariables false
set_option linter.unusedSimpArgs false

namespace Dm
theorem back_put {ks : List ByteArray} {e : Nat} {k : ByteArray} (h : Ok ks e) (hd : (putD ks e k).2.1 = 0) (r : List Nat) : takeD ks e ((putD ks e k).1 ++ r) = (k, (putD ks e k).1.length, 0, (putD ks e k).2.2.1, (putD ks e k).2.2.2) := by
  unfold putD at hd ⊢
  by_cases h64 : 64 < k.size
  · rw [if_pos h64] at hd; cases hd
  · rw [if_neg h64]
    cases hp : plc ks k with
    | some i =>
      have hil := plc_lt hp
      simp only
      unfold takeD
      rw [Vm.take_enc (by have := h.2.1; omega)]
      simp only
      rw [if_neg (by simp), if_neg (by omega), if_pos (by omega), show i + 1 - 1 = i by omega, plc_some hp]
      rfl
    | none =>
      have e0 : Vm.enc 0 = [0] := rfl
      have hs := sb_length k
      have e1 : Vm.take (Vm.enc 0 ++ (Vm.enc k.size ++ sb k) ++ r) = (0, 1, 0) := by
        rw [List.append_assoc, Vm.take_enc (by omega)]; rfl
      have e2 : (Vm.enc 0 ++ (Vm.enc k.size ++ sb k) ++ r).drop 1 = Vm.enc k.size ++ (sb k ++ r) := by
        rw [e0]; simp
      have e3 : newD ks (Vm.enc k.size ++ (sb k ++ r)) = (k, (Vm.enc k.size).length + k.size, 0) := by
        unfold newD
        rw [Vm.take_enc (by omega)]
        simp only
        rw [if_neg (by simp), if_neg h64, if_neg (by rw [List.length_append, List.length_append, hs]; omega), List.drop_left, ← hs, List.take_left, str_sb, hp]
      simp only
      unfold takeD
      rw [e1]
      simp only
      rw [if_neg (by simp), if_neg (by omega), if_neg (by omega), e2, e3]
      simp only
      rw [if_neg (by simp)]
      refine Prod.ext rfl (Prod.ext ?_ rfl)
      simp only [List.length_append, e0, List.length_cons, List.length_nil, hs]
      try omega
theorem put_err {ks : List ByteArray} {e : Nat} {k : ByteArray} (hd : (putD ks e k).2.1 ≠ 0) : 64 < k.size ∧ putD ks e k = ([], 4, ks, e) := by
  unfold putD at hd ⊢
  by_cases h64 : 64 < k.size
  · exact ⟨h64, if_pos h64⟩
  · rw [if_neg h64] at hd
    cases hp : plc ks k with
    | some i => rw [hp] at hd; exact absurd rfl hd
    | none => rw [hp] at hd; exact absurd rfl hd
theorem put_len {ks : List ByteArray} {e : Nat} {k : ByteArray} (h : Ok ks e) : (putD ks e k).1.length ≤ 84 ∧ ∀ b ∈ (putD ks e k).1, b < 256 := by
  unfold putD
  by_cases h64 : 64 < k.size
  · rw [if_pos h64]; simp
  · rw [if_neg h64]
    cases hp : plc ks k with
    | some i =>
      have := plc_lt hp
      have := h.2.1
      exact ⟨by have := Vm.enc_le (i + 1); simp only; omega, Vm.enc_byte (by omega)⟩
    | none =>
      refine ⟨?_, ?_⟩
      · have h1 := Vm.enc_le 0
        have h2 := Vm.enc_le k.size
        have h3 := sb_length k
        simp only [List.length_append]
        omega
      · intro b hb
        rcases List.mem_append.1 hb with hb | hb
        · exact Vm.enc_byte (by omega) b hb
        · rcases List.mem_append.1 hb with hb | hb
          · exact Vm.enc_byte (by omega) b hb
          · exact sb_byte k b hb
/-- keys that were told one by one -/
def puts (l : List ByteArray) : List ByteArray × Nat := l.foldl (fun st k => ((putD st.1 st.2 k).2.2.1, (putD st.1 st.2 k).2.2.2)) ([], 0)
theorem puts_step {l : List ByteArray} {j : Nat} {k : ByteArray} (h : l[j]? = some k) : puts (l.take (j + 1)) = ((putD (puts (l.take j)).1 (puts (l.take j)).2 k).2.2.1, (putD (puts (l.take j)).1 (puts (l.take j)).2 k).2.2.2) := by
  unfold puts
  rw [List.take_add_one, h]
  simp
end Dm
/-- what can be read, in a block that is none of U -/
def RdO (w : World) (U : Nat → Prop) (A : Option Addr) (xs : List Value) : Prop := Rd w w.heap.size A xs ∧ ∀ g o, A = some ⟨g, o, none⟩ → xs ≠ [] → ¬ U g
theorem RdO.lt {w : World} {U : Nat → Prop} {A : Option Addr} {xs : List Value} (h : RdO w U A xs) {g o : Nat} (hA : A = some ⟨g, o, none⟩) (hn : xs ≠ []) : g < w.heap.size := by
  obtain ⟨g', o', e, hg, _⟩ := h.1 hn
  rw [hA] at e
  injection e with e
  injection e with e _
  omega
theorem RdO.turn {w w' : World} {U U' : Nat → Prop} {A : Option Addr} {xs : List Value} (h : RdO w U A xs) (t : Turned w U U' w') : RdO w' U' A xs :=
  ⟨(t.2.rd h.1 (Nat.le_refl _) h.2).more t.2.size, fun g o hA hn hu => by
    rcases t.1 g hu with h1 | h1
    · exact h.2 g o hA hn h1
    · have := h.lt hA hn; omega⟩
theorem RdO.below {w w' : World} {U : Nat → Prop} {A : Option Addr} {xs : List Value} (h : RdO w U A xs) (hb : Below w.heap.size w w') : RdO w' U A xs := ⟨(h.1.below hb).more hb.size, h.2⟩
/-- .. nor of T, whose blocks are new -/
theorem RdO.fresh {w w' : World} {U T : Nat → Prop} {A : Option Addr} {xs : List Value} (h : RdO w U A xs) (hb : Below w.heap.size w w') (hT : ∀ j, T j → w.heap.size ≤ j) : RdO w' (fun j => U j ∨ T j) A xs :=
  ⟨(h.below hb).1, fun g o hA hn hu => by
    rcases hu with hu | hu
    · exact h.2 g o hA hn hu
    · have := hT g hu; have := h.lt hA hn; omega⟩
theorem RdO.less {w : World} {U T : Nat → Prop} {A : Option Addr} {xs : List Value} (h : RdO w U A xs) (hT : ∀ j, T j → U j) : RdO w T A xs := ⟨h.1, fun g o hA hn hu => h.2 g o hA hn (hT g hu)⟩
theorem open_strs {H : Type} {enc : TypeId × Value → H} {W : World} {b : Nat} {spare : Nat → Bool} {held : Bool} {A : Option Addr} {len cap : Nat} {d : DataW H} {p : List MemPlace}
    (h : DataW.Trod enc Try.prog W b spare held 47 (.slice A len cap) d p) :
    ∃ ks : List ByteArray, ks.length = len ∧ len ≤ cap ∧ cap ≤ maxLen ∧ Rd W W.heap.size A (ks.map Value.string) ∧ ∀ k ∈ ks, k.size ≤ maxLen := by
  obtain ⟨ks, h1, h2, h3, h4⟩ := open_str Try.underlying47 (by kernel_rfl : Try.prog.cellsOf 9 = 1) (by omega) (fun cs (k : ByteArray) => cs = [.string k] ∧ k.size ≤ maxLen) (fun fuel cs x hl h => by
    obtain ⟨k, e, -, hk⟩ := DataW.trod_string Try.underlying9 h
    exact ⟨k, e, hk⟩) h
  refine ⟨ks, h1, h2, h3, fun hn => ?_, fun k hk => ?_⟩
  · obtain ⟨g, o, e, hg, hc⟩ := h4 (by simpa using hn)
    refine ⟨g, o, e, hg, fun j u hu => ?_⟩
    rw [List.getElem?_map] at hu
    obtain ⟨k, hk, rfl⟩ := Option.map_eq_some_iff.1 hu
    obtain ⟨cs, q1, ⟨rfl, _⟩, q3⟩ := hc j k hk
    simpa using q3 0 _ rfl
  · obtain ⟨j, hj⟩ := List.getElem?_of_mem hk
    obtain ⟨g, o, a, cs, e, hg, ha, hl, ⟨rfl, hr⟩, hc⟩ := StR.row h4 (List.getElem?_eq_some_iff.1 hj).1
    rw [hj] at ha
    cases ha
    exact hr
def L1Rel (w : World) (g : Nat) (l : List ByteArray) (s35 : Value) (wr : World) : Prop :=
  ∃ (j : Nat) (S : Nat → Prop), s35 = .int .i64 (j : Int) ∧ j ≤ l.length ∧ DictM wr g S (Dm.puts (l.take j)).1 (Dm.puts (l.take j)).2 ∧ (∀ j, S j → w.heap.size ≤ j) ∧ Below w.heap.size w wr
def L2Rel (w : World) (g f : Nat) (n : Nat) (A8 : Option Addr) (xs : List Value) (s51 : Value) (wr : World) : Prop :=
  ∃ (j : Nat) (S T : Nat → Prop) (ks : List ByteArray) (e : Nat), s51 = .int .i64 (j : Int) ∧ j ≤ n ∧ DictM wr g S ks e ∧ DictM wr f T ks e ∧ Apart S T ∧ (∀ j, S j → w.heap.size ≤ j) ∧ (∀ j, T j → w.heap.size ≤ j) ∧ RdO wr (fun j => S j ∨ T j) A8 xs ∧ Below w.heap.size w wr
def L3Rel (w : World) (h : Nat) (l : List ByteArray) (A8 : Option Addr) (xs : List Value) (s109 : Value) (wr : World) : Prop :=
  ∃ (j : Nat) (S : Nat → Prop), s109 = .int .i64 (j : Int) ∧ j ≤ l.length ∧ DictM wr h S (Dm.puts (l.take j)).1 (Dm.puts (l.take j)).2 ∧ (∀ j, S j → w.heap.size ≤ j) ∧ RdO wr S A8 xs ∧ Below w.heap.size w wr
set_option maxRecDepth 100000 in
set_option maxHeartbeats 12000000 in
theorem DictBack_walk (w : World) (A : Option Addr) (len cap : Nat) (la : List ByteArray) (hn : la.length = len) (hlc : len ≤ cap) (hcm : cap ≤ maxLen) (hr0 : Rd w w.heap.size A (la.map Value.string) ∧ ∀ k ∈ la, k.size ≤ maxLen)
    (A' : Option Addr) (len' cap' : Nat) (lk : List ByteArray) (hn' : lk.length = len') (hlc' : len' ≤ cap') (hcm' : cap' ≤ maxLen) (hr0' : Rd w w.heap.size A' (lk.map Value.string) ∧ ∀ k ∈ lk, k.size ≤ maxLen) :
    Calls Try.prog 7 #[.slice A len cap, .slice A' len' cap'] w (TrueP5 w) := by
  subst hn hn'
  obtain ⟨i0, hi, hz0, hz1, hz2⟩ := info_parts infoU8
  have HR := Lib.hid hr0.1; have HZ := Lib.hid hr0.2; have HR' := Lib.hid hr0'.1; have HZ' := Lib.hid hr0'.2
  clear hr0 hr0'
  unfold maxLen at hcm hcm'
  by_cases hbig : 60 < la.length ∨ 60 < lk.length
  · have HB0 := Lib.hid (awake5_any w)
    rcases hbig with hbig | hbig
    · have hbI : (60 : Int) < (la.length : Int) := by omega
      go_enter Try.func7, Try.ntmps7
      go_wp2_with fail
      refine HB0.out.mono ?_
      rintro en w1 ⟨rfl, hb1⟩
      go_wp2
      go_ret
      exact ⟨rfl, hb1⟩
    · have hbI : (60 : Int) < (lk.length : Int) := by omega
      by_cases hb2 : 60 < la.length
      · have hbI2 : (60 : Int) < (la.length : Int) := by omega
        go_enter Try.func7, Try.ntmps7
        go_wp2_with fail
        refine HB0.out.mono ?_
        rintro en w1 ⟨rfl, hb1⟩
        go_wp2
        go_ret
        exact ⟨rfl, hb1⟩
      · have hbI2 : ¬ (60 : Int) < (la.length : Int) := by omega
        go_enter Try.func7, Try.ntmps7
        go_wp2_with fail
        refine HB0.out.mono ?_
        rintro en w1 ⟨rfl, hb1⟩
        go_wp2
        go_ret
        exact ⟨rfl, hb1⟩
  · have h60 : la.length ≤ 60 := by omega
    have h60' : lk.length ≤ 60 := by omega
    have hbI : ¬ (60 : Int) < (la.length : Int) := by omega
    have hbI' : ¬ (60 : Int) < (lk.length : Int) := by omega
    clear hbig
    go_enter Try.func7, Try.ntmps7
    go_wp2_with fail
    refine (awake5_any w).mono ?_
    rintro en w1 ⟨rfl, hb1⟩
    have B1 := Lib.hid hb1; clear hb1
    go_wp2_with fail
    refine (DNew_any w1).mono ?_
    rintro en w2 ⟨g, S2, rfl, hd, hS, hb⟩
    have START := Lib.hid (show L1Rel w g la (.int .i64 0) w2 from ⟨0, S2, rfl, by omega, hd, fun j hj => Nat.le_trans B1.out.size (hS j hj), B1.out.trans (hb.mono B1.out.size)⟩)
    clear hd hS hb
    go_wp2
    go_loopw [35] (fun s35 wr => L1Rel w g la s35 wr) (fun s35 _ => la.length - (intOf s35).toNat)
    case atStart => exact START.out
    case round =>
      clear START
      obtain ⟨j, S, rfl, hj, hd, hS, hbel⟩ := hrel
      by_cases hlt : j < la.length
      · obtain ⟨s, hs⟩ : ∃ s, la[j]? = some s := ⟨_, List.getElem?_eq_getElem hlt⟩
        obtain ⟨ga, o, rfl, hga, hc⟩ := (HR.out.below hbel).strs (by intro h0; rw [h0] at hlt; simp at hlt)
        have d0 := hc j s hs
        have hlI : (j : Int) < (la.length : Int) := by omega
        have D4 := Lib.hid hd; have A4 := Lib.hid hS; have B4 := Lib.hid hbel; have HS := Lib.hid hs; have HJ := Lib.hid hlt
        have hsz := HZ.out s (List.mem_of_getElem? hs)
        have HSZ := Lib.hid hsz
        clear hd hS hbel hs hc hsz hga
        go_wp2_with fail
        refine (DPut_at wr g S _ _ s HSZ.out D4.out _ _ _ _ _ rfl rfl).mono ?_
        rintro en wx ⟨v, SX, rfl, hm, hf, hd, hT⟩
        obtain ⟨Av, cv, rfl, -⟩ := id hm
        have R := Lib.hid (show L1Rel w g la (.int .i64 ((j : Int) + 1)) wx from ⟨j + 1, SX, by go_num, HJ.out, by rw [Dm.puts_step HS.out]; exact hd, hT.1.above B4.out.size A4.out, B4.out.trans (hT.2.to_below B4.out.size A4.out)⟩)
        clear hm hf hd hT
        go_wp2
        go_roundw
        case rel => exact R.out
        case measure => simp [intOf]; have := HJ.out; omega
      · obtain rfl : j = la.length := by omega
        rw [List.take_length] at hd
        have D4 := Lib.hid hd; have A4 := Lib.hid hS; have B4 := Lib.hid hbel
        clear hd hS hbel hlt hj
        obtain ⟨⟨kB, eB⟩, hkB⟩ : ∃ r, Dm.puts la = r := ⟨_, rfl⟩
        rw [hkB] at D4
        have HKB := Lib.hid hkB
        clear hkB
        obtain ⟨nB, hnB⟩ : ∃ nB, kB.length = nB := ⟨_, rfl⟩
        have hok8 := D4.out.ok.2.1
        have hn8 : nB ≤ 8 := by rw [← hnB]; exact hok8
        have HNB := Lib.hid hnB
        clear hnB hok8
        go_wp2_with fail
        refine (DKeys_at wr g S kB eB D4.out nB HNB.out).mono ?_
        rintro en w5 ⟨A8, c8, rfl, hrk, hnc, hckm, hfr, hb⟩
        have D5 := Lib.hid (D4.out.below hb); have B5 := Lib.hid (B4.out.trans (hb.mono B4.out.size))
        have K5 := Lib.hid (show RdO w5 S A8 (kB.map Value.string) from ⟨hrk, fun g' o' hA _ hs => by have := hfr g' o' hA; have := D4.out.lt g' hs; omega⟩)
        clear hrk hnc hckm hfr hb
        go_wp2_with fail
        refine (DCopy_any w5 g S kB eB D5.out).mono ?_
        rintro en w6 ⟨f, T6, rfl, hd, hS, hb⟩
        have START2 := Lib.hid (show L2Rel w g f lk.length A8 (kB.map Value.string) (.int .i64 0) w6 from ⟨0, S, T6, kB, eB, rfl, Nat.zero_le _, D5.out.below hb, hd, fun j h1 h2 => by have := D5.out.lt j h1; have := hS j h2; omega, A4.out, fun j hj => Nat.le_trans B5.out.size (hS j hj), K5.out.fresh hb hS, B5.out.trans (hb.mono B5.out.size)⟩)
        clear hd hS hb D4 A4 B4 D5 B5 K5
        go_wp2
        go_loopw [51] (fun s51 wr => L2Rel w g f lk.length A8 (kB.map Value.string) s51 wr) (fun s51 _ => lk.length - (intOf s51).toNat)
        case atStart => exact START2.out
        case round =>
          clear START2
          obtain ⟨j, S, T, ks, e, rfl, hj, hd, hd2, hap, hS, hT, hk8, hbel⟩ := hrel
          have DA := Lib.hid hd; have FA := Lib.hid hd2; have XA := Lib.hid hap; have SA := Lib.hid hS; have TA := Lib.hid hT; have KA := Lib.hid hk8; have BA := Lib.hid hbel
          clear hd hd2 hap hS hT hk8
          by_cases hlt : j < lk.length
          · obtain ⟨s, hs⟩ : ∃ s, lk[j]? = some s := ⟨_, List.getElem?_eq_getElem hlt⟩
            obtain ⟨ga, o, rfl, hga, hc⟩ := (HR'.out.below hbel).strs (by intro h0; rw [h0] at hlt; simp at hlt)
            have d0 := hc j s hs
            have hlI : (j : Int) < (lk.length : Int) := by omega
            have HJ := Lib.hid hlt
            have hsz := HZ'.out s (List.mem_of_getElem? hs)
            have HSZ := Lib.hid hsz
            obtain ⟨⟨pb, pd, pk, pe⟩, hpd⟩ : ∃ r, Dm.putD ks e s = r := ⟨_, rfl⟩
            have hback := fun r hd => Dm.back_put (k := s) DA.out.ok hd r
            have herr := fun hd => Dm.put_err (ks := ks) (e := e) (k := s) hd
            have hplen := Dm.put_len (k := s) DA.out.ok
            rw [hpd] at hback herr hplen
            simp only at hback herr hplen
            obtain ⟨np, hnp⟩ : ∃ np, pb.length = np := ⟨_, rfl⟩
            have HPD := Lib.hid hpd; have HBK := Lib.hid hback; have HER := Lib.hid herr; have HNP := Lib.hid hnp; have H256 := Lib.hid hplen.2
            have hnp84 : np ≤ 84 := by rw [← hnp]; exact hplen.1
            clear hbel hs hc hsz hga hpd hback herr hplen hnp
            go_wp2_with fail
            refine (DPut_at wr g S ks e s HSZ.out DA.out pb pd np pk pe HPD.out HNP.out).mono ?_
            rintro en wx ⟨v, SX, rfl, hm, hf, hd, hTu⟩
            obtain ⟨Av, cv, rfl, hrv, -, hcv, hcvm, -, hnone⟩ := id hm
            have DX := Lib.hid hd; have SXA := Lib.hid (hTu.1.above BA.out.size SA.out); have BX := Lib.hid (BA.out.trans (hTu.2.to_below BA.out.size SA.out))
            have FX := Lib.hid (FA.out.only hTu.2 XA.out); have XX := Lib.hid (XA.out.turn hTu FA.out.lt); have KX := Lib.hid (KA.out.turn hTu.left)
            have RV := Lib.hid hrv; have HNO := Lib.hid hnone
            clear hm hf hd hTu hrv hnone
            by_cases hp0 : pd = 0
            · subst hp0
              have hbk := HBK.out [1, 2] (by trivial)
              rw [HNP.out] at hbk
              have HBQ := Lib.hid hbk
              clear hbk
              have ho1 := own_lit0 wx 5 wx.heap.size (Nat.le_refl _)
              have HUL : Hid ((u8s pb).length = np) := Lib.hid (by rw [u8s_length, HNP.out])
              have HUL2 : Hid ((pb ++ [1, 2]).length = np + 2) := Lib.hid (by simp [HNP.out])
              have H2562 : Hid (∀ b ∈ pb ++ [1, 2], b < 256) := Lib.hid (by intro b hb; rcases List.mem_append.1 hb with h | h; exact H256.out b h; simp at h; omega)
              have tok1 : True := trivial
              go_wp2_with (first
                | (at_builtin; have _t := tok1; go_must (refine app_own rfl (.tmp 73) (.tmp 74) 25 rfl wx.heap.size 5 i0 (.int .u8 0) 1 Try.underlying25 hi hz0 hz1 hz2 rfl (.slice (some ⟨wx.heap.size, 0, none⟩) 0 0) 0 [] rfl ho1 _ Av np cv (u8s pb) rfl HUL.out (RV.out.alloc _) HNO.out (u8s_one _) (by unfold maxLen; omega) (by omega) (by simp) ?_; intro v2 w2 ho2 hg2 _hne2; have HO2 := Lib.hid ho2; have HB2 := Lib.hid (below_own (B := wx.heap.size) ho1 hg2 (Nat.le_refl _) (by simp)); clear ho2 hg2 ho1 tok1 _t _hne2))
                | (at_builtin; go_must (refine app_own rfl (.tmp 75) (.tmp 76) 25 rfl wx.heap.size 5 i0 (.int .u8 0) 1 Try.underlying25 hi hz0 hz1 hz2 rfl v2 np (u8s pb) rfl (own_below (by have := HO2.out; rwa [Nat.zero_add, List.nil_append] at this) ((Below.refl _ w2).alloc (Nat.le_refl _) _)) _ (some ⟨w2.heap.size, 0, none⟩) 2 2 (u8s [1, 2]) rfl rfl (Rd.new8 w2 5 [1, 2] #[.int .u8 1, .int .u8 2] rfl) (fun h => by cases h) (u8s_one _) (by unfold maxLen; omega) (by omega) (by have := HB2.out.size; simp at this ⊢; omega) ?_; intro v3 w3 ho3 hg3 _hne3; obtain ⟨A3, c3, rfl, -, -, -, -, -⟩ := own_form ho3; have HO3 := Lib.hid ho3; have HG3 := Lib.hid hg3; clear ho3 hg3 _hne3)))
              have ho3 := HO3.out
              rw [← u8s_append] at ho3
              obtain ⟨A3', c3', hv3, hnc3, hcm3, -, hrd3, -⟩ := own_form ho3
              injection hv3 with e1 _ e2
              subst e1 e2
              have hB3 : Below wx.heap.size wx w3 := (((Below.refl _ wx).alloc (Nat.le_refl _) _).trans HB2.out).trans ((((Below.refl _ w2).alloc (by have := HB2.out.size; simp at this; omega) _).trans (below_own (B := wx.heap.size) (own_below HO2.out ((Below.refl _ w2).alloc (Nat.le_refl _) _)) HG3.out (Nat.le_refl _) (by have := HB2.out.size; simp at this ⊢; omega))))
              have D3 := Lib.hid (DX.out.below hB3); have F3 := Lib.hid (FX.out.below hB3); have K3 := Lib.hid (KX.out.below hB3); have B3 := Lib.hid (BX.out.trans (hB3.mono BX.out.size))
              have RD3 := Lib.hid hrd3
              clear ho3 hrd3 hB3 HO2 HB2 HO3 HG3
              go_wp2_with fail
              refine (DTake_at w3 f T ks e A3 (np + 2) c3 (pb ++ [1, 2]) F3.out RD3.out H2562.out HUL2.out (by omega) (by omega) hcm3 s np 0 pk pe HBQ.out).mono ?_
              rintro en w7 ⟨T7, rfl, hd, hTu⟩
              have F7 := Lib.hid hd; have TA7 := Lib.hid (hTu.1.above B3.out.size TA.out); have B7 := Lib.hid (B3.out.trans (hTu.2.to_below B3.out.size TA.out))
              have D7 := Lib.hid (D3.out.only hTu.2 XX.out.symm); have X7 := Lib.hid (XX.out.symm.turn hTu D3.out.lt).symm; have K7 := Lib.hid (K3.out.turn hTu.right)
              clear hd hTu
              obtain ⟨nk, hnk⟩ : ∃ nk, pk.length = nk := ⟨_, rfl⟩
              have hnk8 : nk ≤ 8 := by have := F7.out.ok.2.1; omega
              have HNK := Lib.hid hnk
              clear hnk
              go_wp2_with fail
              refine (DKeys_at w7 f T7 pk pe F7.out nk HNK.out).mono ?_
              rintro en w9 ⟨A9, c9, rfl, hr9, -, -, -, hb⟩
              have F9 := Lib.hid (F7.out.below hb); have D9 := Lib.hid (D7.out.below hb); have B9 := Lib.hid (B7.out.trans (hb.mono B7.out.size)); have K9 := Lib.hid (K7.out.below hb); have R9 := Lib.hid hr9
              clear hb hr9
              go_wp2_with fail
              refine (DKeys_at w9 g SX pk pe D9.out nk HNK.out).mono ?_
              rintro en wa ⟨Aa, ca, rfl, hra, -, -, -, hb⟩
              have Fa := Lib.hid (F9.out.below hb); have Da := Lib.hid (D9.out.below hb); have Ba := Lib.hid (B9.out.trans (hb.mono B9.out.size)); have Ka := Lib.hid (K9.out.below hb); have R9a := Lib.hid ((R9.out.below hb).more hb.size); have Ra := Lib.hid hra
              clear hb hra
              go_wp2_with fail
              refine (SSame_true wa A9 Aa c9 ca nk pk _ _ R9a.out Ra.out HNK.out (by omega)).mono ?_
              rintro en wb ⟨rfl, q, hq⟩
              have hb : Below wa.heap.size wa wb := by rw [hq]; exact below_drewN (Below.refl _ _) q
              have R := Lib.hid (show L2Rel w g f lk.length A8 (kB.map Value.string) (.int .i64 ((j : Int) + 1)) wb from ⟨j + 1, SX, T7, pk, pe, by go_num, HJ.out, Da.out.below hb, Fa.out.below hb, X7.out, SXA.out, TA7.out, Ka.out.below hb, Ba.out.trans (hb.mono Ba.out.size)⟩)
              clear hb hq
              go_wp2
              go_roundw
              case rel => exact R.out
              case measure => simp [intOf]; have := HJ.out; omega
            · obtain ⟨h64, hpe⟩ := HER.out hp0
              injection hpe with e1 e2
              injection e2 with e2 e3
              injection e3 with e3 e4
              subst e1 e2 e3 e4
              have h64I : (64 : Int) < (s.size : Int) := by omega
              obtain rfl : np = 0 := HNP.out.symm
              have R := Lib.hid (show L2Rel w g f lk.length A8 (kB.map Value.string) (.int .i64 ((j : Int) + 1)) wx from ⟨j + 1, SX, T, _, _, by go_num, HJ.out, DX.out, FX.out, XX.out, SXA.out, TA.out, KX.out, BX.out⟩)
              clear hp0
              go_wp2
              go_roundw
              case rel => exact R.out
              case measure => simp [intOf]; have := HJ.out; omega
          · have hge : (lk.length : Int) ≤ (j : Int) := by omega
            have KA2 := Lib.hid KA.out.1
            clear hlt hbel
            go_wp2_with fail
            refine (DNew_any wr).mono ?_
            rintro en wc ⟨h, U, rfl, hd, hU, hb⟩
            have START3 := Lib.hid (show L3Rel w h la A8 (kB.map Value.string) (.int .i64 0) wc from ⟨0, U, rfl, Nat.zero_le _, hd, fun j hj => Nat.le_trans BA.out.size (hU j hj), (KA.out.fresh hb hU).less (fun j hj => .inr hj), BA.out.trans (hb.mono BA.out.size)⟩)
            clear hd hU hb
            go_wp2
            go_loopw [109] (fun s109 wr => L3Rel w h la A8 (kB.map Value.string) s109 wr) (fun s109 _ => la.length - (intOf s109).toNat)
            case atStart => exact START3.out
            case round =>
              clear START3
              obtain ⟨i, V, rfl, hi3, hd, hV, hk8, hbel⟩ := hrel
              have DA3 := Lib.hid hd; have VA3 := Lib.hid hV; have KA3 := Lib.hid hk8; have BA3 := Lib.hid hbel
              clear hd hV hk8
              by_cases hlt : i < la.length
              · obtain ⟨s, hs⟩ : ∃ s, la[i]? = some s := ⟨_, List.getElem?_eq_getElem hlt⟩
                obtain ⟨gb, ob, rfl, hgb, hc⟩ := (HR.out.below hbel).strs (by intro h0; rw [h0] at hlt; simp at hlt)
                have d0 := hc i s hs
                have hlI : (i : Int) < (la.length : Int) := by omega
                have HS := Lib.hid hs; have HI := Lib.hid hlt
                have HSZ := Lib.hid (HZ.out s (List.mem_of_getElem? hs))
                clear hbel hs hc hgb
                go_wp2_with fail
                refine (DPut_at _ h V _ _ s HSZ.out DA3.out _ _ _ _ _ rfl rfl).mono ?_
                rintro en wx ⟨v, SX, rfl, hm, hf, hd, hT⟩
                obtain ⟨Av, cv, rfl, -⟩ := id hm
                have R := Lib.hid (show L3Rel w h la A8 (kB.map Value.string) (.int .i64 ((i : Int) + 1)) wx from ⟨i + 1, SX, by go_num, HI.out, by rw [Dm.puts_step HS.out]; exact hd, hT.1.above BA3.out.size VA3.out, KA3.out.turn hT, BA3.out.trans (hT.2.to_below BA3.out.size VA3.out)⟩)
                clear hm hf hd hT
                go_wp2
                go_roundw
                case rel => exact R.out
                case measure => simp [intOf]; have := HI.out; omega
              · obtain rfl : i = la.length := by omega
                have D8 : Hid (DictM _ h V kB eB) := Lib.hid (by have := DA3.out; rw [List.take_length, HKB.out] at this; exact this)
                clear hbel hlt hi3 DA3
                go_wp2_with fail
                refine (DKeys_at _ h V kB eB D8.out nB HNB.out).mono ?_
                rintro en we ⟨Ae, ce, rfl, hre, -, -, -, hb⟩
                have Ke := Lib.hid (KA3.out.below hb); have Be := Lib.hid (BA3.out.trans (hb.mono BA3.out.size)); have Re := Lib.hid hre
                clear hb hre
                go_wp2_with fail
                refine (SSame_true we Ae A8 ce c8 nB kB _ _ Re.out Ke.out.1 HNB.out (by omega)).mono ?_
                rintro en wf ⟨rfl, q, hq⟩
                have HP := Lib.hid (show TrueP5 w (.returned (.bool true)) wf from ⟨rfl, Be.out.trans (by rw [hq]; exact below_drewN (Below.refl _ _) q)⟩)
                clear hq
                go_wp2
                go_ret
                exact HP.out
end Go.Proofs.Ytignfhdblakcfaa

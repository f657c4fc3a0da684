/- law 8: DiskDown. -/
import Derived.Test.YtahichieakdbnaaEg
namespace Go.Proofs.Ytahichieakdbnaa
open Go.ChangeShapes Go.WideShapes Go.ChangeAt Go.RowKit Go.Maps Go.Deep
set_option linter.unusedVariables false
set_option linter.unusedSimpArgs false

theorem Acts8.step {w w' : World} {A : Option Addr} {ys : List DAct} (h : Acts8 w w.heap.size A ys) (hb : Below w.heap.size w w') : Acts8 w' w'.heap.size A ys :=
  StR.more (StR.below h hb (fun cs a ⟨Ab, cb, Ak, ck, h1, h2, h3, h4, h5, h6, h7⟩ => ⟨Ab, cb, Ak, ck, h1, (h2.below hb).more hb.size, h3, h4, h5, (h6.below hb).more hb.size, h7⟩)) hb.size
/-- a disk in the law: its room, what it is -/
def LR (w : World) (g room len : Nat) (s : Value) (wr : World) : Prop :=
  ∃ (k : Nat) (vs : List Value) (d : Pd), s = .int .i64 (k : Int) ∧ k ≤ len ∧ DM wr g room vs d ∧ OkP room d ∧ (∀ j, DS g vs j → w.heap.size ≤ j) ∧ Below w.heap.size w wr
theorem Rd.ne_of {w : World} {B g : Nat} {A : Option Addr} {xs : List Value} (h : Rd w B A xs) (hg : B ≤ g) : ∀ q o, A = some ⟨q, o, none⟩ → xs ≠ [] → q ≠ g := by
  intro q o hA hx
  obtain ⟨g', o', e, hlt, _⟩ := h hx
  rw [hA] at e
  injection e with e
  injection e with e1 e2
  omega
/-- without power -/
def Dead (fs : List Fl) (d : Pd) : Prop := d.1 = fs ∧ d.2.1 = true
theorem Dead.step {fs : List Fl} {d : Pd} (h : Dead fs d) (x : Int) (r : List Fl × Nat) : Dead fs (stepP d x r).1 ∧ ((stepP d x r).2 = 8 ∨ (stepP d x r).2 = 1) := by
  unfold stepP
  by_cases hx : inF x
  · rw [if_pos hx]
    have : offD d.2.1 d.2.2.1 d.2.2.2 = true := by unfold offD; rw [h.2]; rfl
    rw [if_pos this]
    exact ⟨⟨h.1, rfl⟩, .inl rfl⟩
  · rw [if_neg hx]
    exact ⟨h, .inr rfl⟩
theorem Dead.act {fs : List Fl} {d : Pd} (h : Dead fs d) (room : Nat) (a : DAct) (h4 : a.k ≠ 4) : Dead fs (doP room d a).1 ∧ (0 ≤ a.k → a.k ≤ 2 → (doP room d a).2 = 8 ∨ (doP room d a).2 = 1) := by
  by_cases q0 : a.k = 0
  · rw [doP0 _ _ _ q0]; have := h.step a.x (if room - totF d.1 < a.bs.length then (d.1, 7) else (putF d.1 a.x.toNat a.bs, 0)); exact ⟨this.1, fun _ _ => this.2⟩
  by_cases q1 : a.k = 1
  · rw [doP1 _ _ _ q1]; have := h.step a.x (syncF d.1 a.x.toNat, 0); exact ⟨this.1, fun _ _ => this.2⟩
  by_cases q2 : a.k = 2
  · rw [doP2 _ _ _ q2]
    unfold cutP
    split
    · exact ⟨h, fun _ _ => .inr rfl⟩
    · have := h.step a.x (cutF d.1 a.x.toNat a.n.toNat, 0); exact ⟨this.1, fun _ _ => this.2⟩
  by_cases q3 : a.k = 3
  · rw [doP3 _ _ _ q3]; exact ⟨⟨h.1, h.2⟩, fun _ _ => by omega⟩
  rw [doPn _ _ _ q0 q1 q2 q3 h4]
  exact ⟨h, fun _ _ => by omega⟩
theorem dead0 (d : Pd) : Dead d.1 (syncP (fuseP d 0) 0).1 ∧ (syncP (fuseP d 0) 0).2 = 8 := by
  unfold syncP stepP
  rw [if_pos (by unfold inF; omega), if_pos (by simp [offD, fuseP])]
  exact ⟨⟨rfl, rfl⟩, rfl⟩
/-- the second loop: the disk is dead, its files are fs; the list of files lies apart -/
def L2 (w : World) (g len : Nat) (fs : List Fl) (AF : Option Addr) (s : Value) (wr : World) : Prop :=
  ∃ (k : Nat) (vs : List Value) (d : Pd), s = .int .i64 (k : Int) ∧ k ≤ len ∧ DM wr g 5000 vs d ∧ OkP 5000 d ∧ Dead fs d ∧ (∀ j, DS g vs j → w.heap.size ≤ j) ∧ Below w.heap.size w wr ∧
    Rd wr wr.heap.size AF (i64n (filesK fs 64)) ∧ ∀ q o, AF = some ⟨q, o, none⟩ → i64n (filesK fs 64) ≠ [] → ¬ DS g vs q
theorem i64n_i (l : List Nat) : i64n l = i64i (l.map fun (n : Nat) => (n : Int)) := by simp [i64n, i64i]
set_option maxRecDepth 100000 in
set_option maxHeartbeats 12000000 in
theorem DiskDown_walk (w : World) (A : Option Addr) (len cap : Nat) (ys : List DAct) (hn : ys.length = len) (hlc : len ≤ cap) (hcm : cap ≤ maxLen) (hr : Acts8 w w.heap.size A ys)
    (A2 : Option Addr) (len2 cap2 : Nat) (ys2 : List DAct) (hn2 : ys2.length = len2) (hlc2 : len2 ≤ cap2) (hcm2 : cap2 ≤ maxLen) (hr2 : Acts8 w w.heap.size A2 ys2) :
    Calls Try.prog 5 #[.slice A len cap, .slice A2 len2 cap2] w (TrueD w) := by
  have HN := Lib.hid hn; have HLC := Lib.hid hlc; have HCM := Lib.hid hcm; have HR := Lib.hid hr
  have HN2 := Lib.hid hn2; have HLC2 := Lib.hid hlc2; have HCM2 := Lib.hid hcm2; have HR2 := Lib.hid hr2
  have hcm' : cap ≤ 9223372036854775807 := hcm
  have hcm2' : cap2 ≤ 9223372036854775807 := hcm2
  clear hn hr hcm hn2 hr2 hcm2
  go_enter Try.func5, Try.ntmps5
  go_wp2_with fail
  refine (awake8_any w).mono ?_
  rintro en w1 ⟨rfl, hb1⟩
  have B1 := Lib.hid hb1; clear hb1
  go_wp2_with fail
  refine (large8_any w1 A len cap ys (Acts8.step HR.out B1.out) HN.out HLC.out HCM.out).mono ?_
  rintro en w2 ⟨⟨lb, rfl, hfine⟩, hb2⟩
  have B2 := Lib.hid (B1.out.trans (hb2.mono B1.out.size)); have HFI := Lib.hid hfine
  clear hb2 hfine
  cases lb with
  | true =>
    have HP := Lib.hid (show TrueD w (.returned (.bool true)) w2 from ⟨rfl, B2.out⟩)
    go_wp2
    go_ret
    exact HP.out
  | false =>
    obtain ⟨h60, hsh⟩ := HFI.out rfl
    have HSH := Lib.hid hsh
    have hl60 : len ≤ 60 := by rw [← HN.out]; exact h60
    clear hsh HFI h60
    go_wp2_with fail
    refine (large8_any w2 A2 len2 cap2 ys2 (Acts8.step HR2.out B2.out) HN2.out HLC2.out HCM2.out).mono ?_
    rintro en w3 ⟨⟨lb2, rfl, hfine⟩, hb3⟩
    have B3 := Lib.hid (B2.out.trans (hb3.mono B2.out.size)); have HFI := Lib.hid hfine
    clear hb3 hfine
    cases lb2 with
    | true =>
      have HP := Lib.hid (show TrueD w (.returned (.bool true)) w3 from ⟨rfl, B3.out⟩)
      go_wp2
      go_ret
      exact HP.out
    | false =>
      obtain ⟨h60, hsh⟩ := HFI.out rfl
      have HSH2 := Lib.hid hsh
      have hl602 : len2 ≤ 60 := by rw [← HN2.out]; exact h60
      clear hsh HFI h60
      go_wp2_with fail
      refine (DNew_any w3 5000 (by decide)).mono ?_
      rintro en w4 ⟨rfl, hd, hb⟩
      obtain ⟨g, hg⟩ : ∃ g, g = w3.heap.size := ⟨_, rfl⟩
      rw [← hg] at hd ⊢
      have START := Lib.hid (show LR w g 5000 len (.int .i64 0) w4 from ⟨0, vs0, _, rfl, Nat.zero_le _, hd, ok_new (by decide), fun j hj => Nat.le_trans B3.out.size (by rw [hg] at hj; exact DS_new w3 j hj), B3.out.trans (hb.mono B3.out.size)⟩)
      have HG : Hid (w.heap.size ≤ g) := Lib.hid (by rw [hg]; exact B3.out.size)
      clear hd hb hg
      go_wp2
      go_loopw [35] (fun s35 wr => LR w g 5000 len s35 wr) (fun s35 _ => len - (intOf s35).toNat)
      case atStart => exact START.out
      case round =>
        clear START
        obtain ⟨k, vs, d, rfl, hk, hd, hok, hS, hbel⟩ := hrel
        have HB := Lib.hid hbel; have D0 := Lib.hid hd; have OK := Lib.hid hok; have AS := Lib.hid hS
        by_cases hlt : k < len
        · obtain ⟨ga, o, a, Ab, cb, Ak, ck, rfl, hga, hp, ⟨d0, d1, d2, d3, d4⟩, hrb, hbc, hbn, hb256, hrk, hn64⟩ := Acts8.row (Acts8.below HR.out hbel) (k := k) (by rw [HN.out]; exact hlt)
          have hgw : ga < wr.heap.size := World.block_lt_of_cell? _ _ d0
          have hltI : (k : Int) < (len : Int) := by omega
          have hl3 := HSH.out k _ hp
          obtain ⟨nb, hnb⟩ : ∃ q, a.bs.length = q := ⟨_, rfl⟩
          obtain ⟨nk, hnk⟩ : ∃ q, a.ks.length = q := ⟨_, rfl⟩
          rw [hnb] at d3 hbc
          rw [hnk] at d4
          have hnk60 : nk ≤ 60 := by rw [← hnk]; exact hl3.2
          have HDO := fun W (hW : Below wr.heap.size wr W) => Lib.hid (do8_any W g 5000 vs d a Ab Ak cb ck nb nk w.heap.size (DskM.below D0.out hW) OK.out hnb hnk (hrb.below (hW.mono HB.out.size)) (Nat.le_trans HB.out.size hW.size) hbc hbn (hrk.below (hW.mono HB.out.size)) hnk60 (Rd.ne_of hrk HG.out))
          have OKN := Lib.hid (OK.out.act (a := a) ⟨hb256, hn64, by omega⟩)
          have HLT := Lib.hid hlt
          have hb := (Below.refl wr.heap.size wr).alloc (Nat.le_refl _) (.cells #[.int .i64 a.k, .int .i64 a.x, .int .i64 a.n, .slice Ab nb cb, .slice Ak nk ck] 35)
          have HBA := Lib.hid hb
          clear hb hd hok hS hbel hrb hrk hbn hnb hnk hl3 hp hk hlt
          go_wp2_with fail
          refine (HDO _ HBA.out).out.mono ?_
          intro en w5 hres
          obtain ⟨rfl, vs5, hd5, hT⟩ := hres.below HBA.out
          have R := Lib.hid (show LR w g 5000 len (.int .i64 ((k : Int) + 1)) w5 from ⟨k + 1, vs5, _, by go_num, HLT.out, hd5, OKN.out, hT.1.above HB.out.size AS.out, HB.out.trans (hT.2.to_below HB.out.size AS.out)⟩)
          clear hres hd5 hT HDO
          go_wp2
          go_roundw
          case rel => exact R.out
          case measure => simp [intOf]; have := HLT.out; omega
        · obtain rfl : k = len := by omega
          clear hd hok hS hbel
          go_wp2_with fail
          refine (DFuse_any wr g 5000 vs d 0 D0.out).mono ?_
          rintro en w5 ⟨rfl, hd5, hO⟩
          have hT : Turned wr (DS g vs) (DS g vs) w5 := ⟨Sub.refl _ _, hO.mono (fun j _ hj => .inl hj)⟩
          have D5 := Lib.hid hd5; have B5 := Lib.hid (HB.out.trans (hT.2.to_below HB.out.size AS.out)); have OK5 := Lib.hid (OK.out.fuse (n := 0) (by decide))
          clear hd5 hO hT
          go_wp2_with fail
          refine (DSync_any w5 g 5000 vs _ 0 D5.out OK5.out).mono ?_
          intro en w6 hres
          obtain ⟨rfl, vs6, hd6, hT⟩ := DRes_at hres (rfl : _ = (syncP (fuseP d 0) 0).1) (n := 8) (by rw [(dead0 d).2]; rfl)
          have A6 := Lib.hid (hT.1.above B5.out.size AS.out); have D6 := Lib.hid hd6; have B6 := Lib.hid (B5.out.trans (hT.2.to_below B5.out.size AS.out)); have OK6 := Lib.hid (OK5.out.sync 0)
          have DE := Lib.hid (dead0 d).1
          clear hres hd6 hT
          obtain ⟨d6, hd6⟩ : ∃ d6, d6 = (syncP (fuseP d 0) 0).1 := ⟨_, rfl⟩
          rw [← hd6] at D6 OK6 DE
          clear hd6 D5 B5 OK5
          go_wp2_with fail
          refine (DLeft_any w6 g 5000 vs6 _ _ _ _ D6.out (by decide) (fun i => Nat.le_trans (totF_take_le _ _) OK6.out.2.1)).mono ?_
          rintro en w7 ⟨rfl, q, hq⟩
          have hb : Below w6.heap.size w6 w7 := by rw [hq]; exact below_drewN (Below.refl _ _) q
          have D7 := Lib.hid (DskM.below D6.out hb); have B7 := Lib.hid (B6.out.trans (hb.mono B6.out.size))
          clear hb hq
          rw [DE.out.1]
          go_wp2_with fail
          refine (DFiles_any w7 g 5000 vs6 _ D7.out OK6.out).mono ?_
          rintro en w8 ⟨vF, rfl, ho, hb⟩
          rw [DE.out.1] at ho
          obtain ⟨nf, hnf⟩ : ∃ q, (filesK d.1 64).length = q := ⟨_, rfl⟩
          rw [hnf] at ho
          obtain ⟨AF, cF, rfl⟩ := own_sl ho
          have hnf64 : nf ≤ 64 := by rw [← hnf]; exact filesK_len _ _
          have D8 := Lib.hid (DskM.below D7.out hb); have B8 := Lib.hid (B7.out.trans (hb.mono B7.out.size))
          have RF := Lib.hid (Rd.of_own ho)
          have NF : Hid (∀ q o, AF = some ⟨q, o, none⟩ → i64n (filesK d.1 64) ≠ [] → ¬ DS g vs6 q) := Lib.hid (by
            rintro q o rfl _ hds
            have h1 := (ho.lt q rfl).1
            have h2 := DskM.lt D7.out q hds
            omega)
          clear ho hb
          go_wp2_with fail
          refine (DDown_any w8 g 5000 vs6 _ _ _ _ D8.out).mono ?_
          rintro en w9 ⟨rfl, q, hq⟩
          have hb : Below w8.heap.size w8 w9 := by rw [hq]; exact below_drewN (Below.refl _ _) q
          have START2 := Lib.hid (show L2 w g len2 d.1 AF (.int .i64 0) w9 from ⟨0, vs6, d6, rfl, Nat.zero_le _, DskM.below D8.out hb, OK6.out, DE.out, A6.out, B8.out.trans (hb.mono B8.out.size), (RF.out.below hb).more hb.size, NF.out⟩)
          rw [DE.out.2]
          have HNF := Lib.hid hnf
          clear hb hq RF NF D6 D7 D8 B6 B7 B8 DE A6 OK6 hnf
          obtain ⟨fs, hfs⟩ : ∃ fs, fs = d.1 := ⟨_, rfl⟩
          rw [← hfs] at START2 HNF ⊢
          clear hfs
          go_wp2
          go_loopw [60] (fun s60 wr => L2 w g len2 fs AF s60 wr) (fun s60 _ => len2 - (intOf s60).toNat)
          case atStart => exact START2.out
          case round =>
            clear START2
            obtain ⟨k, vs, d, rfl, hk, hd, hok, hde, hS, hbel, hrf, hnf⟩ := hrel
            have HB := Lib.hid hbel; have D0 := Lib.hid hd; have OK := Lib.hid hok; have AS := Lib.hid hS; have DE := Lib.hid hde; have RF := Lib.hid hrf; have NF := Lib.hid hnf
            by_cases hlt : k < len2
            · obtain ⟨ga, o, a, Ab, cb, Ak, ck, rfl, hga, hp, ⟨d0, d1, d2, d3, d4⟩, hrb, hbc, hbn, hb256, hrk, hn64⟩ := Acts8.row (Acts8.below HR2.out hbel) (k := k) (by rw [HN2.out]; exact hlt)
              have hgw : ga < wr.heap.size := World.block_lt_of_cell? _ _ d0
              have hltI : (k : Int) < (len2 : Int) := by omega
              have hl3 := HSH2.out k _ hp
              obtain ⟨nb, hnb⟩ : ∃ q, a.bs.length = q := ⟨_, rfl⟩
              obtain ⟨nk, hnk⟩ : ∃ q, a.ks.length = q := ⟨_, rfl⟩
              rw [hnb] at d3 hbc
              rw [hnk] at d4
              have hnk60 : nk ≤ 60 := by rw [← hnk]; exact hl3.2
              have HLT := Lib.hid hlt
              have hb := (Below.refl wr.heap.size wr).alloc (Nat.le_refl _) (.cells #[.int .i64 a.k, .int .i64 a.x, .int .i64 a.n, .slice Ab nb cb, .slice Ak nk ck] 35)
              have HBA := Lib.hid hb
              by_cases q4 : a.k = 4
              · have R := Lib.hid (show L2 w g len2 fs AF (.int .i64 ((k : Int) + 1)) (wr.alloc (.cells #[.int .i64 a.k, .int .i64 a.x, .int .i64 a.n, .slice Ab nb cb, .slice Ak nk ck] 35)) from ⟨k + 1, vs, d, by go_num, hlt, DskM.below hd hb, hok, hde, hS, hbel.trans (hb.mono hbel.size), (hrf.below hb).more hb.size, hnf⟩)
                have q4e : (a.k == 4) = true := by simp [q4]
                rw [q4] at R
                clear hb hd hok hS hbel hrb hrk hbn hnb hnk hl3 hp hk hlt hde hrf hnf
                go_wp2
                go_roundw
                case rel => exact R.out
                case measure => simp [intOf]; have := HLT.out; omega
              · have q4e : (a.k == 4) = false := by simp [q4]
                have HDO := fun W (hW : Below wr.heap.size wr W) => Lib.hid (do8_any W g 5000 vs d a Ab Ak cb ck nb nk w.heap.size (DskM.below D0.out hW) OK.out hnb hnk (hrb.below (hW.mono HB.out.size)) (Nat.le_trans HB.out.size hW.size) hbc hbn (hrk.below (hW.mono HB.out.size)) hnk60 (Rd.ne_of hrk HG.out))
                have OKN := Lib.hid (OK.out.act (a := a) ⟨hb256, hn64, by omega⟩)
                have hda := hde.act 5000 a q4
                obtain ⟨n, hnn⟩ : ∃ n, ((doP 5000 d a).2 : Int) = n := ⟨_, rfl⟩
                have hcase : (¬ 0 ≤ a.k) ∨ (0 ≤ a.k ∧ ¬ a.k ≤ 2) ∨ (0 ≤ a.k ∧ a.k ≤ 2 ∧ n = 8) ∨ (0 ≤ a.k ∧ a.k ≤ 2 ∧ n = 1) := by
                  by_cases h0 : 0 ≤ a.k
                  · by_cases h2 : a.k ≤ 2
                    · rcases hda.2 h0 h2 with h9 | h9
                      · right; right; left; exact ⟨h0, h2, by omega⟩
                      · right; right; right; exact ⟨h0, h2, by omega⟩
                    · right; left; exact ⟨h0, h2⟩
                  · left; exact h0
                have HCA := Lib.hid hcase; have HNN := Lib.hid hnn; have DEN := Lib.hid hda.1
                have hrq : readP (doP 5000 d a).1 a.x = readP d a.x := by unfold readP; rw [hda.1.1, hde.1]
                obtain ⟨⟨rb, re⟩, hrd⟩ : ∃ r, readP d a.x = r := ⟨_, rfl⟩
                rw [hrd] at hrq
                have HRD := Lib.hid hrd; have HRQ := Lib.hid hrq
                obtain ⟨m, hm⟩ : ∃ m, rb.length = m := ⟨_, rfl⟩
                have hm20 : m ≤ 1048576 := by
                  rw [← hm]
                  unfold readP at hrd
                  split at hrd
                  · rename_i hx
                    obtain ⟨f, hf, _, e⟩ := hok.f.get hx
                    rw [e] at hrd
                    injection hrd with h1 h2
                    rw [← h1]
                    have := totF_mem hf
                    have := hok.2.1
                    omega
                  · injection hrd with h1 h2
                    rw [← h1]
                    simp
                have HM := Lib.hid hm
                have KA : Hid (Blk (wr.alloc (.cells #[.int .i64 a.k, .int .i64 a.x, .int .i64 a.n, .slice Ab nb cb, .slice Ak nk ck] 35)) wr.heap.size 35 #[.int .i64 a.k, .int .i64 a.x, .int .i64 a.n, .slice Ab nb cb, .slice Ak nk ck]) := Lib.hid (Blk.new _ _ _)
                clear hb hd hok hS hbel hrb hrk hbn hnb hnk hl3 hp hk hlt hde hrf hnf hda hcase hnn hrd hrq hm
                go_wp2_with fail
                generalize hW : wr.alloc (.cells #[.int .i64 a.k, .int .i64 a.x, .int .i64 a.n, .slice Ab nb cb, .slice Ak nk ck] 35) = w4
                rw [hW] at HBA KA
                clear hW
                have D4 := Lib.hid (DskM.below D0.out HBA.out)
                refine (DRead_any w4 g 5000 vs d a.x D4.out OK.out).mono ?_
                rintro en w5 ⟨vB, rfl, hm5, hf5, hb5⟩
                rw [HRD.out] at hm5 ⊢
                simp only at hm5
                rw [HM.out] at hm5
                obtain ⟨AB, CB, rfl, -⟩ := id hm5
                have KA5 := Lib.hid (KA.out.below hb5 KA.out.lt)
                have D5 := Lib.hid (DskM.below D4.out hb5); have B5 := Lib.hid (HBA.out.trans (hb5.mono HBA.out.size))
                have MB5 : Hid (MadeO w5 (DS g vs) (.slice AB m CB) rb m) := Lib.hid ⟨hm5, fun g' o' n' c' hv _ hds => by have := (hf5 g' o' n' c' hv).1; have := DskM.lt D4.out g' hds; omega⟩
                have k0 := KA5.out.cell 0
                have k1 := KA5.out.cell 1
                have k2 := KA5.out.cell 2
                have k3 := KA5.out.cell 3
                have k4 := KA5.out.cell 4
                simp at k0 k1 k2 k3 k4
                have kl := KA5.out.lt
                clear hm5 hf5 hb5
                go_wp2_with fail
                refine ((HDO _ B5.out).out).mono ?_
                intro en w6 hres
                obtain ⟨rfl, vs6, hd6, hT⟩ := DRes_at hres rfl HNN.out
                have BB5 := Lib.hid (HB.out.trans (B5.out.mono HB.out.size))
                have AS6 := Lib.hid (hT.1.above BB5.out.size AS.out); have D6 := Lib.hid hd6; have B6 := Lib.hid (BB5.out.trans (hT.2.to_below BB5.out.size AS.out))
                have MB6 := Lib.hid (MB5.out.turn hT)
                have RF5 := Lib.hid ((RF.out.below B5.out))
                have RF6 : Hid (Rd w6 w6.heap.size AF (i64n (filesK fs 64))) := Lib.hid ((hT.2.rd RF5.out B5.out.size NF.out).more (Nat.le_trans B5.out.size hT.2.size))
                have NF6 : Hid (∀ q o, AF = some ⟨q, o, none⟩ → i64n (filesK fs 64) ≠ [] → ¬ DS g vs6 q) := Lib.hid (by
                  intro q o hA hx hds
                  rcases hT.1 q hds with h1 | h1
                  · exact NF.out q o hA hx h1
                  · obtain ⟨g', o', e, hlt, _⟩ := RF5.out hx
                    rw [hA] at e
                    injection e with e
                    injection e with e1 e2
                    have := B5.out.size
                    omega)
                have KA6 := Lib.hid (hT.2.blk KA5.out (fun h => by have := DskM.lt D0.out _ h; omega))
                clear hres hd6 hT k0 k1 k2 k3 k4 kl HDO
                have k0 := KA6.out.cell 0
                have k1 := KA6.out.cell 1
                simp at k0 k1
                have kl := KA6.out.lt
                obtain ⟨d6, hd6⟩ : ∃ d6, d6 = (doP 5000 d a).1 := ⟨_, rfl⟩
                rw [← hd6] at D6 OKN DEN HRQ
                clear hd6
                go_wp2_with fail
                refine (DRead_any w6 g 5000 vs6 d6 a.x D6.out OKN.out).mono ?_
                rintro en w7 ⟨vC, rfl, hm7, hf7, hb7⟩
                rw [HRQ.out] at hm7 ⊢
                simp only at hm7
                rw [HM.out] at hm7
                obtain ⟨AC, CC, rfl, -⟩ := id hm7
                have D7 := Lib.hid (DskM.below D6.out hb7); have B7 := Lib.hid (B6.out.trans (hb7.mono B6.out.size))
                have KA7 := Lib.hid (KA6.out.below hb7 KA6.out.lt)
                have MB7 := Lib.hid (MB6.out.below hb7); have MC7 := Lib.hid hm7; have RF7 := Lib.hid ((RF6.out.below hb7).more hb7.size)
                clear k0 k1 kl hm7 hf7 hb7
                have k0 := KA7.out.cell 0
                simp at k0
                have kl := KA7.out.lt
                rcases HCA.out with h0 | ⟨h0, h2⟩ | ⟨h0, h2, rfl⟩ | ⟨h0, h2, rfl⟩
                all_goals (
                  go_wp2_with fail
                  refine (same_at w7 AB AC CB CC rb rb _ _ m m true MB7.out.1.rd_ofD MC7.out.rd_ofD (by unfold maxLen; have := HM.out; omega) HM.out HM.out (by simp)).mono ?_
                  rintro en w8 ⟨rfl, q, hq⟩
                  have hb : Below w7.heap.size w7 w8 := by rw [hq]; exact below_drewN (Below.refl _ _) q
                  have D8 := Lib.hid (DskM.below D7.out hb); have B8 := Lib.hid (B7.out.trans (hb.mono B7.out.size)); have RF8 := Lib.hid ((RF7.out.below hb).more hb.size)
                  clear hb hq k0 kl
                  go_wp2_with fail
                  refine (DDown_any w8 g 5000 vs6 _ _ _ _ D8.out).mono ?_
                  rintro en w9 ⟨rfl, q, hq⟩
                  have hb : Below w8.heap.size w8 w9 := by rw [hq]; exact below_drewN (Below.refl _ _) q
                  have D9 := Lib.hid (DskM.below D8.out hb); have B9 := Lib.hid (B8.out.trans (hb.mono B8.out.size)); have RF9 := Lib.hid ((RF8.out.below hb).more hb.size)
                  clear hb hq
                  rw [DEN.out.2]
                  go_wp2_with fail
                  refine (DLeft_any w9 g 5000 vs6 _ _ _ _ D9.out (by decide) (fun i => Nat.le_trans (totF_take_le _ _) OKN.out.2.1)).mono ?_
                  rintro en w10 ⟨rfl, q, hq⟩
                  have hb : Below w9.heap.size w9 w10 := by rw [hq]; exact below_drewN (Below.refl _ _) q
                  have D10 := Lib.hid (DskM.below D9.out hb); have B10 := Lib.hid (B9.out.trans (hb.mono B9.out.size)); have RF10 := Lib.hid ((RF9.out.below hb).more hb.size)
                  clear hb hq
                  rw [DEN.out.1]
                  have hne : (((5000 - totF fs : Nat) : Int) != ((5000 - totF fs : Nat) : Int)) = false := by simp
                  go_wp2_with fail
                  refine (DFiles_any w10 g 5000 vs6 _ D10.out OKN.out).mono ?_
                  rintro en w11 ⟨vG, rfl, ho, hb⟩
                  rw [DEN.out.1, HNF.out] at ho
                  obtain ⟨AG, CG, rfl⟩ := own_sl ho
                  have RG := Lib.hid (Rd.of_own ho)
                  have D11 := Lib.hid (DskM.below D10.out hb); have B11 := Lib.hid (B10.out.trans (hb.mono B10.out.size)); have RF11 := Lib.hid ((RF10.out.below hb).more hb.size)
                  clear ho hb
                  have rf := RF11.out
                  have rg := RG.out
                  rw [i64n_i] at rf rg
                  have RFI := Lib.hid rf; have RGI := Lib.hid rg
                  clear rf rg
                  go_wp2_with fail
                  refine (ints_at w11 AG AF CG cF _ _ _ _ nf nf true RGI.out RFI.out (by rw [List.length_map, HNF.out]; unfold maxLen; omega) (by rw [List.length_map, HNF.out]) (by rw [List.length_map, HNF.out]) (by simp)).mono ?_
                  rintro en w12 ⟨rfl, q, hq⟩
                  have hb : Below w11.heap.size w11 w12 := by rw [hq]; exact below_drewN (Below.refl _ _) q
                  have R := Lib.hid (show L2 w g len2 fs AF (.int .i64 ((k : Int) + 1)) w12 from ⟨k + 1, vs6, d6, by go_num, HLT.out, DskM.below D11.out hb, OKN.out, DEN.out, AS6.out, B11.out.trans (hb.mono B11.out.size), (RF11.out.below hb).more hb.size, NF6.out⟩)
                  clear hb hq RFI RGI
                  go_wp2
                  go_roundw
                  case rel => exact R.out
                  case measure => simp [intOf]; have := HLT.out; omega)
            · obtain rfl : k = len2 := by omega
              have HP := Lib.hid (show TrueD w (.returned (.bool true)) wr from ⟨rfl, HB.out⟩)
              clear hd hok hS hbel hde hrf hnf
              go_wp2
              go_ret
              exact HP.out
end Go.Proofs.Ytahichieakdbnaa

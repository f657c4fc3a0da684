/- law 8: DiskDoes, the walk. -/
import Derived.Test.YtahichieakdbnaaEp
import Derived.Test.YtahichieakdbnaaInr
namespace Go.Proofs.Ytahichieakdbnaa
open Go.ChangeShapes Go.WideShapes Go.ChangeAt Go.RowKit Go.Maps Go.Deep
set_option linter.unusedVariables false
set_option linter.unusedSimpArgs false

/-- the program's disk and the document's, beside each other -/
def SDD (g gr : Nat) (vs : List Value) (j : Nat) : Prop := j = gr ∨ DS g vs j
def DD (w : World) (g gr room : Nat) (vs rvs : List Value) (d e : Pd) : Prop := DM w g room vs d ∧ RM w (SDD g gr vs) gr room rvs e ∧ ¬ DS g vs gr
theorem DD.below {w w' : World} {g gr room : Nat} {vs rvs : List Value} {d e : Pd} (h : DD w g gr room vs rvs d e) (hb : Below w.heap.size w w') : DD w' g gr room vs rvs d e := ⟨DskM.below h.1 hb, h.2.1.below hb, h.2.2⟩
theorem DD.prog {w w' : World} {g gr room : Nat} {vs vs' rvs : List Value} {d d' e : Pd} (h : DD w g gr room vs rvs d e) (hd : DM w' g room vs' d') (hT : Turned w (DS g vs) (DS g vs') w') : DD w' g gr room vs' rvs d' e := by
  have hn : ¬ DS g vs' gr := fun hx => by
    rcases hT.1 gr hx with h1 | h1
    · exact h.2.2 h1
    · have := h.2.1.lt; omega
  refine ⟨hd, h.2.1.turn (S' := SDD g gr vs') ⟨fun j hj => ?_, hT.2.mono (fun j _ hj => ⟨.inr hj, fun e => h.2.2 (e ▸ hj)⟩)⟩ (.inl rfl), hn⟩
  obtain ⟨h1 | h1, h2⟩ := hj
  · exact absurd h1 h2
  · rcases hT.1 j h1 with h3 | h3
    · exact .inl ⟨.inr h3, h2⟩
    · exact .inr h3
theorem DD.doc {w w' : World} {g gr room : Nat} {vs rvs rvs' : List Value} {d e e' : Pd} (h : DD w g gr room vs rvs d e) (hr : RM w' (SDD g gr vs) gr room rvs' e') (hO : Only (fun j => j = gr) w w') : DD w' g gr room vs rvs' d e' :=
  ⟨h.1.only hO (fun j hj e => h.2.2 (e ▸ hj)), hr, h.2.2⟩
theorem DD.slt {w : World} {g gr room : Nat} {vs rvs : List Value} {d e : Pd} (h : DD w g gr room vs rvs d e) : ∀ j, SDD g gr vs j → j < w.heap.size := by
  rintro j (rfl | hj)
  · exact h.2.1.lt
  · exact DskM.lt h.1 j hj
theorem DD.new {w w1 w2 : World} {n : Nat} (hd : DM w1 w.heap.size n vs0 (fs0, false, false, 0)) (hr : RM w2 (fun j => j = w1.heap.size) w1.heap.size n vs0 (fs0, false, false, 0)) (hb : Below w1.heap.size w1 w2) : DD w2 w.heap.size w1.heap.size n vs0 vs0 (fs0, false, false, 0) (fs0, false, false, 0) := by
  have hl := DskM.lt hd
  have hn : ¬ DS w.heap.size vs0 w1.heap.size := fun h => by have := hl _ h; omega
  refine ⟨DskM.below hd hb, ⟨hr.1, hr.2.1, hr.2.2.1, .inl rfl, fun i v f hv hf => ?_⟩, hn⟩
  have e1 : v = .slice none 0 0 := List.eq_of_mem_replicate (List.mem_of_getElem? hv)
  have e2 : f = ([], 0) := List.eq_of_mem_replicate (List.mem_of_getElem? hf)
  subst e1 e2
  exact ⟨made_none _, fun g o n c h hb => absurd rfl hb⟩
theorem RRes_at {w w' : World} {S : Nat → Prop} {g room : Nat} {r : Pd × Nat} {en : Ending} (h : RRes w S g room r en w') {d' : Pd} {n : Int} (h1 : r.1 = d') (h2 : (r.2 : Int) = n) : en = .returned (.int .i64 n) ∧ ∃ vs', RM w' S g room vs' d' ∧ Only (fun j => j = g) w w' := by
  subst h1 h2; exact h
def LD (w : World) (g gr room len : Nat) (s : Value) (wr : World) : Prop :=
  ∃ (k : Nat) (vs rvs : List Value) (d : Pd), s = .int .i64 (k : Int) ∧ k ≤ len ∧ DD wr g gr room vs rvs d d ∧ OkP room d ∧ (∀ j, DS g vs j → w.heap.size ≤ j) ∧ Below w.heap.size w wr
theorem readP_len {room : Nat} {d : Pd} (hok : OkP room d) (x : Int) : (readP d x).1.length ≤ 1048576 := by
  unfold readP
  split
  · rename_i hx
    obtain ⟨f, hf, _, e⟩ := hok.f.get hx
    rw [e]
    have := totF_mem hf
    have := hok.2.1
    have := hok.1
    simp only
    omega
  · simp
set_option maxRecDepth 100000 in
set_option maxHeartbeats 24000000 in
theorem DiskDoes_walk (w : World) (room : Int) (hroom : (Lit.int .i64 room).wf = true) (A : Option Addr) (len cap : Nat) (ys : List DAct) (hn : ys.length = len) (hlc : len ≤ cap) (hcm : cap ≤ maxLen) (hr : Acts8 w w.heap.size A ys) :
    Calls Try.prog 3 #[.int .i64 room, .slice A len cap] w (TrueD w) := by
  have HN := Lib.hid hn; have HLC := Lib.hid hlc; have HCM := Lib.hid hcm; have HR := Lib.hid hr
  have hcm' : cap ≤ 9223372036854775807 := hcm
  clear hn hr hcm hroom
  go_enter Try.func3, Try.ntmps3
  go_wp2_with fail
  refine (awake8_any w).mono ?_
  rintro en w1 ⟨rfl, hb1⟩
  have B1 := Lib.hid hb1; clear hb1
  go_wp2_with fail
  refine (large8_any w1 A len cap ys (Acts8.step HR.out B1.out) HN.out HLC.out HCM.out).mono ?_
  rintro en w2 ⟨⟨lb, rfl, hfine⟩, hb2⟩
  have B2 := Lib.hid (B1.out.trans (hb2.mono B1.out.size)); have HFI := Lib.hid hfine
  clear hb2 hfine
  cases lb with
  | true =>
    have HP := Lib.hid (show TrueD w (.returned (.bool true)) w2 from ⟨rfl, B2.out⟩)
    go_wp2
    go_ret
    exact HP.out
  | false =>
    obtain ⟨h60, hsh⟩ := HFI.out rfl
    have HSH := Lib.hid hsh
    have hl60 : len ≤ 60 := by rw [← HN.out]; exact h60
    clear hsh HFI h60
    by_cases hrm : room < 0 ∨ 1048576 < room
    · have HP := Lib.hid (show TrueD w (.returned (.bool true)) w2 from ⟨rfl, B2.out⟩)
      have H1 := Lib.hid (DNew_no w2 room hrm); have H2 := Lib.hid (RNew_no w2 room hrm)
      clear hrm
      go_wp2_with fail
      refine H1.out.mono ?_
      rintro en w3 ⟨rfl, hw⟩
      rw [hw]; clear hw w3
      go_wp2_with fail
      refine H2.out.mono ?_
      rintro en w3 ⟨rfl, hw⟩
      rw [hw]; clear hw w3
      go_wp2
      go_ret
      exact HP.out
    obtain ⟨rm, rfl⟩ : ∃ rm : Nat, room = (rm : Int) := ⟨room.toNat, by omega⟩
    have hrm20 : rm ≤ 1048576 := by omega
    clear hrm
    go_wp2_with fail
    refine (DNew_any w2 rm hrm20).mono ?_
    rintro en w3 ⟨rfl, hd3, hb3⟩
    have HD3 := Lib.hid hd3; have HB3 := Lib.hid hb3
    clear hd3 hb3
    go_wp2_with fail
    refine (RNew_any w3 rm hrm20).mono ?_
    rintro en w4 ⟨rfl, hr4, hb4⟩
    have hdd := DD.new HD3.out hr4 hb4
    have HB4 := Lib.hid (B2.out.trans ((HB3.out.trans (hb4.mono HB3.out.size)).mono B2.out.size))
    have HGR : Hid (w.heap.size ≤ w3.heap.size) := Lib.hid (Nat.le_trans B2.out.size HB3.out.size)
    have HG : Hid (w.heap.size ≤ w2.heap.size) := Lib.hid B2.out.size
    obtain ⟨g, hg⟩ : ∃ g, g = w2.heap.size := ⟨_, rfl⟩
    obtain ⟨gr, hgr⟩ : ∃ gr, gr = w3.heap.size := ⟨_, rfl⟩
    rw [← hg, ← hgr] at hdd
    rw [← hg] at HG
    rw [← hgr] at HGR
    rw [← hg, ← hgr]
    have START := Lib.hid (show LD w g gr rm len (.int .i64 0) w4 from ⟨0, vs0, vs0, _, rfl, Nat.zero_le _, hdd, ok_new hrm20, fun j hj => Nat.le_trans B2.out.size (by rw [hg] at hj; exact DS_new w2 j hj), HB4.out⟩)
    clear hdd hr4 hb4 hg hgr HD3 HB3 HB4 B1 B2
    go_wp2
    go_loopw [45] (fun s45 wr => LD w g gr rm len s45 wr) (fun s45 _ => len - (intOf s45).toNat)
    case atStart => exact START.out
    case round =>
      clear START
      obtain ⟨k, vs, rvs, d, rfl, hk, hdd, hok, hS, hbel⟩ := hrel
      have HB := Lib.hid hbel; have D0 := Lib.hid hdd; have OK := Lib.hid hok; have AS := Lib.hid hS
      by_cases hlt : k < len
      · obtain ⟨ga, o, a, Ab, cb, Ak, ck, rfl, hga, hp, ⟨d0, d1, d2, d3, d4⟩, hrb, hbc, hbn, hb256, hrk, hn64⟩ := Acts8.row (Acts8.below HR.out hbel) (k := k) (by rw [HN.out]; exact hlt)
        have hgw : ga < wr.heap.size := World.block_lt_of_cell? _ _ d0
        have hltI : (k : Int) < (len : Int) := by omega
        have hl3 := HSH.out k _ hp
        obtain ⟨nb, hnb⟩ : ∃ q, a.bs.length = q := ⟨_, rfl⟩
        obtain ⟨nk, hnk⟩ : ∃ q, a.ks.length = q := ⟨_, rfl⟩
        rw [hnb] at d3 hbc
        rw [hnk] at d4
        have hnk60 : nk ≤ 60 := by rw [← hnk]; exact hl3.2
        have HDO := fun W (hW : Below wr.heap.size wr W) => Lib.hid (do8_any W g rm vs d a Ab Ak cb ck nb nk w.heap.size (DskM.below D0.out.1 hW) OK.out hnb hnk (hrb.below (hW.mono HB.out.size)) (Nat.le_trans HB.out.size hW.size) hbc hbn (hrk.below (hW.mono HB.out.size)) hnk60 (Rd.ne_of hrk HG.out))
        have OKN := Lib.hid (OK.out.act (a := a) ⟨hb256, hn64, by omega⟩)
        obtain ⟨n, hnn⟩ : ∃ n, ((doP rm d a).2 : Int) = n := ⟨_, rfl⟩
        have HNN := Lib.hid hnn; have HNB := Lib.hid hnb; have HNK := Lib.hid hnk; have H256 := Lib.hid hb256
        have HRB := Lib.hid hrb; have HRK := Lib.hid hrk; have HBN := Lib.hid hbn
        have HLT := Lib.hid hlt
        have hb := (Below.refl wr.heap.size wr).alloc (Nat.le_refl _) (.cells #[.int .i64 a.k, .int .i64 a.x, .int .i64 a.n, .slice Ab nb cb, .slice Ak nk ck] 35)
        have HBA := Lib.hid hb
        have KA : Hid (Blk (wr.alloc (.cells #[.int .i64 a.k, .int .i64 a.x, .int .i64 a.n, .slice Ab nb cb, .slice Ak nk ck] 35)) wr.heap.size 35 #[.int .i64 a.k, .int .i64 a.x, .int .i64 a.n, .slice Ab nb cb, .slice Ak nk ck]) := Lib.hid (Blk.new _ _ _)
        clear hb hdd hok hS hbel hrb hrk hbn hnb hnk hl3 hp hk hlt hnn hb256
        go_wp2_with fail
        generalize hW : wr.alloc (.cells #[.int .i64 a.k, .int .i64 a.x, .int .i64 a.n, .slice Ab nb cb, .slice Ak nk ck] 35) = w4
        rw [hW] at HBA KA
        clear hW
        have D4 := Lib.hid (D0.out.below HBA.out)
        refine (HDO _ HBA.out).out.mono ?_
        intro en w5 hres
        obtain ⟨rfl, vs5, hd5, hT⟩ := DRes_at hres rfl HNN.out
        have BB4 := Lib.hid (HB.out.trans (HBA.out.mono HB.out.size))
        have D5 := Lib.hid (D4.out.prog hd5 hT); have AS5 := Lib.hid (hT.1.above BB4.out.size AS.out); have B5 := Lib.hid (BB4.out.trans (hT.2.to_below BB4.out.size AS.out))
        have KA5 := Lib.hid (hT.2.blk KA.out (fun h => by have := DskM.lt D0.out.1 _ h; omega))
        have HRB5 : Hid (Rd w5 w.heap.size Ab (u8s a.bs)) := Lib.hid (HRB.out.below ((HBA.out.mono HB.out.size).trans (hT.2.to_below BB4.out.size AS.out)))
        have HRK5 : Hid (Rd w5 w.heap.size Ak (i64i a.ks)) := Lib.hid (HRK.out.below ((HBA.out.mono HB.out.size).trans (hT.2.to_below BB4.out.size AS.out)))
        have HQ : Hid (wr.heap.size ≠ gr) := Lib.hid (by have := D0.out.2.1.lt; omega)
        obtain ⟨dN, hdN⟩ : ∃ dN, dN = (doP rm d a).1 := ⟨_, rfl⟩
        rw [← hdN] at D5 OKN
        have HDN := Lib.hid hdN
        clear hres hd5 hT HDO hdN D4 KA
        have k0 := KA5.out.cell 0
        have k1 := KA5.out.cell 1
        have k2 := KA5.out.cell 2
        have k3 := KA5.out.cell 3
        have k4 := KA5.out.cell 4
        simp at k0 k1 k2 k3 k4
        have kl := KA5.out.lt
        obtain ⟨q, hq⟩ : ∃ q, wr.heap.size = q := ⟨_, rfl⟩
        rw [hq] at KA5 HQ k0 k1 k2 k3 k4 kl
        try rw [hq]
        clear hq
        by_cases hq0 : a.k = 0
        · have HDN2 := Lib.hid (doP0 rm d a hq0)
          rw [hq0] at k0
          rw [HDN2.out] at HDN HNN
          go_wp2_with fail
          refine (RAppend_any w5 _ gr rm rvs d a.x Ab nb cb w.heap.size a.bs D5.out.2.1 D5.out.slt OK.out HRB5.out B5.out.size HGR.out HBN.out hbc HNB.out H256.out).mono ?_
          intro en w6 hres
          obtain ⟨rfl, rvs6, hr6, hO⟩ := RRes_at hres HDN.out.symm HNN.out
          clear hres
          have B6 := Lib.hid (B5.out.trans (hO.to_below B5.out.size (fun j hj => by have := HGR.out; omega)))
          have D6 := Lib.hid (D5.out.doc hr6 hO)
          have KA6 := Lib.hid (hO.blk KA5.out HQ.out)
          clear hr6 hO k0 k1 k2 k3 k4 kl
          have k1 := KA6.out.cell 1
          simp at k1
          have kl := KA6.out.lt
          obtain ⟨⟨rb, re⟩, hrd⟩ : ∃ r, readP dN a.x = r := ⟨_, rfl⟩
          have hm20 := readP_len OKN.out a.x
          rw [hrd] at hm20
          simp only at hm20
          have HRD := Lib.hid hrd
          obtain ⟨m, hm⟩ : ∃ m, rb.length = m := ⟨_, rfl⟩
          rw [hm] at hm20
          have HM := Lib.hid hm
          clear hrd hm
          go_wp2_with fail
          refine (DRead_any w6 g rm vs5 dN a.x D6.out.1 OKN.out).mono ?_
          rintro en w7 ⟨vB, rfl, hm7, hf7, hb7⟩
          rw [HRD.out] at hm7 ⊢
          simp only at hm7
          rw [HM.out] at hm7
          obtain ⟨AB, CB, rfl, -⟩ := id hm7
          have D7 := Lib.hid (D6.out.below hb7); have B7 := Lib.hid (B6.out.trans (hb7.mono B6.out.size)); have KA7 := Lib.hid (KA6.out.below hb7 KA6.out.lt); have MB7 := Lib.hid hm7.rd_ofD
          clear hm7 hf7 hb7 k1 kl
          have k1 := KA7.out.cell 1
          simp at k1
          have kl := KA7.out.lt
          go_wp2_with fail
          refine (RRead_any w7 _ gr rm rvs6 dN a.x D7.out.2.1 OKN.out).mono ?_
          rintro en w8 ⟨vC, rfl, hm8, hf8, hb8⟩
          rw [HRD.out] at hm8 ⊢
          simp only at hm8
          rw [HM.out] at hm8
          obtain ⟨AC, CC, rfl, -⟩ := id hm8
          have D8 := Lib.hid (D7.out.below hb8); have B8 := Lib.hid (B7.out.trans (hb8.mono B7.out.size)); have KA8 := Lib.hid (KA7.out.below hb8 KA7.out.lt); have MB8 := Lib.hid ((MB7.out.below hb8).more hb8.size); have MC8 := Lib.hid hm8.rd_ofD
          clear hm8 hf8 hb8 k1 kl
          obtain ⟨nf, hnf⟩ : ∃ q, (filesK dN.1 64).length = q := ⟨_, rfl⟩
          have hnf64 : nf ≤ 64 := by rw [← hnf]; exact filesK_len _ _
          obtain ⟨fl, hfl⟩ : ∃ q, filesK dN.1 64 = q := ⟨_, rfl⟩
          have HFL := Lib.hid hfl
          have HNF := Lib.hid (show fl.length = nf by rw [← hfl]; exact hnf)
          obtain ⟨dn, hdn⟩ : ∃ q, dN.2.1 = q := ⟨_, rfl⟩
          have HDNN := Lib.hid hdn
          obtain ⟨su, hsu⟩ : ∃ q, sureF dN.1 a.x = q := ⟨_, rfl⟩
          have HSU := Lib.hid hsu
          obtain ⟨lf, hlf⟩ : ∃ q, rm - totF dN.1 = q := ⟨_, rfl⟩
          have HLF := Lib.hid hlf
          clear hnf hfl hdn hsu hlf
          have HPRE : Hid (∀ wa, Below w8.heap.size w8 wa → q < wa.heap.size ∧ wa.cell? ⟨q, 1, none⟩ = some (.int .i64 a.x) ∧ wa.cell? ⟨gr, 130, none⟩ = some (.bool dn) ∧ gr < wa.heap.size) := Lib.hid (fun wa hB => by
            have kr := KA8.out.below hB KA8.out.lt
            have kr1 := kr.cell 1
            simp at kr1
            have rr := D8.out.2.1.below hB
            have rr0 := rr.dn0
            rw [HDNN.out] at rr0
            exact ⟨kr.lt, kr1, rr0, rr.lt⟩)
          go_wp2_with fail
          refine Inv.region_below (fun i v w' => match i with
              | 0 => v = .int .i64 n
              | 1 => v = .int .i64 n
              | 2 => v = .bool false
              | 3 => v = .bool false
              | 4 => v = .slice AB m CB
              | 5 => v = .slice AC m CC
              | 6 => v = .bool true
              | 7 => v = .bool false
              | 8 => v = .bool false
              | 9 => v = .bool false
              | 10 => v = .int .i64 (re : Int)
              | 11 => v = .int .i64 (re : Int)
              | 12 => v = .bool false
              | 13 => v = .bool false
              | 14 => v = .bool false
              | 15 => v = .pointer (some ⟨g, 0, none⟩)
              | 16 => v = .pointer (some ⟨q, 1, none⟩)
              | 17 => v = .int .i64 a.x
              | 18 => v = .int .i64 (su : Int)
              | 19 => v = .pointer (some ⟨gr, 0, none⟩)
              | 20 => v = .pointer (some ⟨q, 1, none⟩)
              | 21 => v = .int .i64 a.x
              | 22 => v = .int .i64 (su : Int)
              | 23 => v = .bool false
              | 24 => v = .bool false
              | 25 => v = .bool false
              | 26 => v = .pointer (some ⟨g, 0, none⟩)
              | 27 => v = .int .i64 (lf : Int)
              | 28 => v = .pointer (some ⟨gr, 0, none⟩)
              | 29 => v = .int .i64 (lf : Int)
              | 30 => v = .bool false
              | 31 => v = .bool false
              | 32 => v = .bool false
              | 33 => v = .pointer (some ⟨g, 0, none⟩)
              | 34 => v = .bool dn
              | 35 => v = .pointer (some ⟨gr, 0, none⟩)
              | 36 => v = .pointer (some ⟨gr, 0, none⟩)
              | 37 => v = .pointer (some ⟨gr, 130, none⟩)
              | 38 => v = .bool dn
              | 39 => v = .bool false
              | 40 => v = .bool false
              | 41 => v = .bool false
              | 42 => v = .pointer (some ⟨g, 0, none⟩)
              | 43 => ∃ A c, v = .slice A nf c ∧ Rd w' w'.heap.size A (i64n fl)
              | 44 => v = .pointer (some ⟨gr, 0, none⟩)
              | 45 => ∃ A c, v = .slice A nf c ∧ Rd w' w'.heap.size A (i64n fl)
              | 46 => v = .bool true
              | 47 => v = .bool false
              | 48 => v = .bool false
              | _ => True)
            (fun w' => Below w8.heap.size w8 w' ∧ True) 152 [102, 103, 104, 105, 106, 107, 108, 109, 110, 111, 112, 113, 114, 115, 116, 117, 118, 119, 120, 121, 122, 123, 124, 125, 126, 127, 128, 129, 130, 131, 132, 133, 134, 135, 136, 137, 138, 139, 140, 141, 142, 143, 144, 145, 146, 147, 148, 149, 150] (by kernel_rfl) rfl (by kernel_rfl) (by kernel_rfl) ?_ ?_ ?_ ?_
          · intro v v' hC hb
            obtain ⟨hB, -⟩ := hC
            exact ⟨hB.trans (hb.mono hB.size), trivial⟩
          · exact ⟨(Below.refl _ _).drew, trivial⟩
          · refine ⟨⟨fun _ _ _ h _ => h, ?_⟩, ⟨fun _ _ _ h _ => h, ?_⟩, ⟨fun _ _ _ h _ => h, ?_⟩, ⟨fun _ _ _ h _ => h, ?_⟩, ⟨fun _ _ _ h _ => h, ?_⟩, ⟨fun _ _ _ h _ => h, ?_⟩, ⟨fun _ _ _ h _ => h, ?_⟩, ⟨fun _ _ _ h _ => h, ?_⟩, ⟨fun _ _ _ h _ => h, ?_⟩, ⟨fun _ _ _ h _ => h, ?_⟩, ⟨fun _ _ _ h _ => h, ?_⟩, ⟨fun _ _ _ h _ => h, ?_⟩, ⟨fun _ _ _ h _ => h, ?_⟩, ⟨fun _ _ _ h _ => h, ?_⟩, ⟨fun _ _ _ h _ => h, ?_⟩, ⟨fun _ _ _ h _ => h, ?_⟩, ⟨fun _ _ _ h _ => h, ?_⟩, ⟨fun _ _ _ h _ => h, ?_⟩, ⟨fun _ _ _ h _ => h, ?_⟩, ⟨fun _ _ _ h _ => h, ?_⟩, ⟨fun _ _ _ h _ => h, ?_⟩, ⟨fun _ _ _ h _ => h, ?_⟩, ⟨fun _ _ _ h _ => h, ?_⟩, ⟨fun _ _ _ h _ => h, ?_⟩, ⟨fun _ _ _ h _ => h, ?_⟩, ⟨fun _ _ _ h _ => h, ?_⟩, ⟨fun _ _ _ h _ => h, ?_⟩, ⟨fun _ _ _ h _ => h, ?_⟩, ⟨fun _ _ _ h _ => h, ?_⟩, ⟨fun _ _ _ h _ => h, ?_⟩, ⟨fun _ _ _ h _ => h, ?_⟩, ⟨fun _ _ _ h _ => h, ?_⟩, ⟨fun _ _ _ h _ => h, ?_⟩, ⟨fun _ _ _ h _ => h, ?_⟩, ⟨fun _ _ _ h _ => h, ?_⟩, ⟨fun _ _ _ h _ => h, ?_⟩, ⟨fun _ _ _ h _ => h, ?_⟩, ⟨fun _ _ _ h _ => h, ?_⟩, ⟨fun _ _ _ h _ => h, ?_⟩, ⟨fun _ _ _ h _ => h, ?_⟩, ⟨fun _ _ _ h _ => h, ?_⟩, ⟨fun _ _ _ h _ => h, ?_⟩, ⟨fun _ _ _ h _ => h, ?_⟩, ⟨fun v w w' ⟨A, c, h1, h2⟩ hb => ⟨A, c, h1, (h2.below hb).more hb.size⟩, ?_⟩, ⟨fun _ _ _ h _ => h, ?_⟩, ⟨fun v w w' ⟨A, c, h1, h2⟩ hb => ⟨A, c, h1, (h2.below hb).more hb.size⟩, ?_⟩, ⟨fun _ _ _ h _ => h, ?_⟩, ⟨fun _ _ _ h _ => h, ?_⟩, ⟨fun _ _ _ h _ => h, ?_⟩, trivial⟩
            · intro act wa hC hd H O K hK
              clear hd
              obtain ⟨hB, -⟩ := hC
              have h11 := O 11 (by kernel_rfl)
              have g11 := Array.getD_eq_getD_getElem?.symm.trans h11
              clear H O
              obtain ⟨krl, kr1, rr0, rrl⟩ := HPRE.out wa hB
              go_simp
              exact hK _ _ (Below.refl _ _) (fun _ => rfl)
            · intro act wa hC hd H O K hK
              clear hd
              obtain ⟨hB, -⟩ := hC
              have h12 := O 12 (by kernel_rfl)
              have g12 := Array.getD_eq_getD_getElem?.symm.trans h12
              clear H O
              obtain ⟨krl, kr1, rr0, rrl⟩ := HPRE.out wa hB
              go_simp
              exact hK _ _ (Below.refl _ _) (fun _ => rfl)
            · intro act wa hC hd H O K hK
              clear hd
              obtain ⟨hB, -⟩ := hC
              have h102 : act.tmps.getD 102 undef = .int .i64 n := H 1 0 102 (by kernel_rfl) rfl
              have g102 := Array.getD_eq_getD_getElem?.symm.trans h102
              have h103 : act.tmps.getD 103 undef = .int .i64 n := H 1 1 103 (by kernel_rfl) rfl
              have g103 := Array.getD_eq_getD_getElem?.symm.trans h103
              clear H O
              obtain ⟨krl, kr1, rr0, rrl⟩ := HPRE.out wa hB
              go_simp
              exact hK _ _ (Below.refl _ _) (fun _ => rfl)
            · intro act wa hC hd H O K hK
              clear hd
              obtain ⟨hB, -⟩ := hC
              have h104 : act.tmps.getD 104 undef = .bool false := H 1 2 104 (by kernel_rfl) rfl
              have g104 := Array.getD_eq_getD_getElem?.symm.trans h104
              clear H O
              obtain ⟨krl, kr1, rr0, rrl⟩ := HPRE.out wa hB
              go_simp
              exact hK _ _ (Below.refl _ _) (fun _ => rfl)
            · intro act wa hC hd H O K hK
              clear hd
              obtain ⟨hB, -⟩ := hC
              have h13 := O 13 (by kernel_rfl)
              have g13 := Array.getD_eq_getD_getElem?.symm.trans h13
              have h105 : act.tmps.getD 105 undef = .bool false := H 1 3 105 (by kernel_rfl) rfl
              have g105 := Array.getD_eq_getD_getElem?.symm.trans h105
              have k105 := Inv.some_bool g105
              clear H O
              obtain ⟨krl, kr1, rr0, rrl⟩ := HPRE.out wa hB
              go_simp
              exact hK _ _ (Below.refl _ _) (fun _ => rfl)
            · intro act wa hC hd H O K hK
              clear hd
              obtain ⟨hB, -⟩ := hC
              have h15 := O 15 (by kernel_rfl)
              have g15 := Array.getD_eq_getD_getElem?.symm.trans h15
              have h105 : act.tmps.getD 105 undef = .bool false := H 1 3 105 (by kernel_rfl) rfl
              have g105 := Array.getD_eq_getD_getElem?.symm.trans h105
              have k105 := Inv.some_bool g105
              clear H O
              obtain ⟨krl, kr1, rr0, rrl⟩ := HPRE.out wa hB
              go_simp
              exact hK _ _ (Below.refl _ _) (fun _ => rfl)
            · intro act wa hC hd H O K hK
              clear hd
              obtain ⟨hB, -⟩ := hC
              have h106 : act.tmps.getD 106 undef = .slice AB m CB := H 1 4 106 (by kernel_rfl) rfl
              have g106 := Array.getD_eq_getD_getElem?.symm.trans h106
              have h107 : act.tmps.getD 107 undef = .slice AC m CC := H 1 5 107 (by kernel_rfl) rfl
              have g107 := Array.getD_eq_getD_getElem?.symm.trans h107
              have h105 : act.tmps.getD 105 undef = .bool false := H 1 3 105 (by kernel_rfl) rfl
              have g105 := Array.getD_eq_getD_getElem?.symm.trans h105
              have k105 := Inv.some_bool g105
              clear H O
              obtain ⟨krl, kr1, rr0, rrl⟩ := HPRE.out wa hB
              go_simp
              refine (same_at wa AB AC CB CC rb rb _ _ m m true (MB8.out.below hB) (MC8.out.below hB) (by rw [HM.out]; unfold maxLen; omega) HM.out HM.out (by simp)).mono ?_
              rintro e1 w1 ⟨rfl, q9, hq9⟩
              have hb : Below wa.heap.size wa w1 := by rw [hq9]; exact below_drewN (Below.refl _ _) q9
              exact hK _ _ hb (fun _ => rfl)
            · intro act wa hC hd H O K hK
              clear hd
              obtain ⟨hB, -⟩ := hC
              have h108 : act.tmps.getD 108 undef = .bool true := H 1 6 108 (by kernel_rfl) rfl
              have g108 := Array.getD_eq_getD_getElem?.symm.trans h108
              have h105 : act.tmps.getD 105 undef = .bool false := H 1 3 105 (by kernel_rfl) rfl
              have g105 := Array.getD_eq_getD_getElem?.symm.trans h105
              have k105 := Inv.some_bool g105
              clear H O
              obtain ⟨krl, kr1, rr0, rrl⟩ := HPRE.out wa hB
              go_simp
              exact hK _ _ (Below.refl _ _) (fun _ => rfl)
            · intro act wa hC hd H O K hK
              clear hd
              obtain ⟨hB, -⟩ := hC
              have h105 : act.tmps.getD 105 undef = .bool false := H 1 3 105 (by kernel_rfl) rfl
              have g105 := Array.getD_eq_getD_getElem?.symm.trans h105
              have h109 : act.tmps.getD 109 undef = .bool false := H 1 7 109 (by kernel_rfl) rfl
              have g109 := Array.getD_eq_getD_getElem?.symm.trans h109
              clear H O
              obtain ⟨krl, kr1, rr0, rrl⟩ := HPRE.out wa hB
              go_simp
              exact hK _ _ (Below.refl _ _) (fun _ => rfl)
            · intro act wa hC hd H O K hK
              clear hd
              obtain ⟨hB, -⟩ := hC
              have h110 : act.tmps.getD 110 undef = .bool false := H 1 8 110 (by kernel_rfl) rfl
              have g110 := Array.getD_eq_getD_getElem?.symm.trans h110
              clear H O
              obtain ⟨krl, kr1, rr0, rrl⟩ := HPRE.out wa hB
              go_simp
              exact hK _ _ (Below.refl _ _) (fun _ => rfl)
            · intro act wa hC hd H O K hK
              clear hd
              obtain ⟨hB, -⟩ := hC
              have h14 := O 14 (by kernel_rfl)
              have g14 := Array.getD_eq_getD_getElem?.symm.trans h14
              have h111 : act.tmps.getD 111 undef = .bool false := H 1 9 111 (by kernel_rfl) rfl
              have g111 := Array.getD_eq_getD_getElem?.symm.trans h111
              have k111 := Inv.some_bool g111
              clear H O
              obtain ⟨krl, kr1, rr0, rrl⟩ := HPRE.out wa hB
              go_simp
              exact hK _ _ (Below.refl _ _) (fun _ => rfl)
            · intro act wa hC hd H O K hK
              clear hd
              obtain ⟨hB, -⟩ := hC
              have h16 := O 16 (by kernel_rfl)
              have g16 := Array.getD_eq_getD_getElem?.symm.trans h16
              have h111 : act.tmps.getD 111 undef = .bool false := H 1 9 111 (by kernel_rfl) rfl
              have g111 := Array.getD_eq_getD_getElem?.symm.trans h111
              have k111 := Inv.some_bool g111
              clear H O
              obtain ⟨krl, kr1, rr0, rrl⟩ := HPRE.out wa hB
              go_simp
              exact hK _ _ (Below.refl _ _) (fun _ => rfl)
            · intro act wa hC hd H O K hK
              clear hd
              obtain ⟨hB, -⟩ := hC
              have h112 : act.tmps.getD 112 undef = .int .i64 (re : Int) := H 1 10 112 (by kernel_rfl) rfl
              have g112 := Array.getD_eq_getD_getElem?.symm.trans h112
              have h113 : act.tmps.getD 113 undef = .int .i64 (re : Int) := H 1 11 113 (by kernel_rfl) rfl
              have g113 := Array.getD_eq_getD_getElem?.symm.trans h113
              have h111 : act.tmps.getD 111 undef = .bool false := H 1 9 111 (by kernel_rfl) rfl
              have g111 := Array.getD_eq_getD_getElem?.symm.trans h111
              have k111 := Inv.some_bool g111
              clear H O
              obtain ⟨krl, kr1, rr0, rrl⟩ := HPRE.out wa hB
              go_simp
              exact hK _ _ (Below.refl _ _) (fun _ => rfl)
            · intro act wa hC hd H O K hK
              clear hd
              obtain ⟨hB, -⟩ := hC
              have h111 : act.tmps.getD 111 undef = .bool false := H 1 9 111 (by kernel_rfl) rfl
              have g111 := Array.getD_eq_getD_getElem?.symm.trans h111
              have h114 : act.tmps.getD 114 undef = .bool false := H 1 12 114 (by kernel_rfl) rfl
              have g114 := Array.getD_eq_getD_getElem?.symm.trans h114
              clear H O
              obtain ⟨krl, kr1, rr0, rrl⟩ := HPRE.out wa hB
              go_simp
              exact hK _ _ (Below.refl _ _) (fun _ => rfl)
            · intro act wa hC hd H O K hK
              clear hd
              obtain ⟨hB, -⟩ := hC
              have h115 : act.tmps.getD 115 undef = .bool false := H 1 13 115 (by kernel_rfl) rfl
              have g115 := Array.getD_eq_getD_getElem?.symm.trans h115
              clear H O
              obtain ⟨krl, kr1, rr0, rrl⟩ := HPRE.out wa hB
              go_simp
              exact hK _ _ (Below.refl _ _) (fun _ => rfl)
            · intro act wa hC hd H O K hK
              clear hd
              obtain ⟨hB, -⟩ := hC
              have h5 := O 5 (by kernel_rfl)
              have g5 := Array.getD_eq_getD_getElem?.symm.trans h5
              have h116 : act.tmps.getD 116 undef = .bool false := H 1 14 116 (by kernel_rfl) rfl
              have g116 := Array.getD_eq_getD_getElem?.symm.trans h116
              have k116 := Inv.some_bool g116
              clear H O
              obtain ⟨krl, kr1, rr0, rrl⟩ := HPRE.out wa hB
              go_simp
              exact hK _ _ (Below.refl _ _) (fun _ => rfl)
            · intro act wa hC hd H O K hK
              clear hd
              obtain ⟨hB, -⟩ := hC
              have h10 := O 10 (by kernel_rfl)
              have g10 := Array.getD_eq_getD_getElem?.symm.trans h10
              have h116 : act.tmps.getD 116 undef = .bool false := H 1 14 116 (by kernel_rfl) rfl
              have g116 := Array.getD_eq_getD_getElem?.symm.trans h116
              have k116 := Inv.some_bool g116
              clear H O
              obtain ⟨krl, kr1, rr0, rrl⟩ := HPRE.out wa hB
              go_simp
              exact hK _ _ (Below.refl _ _) (fun _ => rfl)
            · intro act wa hC hd H O K hK
              clear hd
              obtain ⟨hB, -⟩ := hC
              have h118 : act.tmps.getD 118 undef = .pointer (some ⟨q, 1, none⟩) := H 1 16 118 (by kernel_rfl) rfl
              have g118 := Array.getD_eq_getD_getElem?.symm.trans h118
              have h116 : act.tmps.getD 116 undef = .bool false := H 1 14 116 (by kernel_rfl) rfl
              have g116 := Array.getD_eq_getD_getElem?.symm.trans h116
              have k116 := Inv.some_bool g116
              clear H O
              obtain ⟨krl, kr1, rr0, rrl⟩ := HPRE.out wa hB
              go_simp
              exact hK _ _ (Below.refl _ _) (fun _ => rfl)
            · intro act wa hC hd H O K hK
              clear hd
              obtain ⟨hB, -⟩ := hC
              have h117 : act.tmps.getD 117 undef = .pointer (some ⟨g, 0, none⟩) := H 1 15 117 (by kernel_rfl) rfl
              have g117 := Array.getD_eq_getD_getElem?.symm.trans h117
              have h119 : act.tmps.getD 119 undef = .int .i64 a.x := H 1 17 119 (by kernel_rfl) rfl
              have g119 := Array.getD_eq_getD_getElem?.symm.trans h119
              have h116 : act.tmps.getD 116 undef = .bool false := H 1 14 116 (by kernel_rfl) rfl
              have g116 := Array.getD_eq_getD_getElem?.symm.trans h116
              have k116 := Inv.some_bool g116
              clear H O
              obtain ⟨krl, kr1, rr0, rrl⟩ := HPRE.out wa hB
              go_simp
              refine (DSure_any wa g rm vs5 _ _ _ _ a.x (DskM.below D8.out.1 hB)).mono ?_
              rintro e1 w1 ⟨rfl, q9, hq9⟩
              rw [HSU.out]
              have hb : Below wa.heap.size wa w1 := by rw [hq9]; exact below_drewN (Below.refl _ _) q9
              exact hK _ _ hb (fun _ => rfl)
            · intro act wa hC hd H O K hK
              clear hd
              obtain ⟨hB, -⟩ := hC
              have h7 := O 7 (by kernel_rfl)
              have g7 := Array.getD_eq_getD_getElem?.symm.trans h7
              have h116 : act.tmps.getD 116 undef = .bool false := H 1 14 116 (by kernel_rfl) rfl
              have g116 := Array.getD_eq_getD_getElem?.symm.trans h116
              have k116 := Inv.some_bool g116
              clear H O
              obtain ⟨krl, kr1, rr0, rrl⟩ := HPRE.out wa hB
              go_simp
              exact hK _ _ (Below.refl _ _) (fun _ => rfl)
            · intro act wa hC hd H O K hK
              clear hd
              obtain ⟨hB, -⟩ := hC
              have h10 := O 10 (by kernel_rfl)
              have g10 := Array.getD_eq_getD_getElem?.symm.trans h10
              have h116 : act.tmps.getD 116 undef = .bool false := H 1 14 116 (by kernel_rfl) rfl
              have g116 := Array.getD_eq_getD_getElem?.symm.trans h116
              have k116 := Inv.some_bool g116
              clear H O
              obtain ⟨krl, kr1, rr0, rrl⟩ := HPRE.out wa hB
              go_simp
              exact hK _ _ (Below.refl _ _) (fun _ => rfl)
            · intro act wa hC hd H O K hK
              clear hd
              obtain ⟨hB, -⟩ := hC
              have h122 : act.tmps.getD 122 undef = .pointer (some ⟨q, 1, none⟩) := H 1 20 122 (by kernel_rfl) rfl
              have g122 := Array.getD_eq_getD_getElem?.symm.trans h122
              have h116 : act.tmps.getD 116 undef = .bool false := H 1 14 116 (by kernel_rfl) rfl
              have g116 := Array.getD_eq_getD_getElem?.symm.trans h116
              have k116 := Inv.some_bool g116
              clear H O
              obtain ⟨krl, kr1, rr0, rrl⟩ := HPRE.out wa hB
              go_simp
              exact hK _ _ (Below.refl _ _) (fun _ => rfl)
            · intro act wa hC hd H O K hK
              clear hd
              obtain ⟨hB, -⟩ := hC
              have h121 : act.tmps.getD 121 undef = .pointer (some ⟨gr, 0, none⟩) := H 1 19 121 (by kernel_rfl) rfl
              have g121 := Array.getD_eq_getD_getElem?.symm.trans h121
              have h123 : act.tmps.getD 123 undef = .int .i64 a.x := H 1 21 123 (by kernel_rfl) rfl
              have g123 := Array.getD_eq_getD_getElem?.symm.trans h123
              have h116 : act.tmps.getD 116 undef = .bool false := H 1 14 116 (by kernel_rfl) rfl
              have g116 := Array.getD_eq_getD_getElem?.symm.trans h116
              have k116 := Inv.some_bool g116
              clear H O
              obtain ⟨krl, kr1, rr0, rrl⟩ := HPRE.out wa hB
              go_simp
              refine (RSure_any wa _ gr rm rvs6 dN a.x (D8.out.2.1.below hB)).mono ?_
              rintro e1 w1 ⟨rfl, q9, hq9⟩
              rw [HSU.out]
              have hb : Below wa.heap.size wa w1 := by rw [hq9]; exact below_drewN (Below.refl _ _) q9
              exact hK _ _ hb (fun _ => rfl)
            · intro act wa hC hd H O K hK
              clear hd
              obtain ⟨hB, -⟩ := hC
              have h120 : act.tmps.getD 120 undef = .int .i64 (su : Int) := H 1 18 120 (by kernel_rfl) rfl
              have g120 := Array.getD_eq_getD_getElem?.symm.trans h120
              have h124 : act.tmps.getD 124 undef = .int .i64 (su : Int) := H 1 22 124 (by kernel_rfl) rfl
              have g124 := Array.getD_eq_getD_getElem?.symm.trans h124
              have h116 : act.tmps.getD 116 undef = .bool false := H 1 14 116 (by kernel_rfl) rfl
              have g116 := Array.getD_eq_getD_getElem?.symm.trans h116
              have k116 := Inv.some_bool g116
              clear H O
              obtain ⟨krl, kr1, rr0, rrl⟩ := HPRE.out wa hB
              go_simp
              exact hK _ _ (Below.refl _ _) (fun _ => rfl)
            · intro act wa hC hd H O K hK
              clear hd
              obtain ⟨hB, -⟩ := hC
              have h116 : act.tmps.getD 116 undef = .bool false := H 1 14 116 (by kernel_rfl) rfl
              have g116 := Array.getD_eq_getD_getElem?.symm.trans h116
              have h125 : act.tmps.getD 125 undef = .bool false := H 1 23 125 (by kernel_rfl) rfl
              have g125 := Array.getD_eq_getD_getElem?.symm.trans h125
              clear H O
              obtain ⟨krl, kr1, rr0, rrl⟩ := HPRE.out wa hB
              go_simp
              exact hK _ _ (Below.refl _ _) (fun _ => rfl)
            · intro act wa hC hd H O K hK
              clear hd
              obtain ⟨hB, -⟩ := hC
              have h126 : act.tmps.getD 126 undef = .bool false := H 1 24 126 (by kernel_rfl) rfl
              have g126 := Array.getD_eq_getD_getElem?.symm.trans h126
              clear H O
              obtain ⟨krl, kr1, rr0, rrl⟩ := HPRE.out wa hB
              go_simp
              exact hK _ _ (Below.refl _ _) (fun _ => rfl)
            · intro act wa hC hd H O K hK
              clear hd
              obtain ⟨hB, -⟩ := hC
              have h5 := O 5 (by kernel_rfl)
              have g5 := Array.getD_eq_getD_getElem?.symm.trans h5
              have h127 : act.tmps.getD 127 undef = .bool false := H 1 25 127 (by kernel_rfl) rfl
              have g127 := Array.getD_eq_getD_getElem?.symm.trans h127
              have k127 := Inv.some_bool g127
              clear H O
              obtain ⟨krl, kr1, rr0, rrl⟩ := HPRE.out wa hB
              go_simp
              exact hK _ _ (Below.refl _ _) (fun _ => rfl)
            · intro act wa hC hd H O K hK
              clear hd
              obtain ⟨hB, -⟩ := hC
              have h128 : act.tmps.getD 128 undef = .pointer (some ⟨g, 0, none⟩) := H 1 26 128 (by kernel_rfl) rfl
              have g128 := Array.getD_eq_getD_getElem?.symm.trans h128
              have h127 : act.tmps.getD 127 undef = .bool false := H 1 25 127 (by kernel_rfl) rfl
              have g127 := Array.getD_eq_getD_getElem?.symm.trans h127
              have k127 := Inv.some_bool g127
              clear H O
              obtain ⟨krl, kr1, rr0, rrl⟩ := HPRE.out wa hB
              go_simp
              refine (DLeft_any wa g rm vs5 _ _ _ _ (DskM.below D8.out.1 hB) OKN.out.1 (fun i => Nat.le_trans (totF_take_le _ _) OKN.out.2.1)).mono ?_
              rintro e1 w1 ⟨rfl, q9, hq9⟩
              rw [HLF.out]
              have hb : Below wa.heap.size wa w1 := by rw [hq9]; exact below_drewN (Below.refl _ _) q9
              exact hK _ _ hb (fun _ => rfl)
            · intro act wa hC hd H O K hK
              clear hd
              obtain ⟨hB, -⟩ := hC
              have h7 := O 7 (by kernel_rfl)
              have g7 := Array.getD_eq_getD_getElem?.symm.trans h7
              have h127 : act.tmps.getD 127 undef = .bool false := H 1 25 127 (by kernel_rfl) rfl
              have g127 := Array.getD_eq_getD_getElem?.symm.trans h127
              have k127 := Inv.some_bool g127
              clear H O
              obtain ⟨krl, kr1, rr0, rrl⟩ := HPRE.out wa hB
              go_simp
              exact hK _ _ (Below.refl _ _) (fun _ => rfl)
            · intro act wa hC hd H O K hK
              clear hd
              obtain ⟨hB, -⟩ := hC
              have h130 : act.tmps.getD 130 undef = .pointer (some ⟨gr, 0, none⟩) := H 1 28 130 (by kernel_rfl) rfl
              have g130 := Array.getD_eq_getD_getElem?.symm.trans h130
              have h127 : act.tmps.getD 127 undef = .bool false := H 1 25 127 (by kernel_rfl) rfl
              have g127 := Array.getD_eq_getD_getElem?.symm.trans h127
              have k127 := Inv.some_bool g127
              clear H O
              obtain ⟨krl, kr1, rr0, rrl⟩ := HPRE.out wa hB
              go_simp
              refine (RLeft_any wa _ gr rm rvs6 dN (D8.out.2.1.below hB) OKN.out).mono ?_
              rintro e1 w1 ⟨rfl, q9, hq9⟩
              rw [HLF.out]
              have hb : Below wa.heap.size wa w1 := by rw [hq9]; exact below_drewN (Below.refl _ _) q9
              exact hK _ _ hb (fun _ => rfl)
            · intro act wa hC hd H O K hK
              clear hd
              obtain ⟨hB, -⟩ := hC
              have h129 : act.tmps.getD 129 undef = .int .i64 (lf : Int) := H 1 27 129 (by kernel_rfl) rfl
              have g129 := Array.getD_eq_getD_getElem?.symm.trans h129
              have h131 : act.tmps.getD 131 undef = .int .i64 (lf : Int) := H 1 29 131 (by kernel_rfl) rfl
              have g131 := Array.getD_eq_getD_getElem?.symm.trans h131
              have h127 : act.tmps.getD 127 undef = .bool false := H 1 25 127 (by kernel_rfl) rfl
              have g127 := Array.getD_eq_getD_getElem?.symm.trans h127
              have k127 := Inv.some_bool g127
              clear H O
              obtain ⟨krl, kr1, rr0, rrl⟩ := HPRE.out wa hB
              go_simp
              exact hK _ _ (Below.refl _ _) (fun _ => rfl)
            · intro act wa hC hd H O K hK
              clear hd
              obtain ⟨hB, -⟩ := hC
              have h127 : act.tmps.getD 127 undef = .bool false := H 1 25 127 (by kernel_rfl) rfl
              have g127 := Array.getD_eq_getD_getElem?.symm.trans h127
              have h132 : act.tmps.getD 132 undef = .bool false := H 1 30 132 (by kernel_rfl) rfl
              have g132 := Array.getD_eq_getD_getElem?.symm.trans h132
              clear H O
              obtain ⟨krl, kr1, rr0, rrl⟩ := HPRE.out wa hB
              go_simp
              exact hK _ _ (Below.refl _ _) (fun _ => rfl)
            · intro act wa hC hd H O K hK
              clear hd
              obtain ⟨hB, -⟩ := hC
              have h133 : act.tmps.getD 133 undef = .bool false := H 1 31 133 (by kernel_rfl) rfl
              have g133 := Array.getD_eq_getD_getElem?.symm.trans h133
              clear H O
              obtain ⟨krl, kr1, rr0, rrl⟩ := HPRE.out wa hB
              go_simp
              exact hK _ _ (Below.refl _ _) (fun _ => rfl)
            · intro act wa hC hd H O K hK
              clear hd
              obtain ⟨hB, -⟩ := hC
              have h5 := O 5 (by kernel_rfl)
              have g5 := Array.getD_eq_getD_getElem?.symm.trans h5
              have h134 : act.tmps.getD 134 undef = .bool false := H 1 32 134 (by kernel_rfl) rfl
              have g134 := Array.getD_eq_getD_getElem?.symm.trans h134
              have k134 := Inv.some_bool g134
              clear H O
              obtain ⟨krl, kr1, rr0, rrl⟩ := HPRE.out wa hB
              go_simp
              exact hK _ _ (Below.refl _ _) (fun _ => rfl)
            · intro act wa hC hd H O K hK
              clear hd
              obtain ⟨hB, -⟩ := hC
              have h135 : act.tmps.getD 135 undef = .pointer (some ⟨g, 0, none⟩) := H 1 33 135 (by kernel_rfl) rfl
              have g135 := Array.getD_eq_getD_getElem?.symm.trans h135
              have h134 : act.tmps.getD 134 undef = .bool false := H 1 32 134 (by kernel_rfl) rfl
              have g134 := Array.getD_eq_getD_getElem?.symm.trans h134
              have k134 := Inv.some_bool g134
              clear H O
              obtain ⟨krl, kr1, rr0, rrl⟩ := HPRE.out wa hB
              go_simp
              refine (DDown_any wa g rm vs5 _ _ _ _ (DskM.below D8.out.1 hB)).mono ?_
              rintro e1 w1 ⟨rfl, q9, hq9⟩
              rw [HDNN.out]
              have hb : Below wa.heap.size wa w1 := by rw [hq9]; exact below_drewN (Below.refl _ _) q9
              exact hK _ _ hb (fun _ => rfl)
            · intro act wa hC hd H O K hK
              clear hd
              obtain ⟨hB, -⟩ := hC
              have h7 := O 7 (by kernel_rfl)
              have g7 := Array.getD_eq_getD_getElem?.symm.trans h7
              have h134 : act.tmps.getD 134 undef = .bool false := H 1 32 134 (by kernel_rfl) rfl
              have g134 := Array.getD_eq_getD_getElem?.symm.trans h134
              have k134 := Inv.some_bool g134
              clear H O
              obtain ⟨krl, kr1, rr0, rrl⟩ := HPRE.out wa hB
              go_simp
              exact hK _ _ (Below.refl _ _) (fun _ => rfl)
            · intro act wa hC hd H O K hK
              clear hd
              obtain ⟨hB, -⟩ := hC
              have h137 : act.tmps.getD 137 undef = .pointer (some ⟨gr, 0, none⟩) := H 1 35 137 (by kernel_rfl) rfl
              have g137 := Array.getD_eq_getD_getElem?.symm.trans h137
              have h134 : act.tmps.getD 134 undef = .bool false := H 1 32 134 (by kernel_rfl) rfl
              have g134 := Array.getD_eq_getD_getElem?.symm.trans h134
              have k134 := Inv.some_bool g134
              clear H O
              obtain ⟨krl, kr1, rr0, rrl⟩ := HPRE.out wa hB
              go_simp
              exact hK _ _ (Below.refl _ _) (fun _ => rfl)
            · intro act wa hC hd H O K hK
              clear hd
              obtain ⟨hB, -⟩ := hC
              have h138 : act.tmps.getD 138 undef = .pointer (some ⟨gr, 0, none⟩) := H 1 36 138 (by kernel_rfl) rfl
              have g138 := Array.getD_eq_getD_getElem?.symm.trans h138
              have h134 : act.tmps.getD 134 undef = .bool false := H 1 32 134 (by kernel_rfl) rfl
              have g134 := Array.getD_eq_getD_getElem?.symm.trans h134
              have k134 := Inv.some_bool g134
              clear H O
              obtain ⟨krl, kr1, rr0, rrl⟩ := HPRE.out wa hB
              go_simp
              exact hK _ _ (Below.refl _ _) (fun _ => rfl)
            · intro act wa hC hd H O K hK
              clear hd
              obtain ⟨hB, -⟩ := hC
              have h139 : act.tmps.getD 139 undef = .pointer (some ⟨gr, 130, none⟩) := H 1 37 139 (by kernel_rfl) rfl
              have g139 := Array.getD_eq_getD_getElem?.symm.trans h139
              have h134 : act.tmps.getD 134 undef = .bool false := H 1 32 134 (by kernel_rfl) rfl
              have g134 := Array.getD_eq_getD_getElem?.symm.trans h134
              have k134 := Inv.some_bool g134
              clear H O
              obtain ⟨krl, kr1, rr0, rrl⟩ := HPRE.out wa hB
              go_simp
              exact hK _ _ (Below.refl _ _) (fun _ => rfl)
            · intro act wa hC hd H O K hK
              clear hd
              obtain ⟨hB, -⟩ := hC
              have h136 : act.tmps.getD 136 undef = .bool dn := H 1 34 136 (by kernel_rfl) rfl
              have g136 := Array.getD_eq_getD_getElem?.symm.trans h136
              have h140 : act.tmps.getD 140 undef = .bool dn := H 1 38 140 (by kernel_rfl) rfl
              have g140 := Array.getD_eq_getD_getElem?.symm.trans h140
              have h134 : act.tmps.getD 134 undef = .bool false := H 1 32 134 (by kernel_rfl) rfl
              have g134 := Array.getD_eq_getD_getElem?.symm.trans h134
              have k134 := Inv.some_bool g134
              clear H O
              obtain ⟨krl, kr1, rr0, rrl⟩ := HPRE.out wa hB
              go_simp
              exact hK _ _ (Below.refl _ _) (fun _ => rfl)
            · intro act wa hC hd H O K hK
              clear hd
              obtain ⟨hB, -⟩ := hC
              have h134 : act.tmps.getD 134 undef = .bool false := H 1 32 134 (by kernel_rfl) rfl
              have g134 := Array.getD_eq_getD_getElem?.symm.trans h134
              have h141 : act.tmps.getD 141 undef = .bool false := H 1 39 141 (by kernel_rfl) rfl
              have g141 := Array.getD_eq_getD_getElem?.symm.trans h141
              clear H O
              obtain ⟨krl, kr1, rr0, rrl⟩ := HPRE.out wa hB
              go_simp
              exact hK _ _ (Below.refl _ _) (fun _ => rfl)
            · intro act wa hC hd H O K hK
              clear hd
              obtain ⟨hB, -⟩ := hC
              have h142 : act.tmps.getD 142 undef = .bool false := H 1 40 142 (by kernel_rfl) rfl
              have g142 := Array.getD_eq_getD_getElem?.symm.trans h142
              clear H O
              obtain ⟨krl, kr1, rr0, rrl⟩ := HPRE.out wa hB
              go_simp
              exact hK _ _ (Below.refl _ _) (fun _ => rfl)
            · intro act wa hC hd H O K hK
              clear hd
              obtain ⟨hB, -⟩ := hC
              have h5 := O 5 (by kernel_rfl)
              have g5 := Array.getD_eq_getD_getElem?.symm.trans h5
              have h143 : act.tmps.getD 143 undef = .bool false := H 1 41 143 (by kernel_rfl) rfl
              have g143 := Array.getD_eq_getD_getElem?.symm.trans h143
              have k143 := Inv.some_bool g143
              clear H O
              obtain ⟨krl, kr1, rr0, rrl⟩ := HPRE.out wa hB
              go_simp
              exact hK _ _ (Below.refl _ _) (fun _ => rfl)
            · intro act wa hC hd H O K hK
              clear hd
              obtain ⟨hB, -⟩ := hC
              have h144 : act.tmps.getD 144 undef = .pointer (some ⟨g, 0, none⟩) := H 1 42 144 (by kernel_rfl) rfl
              have g144 := Array.getD_eq_getD_getElem?.symm.trans h144
              have h143 : act.tmps.getD 143 undef = .bool false := H 1 41 143 (by kernel_rfl) rfl
              have g143 := Array.getD_eq_getD_getElem?.symm.trans h143
              have k143 := Inv.some_bool g143
              clear H O
              obtain ⟨krl, kr1, rr0, rrl⟩ := HPRE.out wa hB
              go_simp
              refine (DFiles_any wa g rm vs5 dN (DskM.below D8.out.1 hB) OKN.out).mono ?_
              rintro e1 w1 ⟨v8, rfl, ho8, hb⟩
              rw [HFL.out, HNF.out] at ho8
              obtain ⟨A8, c8, rfl⟩ := own_sl ho8
              exact hK _ _ hb (fun _ => ⟨A8, c8, rfl, Rd.of_own ho8⟩)
            · intro act wa hC hd H O K hK
              clear hd
              obtain ⟨hB, -⟩ := hC
              have h7 := O 7 (by kernel_rfl)
              have g7 := Array.getD_eq_getD_getElem?.symm.trans h7
              have h143 : act.tmps.getD 143 undef = .bool false := H 1 41 143 (by kernel_rfl) rfl
              have g143 := Array.getD_eq_getD_getElem?.symm.trans h143
              have k143 := Inv.some_bool g143
              clear H O
              obtain ⟨krl, kr1, rr0, rrl⟩ := HPRE.out wa hB
              go_simp
              exact hK _ _ (Below.refl _ _) (fun _ => rfl)
            · intro act wa hC hd H O K hK
              clear hd
              obtain ⟨hB, -⟩ := hC
              have h146 : act.tmps.getD 146 undef = .pointer (some ⟨gr, 0, none⟩) := H 1 44 146 (by kernel_rfl) rfl
              have g146 := Array.getD_eq_getD_getElem?.symm.trans h146
              have h143 : act.tmps.getD 143 undef = .bool false := H 1 41 143 (by kernel_rfl) rfl
              have g143 := Array.getD_eq_getD_getElem?.symm.trans h143
              have k143 := Inv.some_bool g143
              clear H O
              obtain ⟨krl, kr1, rr0, rrl⟩ := HPRE.out wa hB
              go_simp
              refine (RFiles_any wa _ gr rm rvs6 dN (D8.out.2.1.below hB)).mono ?_
              rintro e1 w1 ⟨v8, rfl, ho8, hb⟩
              rw [HFL.out, HNF.out] at ho8
              obtain ⟨A8, c8, rfl⟩ := own_sl ho8
              exact hK _ _ hb (fun _ => ⟨A8, c8, rfl, Rd.of_own ho8⟩)
            · intro act wa hC hd H O K hK
              clear hd
              obtain ⟨hB, -⟩ := hC
              have h145 : ∃ A c, act.tmps.getD 145 undef = .slice A nf c ∧ Rd wa wa.heap.size A (i64n fl) := H 1 43 145 (by kernel_rfl) rfl
              obtain ⟨A145, c145, h145', l145⟩ := h145
              have h147 : ∃ A c, act.tmps.getD 147 undef = .slice A nf c ∧ Rd wa wa.heap.size A (i64n fl) := H 1 45 147 (by kernel_rfl) rfl
              obtain ⟨A147, c147, h147', l147⟩ := h147
              have h143 : act.tmps.getD 143 undef = .bool false := H 1 41 143 (by kernel_rfl) rfl
              have g143 := Array.getD_eq_getD_getElem?.symm.trans h143
              have k143 := Inv.some_bool g143
              clear H O
              obtain ⟨krl, kr1, rr0, rrl⟩ := HPRE.out wa hB
              go_simp
              rw [i64n_i] at l145 l147
              refine (ints_at wa A145 A147 c145 c147 _ _ _ _ nf nf true l145 l147 (by rw [List.length_map, HNF.out]; unfold maxLen; omega) (by rw [List.length_map, HNF.out]) (by rw [List.length_map, HNF.out]) (by simp)).mono ?_
              rintro e1 w1 ⟨rfl, q9, hq9⟩
              have hb : Below wa.heap.size wa w1 := by rw [hq9]; exact below_drewN (Below.refl _ _) q9
              exact hK _ _ hb (fun _ => rfl)
            · intro act wa hC hd H O K hK
              clear hd
              obtain ⟨hB, -⟩ := hC
              have h148 : act.tmps.getD 148 undef = .bool true := H 1 46 148 (by kernel_rfl) rfl
              have g148 := Array.getD_eq_getD_getElem?.symm.trans h148
              have h143 : act.tmps.getD 143 undef = .bool false := H 1 41 143 (by kernel_rfl) rfl
              have g143 := Array.getD_eq_getD_getElem?.symm.trans h143
              have k143 := Inv.some_bool g143
              clear H O
              obtain ⟨krl, kr1, rr0, rrl⟩ := HPRE.out wa hB
              go_simp
              exact hK _ _ (Below.refl _ _) (fun _ => rfl)
            · intro act wa hC hd H O K hK
              clear hd
              obtain ⟨hB, -⟩ := hC
              have h143 : act.tmps.getD 143 undef = .bool false := H 1 41 143 (by kernel_rfl) rfl
              have g143 := Array.getD_eq_getD_getElem?.symm.trans h143
              have h149 : act.tmps.getD 149 undef = .bool false := H 1 47 149 (by kernel_rfl) rfl
              have g149 := Array.getD_eq_getD_getElem?.symm.trans h149
              clear H O
              obtain ⟨krl, kr1, rr0, rrl⟩ := HPRE.out wa hB
              go_simp
              exact hK _ _ (Below.refl _ _) (fun _ => rfl)
          · intro us w' hC hF
            obtain ⟨hB, -⟩ := hC
            have u150 : us 150 = .bool false := hF 48 150 rfl
            clear hF
            simp only [List.foldl]
            go_simp
            have e150 : us 150 = .bool false := u150
            have R := Lib.hid (show LD w g gr rm len (.int .i64 ((k : Int) + 1)) w' from ⟨k + 1, vs5, rvs6, dN, by go_num, HLT.out, D8.out.below hB, OKN.out, AS5.out, B8.out.trans (hB.mono B8.out.size)⟩)
            clear hB u150
            try rw [e150]
            go_wp2
            go_roundw
            case rel => exact R.out
            case measure => simp [intOf]; have := HLT.out; omega
        have n01 : (a.k == 0) = false := by simp [hq0]
        have n02 : decide (a.k = 0) = false := by simp [hq0]
        by_cases hq1 : a.k = 1
        · have HDN2 := Lib.hid (doP1 rm d a hq1)
          rw [hq1] at k0
          rw [HDN2.out] at HDN HNN
          go_wp2_with fail
          refine (RSync_any w5 _ gr rm rvs d a.x D5.out.2.1 OK.out).mono ?_
          intro en w6 hres
          obtain ⟨rfl, rvs6, hr6, hO⟩ := RRes_at hres HDN.out.symm HNN.out
          clear hres
          have B6 := Lib.hid (B5.out.trans (hO.to_below B5.out.size (fun j hj => by have := HGR.out; omega)))
          have D6 := Lib.hid (D5.out.doc hr6 hO)
          have KA6 := Lib.hid (hO.blk KA5.out HQ.out)
          clear hr6 hO k0 k1 k2 k3 k4 kl
          have k1 := KA6.out.cell 1
          simp at k1
          have kl := KA6.out.lt
          obtain ⟨⟨rb, re⟩, hrd⟩ : ∃ r, readP dN a.x = r := ⟨_, rfl⟩
          have hm20 := readP_len OKN.out a.x
          rw [hrd] at hm20
          simp only at hm20
          have HRD := Lib.hid hrd
          obtain ⟨m, hm⟩ : ∃ m, rb.length = m := ⟨_, rfl⟩
          rw [hm] at hm20
          have HM := Lib.hid hm
          clear hrd hm
          go_wp2_with fail
          refine (DRead_any w6 g rm vs5 dN a.x D6.out.1 OKN.out).mono ?_
          rintro en w7 ⟨vB, rfl, hm7, hf7, hb7⟩
          rw [HRD.out] at hm7 ⊢
          simp only at hm7
          rw [HM.out] at hm7
          obtain ⟨AB, CB, rfl, -⟩ := id hm7
          have D7 := Lib.hid (D6.out.below hb7); have B7 := Lib.hid (B6.out.trans (hb7.mono B6.out.size)); have KA7 := Lib.hid (KA6.out.below hb7 KA6.out.lt); have MB7 := Lib.hid hm7.rd_ofD
          clear hm7 hf7 hb7 k1 kl
          have k1 := KA7.out.cell 1
          simp at k1
          have kl := KA7.out.lt
          go_wp2_with fail
          refine (RRead_any w7 _ gr rm rvs6 dN a.x D7.out.2.1 OKN.out).mono ?_
          rintro en w8 ⟨vC, rfl, hm8, hf8, hb8⟩
          rw [HRD.out] at hm8 ⊢
          simp only at hm8
          rw [HM.out] at hm8
          obtain ⟨AC, CC, rfl, -⟩ := id hm8
          have D8 := Lib.hid (D7.out.below hb8); have B8 := Lib.hid (B7.out.trans (hb8.mono B7.out.size)); have KA8 := Lib.hid (KA7.out.below hb8 KA7.out.lt); have MB8 := Lib.hid ((MB7.out.below hb8).more hb8.size); have MC8 := Lib.hid hm8.rd_ofD
          clear hm8 hf8 hb8 k1 kl
          obtain ⟨nf, hnf⟩ : ∃ q, (filesK dN.1 64).length = q := ⟨_, rfl⟩
          have hnf64 : nf ≤ 64 := by rw [← hnf]; exact filesK_len _ _
          obtain ⟨fl, hfl⟩ : ∃ q, filesK dN.1 64 = q := ⟨_, rfl⟩
          have HFL := Lib.hid hfl
          have HNF := Lib.hid (show fl.length = nf by rw [← hfl]; exact hnf)
          obtain ⟨dn, hdn⟩ : ∃ q, dN.2.1 = q := ⟨_, rfl⟩
          have HDNN := Lib.hid hdn
          obtain ⟨su, hsu⟩ : ∃ q, sureF dN.1 a.x = q := ⟨_, rfl⟩
          have HSU := Lib.hid hsu
          obtain ⟨lf, hlf⟩ : ∃ q, rm - totF dN.1 = q := ⟨_, rfl⟩
          have HLF := Lib.hid hlf
          clear hnf hfl hdn hsu hlf
          have HPRE : Hid (∀ wa, Below w8.heap.size w8 wa → q < wa.heap.size ∧ wa.cell? ⟨q, 1, none⟩ = some (.int .i64 a.x) ∧ wa.cell? ⟨gr, 130, none⟩ = some (.bool dn) ∧ gr < wa.heap.size) := Lib.hid (fun wa hB => by
            have kr := KA8.out.below hB KA8.out.lt
            have kr1 := kr.cell 1
            simp at kr1
            have rr := D8.out.2.1.below hB
            have rr0 := rr.dn0
            rw [HDNN.out] at rr0
            exact ⟨kr.lt, kr1, rr0, rr.lt⟩)
          go_wp2_with fail
          refine Inv.region_below (fun i v w' => match i with
              | 0 => v = .int .i64 n
              | 1 => v = .int .i64 n
              | 2 => v = .bool false
              | 3 => v = .bool false
              | 4 => v = .slice AB m CB
              | 5 => v = .slice AC m CC
              | 6 => v = .bool true
              | 7 => v = .bool false
              | 8 => v = .bool false
              | 9 => v = .bool false
              | 10 => v = .int .i64 (re : Int)
              | 11 => v = .int .i64 (re : Int)
              | 12 => v = .bool false
              | 13 => v = .bool false
              | 14 => v = .bool false
              | 15 => v = .pointer (some ⟨g, 0, none⟩)
              | 16 => v = .pointer (some ⟨q, 1, none⟩)
              | 17 => v = .int .i64 a.x
              | 18 => v = .int .i64 (su : Int)
              | 19 => v = .pointer (some ⟨gr, 0, none⟩)
              | 20 => v = .pointer (some ⟨q, 1, none⟩)
              | 21 => v = .int .i64 a.x
              | 22 => v = .int .i64 (su : Int)
              | 23 => v = .bool false
              | 24 => v = .bool false
              | 25 => v = .bool false
              | 26 => v = .pointer (some ⟨g, 0, none⟩)
              | 27 => v = .int .i64 (lf : Int)
              | 28 => v = .pointer (some ⟨gr, 0, none⟩)
              | 29 => v = .int .i64 (lf : Int)
              | 30 => v = .bool false
              | 31 => v = .bool false
              | 32 => v = .bool false
              | 33 => v = .pointer (some ⟨g, 0, none⟩)
              | 34 => v = .bool dn
              | 35 => v = .pointer (some ⟨gr, 0, none⟩)
              | 36 => v = .pointer (some ⟨gr, 0, none⟩)
              | 37 => v = .pointer (some ⟨gr, 130, none⟩)
              | 38 => v = .bool dn
              | 39 => v = .bool false
              | 40 => v = .bool false
              | 41 => v = .bool false
              | 42 => v = .pointer (some ⟨g, 0, none⟩)
              | 43 => ∃ A c, v = .slice A nf c ∧ Rd w' w'.heap.size A (i64n fl)
              | 44 => v = .pointer (some ⟨gr, 0, none⟩)
              | 45 => ∃ A c, v = .slice A nf c ∧ Rd w' w'.heap.size A (i64n fl)
              | 46 => v = .bool true
              | 47 => v = .bool false
              | 48 => v = .bool false
              | _ => True)
            (fun w' => Below w8.heap.size w8 w' ∧ True) 152 [102, 103, 104, 105, 106, 107, 108, 109, 110, 111, 112, 113, 114, 115, 116, 117, 118, 119, 120, 121, 122, 123, 124, 125, 126, 127, 128, 129, 130, 131, 132, 133, 134, 135, 136, 137, 138, 139, 140, 141, 142, 143, 144, 145, 146, 147, 148, 149, 150] (by kernel_rfl) rfl (by kernel_rfl) (by kernel_rfl) ?_ ?_ ?_ ?_
          · intro v v' hC hb
            obtain ⟨hB, -⟩ := hC
            exact ⟨hB.trans (hb.mono hB.size), trivial⟩
          · exact ⟨(Below.refl _ _).drew, trivial⟩
          · refine ⟨⟨fun _ _ _ h _ => h, ?_⟩, ⟨fun _ _ _ h _ => h, ?_⟩, ⟨fun _ _ _ h _ => h, ?_⟩, ⟨fun _ _ _ h _ => h, ?_⟩, ⟨fun _ _ _ h _ => h, ?_⟩, ⟨fun _ _ _ h _ => h, ?_⟩, ⟨fun _ _ _ h _ => h, ?_⟩, ⟨fun _ _ _ h _ => h, ?_⟩, ⟨fun _ _ _ h _ => h, ?_⟩, ⟨fun _ _ _ h _ => h, ?_⟩, ⟨fun _ _ _ h _ => h, ?_⟩, ⟨fun _ _ _ h _ => h, ?_⟩, ⟨fun _ _ _ h _ => h, ?_⟩, ⟨fun _ _ _ h _ => h, ?_⟩, ⟨fun _ _ _ h _ => h, ?_⟩, ⟨fun _ _ _ h _ => h, ?_⟩, ⟨fun _ _ _ h _ => h, ?_⟩, ⟨fun _ _ _ h _ => h, ?_⟩, ⟨fun _ _ _ h _ => h, ?_⟩, ⟨fun _ _ _ h _ => h, ?_⟩, ⟨fun _ _ _ h _ => h, ?_⟩, ⟨fun _ _ _ h _ => h, ?_⟩, ⟨fun _ _ _ h _ => h, ?_⟩, ⟨fun _ _ _ h _ => h, ?_⟩, ⟨fun _ _ _ h _ => h, ?_⟩, ⟨fun _ _ _ h _ => h, ?_⟩, ⟨fun _ _ _ h _ => h, ?_⟩, ⟨fun _ _ _ h _ => h, ?_⟩, ⟨fun _ _ _ h _ => h, ?_⟩, ⟨fun _ _ _ h _ => h, ?_⟩, ⟨fun _ _ _ h _ => h, ?_⟩, ⟨fun _ _ _ h _ => h, ?_⟩, ⟨fun _ _ _ h _ => h, ?_⟩, ⟨fun _ _ _ h _ => h, ?_⟩, ⟨fun _ _ _ h _ => h, ?_⟩, ⟨fun _ _ _ h _ => h, ?_⟩, ⟨fun _ _ _ h _ => h, ?_⟩, ⟨fun _ _ _ h _ => h, ?_⟩, ⟨fun _ _ _ h _ => h, ?_⟩, ⟨fun _ _ _ h _ => h, ?_⟩, ⟨fun _ _ _ h _ => h, ?_⟩, ⟨fun _ _ _ h _ => h, ?_⟩, ⟨fun _ _ _ h _ => h, ?_⟩, ⟨fun v w w' ⟨A, c, h1, h2⟩ hb => ⟨A, c, h1, (h2.below hb).more hb.size⟩, ?_⟩, ⟨fun _ _ _ h _ => h, ?_⟩, ⟨fun v w w' ⟨A, c, h1, h2⟩ hb => ⟨A, c, h1, (h2.below hb).more hb.size⟩, ?_⟩, ⟨fun _ _ _ h _ => h, ?_⟩, ⟨fun _ _ _ h _ => h, ?_⟩, ⟨fun _ _ _ h _ => h, ?_⟩, trivial⟩
            · intro act wa hC hd H O K hK
              clear hd
              obtain ⟨hB, -⟩ := hC
              have h11 := O 11 (by kernel_rfl)
              have g11 := Array.getD_eq_getD_getElem?.symm.trans h11
              clear H O
              obtain ⟨krl, kr1, rr0, rrl⟩ := HPRE.out wa hB
              go_simp
              exact hK _ _ (Below.refl _ _) (fun _ => rfl)
            · intro act wa hC hd H O K hK
              clear hd
              obtain ⟨hB, -⟩ := hC
              have h12 := O 12 (by kernel_rfl)
              have g12 := Array.getD_eq_getD_getElem?.symm.trans h12
              clear H O
              obtain ⟨krl, kr1, rr0, rrl⟩ := HPRE.out wa hB
              go_simp
              exact hK _ _ (Below.refl _ _) (fun _ => rfl)
            · intro act wa hC hd H O K hK
              clear hd
              obtain ⟨hB, -⟩ := hC
              have h102 : act.tmps.getD 102 undef = .int .i64 n := H 1 0 102 (by kernel_rfl) rfl
              have g102 := Array.getD_eq_getD_getElem?.symm.trans h102
              have h103 : act.tmps.getD 103 undef = .int .i64 n := H 1 1 103 (by kernel_rfl) rfl
              have g103 := Array.getD_eq_getD_getElem?.symm.trans h103
              clear H O
              obtain ⟨krl, kr1, rr0, rrl⟩ := HPRE.out wa hB
              go_simp
              exact hK _ _ (Below.refl _ _) (fun _ => rfl)
            · intro act wa hC hd H O K hK
              clear hd
              obtain ⟨hB, -⟩ := hC
              have h104 : act.tmps.getD 104 undef = .bool false := H 1 2 104 (by kernel_rfl) rfl
              have g104 := Array.getD_eq_getD_getElem?.symm.trans h104
              clear H O
              obtain ⟨krl, kr1, rr0, rrl⟩ := HPRE.out wa hB
              go_simp
              exact hK _ _ (Below.refl _ _) (fun _ => rfl)
            · intro act wa hC hd H O K hK
              clear hd
              obtain ⟨hB, -⟩ := hC
              have h13 := O 13 (by kernel_rfl)
              have g13 := Array.getD_eq_getD_getElem?.symm.trans h13
              have h105 : act.tmps.getD 105 undef = .bool false := H 1 3 105 (by kernel_rfl) rfl
              have g105 := Array.getD_eq_getD_getElem?.symm.trans h105
              have k105 := Inv.some_bool g105
              clear H O
              obtain ⟨krl, kr1, rr0, rrl⟩ := HPRE.out wa hB
              go_simp
              exact hK _ _ (Below.refl _ _) (fun _ => rfl)
            · intro act wa hC hd H O K hK
              clear hd
              obtain ⟨hB, -⟩ := hC
              have h15 := O 15 (by kernel_rfl)
              have g15 := Array.getD_eq_getD_getElem?.symm.trans h15
              have h105 : act.tmps.getD 105 undef = .bool false := H 1 3 105 (by kernel_rfl) rfl
              have g105 := Array.getD_eq_getD_getElem?.symm.trans h105
              have k105 := Inv.some_bool g105
              clear H O
              obtain ⟨krl, kr1, rr0, rrl⟩ := HPRE.out wa hB
              go_simp
              exact hK _ _ (Below.refl _ _) (fun _ => rfl)
            · intro act wa hC hd H O K hK
              clear hd
              obtain ⟨hB, -⟩ := hC
              have h106 : act.tmps.getD 106 undef = .slice AB m CB := H 1 4 106 (by kernel_rfl) rfl
              have g106 := Array.getD_eq_getD_getElem?.symm.trans h106
              have h107 : act.tmps.getD 107 undef = .slice AC m CC := H 1 5 107 (by kernel_rfl) rfl
              have g107 := Array.getD_eq_getD_getElem?.symm.trans h107
              have h105 : act.tmps.getD 105 undef = .bool false := H 1 3 105 (by kernel_rfl) rfl
              have g105 := Array.getD_eq_getD_getElem?.symm.trans h105
              have k105 := Inv.some_bool g105
              clear H O
              obtain ⟨krl, kr1, rr0, rrl⟩ := HPRE.out wa hB
              go_simp
              refine (same_at wa AB AC CB CC rb rb _ _ m m true (MB8.out.below hB) (MC8.out.below hB) (by rw [HM.out]; unfold maxLen; omega) HM.out HM.out (by simp)).mono ?_
              rintro e1 w1 ⟨rfl, q9, hq9⟩
              have hb : Below wa.heap.size wa w1 := by rw [hq9]; exact below_drewN (Below.refl _ _) q9
              exact hK _ _ hb (fun _ => rfl)
            · intro act wa hC hd H O K hK
              clear hd
              obtain ⟨hB, -⟩ := hC
              have h108 : act.tmps.getD 108 undef = .bool true := H 1 6 108 (by kernel_rfl) rfl
              have g108 := Array.getD_eq_getD_getElem?.symm.trans h108
              have h105 : act.tmps.getD 105 undef = .bool false := H 1 3 105 (by kernel_rfl) rfl
              have g105 := Array.getD_eq_getD_getElem?.symm.trans h105
              have k105 := Inv.some_bool g105
              clear H O
              obtain ⟨krl, kr1, rr0, rrl⟩ := HPRE.out wa hB
              go_simp
              exact hK _ _ (Below.refl _ _) (fun _ => rfl)
            · intro act wa hC hd H O K hK
              clear hd
              obtain ⟨hB, -⟩ := hC
              have h105 : act.tmps.getD 105 undef = .bool false := H 1 3 105 (by kernel_rfl) rfl
              have g105 := Array.getD_eq_getD_getElem?.symm.trans h105
              have h109 : act.tmps.getD 109 undef = .bool false := H 1 7 109 (by kernel_rfl) rfl
              have g109 := Array.getD_eq_getD_getElem?.symm.trans h109
              clear H O
              obtain ⟨krl, kr1, rr0, rrl⟩ := HPRE.out wa hB
              go_simp
              exact hK _ _ (Below.refl _ _) (fun _ => rfl)
            · intro act wa hC hd H O K hK
              clear hd
              obtain ⟨hB, -⟩ := hC
              have h110 : act.tmps.getD 110 undef = .bool false := H 1 8 110 (by kernel_rfl) rfl
              have g110 := Array.getD_eq_getD_getElem?.symm.trans h110
              clear H O
              obtain ⟨krl, kr1, rr0, rrl⟩ := HPRE.out wa hB
              go_simp
              exact hK _ _ (Below.refl _ _) (fun _ => rfl)
            · intro act wa hC hd H O K hK
              clear hd
              obtain ⟨hB, -⟩ := hC
              have h14 := O 14 (by kernel_rfl)
              have g14 := Array.getD_eq_getD_getElem?.symm.trans h14
              have h111 : act.tmps.getD 111 undef = .bool false := H 1 9 111 (by kernel_rfl) rfl
              have g111 := Array.getD_eq_getD_getElem?.symm.trans h111
              have k111 := Inv.some_bool g111
              clear H O
              obtain ⟨krl, kr1, rr0, rrl⟩ := HPRE.out wa hB
              go_simp
              exact hK _ _ (Below.refl _ _) (fun _ => rfl)
            · intro act wa hC hd H O K hK
              clear hd
              obtain ⟨hB, -⟩ := hC
              have h16 := O 16 (by kernel_rfl)
              have g16 := Array.getD_eq_getD_getElem?.symm.trans h16
              have h111 : act.tmps.getD 111 undef = .bool false := H 1 9 111 (by kernel_rfl) rfl
              have g111 := Array.getD_eq_getD_getElem?.symm.trans h111
              have k111 := Inv.some_bool g111
              clear H O
              obtain ⟨krl, kr1, rr0, rrl⟩ := HPRE.out wa hB
              go_simp
              exact hK _ _ (Below.refl _ _) (fun _ => rfl)
            · intro act wa hC hd H O K hK
              clear hd
              obtain ⟨hB, -⟩ := hC
              have h112 : act.tmps.getD 112 undef = .int .i64 (re : Int) := H 1 10 112 (by kernel_rfl) rfl
              have g112 := Array.getD_eq_getD_getElem?.symm.trans h112
              have h113 : act.tmps.getD 113 undef = .int .i64 (re : Int) := H 1 11 113 (by kernel_rfl) rfl
              have g113 := Array.getD_eq_getD_getElem?.symm.trans h113
              have h111 : act.tmps.getD 111 undef = .bool false := H 1 9 111 (by kernel_rfl) rfl
              have g111 := Array.getD_eq_getD_getElem?.symm.trans h111
              have k111 := Inv.some_bool g111
              clear H O
              obtain ⟨krl, kr1, rr0, rrl⟩ := HPRE.out wa hB
              go_simp
              exact hK _ _ (Below.refl _ _) (fun _ => rfl)
            · intro act wa hC hd H O K hK
              clear hd
              obtain ⟨hB, -⟩ := hC
              have h111 : act.tmps.getD 111 undef = .bool false := H 1 9 111 (by kernel_rfl) rfl
              have g111 := Array.getD_eq_getD_getElem?.symm.trans h111
              have h114 : act.tmps.getD 114 undef = .bool false := H 1 12 114 (by kernel_rfl) rfl
              have g114 := Array.getD_eq_getD_getElem?.symm.trans h114
              clear H O
              obtain ⟨krl, kr1, rr0, rrl⟩ := HPRE.out wa hB
              go_simp
              exact hK _ _ (Below.refl _ _) (fun _ => rfl)
            · intro act wa hC hd H O K hK
              clear hd
              obtain ⟨hB, -⟩ := hC
              have h115 : act.tmps.getD 115 undef = .bool false := H 1 13 115 (by kernel_rfl) rfl
              have g115 := Array.getD_eq_getD_getElem?.symm.trans h115
              clear H O
              obtain ⟨krl, kr1, rr0, rrl⟩ := HPRE.out wa hB
              go_simp
              exact hK _ _ (Below.refl _ _) (fun _ => rfl)
            · intro act wa hC hd H O K hK
              clear hd
              obtain ⟨hB, -⟩ := hC
              have h5 := O 5 (by kernel_rfl)
              have g5 := Array.getD_eq_getD_getElem?.symm.trans h5
              have h116 : act.tmps.getD 116 undef = .bool false := H 1 14 116 (by kernel_rfl) rfl
              have g116 := Array.getD_eq_getD_getElem?.symm.trans h116
              have k116 := Inv.some_bool g116
              clear H O
              obtain ⟨krl, kr1, rr0, rrl⟩ := HPRE.out wa hB
              go_simp
              exact hK _ _ (Below.refl _ _) (fun _ => rfl)
            · intro act wa hC hd H O K hK
              clear hd
              obtain ⟨hB, -⟩ := hC
              have h10 := O 10 (by kernel_rfl)
              have g10 := Array.getD_eq_getD_getElem?.symm.trans h10
              have h116 : act.tmps.getD 116 undef = .bool false := H 1 14 116 (by kernel_rfl) rfl
              have g116 := Array.getD_eq_getD_getElem?.symm.trans h116
              have k116 := Inv.some_bool g116
              clear H O
              obtain ⟨krl, kr1, rr0, rrl⟩ := HPRE.out wa hB
              go_simp
              exact hK _ _ (Below.refl _ _) (fun _ => rfl)
            · intro act wa hC hd H O K hK
              clear hd
              obtain ⟨hB, -⟩ := hC
              have h118 : act.tmps.getD 118 undef = .pointer (some ⟨q, 1, none⟩) := H 1 16 118 (by kernel_rfl) rfl
              have g118 := Array.getD_eq_getD_getElem?.symm.trans h118
              have h116 : act.tmps.getD 116 undef = .bool false := H 1 14 116 (by kernel_rfl) rfl
              have g116 := Array.getD_eq_getD_getElem?.symm.trans h116
              have k116 := Inv.some_bool g116
              clear H O
              obtain ⟨krl, kr1, rr0, rrl⟩ := HPRE.out wa hB
              go_simp
              exact hK _ _ (Below.refl _ _) (fun _ => rfl)
            · intro act wa hC hd H O K hK
              clear hd
              obtain ⟨hB, -⟩ := hC
              have h117 : act.tmps.getD 117 undef = .pointer (some ⟨g, 0, none⟩) := H 1 15 117 (by kernel_rfl) rfl
              have g117 := Array.getD_eq_getD_getElem?.symm.trans h117
              have h119 : act.tmps.getD 119 undef = .int .i64 a.x := H 1 17 119 (by kernel_rfl) rfl
              have g119 := Array.getD_eq_getD_getElem?.symm.trans h119
              have h116 : act.tmps.getD 116 undef = .bool false := H 1 14 116 (by kernel_rfl) rfl
              have g116 := Array.getD_eq_getD_getElem?.symm.trans h116
              have k116 := Inv.some_bool g116
              clear H O
              obtain ⟨krl, kr1, rr0, rrl⟩ := HPRE.out wa hB
              go_simp
              refine (DSure_any wa g rm vs5 _ _ _ _ a.x (DskM.below D8.out.1 hB)).mono ?_
              rintro e1 w1 ⟨rfl, q9, hq9⟩
              rw [HSU.out]
              have hb : Below wa.heap.size wa w1 := by rw [hq9]; exact below_drewN (Below.refl _ _) q9
              exact hK _ _ hb (fun _ => rfl)
            · intro act wa hC hd H O K hK
              clear hd
              obtain ⟨hB, -⟩ := hC
              have h7 := O 7 (by kernel_rfl)
              have g7 := Array.getD_eq_getD_getElem?.symm.trans h7
              have h116 : act.tmps.getD 116 undef = .bool false := H 1 14 116 (by kernel_rfl) rfl
              have g116 := Array.getD_eq_getD_getElem?.symm.trans h116
              have k116 := Inv.some_bool g116
              clear H O
              obtain ⟨krl, kr1, rr0, rrl⟩ := HPRE.out wa hB
              go_simp
              exact hK _ _ (Below.refl _ _) (fun _ => rfl)
            · intro act wa hC hd H O K hK
              clear hd
              obtain ⟨hB, -⟩ := hC
              have h10 := O 10 (by kernel_rfl)
              have g10 := Array.getD_eq_getD_getElem?.symm.trans h10
              have h116 : act.tmps.getD 116 undef = .bool false := H 1 14 116 (by kernel_rfl) rfl
              have g116 := Array.getD_eq_getD_getElem?.symm.trans h116
              have k116 := Inv.some_bool g116
              clear H O
              obtain ⟨krl, kr1, rr0, rrl⟩ := HPRE.out wa hB
              go_simp
              exact hK _ _ (Below.refl _ _) (fun _ => rfl)
            · intro act wa hC hd H O K hK
              clear hd
              obtain ⟨hB, -⟩ := hC
              have h122 : act.tmps.getD 122 undef = .pointer (some ⟨q, 1, none⟩) := H 1 20 122 (by kernel_rfl) rfl
              have g122 := Array.getD_eq_getD_getElem?.symm.trans h122
              have h116 : act.tmps.getD 116 undef = .bool false := H 1 14 116 (by kernel_rfl) rfl
              have g116 := Array.getD_eq_getD_getElem?.symm.trans h116
              have k116 := Inv.some_bool g116
              clear H O
              obtain ⟨krl, kr1, rr0, rrl⟩ := HPRE.out wa hB
              go_simp
              exact hK _ _ (Below.refl _ _) (fun _ => rfl)
            · intro act wa hC hd H O K hK
              clear hd
              obtain ⟨hB, -⟩ := hC
              have h121 : act.tmps.getD 121 undef = .pointer (some ⟨gr, 0, none⟩) := H 1 19 121 (by kernel_rfl) rfl
              have g121 := Array.getD_eq_getD_getElem?.symm.trans h121
              have h123 : act.tmps.getD 123 undef = .int .i64 a.x := H 1 21 123 (by kernel_rfl) rfl
              have g123 := Array.getD_eq_getD_getElem?.symm.trans h123
              have h116 : act.tmps.getD 116 undef = .bool false := H 1 14 116 (by kernel_rfl) rfl
              have g116 := Array.getD_eq_getD_getElem?.symm.trans h116
              have k116 := Inv.some_bool g116
              clear H O
              obtain ⟨krl, kr1, rr0, rrl⟩ := HPRE.out wa hB
              go_simp
              refine (RSure_any wa _ gr rm rvs6 dN a.x (D8.out.2.1.below hB)).mono ?_
              rintro e1 w1 ⟨rfl, q9, hq9⟩
              rw [HSU.out]
              have hb : Below wa.heap.size wa w1 := by rw [hq9]; exact below_drewN (Below.refl _ _) q9
              exact hK _ _ hb (fun _ => rfl)
            · intro act wa hC hd H O K hK
              clear hd
              obtain ⟨hB, -⟩ := hC
              have h120 : act.tmps.getD 120 undef = .int .i64 (su : Int) := H 1 18 120 (by kernel_rfl) rfl
              have g120 := Array.getD_eq_getD_getElem?.symm.trans h120
              have h124 : act.tmps.getD 124 undef = .int .i64 (su : Int) := H 1 22 124 (by kernel_rfl) rfl
              have g124 := Array.getD_eq_getD_getElem?.symm.trans h124
              have h116 : act.tmps.getD 116 undef = .bool false := H 1 14 116 (by kernel_rfl) rfl
              have g116 := Array.getD_eq_getD_getElem?.symm.trans h116
              have k116 := Inv.some_bool g116
              clear H O
              obtain ⟨krl, kr1, rr0, rrl⟩ := HPRE.out wa hB
              go_simp
              exact hK _ _ (Below.refl _ _) (fun _ => rfl)
            · intro act wa hC hd H O K hK
              clear hd
              obtain ⟨hB, -⟩ := hC
              have h116 : act.tmps.getD 116 undef = .bool false := H 1 14 116 (by kernel_rfl) rfl
              have g116 := Array.getD_eq_getD_getElem?.symm.trans h116
              have h125 : act.tmps.getD 125 undef = .bool false := H 1 23 125 (by kernel_rfl) rfl
              have g125 := Array.getD_eq_getD_getElem?.symm.trans h125
              clear H O
              obtain ⟨krl, kr1, rr0, rrl⟩ := HPRE.out wa hB
              go_simp
              exact hK _ _ (Below.refl _ _) (fun _ => rfl)
            · intro act wa hC hd H O K hK
              clear hd
              obtain ⟨hB, -⟩ := hC
              have h126 : act.tmps.getD 126 undef = .bool false := H 1 24 126 (by kernel_rfl) rfl
              have g126 := Array.getD_eq_getD_getElem?.symm.trans h126
              clear H O
              obtain ⟨krl, kr1, rr0, rrl⟩ := HPRE.out wa hB
              go_simp
              exact hK _ _ (Below.refl _ _) (fun _ => rfl)
            · intro act wa hC hd H O K hK
              clear hd
              obtain ⟨hB, -⟩ := hC
              have h5 := O 5 (by kernel_rfl)
              have g5 := Array.getD_eq_getD_getElem?.symm.trans h5
              have h127 : act.tmps.getD 127 undef = .bool false := H 1 25 127 (by kernel_rfl) rfl
              have g127 := Array.getD_eq_getD_getElem?.symm.trans h127
              have k127 := Inv.some_bool g127
              clear H O
              obtain ⟨krl, kr1, rr0, rrl⟩ := HPRE.out wa hB
              go_simp
              exact hK _ _ (Below.refl _ _) (fun _ => rfl)
            · intro act wa hC hd H O K hK
              clear hd
              obtain ⟨hB, -⟩ := hC
              have h128 : act.tmps.getD 128 undef = .pointer (some ⟨g, 0, none⟩) := H 1 26 128 (by kernel_rfl) rfl
              have g128 := Array.getD_eq_getD_getElem?.symm.trans h128
              have h127 : act.tmps.getD 127 undef = .bool false := H 1 25 127 (by kernel_rfl) rfl
              have g127 := Array.getD_eq_getD_getElem?.symm.trans h127
              have k127 := Inv.some_bool g127
              clear H O
              obtain ⟨krl, kr1, rr0, rrl⟩ := HPRE.out wa hB
              go_simp
              refine (DLeft_any wa g rm vs5 _ _ _ _ (DskM.below D8.out.1 hB) OKN.out.1 (fun i => Nat.le_trans (totF_take_le _ _) OKN.out.2.1)).mono ?_
              rintro e1 w1 ⟨rfl, q9, hq9⟩
              rw [HLF.out]
              have hb : Below wa.heap.size wa w1 := by rw [hq9]; exact below_drewN (Below.refl _ _) q9
              exact hK _ _ hb (fun _ => rfl)
            · intro act wa hC hd H O K hK
              clear hd
              obtain ⟨hB, -⟩ := hC
              have h7 := O 7 (by kernel_rfl)
              have g7 := Array.getD_eq_getD_getElem?.symm.trans h7
              have h127 : act.tmps.getD 127 undef = .bool false := H 1 25 127 (by kernel_rfl) rfl
              have g127 := Array.getD_eq_getD_getElem?.symm.trans h127
              have k127 := Inv.some_bool g127
              clear H O
              obtain ⟨krl, kr1, rr0, rrl⟩ := HPRE.out wa hB
              go_simp
              exact hK _ _ (Below.refl _ _) (fun _ => rfl)
            · intro act wa hC hd H O K hK
              clear hd
              obtain ⟨hB, -⟩ := hC
              have h130 : act.tmps.getD 130 undef = .pointer (some ⟨gr, 0, none⟩) := H 1 28 130 (by kernel_rfl) rfl
              have g130 := Array.getD_eq_getD_getElem?.symm.trans h130
              have h127 : act.tmps.getD 127 undef = .bool false := H 1 25 127 (by kernel_rfl) rfl
              have g127 := Array.getD_eq_getD_getElem?.symm.trans h127
              have k127 := Inv.some_bool g127
              clear H O
              obtain ⟨krl, kr1, rr0, rrl⟩ := HPRE.out wa hB
              go_simp
              refine (RLeft_any wa _ gr rm rvs6 dN (D8.out.2.1.below hB) OKN.out).mono ?_
              rintro e1 w1 ⟨rfl, q9, hq9⟩
              rw [HLF.out]
              have hb : Below wa.heap.size wa w1 := by rw [hq9]; exact below_drewN (Below.refl _ _) q9
              exact hK _ _ hb (fun _ => rfl)
            · intro act wa hC hd H O K hK
              clear hd
              obtain ⟨hB, -⟩ := hC
              have h129 : act.tmps.getD 129 undef = .int .i64 (lf : Int) := H 1 27 129 (by kernel_rfl) rfl
              have g129 := Array.getD_eq_getD_getElem?.symm.trans h129
              have h131 : act.tmps.getD 131 undef = .int .i64 (lf : Int) := H 1 29 131 (by kernel_rfl) rfl
              have g131 := Array.getD_eq_getD_getElem?.symm.trans h131
              have h127 : act.tmps.getD 127 undef = .bool false := H 1 25 127 (by kernel_rfl) rfl
              have g127 := Array.getD_eq_getD_getElem?.symm.trans h127
              have k127 := Inv.some_bool g127
              clear H O
              obtain ⟨krl, kr1, rr0, rrl⟩ := HPRE.out wa hB
              go_simp
              exact hK _ _ (Below.refl _ _) (fun _ => rfl)
            · intro act wa hC hd H O K hK
              clear hd
              obtain ⟨hB, -⟩ := hC
              have h127 : act.tmps.getD 127 undef = .bool false := H 1 25 127 (by kernel_rfl) rfl
              have g127 := Array.getD_eq_getD_getElem?.symm.trans h127
              have h132 : act.tmps.getD 132 undef = .bool false := H 1 30 132 (by kernel_rfl) rfl
              have g132 := Array.getD_eq_getD_getElem?.symm.trans h132
              clear H O
              obtain ⟨krl, kr1, rr0, rrl⟩ := HPRE.out wa hB
              go_simp
              exact hK _ _ (Below.refl _ _) (fun _ => rfl)
            · intro act wa hC hd H O K hK
              clear hd
              obtain ⟨hB, -⟩ := hC
              have h133 : act.tmps.getD 133 undef = .bool false := H 1 31 133 (by kernel_rfl) rfl
              have g133 := Array.getD_eq_getD_getElem?.symm.trans h133
              clear H O
              obtain ⟨krl, kr1, rr0, rrl⟩ := HPRE.out wa hB
              go_simp
              exact hK _ _ (Below.refl _ _) (fun _ => rfl)
            · intro act wa hC hd H O K hK
              clear hd
              obtain ⟨hB, -⟩ := hC
              have h5 := O 5 (by kernel_rfl)
              have g5 := Array.getD_eq_getD_getElem?.symm.trans h5
              have h134 : act.tmps.getD 134 undef = .bool false := H 1 32 134 (by kernel_rfl) rfl
              have g134 := Array.getD_eq_getD_getElem?.symm.trans h134
              have k134 := Inv.some_bool g134
              clear H O
              obtain ⟨krl, kr1, rr0, rrl⟩ := HPRE.out wa hB
              go_simp
              exact hK _ _ (Below.refl _ _) (fun _ => rfl)
            · intro act wa hC hd H O K hK
              clear hd
              obtain ⟨hB, -⟩ := hC
              have h135 : act.tmps.getD 135 undef = .pointer (some ⟨g, 0, none⟩) := H 1 33 135 (by kernel_rfl) rfl
              have g135 := Array.getD_eq_getD_getElem?.symm.trans h135
              have h134 : act.tmps.getD 134 undef = .bool false := H 1 32 134 (by kernel_rfl) rfl
              have g134 := Array.getD_eq_getD_getElem?.symm.trans h134
              have k134 := Inv.some_bool g134
              clear H O
              obtain ⟨krl, kr1, rr0, rrl⟩ := HPRE.out wa hB
              go_simp
              refine (DDown_any wa g rm vs5 _ _ _ _ (DskM.below D8.out.1 hB)).mono ?_
              rintro e1 w1 ⟨rfl, q9, hq9⟩
              rw [HDNN.out]
              have hb : Below wa.heap.size wa w1 := by rw [hq9]; exact below_drewN (Below.refl _ _) q9
              exact hK _ _ hb (fun _ => rfl)
            · intro act wa hC hd H O K hK
              clear hd
              obtain ⟨hB, -⟩ := hC
              have h7 := O 7 (by kernel_rfl)
              have g7 := Array.getD_eq_getD_getElem?.symm.trans h7
              have h134 : act.tmps.getD 134 undef = .bool false := H 1 32 134 (by kernel_rfl) rfl
              have g134 := Array.getD_eq_getD_getElem?.symm.trans h134
              have k134 := Inv.some_bool g134
              clear H O
              obtain ⟨krl, kr1, rr0, rrl⟩ := HPRE.out wa hB
              go_simp
              exact hK _ _ (Below.refl _ _) (fun _ => rfl)
            · intro act wa hC hd H O K hK
              clear hd
              obtain ⟨hB, -⟩ := hC
              have h137 : act.tmps.getD 137 undef = .pointer (some ⟨gr, 0, none⟩) := H 1 35 137 (by kernel_rfl) rfl
              have g137 := Array.getD_eq_getD_getElem?.symm.trans h137
              have h134 : act.tmps.getD 134 undef = .bool false := H 1 32 134 (by kernel_rfl) rfl
              have g134 := Array.getD_eq_getD_getElem?.symm.trans h134
              have k134 := Inv.some_bool g134
              clear H O
              obtain ⟨krl, kr1, rr0, rrl⟩ := HPRE.out wa hB
              go_simp
              exact hK _ _ (Below.refl _ _) (fun _ => rfl)
            · intro act wa hC hd H O K hK
              clear hd
              obtain ⟨hB, -⟩ := hC
              have h138 : act.tmps.getD 138 undef = .pointer (some ⟨gr, 0, none⟩) := H 1 36 138 (by kernel_rfl) rfl
              have g138 := Array.getD_eq_getD_getElem?.symm.trans h138
              have h134 : act.tmps.getD 134 undef = .bool false := H 1 32 134 (by kernel_rfl) rfl
              have g134 := Array.getD_eq_getD_getElem?.symm.trans h134
              have k134 := Inv.some_bool g134
              clear H O
              obtain ⟨krl, kr1, rr0, rrl⟩ := HPRE.out wa hB
              go_simp
              exact hK _ _ (Below.refl _ _) (fun _ => rfl)
            · intro act wa hC hd H O K hK
              clear hd
              obtain ⟨hB, -⟩ := hC
              have h139 : act.tmps.getD 139 undef = .pointer (some ⟨gr, 130, none⟩) := H 1 37 139 (by kernel_rfl) rfl
              have g139 := Array.getD_eq_getD_getElem?.symm.trans h139
              have h134 : act.tmps.getD 134 undef = .bool false := H 1 32 134 (by kernel_rfl) rfl
              have g134 := Array.getD_eq_getD_getElem?.symm.trans h134
              have k134 := Inv.some_bool g134
              clear H O
              obtain ⟨krl, kr1, rr0, rrl⟩ := HPRE.out wa hB
              go_simp
              exact hK _ _ (Below.refl _ _) (fun _ => rfl)
            · intro act wa hC hd H O K hK
              clear hd
              obtain ⟨hB, -⟩ := hC
              have h136 : act.tmps.getD 136 undef = .bool dn := H 1 34 136 (by kernel_rfl) rfl
              have g136 := Array.getD_eq_getD_getElem?.symm.trans h136
              have h140 : act.tmps.getD 140 undef = .bool dn := H 1 38 140 (by kernel_rfl) rfl
              have g140 := Array.getD_eq_getD_getElem?.symm.trans h140
              have h134 : act.tmps.getD 134 undef = .bool false := H 1 32 134 (by kernel_rfl) rfl
              have g134 := Array.getD_eq_getD_getElem?.symm.trans h134
              have k134 := Inv.some_bool g134
              clear H O
              obtain ⟨krl, kr1, rr0, rrl⟩ := HPRE.out wa hB
              go_simp
              exact hK _ _ (Below.refl _ _) (fun _ => rfl)
            · intro act wa hC hd H O K hK
              clear hd
              obtain ⟨hB, -⟩ := hC
              have h134 : act.tmps.getD 134 undef = .bool false := H 1 32 134 (by kernel_rfl) rfl
              have g134 := Array.getD_eq_getD_getElem?.symm.trans h134
              have h141 : act.tmps.getD 141 undef = .bool false := H 1 39 141 (by kernel_rfl) rfl
              have g141 := Array.getD_eq_getD_getElem?.symm.trans h141
              clear H O
              obtain ⟨krl, kr1, rr0, rrl⟩ := HPRE.out wa hB
              go_simp
              exact hK _ _ (Below.refl _ _) (fun _ => rfl)
            · intro act wa hC hd H O K hK
              clear hd
              obtain ⟨hB, -⟩ := hC
              have h142 : act.tmps.getD 142 undef = .bool false := H 1 40 142 (by kernel_rfl) rfl
              have g142 := Array.getD_eq_getD_getElem?.symm.trans h142
              clear H O
              obtain ⟨krl, kr1, rr0, rrl⟩ := HPRE.out wa hB
              go_simp
              exact hK _ _ (Below.refl _ _) (fun _ => rfl)
            · intro act wa hC hd H O K hK
              clear hd
              obtain ⟨hB, -⟩ := hC
              have h5 := O 5 (by kernel_rfl)
              have g5 := Array.getD_eq_getD_getElem?.symm.trans h5
              have h143 : act.tmps.getD 143 undef = .bool false := H 1 41 143 (by kernel_rfl) rfl
              have g143 := Array.getD_eq_getD_getElem?.symm.trans h143
              have k143 := Inv.some_bool g143
              clear H O
              obtain ⟨krl, kr1, rr0, rrl⟩ := HPRE.out wa hB
              go_simp
              exact hK _ _ (Below.refl _ _) (fun _ => rfl)
            · intro act wa hC hd H O K hK
              clear hd
              obtain ⟨hB, -⟩ := hC
              have h144 : act.tmps.getD 144 undef = .pointer (some ⟨g, 0, none⟩) := H 1 42 144 (by kernel_rfl) rfl
              have g144 := Array.getD_eq_getD_getElem?.symm.trans h144
              have h143 : act.tmps.getD 143 undef = .bool false := H 1 41 143 (by kernel_rfl) rfl
              have g143 := Array.getD_eq_getD_getElem?.symm.trans h143
              have k143 := Inv.some_bool g143
              clear H O
              obtain ⟨krl, kr1, rr0, rrl⟩ := HPRE.out wa hB
              go_simp
              refine (DFiles_any wa g rm vs5 dN (DskM.below D8.out.1 hB) OKN.out).mono ?_
              rintro e1 w1 ⟨v8, rfl, ho8, hb⟩
              rw [HFL.out, HNF.out] at ho8
              obtain ⟨A8, c8, rfl⟩ := own_sl ho8
              exact hK _ _ hb (fun _ => ⟨A8, c8, rfl, Rd.of_own ho8⟩)
            · intro act wa hC hd H O K hK
              clear hd
              obtain ⟨hB, -⟩ := hC
              have h7 := O 7 (by kernel_rfl)
              have g7 := Array.getD_eq_getD_getElem?.symm.trans h7
              have h143 : act.tmps.getD 143 undef = .bool false := H 1 41 143 (by kernel_rfl) rfl
              have g143 := Array.getD_eq_getD_getElem?.symm.trans h143
              have k143 := Inv.some_bool g143
              clear H O
              obtain ⟨krl, kr1, rr0, rrl⟩ := HPRE.out wa hB
              go_simp
              exact hK _ _ (Below.refl _ _) (fun _ => rfl)
            · intro act wa hC hd H O K hK
              clear hd
              obtain ⟨hB, -⟩ := hC
              have h146 : act.tmps.getD 146 undef = .pointer (some ⟨gr, 0, none⟩) := H 1 44 146 (by kernel_rfl) rfl
              have g146 := Array.getD_eq_getD_getElem?.symm.trans h146
              have h143 : act.tmps.getD 143 undef = .bool false := H 1 41 143 (by kernel_rfl) rfl
              have g143 := Array.getD_eq_getD_getElem?.symm.trans h143
              have k143 := Inv.some_bool g143
              clear H O
              obtain ⟨krl, kr1, rr0, rrl⟩ := HPRE.out wa hB
              go_simp
              refine (RFiles_any wa _ gr rm rvs6 dN (D8.out.2.1.below hB)).mono ?_
              rintro e1 w1 ⟨v8, rfl, ho8, hb⟩
              rw [HFL.out, HNF.out] at ho8
              obtain ⟨A8, c8, rfl⟩ := own_sl ho8
              exact hK _ _ hb (fun _ => ⟨A8, c8, rfl, Rd.of_own ho8⟩)
            · intro act wa hC hd H O K hK
              clear hd
              obtain ⟨hB, -⟩ := hC
              have h145 : ∃ A c, act.tmps.getD 145 undef = .slice A nf c ∧ Rd wa wa.heap.size A (i64n fl) := H 1 43 145 (by kernel_rfl) rfl
              obtain ⟨A145, c145, h145', l145⟩ := h145
              have h147 : ∃ A c, act.tmps.getD 147 undef = .slice A nf c ∧ Rd wa wa.heap.size A (i64n fl) := H 1 45 147 (by kernel_rfl) rfl
              obtain ⟨A147, c147, h147', l147⟩ := h147
              have h143 : act.tmps.getD 143 undef = .bool false := H 1 41 143 (by kernel_rfl) rfl
              have g143 := Array.getD_eq_getD_getElem?.symm.trans h143
              have k143 := Inv.some_bool g143
              clear H O
              obtain ⟨krl, kr1, rr0, rrl⟩ := HPRE.out wa hB
              go_simp
              rw [i64n_i] at l145 l147
              refine (ints_at wa A145 A147 c145 c147 _ _ _ _ nf nf true l145 l147 (by rw [List.length_map, HNF.out]; unfold maxLen; omega) (by rw [List.length_map, HNF.out]) (by rw [List.length_map, HNF.out]) (by simp)).mono ?_
              rintro e1 w1 ⟨rfl, q9, hq9⟩
              have hb : Below wa.heap.size wa w1 := by rw [hq9]; exact below_drewN (Below.refl _ _) q9
              exact hK _ _ hb (fun _ => rfl)
            · intro act wa hC hd H O K hK
              clear hd
              obtain ⟨hB, -⟩ := hC
              have h148 : act.tmps.getD 148 undef = .bool true := H 1 46 148 (by kernel_rfl) rfl
              have g148 := Array.getD_eq_getD_getElem?.symm.trans h148
              have h143 : act.tmps.getD 143 undef = .bool false := H 1 41 143 (by kernel_rfl) rfl
              have g143 := Array.getD_eq_getD_getElem?.symm.trans h143
              have k143 := Inv.some_bool g143
              clear H O
              obtain ⟨krl, kr1, rr0, rrl⟩ := HPRE.out wa hB
              go_simp
              exact hK _ _ (Below.refl _ _) (fun _ => rfl)
            · intro act wa hC hd H O K hK
              clear hd
              obtain ⟨hB, -⟩ := hC
              have h143 : act.tmps.getD 143 undef = .bool false := H 1 41 143 (by kernel_rfl) rfl
              have g143 := Array.getD_eq_getD_getElem?.symm.trans h143
              have h149 : act.tmps.getD 149 undef = .bool false := H 1 47 149 (by kernel_rfl) rfl
              have g149 := Array.getD_eq_getD_getElem?.symm.trans h149
              clear H O
              obtain ⟨krl, kr1, rr0, rrl⟩ := HPRE.out wa hB
              go_simp
              exact hK _ _ (Below.refl _ _) (fun _ => rfl)
          · intro us w' hC hF
            obtain ⟨hB, -⟩ := hC
            have u150 : us 150 = .bool false := hF 48 150 rfl
            clear hF
            simp only [List.foldl]
            go_simp
            have e150 : us 150 = .bool false := u150
            have R := Lib.hid (show LD w g gr rm len (.int .i64 ((k : Int) + 1)) w' from ⟨k + 1, vs5, rvs6, dN, by go_num, HLT.out, D8.out.below hB, OKN.out, AS5.out, B8.out.trans (hB.mono B8.out.size)⟩)
            clear hB u150
            try rw [e150]
            go_wp2
            go_roundw
            case rel => exact R.out
            case measure => simp [intOf]; have := HLT.out; omega
        have n11 : (a.k == 1) = false := by simp [hq1]
        have n12 : decide (a.k = 1) = false := by simp [hq1]
        by_cases hq2 : a.k = 2
        · have HDN2 := Lib.hid (doP2 rm d a hq2)
          rw [hq2] at k0
          rw [HDN2.out] at HDN HNN
          go_wp2_with fail
          refine (RCut_any w5 _ gr rm rvs d a.x a.n D5.out.2.1 D5.out.slt OK.out).mono ?_
          intro en w6 hres
          obtain ⟨rfl, rvs6, hr6, hO⟩ := RRes_at hres HDN.out.symm HNN.out
          clear hres
          have B6 := Lib.hid (B5.out.trans (hO.to_below B5.out.size (fun j hj => by have := HGR.out; omega)))
          have D6 := Lib.hid (D5.out.doc hr6 hO)
          have KA6 := Lib.hid (hO.blk KA5.out HQ.out)
          clear hr6 hO k0 k1 k2 k3 k4 kl
          have k1 := KA6.out.cell 1
          simp at k1
          have kl := KA6.out.lt
          obtain ⟨⟨rb, re⟩, hrd⟩ : ∃ r, readP dN a.x = r := ⟨_, rfl⟩
          have hm20 := readP_len OKN.out a.x
          rw [hrd] at hm20
          simp only at hm20
          have HRD := Lib.hid hrd
          obtain ⟨m, hm⟩ : ∃ m, rb.length = m := ⟨_, rfl⟩
          rw [hm] at hm20
          have HM := Lib.hid hm
          clear hrd hm
          go_wp2_with fail
          refine (DRead_any w6 g rm vs5 dN a.x D6.out.1 OKN.out).mono ?_
          rintro en w7 ⟨vB, rfl, hm7, hf7, hb7⟩
          rw [HRD.out] at hm7 ⊢
          simp only at hm7
          rw [HM.out] at hm7
          obtain ⟨AB, CB, rfl, -⟩ := id hm7
          have D7 := Lib.hid (D6.out.below hb7); have B7 := Lib.hid (B6.out.trans (hb7.mono B6.out.size)); have KA7 := Lib.hid (KA6.out.below hb7 KA6.out.lt); have MB7 := Lib.hid hm7.rd_ofD
          clear hm7 hf7 hb7 k1 kl
          have k1 := KA7.out.cell 1
          simp at k1
          have kl := KA7.out.lt
          go_wp2_with fail
          refine (RRead_any w7 _ gr rm rvs6 dN a.x D7.out.2.1 OKN.out).mono ?_
          rintro en w8 ⟨vC, rfl, hm8, hf8, hb8⟩
          rw [HRD.out] at hm8 ⊢
          simp only at hm8
          rw [HM.out] at hm8
          obtain ⟨AC, CC, rfl, -⟩ := id hm8
          have D8 := Lib.hid (D7.out.below hb8); have B8 := Lib.hid (B7.out.trans (hb8.mono B7.out.size)); have KA8 := Lib.hid (KA7.out.below hb8 KA7.out.lt); have MB8 := Lib.hid ((MB7.out.below hb8).more hb8.size); have MC8 := Lib.hid hm8.rd_ofD
          clear hm8 hf8 hb8 k1 kl
          obtain ⟨nf, hnf⟩ : ∃ q, (filesK dN.1 64).length = q := ⟨_, rfl⟩
          have hnf64 : nf ≤ 64 := by rw [← hnf]; exact filesK_len _ _
          obtain ⟨fl, hfl⟩ : ∃ q, filesK dN.1 64 = q := ⟨_, rfl⟩
          have HFL := Lib.hid hfl
          have HNF := Lib.hid (show fl.length = nf by rw [← hfl]; exact hnf)
          obtain ⟨dn, hdn⟩ : ∃ q, dN.2.1 = q := ⟨_, rfl⟩
          have HDNN := Lib.hid hdn
          obtain ⟨su, hsu⟩ : ∃ q, sureF dN.1 a.x = q := ⟨_, rfl⟩
          have HSU := Lib.hid hsu
          obtain ⟨lf, hlf⟩ : ∃ q, rm - totF dN.1 = q := ⟨_, rfl⟩
          have HLF := Lib.hid hlf
          clear hnf hfl hdn hsu hlf
          have HPRE : Hid (∀ wa, Below w8.heap.size w8 wa → q < wa.heap.size ∧ wa.cell? ⟨q, 1, none⟩ = some (.int .i64 a.x) ∧ wa.cell? ⟨gr, 130, none⟩ = some (.bool dn) ∧ gr < wa.heap.size) := Lib.hid (fun wa hB => by
            have kr := KA8.out.below hB KA8.out.lt
            have kr1 := kr.cell 1
            simp at kr1
            have rr := D8.out.2.1.below hB
            have rr0 := rr.dn0
            rw [HDNN.out] at rr0
            exact ⟨kr.lt, kr1, rr0, rr.lt⟩)
          go_wp2_with fail
          refine Inv.region_below (fun i v w' => match i with
              | 0 => v = .int .i64 n
              | 1 => v = .int .i64 n
              | 2 => v = .bool false
              | 3 => v = .bool false
              | 4 => v = .slice AB m CB
              | 5 => v = .slice AC m CC
              | 6 => v = .bool true
              | 7 => v = .bool false
              | 8 => v = .bool false
              | 9 => v = .bool false
              | 10 => v = .int .i64 (re : Int)
              | 11 => v = .int .i64 (re : Int)
              | 12 => v = .bool false
              | 13 => v = .bool false
              | 14 => v = .bool false
              | 15 => v = .pointer (some ⟨g, 0, none⟩)
              | 16 => v = .pointer (some ⟨q, 1, none⟩)
              | 17 => v = .int .i64 a.x
              | 18 => v = .int .i64 (su : Int)
              | 19 => v = .pointer (some ⟨gr, 0, none⟩)
              | 20 => v = .pointer (some ⟨q, 1, none⟩)
              | 21 => v = .int .i64 a.x
              | 22 => v = .int .i64 (su : Int)
              | 23 => v = .bool false
              | 24 => v = .bool false
              | 25 => v = .bool false
              | 26 => v = .pointer (some ⟨g, 0, none⟩)
              | 27 => v = .int .i64 (lf : Int)
              | 28 => v = .pointer (some ⟨gr, 0, none⟩)
              | 29 => v = .int .i64 (lf : Int)
              | 30 => v = .bool false
              | 31 => v = .bool false
              | 32 => v = .bool false
              | 33 => v = .pointer (some ⟨g, 0, none⟩)
              | 34 => v = .bool dn
              | 35 => v = .pointer (some ⟨gr, 0, none⟩)
              | 36 => v = .pointer (some ⟨gr, 0, none⟩)
              | 37 => v = .pointer (some ⟨gr, 130, none⟩)
              | 38 => v = .bool dn
              | 39 => v = .bool false
              | 40 => v = .bool false
              | 41 => v = .bool false
              | 42 => v = .pointer (some ⟨g, 0, none⟩)
              | 43 => ∃ A c, v = .slice A nf c ∧ Rd w' w'.heap.size A (i64n fl)
              | 44 => v = .pointer (some ⟨gr, 0, none⟩)
              | 45 => ∃ A c, v = .slice A nf c ∧ Rd w' w'.heap.size A (i64n fl)
              | 46 => v = .bool true
              | 47 => v = .bool false
              | 48 => v = .bool false
              | _ => True)
            (fun w' => Below w8.heap.size w8 w' ∧ True) 152 [102, 103, 104, 105, 106, 107, 108, 109, 110, 111, 112, 113, 114, 115, 116, 117, 118, 119, 120, 121, 122, 123, 124, 125, 126, 127, 128, 129, 130, 131, 132, 133, 134, 135, 136, 137, 138, 139, 140, 141, 142, 143, 144, 145, 146, 147, 148, 149, 150] (by kernel_rfl) rfl (by kernel_rfl) (by kernel_rfl) ?_ ?_ ?_ ?_
          · intro v v' hC hb
            obtain ⟨hB, -⟩ := hC
            exact ⟨hB.trans (hb.mono hB.size), trivial⟩
          · exact ⟨(Below.refl _ _).drew, trivial⟩
          · refine ⟨⟨fun _ _ _ h _ => h, ?_⟩, ⟨fun _ _ _ h _ => h, ?_⟩, ⟨fun _ _ _ h _ => h, ?_⟩, ⟨fun _ _ _ h _ => h, ?_⟩, ⟨fun _ _ _ h _ => h, ?_⟩, ⟨fun _ _ _ h _ => h, ?_⟩, ⟨fun _ _ _ h _ => h, ?_⟩, ⟨fun _ _ _ h _ => h, ?_⟩, ⟨fun _ _ _ h _ => h, ?_⟩, ⟨fun _ _ _ h _ => h, ?_⟩, ⟨fun _ _ _ h _ => h, ?_⟩, ⟨fun _ _ _ h _ => h, ?_⟩, ⟨fun _ _ _ h _ => h, ?_⟩, ⟨fun _ _ _ h _ => h, ?_⟩, ⟨fun _ _ _ h _ => h, ?_⟩, ⟨fun _ _ _ h _ => h, ?_⟩, ⟨fun _ _ _ h _ => h, ?_⟩, ⟨fun _ _ _ h _ => h, ?_⟩, ⟨fun _ _ _ h _ => h, ?_⟩, ⟨fun _ _ _ h _ => h, ?_⟩, ⟨fun _ _ _ h _ => h, ?_⟩, ⟨fun _ _ _ h _ => h, ?_⟩, ⟨fun _ _ _ h _ => h, ?_⟩, ⟨fun _ _ _ h _ => h, ?_⟩, ⟨fun _ _ _ h _ => h, ?_⟩, ⟨fun _ _ _ h _ => h, ?_⟩, ⟨fun _ _ _ h _ => h, ?_⟩, ⟨fun _ _ _ h _ => h, ?_⟩, ⟨fun _ _ _ h _ => h, ?_⟩, ⟨fun _ _ _ h _ => h, ?_⟩, ⟨fun _ _ _ h _ => h, ?_⟩, ⟨fun _ _ _ h _ => h, ?_⟩, ⟨fun _ _ _ h _ => h, ?_⟩, ⟨fun _ _ _ h _ => h, ?_⟩, ⟨fun _ _ _ h _ => h, ?_⟩, ⟨fun _ _ _ h _ => h, ?_⟩, ⟨fun _ _ _ h _ => h, ?_⟩, ⟨fun _ _ _ h _ => h, ?_⟩, ⟨fun _ _ _ h _ => h, ?_⟩, ⟨fun _ _ _ h _ => h, ?_⟩, ⟨fun _ _ _ h _ => h, ?_⟩, ⟨fun _ _ _ h _ => h, ?_⟩, ⟨fun _ _ _ h _ => h, ?_⟩, ⟨fun v w w' ⟨A, c, h1, h2⟩ hb => ⟨A, c, h1, (h2.below hb).more hb.size⟩, ?_⟩, ⟨fun _ _ _ h _ => h, ?_⟩, ⟨fun v w w' ⟨A, c, h1, h2⟩ hb => ⟨A, c, h1, (h2.below hb).more hb.size⟩, ?_⟩, ⟨fun _ _ _ h _ => h, ?_⟩, ⟨fun _ _ _ h _ => h, ?_⟩, ⟨fun _ _ _ h _ => h, ?_⟩, trivial⟩
            · intro act wa hC hd H O K hK
              clear hd
              obtain ⟨hB, -⟩ := hC
              have h11 := O 11 (by kernel_rfl)
              have g11 := Array.getD_eq_getD_getElem?.symm.trans h11
              clear H O
              obtain ⟨krl, kr1, rr0, rrl⟩ := HPRE.out wa hB
              go_simp
              exact hK _ _ (Below.refl _ _) (fun _ => rfl)
            · intro act wa hC hd H O K hK
              clear hd
              obtain ⟨hB, -⟩ := hC
              have h12 := O 12 (by kernel_rfl)
              have g12 := Array.getD_eq_getD_getElem?.symm.trans h12
              clear H O
              obtain ⟨krl, kr1, rr0, rrl⟩ := HPRE.out wa hB
              go_simp
              exact hK _ _ (Below.refl _ _) (fun _ => rfl)
            · intro act wa hC hd H O K hK
              clear hd
              obtain ⟨hB, -⟩ := hC
              have h102 : act.tmps.getD 102 undef = .int .i64 n := H 1 0 102 (by kernel_rfl) rfl
              have g102 := Array.getD_eq_getD_getElem?.symm.trans h102
              have h103 : act.tmps.getD 103 undef = .int .i64 n := H 1 1 103 (by kernel_rfl) rfl
              have g103 := Array.getD_eq_getD_getElem?.symm.trans h103
              clear H O
              obtain ⟨krl, kr1, rr0, rrl⟩ := HPRE.out wa hB
              go_simp
              exact hK _ _ (Below.refl _ _) (fun _ => rfl)
            · intro act wa hC hd H O K hK
              clear hd
              obtain ⟨hB, -⟩ := hC
              have h104 : act.tmps.getD 104 undef = .bool false := H 1 2 104 (by kernel_rfl) rfl
              have g104 := Array.getD_eq_getD_getElem?.symm.trans h104
              clear H O
              obtain ⟨krl, kr1, rr0, rrl⟩ := HPRE.out wa hB
              go_simp
              exact hK _ _ (Below.refl _ _) (fun _ => rfl)
            · intro act wa hC hd H O K hK
              clear hd
              obtain ⟨hB, -⟩ := hC
              have h13 := O 13 (by kernel_rfl)
              have g13 := Array.getD_eq_getD_getElem?.symm.trans h13
              have h105 : act.tmps.getD 105 undef = .bool false := H 1 3 105 (by kernel_rfl) rfl
              have g105 := Array.getD_eq_getD_getElem?.symm.trans h105
              have k105 := Inv.some_bool g105
              clear H O
              obtain ⟨krl, kr1, rr0, rrl⟩ := HPRE.out wa hB
              go_simp
              exact hK _ _ (Below.refl _ _) (fun _ => rfl)
            · intro act wa hC hd H O K hK
              clear hd
              obtain ⟨hB, -⟩ := hC
              have h15 := O 15 (by kernel_rfl)
              have g15 := Array.getD_eq_getD_getElem?.symm.trans h15
              have h105 : act.tmps.getD 105 undef = .bool false := H 1 3 105 (by kernel_rfl) rfl
              have g105 := Array.getD_eq_getD_getElem?.symm.trans h105
              have k105 := Inv.some_bool g105
              clear H O
              obtain ⟨krl, kr1, rr0, rrl⟩ := HPRE.out wa hB
              go_simp
              exact hK _ _ (Below.refl _ _) (fun _ => rfl)
            · intro act wa hC hd H O K hK
              clear hd
              obtain ⟨hB, -⟩ := hC
              have h106 : act.tmps.getD 106 undef = .slice AB m CB := H 1 4 106 (by kernel_rfl) rfl
              have g106 := Array.getD_eq_getD_getElem?.symm.trans h106
              have h107 : act.tmps.getD 107 undef = .slice AC m CC := H 1 5 107 (by kernel_rfl) rfl
              have g107 := Array.getD_eq_getD_getElem?.symm.trans h107
              have h105 : act.tmps.getD 105 undef = .bool false := H 1 3 105 (by kernel_rfl) rfl
              have g105 := Array.getD_eq_getD_getElem?.symm.trans h105
              have k105 := Inv.some_bool g105
              clear H O
              obtain ⟨krl, kr1, rr0, rrl⟩ := HPRE.out wa hB
              go_simp
              refine (same_at wa AB AC CB CC rb rb _ _ m m true (MB8.out.below hB) (MC8.out.below hB) (by rw [HM.out]; unfold maxLen; omega) HM.out HM.out (by simp)).mono ?_
              rintro e1 w1 ⟨rfl, q9, hq9⟩
              have hb : Below wa.heap.size wa w1 := by rw [hq9]; exact below_drewN (Below.refl _ _) q9
              exact hK _ _ hb (fun _ => rfl)
            · intro act wa hC hd H O K hK
              clear hd
              obtain ⟨hB, -⟩ := hC
              have h108 : act.tmps.getD 108 undef = .bool true := H 1 6 108 (by kernel_rfl) rfl
              have g108 := Array.getD_eq_getD_getElem?.symm.trans h108
              have h105 : act.tmps.getD 105 undef = .bool false := H 1 3 105 (by kernel_rfl) rfl
              have g105 := Array.getD_eq_getD_getElem?.symm.trans h105
              have k105 := Inv.some_bool g105
              clear H O
              obtain ⟨krl, kr1, rr0, rrl⟩ := HPRE.out wa hB
              go_simp
              exact hK _ _ (Below.refl _ _) (fun _ => rfl)
            · intro act wa hC hd H O K hK
              clear hd
              obtain ⟨hB, -⟩ := hC
              have h105 : act.tmps.getD 105 undef = .bool false := H 1 3 105 (by kernel_rfl) rfl
              have g105 := Array.getD_eq_getD_getElem?.symm.trans h105
              have h109 : act.tmps.getD 109 undef = .bool false := H 1 7 109 (by kernel_rfl) rfl
              have g109 := Array.getD_eq_getD_getElem?.symm.trans h109
              clear H O
              obtain ⟨krl, kr1, rr0, rrl⟩ := HPRE.out wa hB
              go_simp
              exact hK _ _ (Below.refl _ _) (fun _ => rfl)
            · intro act wa hC hd H O K hK
              clear hd
              obtain ⟨hB, -⟩ := hC
              have h110 : act.tmps.getD 110 undef = .bool false := H 1 8 110 (by kernel_rfl) rfl
              have g110 := Array.getD_eq_getD_getElem?.symm.trans h110
              clear H O
              obtain ⟨krl, kr1, rr0, rrl⟩ := HPRE.out wa hB
              go_simp
              exact hK _ _ (Below.refl _ _) (fun _ => rfl)
            · intro act wa hC hd H O K hK
              clear hd
              obtain ⟨hB, -⟩ := hC
              have h14 := O 14 (by kernel_rfl)
              have g14 := Array.getD_eq_getD_getElem?.symm.trans h14
              have h111 : act.tmps.getD 111 undef = .bool false := H 1 9 111 (by kernel_rfl) rfl
              have g111 := Array.getD_eq_getD_getElem?.symm.trans h111
              have k111 := Inv.some_bool g111
              clear H O
              obtain ⟨krl, kr1, rr0, rrl⟩ := HPRE.out wa hB
              go_simp
              exact hK _ _ (Below.refl _ _) (fun _ => rfl)
            · intro act wa hC hd H O K hK
              clear hd
              obtain ⟨hB, -⟩ := hC
              have h16 := O 16 (by kernel_rfl)
              have g16 := Array.getD_eq_getD_getElem?.symm.trans h16
              have h111 : act.tmps.getD 111 undef = .bool false := H 1 9 111 (by kernel_rfl) rfl
              have g111 := Array.getD_eq_getD_getElem?.symm.trans h111
              have k111 := Inv.some_bool g111
              clear H O
              obtain ⟨krl, kr1, rr0, rrl⟩ := HPRE.out wa hB
              go_simp
              exact hK _ _ (Below.refl _ _) (fun _ => rfl)
            · intro act wa hC hd H O K hK
              clear hd
              obtain ⟨hB, -⟩ := hC
              have h112 : act.tmps.getD 112 undef = .int .i64 (re : Int) := H 1 10 112 (by kernel_rfl) rfl
              have g112 := Array.getD_eq_getD_getElem?.symm.trans h112
              have h113 : act.tmps.getD 113 undef = .int .i64 (re : Int) := H 1 11 113 (by kernel_rfl) rfl
              have g113 := Array.getD_eq_getD_getElem?.symm.trans h113
              have h111 : act.tmps.getD 111 undef = .bool false := H 1 9 111 (by kernel_rfl) rfl
              have g111 := Array.getD_eq_getD_getElem?.symm.trans h111
              have k111 := Inv.some_bool g111
              clear H O
              obtain ⟨krl, kr1, rr0, rrl⟩ := HPRE.out wa hB
              go_simp
              exact hK _ _ (Below.refl _ _) (fun _ => rfl)
            · intro act wa hC hd H O K hK
              clear hd
              obtain ⟨hB, -⟩ := hC
              have h111 : act.tmps.getD 111 undef = .bool false := H 1 9 111 (by kernel_rfl) rfl
              have g111 := Array.getD_eq_getD_getElem?.symm.trans h111
              have h114 : act.tmps.getD 114 undef = .bool false := H 1 12 114 (by kernel_rfl) rfl
              have g114 := Array.getD_eq_getD_getElem?.symm.trans h114
              clear H O
              obtain ⟨krl, kr1, rr0, rrl⟩ := HPRE.out wa hB
              go_simp
              exact hK _ _ (Below.refl _ _) (fun _ => rfl)
            · intro act wa hC hd H O K hK
              clear hd
              obtain ⟨hB, -⟩ := hC
              have h115 : act.tmps.getD 115 undef = .bool false := H 1 13 115 (by kernel_rfl) rfl
              have g115 := Array.getD_eq_getD_getElem?.symm.trans h115
              clear H O
              obtain ⟨krl, kr1, rr0, rrl⟩ := HPRE.out wa hB
              go_simp
              exact hK _ _ (Below.refl _ _) (fun _ => rfl)
            · intro act wa hC hd H O K hK
              clear hd
              obtain ⟨hB, -⟩ := hC
              have h5 := O 5 (by kernel_rfl)
              have g5 := Array.getD_eq_getD_getElem?.symm.trans h5
              have h116 : act.tmps.getD 116 undef = .bool false := H 1 14 116 (by kernel_rfl) rfl
              have g116 := Array.getD_eq_getD_getElem?.symm.trans h116
              have k116 := Inv.some_bool g116
              clear H O
              obtain ⟨krl, kr1, rr0, rrl⟩ := HPRE.out wa hB
              go_simp
              exact hK _ _ (Below.refl _ _) (fun _ => rfl)
            · intro act wa hC hd H O K hK
              clear hd
              obtain ⟨hB, -⟩ := hC
              have h10 := O 10 (by kernel_rfl)
              have g10 := Array.getD_eq_getD_getElem?.symm.trans h10
              have h116 : act.tmps.getD 116 undef = .bool false := H 1 14 116 (by kernel_rfl) rfl
              have g116 := Array.getD_eq_getD_getElem?.symm.trans h116
              have k116 := Inv.some_bool g116
              clear H O
              obtain ⟨krl, kr1, rr0, rrl⟩ := HPRE.out wa hB
              go_simp
              exact hK _ _ (Below.refl _ _) (fun _ => rfl)
            · intro act wa hC hd H O K hK
              clear hd
              obtain ⟨hB, -⟩ := hC
              have h118 : act.tmps.getD 118 undef = .pointer (some ⟨q, 1, none⟩) := H 1 16 118 (by kernel_rfl) rfl
              have g118 := Array.getD_eq_getD_getElem?.symm.trans h118
              have h116 : act.tmps.getD 116 undef = .bool false := H 1 14 116 (by kernel_rfl) rfl
              have g116 := Array.getD_eq_getD_getElem?.symm.trans h116
              have k116 := Inv.some_bool g116
              clear H O
              obtain ⟨krl, kr1, rr0, rrl⟩ := HPRE.out wa hB
              go_simp
              exact hK _ _ (Below.refl _ _) (fun _ => rfl)
            · intro act wa hC hd H O K hK
              clear hd
              obtain ⟨hB, -⟩ := hC
              have h117 : act.tmps.getD 117 undef = .pointer (some ⟨g, 0, none⟩) := H 1 15 117 (by kernel_rfl) rfl
              have g117 := Array.getD_eq_getD_getElem?.symm.trans h117
              have h119 : act.tmps.getD 119 undef = .int .i64 a.x := H 1 17 119 (by kernel_rfl) rfl
              have g119 := Array.getD_eq_getD_getElem?.symm.trans h119
              have h116 : act.tmps.getD 116 undef = .bool false := H 1 14 116 (by kernel_rfl) rfl
              have g116 := Array.getD_eq_getD_getElem?.symm.trans h116
              have k116 := Inv.some_bool g116
              clear H O
              obtain ⟨krl, kr1, rr0, rrl⟩ := HPRE.out wa hB
              go_simp
              refine (DSure_any wa g rm vs5 _ _ _ _ a.x (DskM.below D8.out.1 hB)).mono ?_
              rintro e1 w1 ⟨rfl, q9, hq9⟩
              rw [HSU.out]
              have hb : Below wa.heap.size wa w1 := by rw [hq9]; exact below_drewN (Below.refl _ _) q9
              exact hK _ _ hb (fun _ => rfl)
            · intro act wa hC hd H O K hK
              clear hd
              obtain ⟨hB, -⟩ := hC
              have h7 := O 7 (by kernel_rfl)
              have g7 := Array.getD_eq_getD_getElem?.symm.trans h7
              have h116 : act.tmps.getD 116 undef = .bool false := H 1 14 116 (by kernel_rfl) rfl
              have g116 := Array.getD_eq_getD_getElem?.symm.trans h116
              have k116 := Inv.some_bool g116
              clear H O
              obtain ⟨krl, kr1, rr0, rrl⟩ := HPRE.out wa hB
              go_simp
              exact hK _ _ (Below.refl _ _) (fun _ => rfl)
            · intro act wa hC hd H O K hK
              clear hd
              obtain ⟨hB, -⟩ := hC
              have h10 := O 10 (by kernel_rfl)
              have g10 := Array.getD_eq_getD_getElem?.symm.trans h10
              have h116 : act.tmps.getD 116 undef = .bool false := H 1 14 116 (by kernel_rfl) rfl
              have g116 := Array.getD_eq_getD_getElem?.symm.trans h116
              have k116 := Inv.some_bool g116
              clear H O
              obtain ⟨krl, kr1, rr0, rrl⟩ := HPRE.out wa hB
              go_simp
              exact hK _ _ (Below.refl _ _) (fun _ => rfl)
            · intro act wa hC hd H O K hK
              clear hd
              obtain ⟨hB, -⟩ := hC
              have h122 : act.tmps.getD 122 undef = .pointer (some ⟨q, 1, none⟩) := H 1 20 122 (by kernel_rfl) rfl
              have g122 := Array.getD_eq_getD_getElem?.symm.trans h122
              have h116 : act.tmps.getD 116 undef = .bool false := H 1 14 116 (by kernel_rfl) rfl
              have g116 := Array.getD_eq_getD_getElem?.symm.trans h116
              have k116 := Inv.some_bool g116
              clear H O
              obtain ⟨krl, kr1, rr0, rrl⟩ := HPRE.out wa hB
              go_simp
              exact hK _ _ (Below.refl _ _) (fun _ => rfl)
            · intro act wa hC hd H O K hK
              clear hd
              obtain ⟨hB, -⟩ := hC
              have h121 : act.tmps.getD 121 undef = .pointer (some ⟨gr, 0, none⟩) := H 1 19 121 (by kernel_rfl) rfl
              have g121 := Array.getD_eq_getD_getElem?.symm.trans h121
              have h123 : act.tmps.getD 123 undef = .int .i64 a.x := H 1 21 123 (by kernel_rfl) rfl
              have g123 := Array.getD_eq_getD_getElem?.symm.trans h123
              have h116 : act.tmps.getD 116 undef = .bool false := H 1 14 116 (by kernel_rfl) rfl
              have g116 := Array.getD_eq_getD_getElem?.symm.trans h116
              have k116 := Inv.some_bool g116
              clear H O
              obtain ⟨krl, kr1, rr0, rrl⟩ := HPRE.out wa hB
              go_simp
              refine (RSure_any wa _ gr rm rvs6 dN a.x (D8.out.2.1.below hB)).mono ?_
              rintro e1 w1 ⟨rfl, q9, hq9⟩
              rw [HSU.out]
              have hb : Below wa.heap.size wa w1 := by rw [hq9]; exact below_drewN (Below.refl _ _) q9
              exact hK _ _ hb (fun _ => rfl)
            · intro act wa hC hd H O K hK
              clear hd
              obtain ⟨hB, -⟩ := hC
              have h120 : act.tmps.getD 120 undef = .int .i64 (su : Int) := H 1 18 120 (by kernel_rfl) rfl
              have g120 := Array.getD_eq_getD_getElem?.symm.trans h120
              have h124 : act.tmps.getD 124 undef = .int .i64 (su : Int) := H 1 22 124 (by kernel_rfl) rfl
              have g124 := Array.getD_eq_getD_getElem?.symm.trans h124
              have h116 : act.tmps.getD 116 undef = .bool false := H 1 14 116 (by kernel_rfl) rfl
              have g116 := Array.getD_eq_getD_getElem?.symm.trans h116
              have k116 := Inv.some_bool g116
              clear H O
              obtain ⟨krl, kr1, rr0, rrl⟩ := HPRE.out wa hB
              go_simp
              exact hK _ _ (Below.refl _ _) (fun _ => rfl)
            · intro act wa hC hd H O K hK
              clear hd
              obtain ⟨hB, -⟩ := hC
              have h116 : act.tmps.getD 116 undef = .bool false := H 1 14 116 (by kernel_rfl) rfl
              have g116 := Array.getD_eq_getD_getElem?.symm.trans h116
              have h125 : act.tmps.getD 125 undef = .bool false := H 1 23 125 (by kernel_rfl) rfl
              have g125 := Array.getD_eq_getD_getElem?.symm.trans h125
              clear H O
              obtain ⟨krl, kr1, rr0, rrl⟩ := HPRE.out wa hB
              go_simp
              exact hK _ _ (Below.refl _ _) (fun _ => rfl)
            · intro act wa hC hd H O K hK
              clear hd
              obtain ⟨hB, -⟩ := hC
              have h126 : act.tmps.getD 126 undef = .bool false := H 1 24 126 (by kernel_rfl) rfl
              have g126 := Array.getD_eq_getD_getElem?.symm.trans h126
              clear H O
              obtain ⟨krl, kr1, rr0, rrl⟩ := HPRE.out wa hB
              go_simp
              exact hK _ _ (Below.refl _ _) (fun _ => rfl)
            · intro act wa hC hd H O K hK
              clear hd
              obtain ⟨hB, -⟩ := hC
              have h5 := O 5 (by kernel_rfl)
              have g5 := Array.getD_eq_getD_getElem?.symm.trans h5
              have h127 : act.tmps.getD 127 undef = .bool false := H 1 25 127 (by kernel_rfl) rfl
              have g127 := Array.getD_eq_getD_getElem?.symm.trans h127
              have k127 := Inv.some_bool g127
              clear H O
              obtain ⟨krl, kr1, rr0, rrl⟩ := HPRE.out wa hB
              go_simp
              exact hK _ _ (Below.refl _ _) (fun _ => rfl)
            · intro act wa hC hd H O K hK
              clear hd
              obtain ⟨hB, -⟩ := hC
              have h128 : act.tmps.getD 128 undef = .pointer (some ⟨g, 0, none⟩) := H 1 26 128 (by kernel_rfl) rfl
              have g128 := Array.getD_eq_getD_getElem?.symm.trans h128
              have h127 : act.tmps.getD 127 undef = .bool false := H 1 25 127 (by kernel_rfl) rfl
              have g127 := Array.getD_eq_getD_getElem?.symm.trans h127
              have k127 := Inv.some_bool g127
              clear H O
              obtain ⟨krl, kr1, rr0, rrl⟩ := HPRE.out wa hB
              go_simp
              refine (DLeft_any wa g rm vs5 _ _ _ _ (DskM.below D8.out.1 hB) OKN.out.1 (fun i => Nat.le_trans (totF_take_le _ _) OKN.out.2.1)).mono ?_
              rintro e1 w1 ⟨rfl, q9, hq9⟩
              rw [HLF.out]
              have hb : Below wa.heap.size wa w1 := by rw [hq9]; exact below_drewN (Below.refl _ _) q9
              exact hK _ _ hb (fun _ => rfl)
            · intro act wa hC hd H O K hK
              clear hd
              obtain ⟨hB, -⟩ := hC
              have h7 := O 7 (by kernel_rfl)
              have g7 := Array.getD_eq_getD_getElem?.symm.trans h7
              have h127 : act.tmps.getD 127 undef = .bool false := H 1 25 127 (by kernel_rfl) rfl
              have g127 := Array.getD_eq_getD_getElem?.symm.trans h127
              have k127 := Inv.some_bool g127
              clear H O
              obtain ⟨krl, kr1, rr0, rrl⟩ := HPRE.out wa hB
              go_simp
              exact hK _ _ (Below.refl _ _) (fun _ => rfl)
            · intro act wa hC hd H O K hK
              clear hd
              obtain ⟨hB, -⟩ := hC
              have h130 : act.tmps.getD 130 undef = .pointer (some ⟨gr, 0, none⟩) := H 1 28 130 (by kernel_rfl) rfl
              have g130 := Array.getD_eq_getD_getElem?.symm.trans h130
              have h127 : act.tmps.getD 127 undef = .bool false := H 1 25 127 (by kernel_rfl) rfl
              have g127 := Array.getD_eq_getD_getElem?.symm.trans h127
              have k127 := Inv.some_bool g127
              clear H O
              obtain ⟨krl, kr1, rr0, rrl⟩ := HPRE.out wa hB
              go_simp
              refine (RLeft_any wa _ gr rm rvs6 dN (D8.out.2.1.below hB) OKN.out).mono ?_
              rintro e1 w1 ⟨rfl, q9, hq9⟩
              rw [HLF.out]
              have hb : Below wa.heap.size wa w1 := by rw [hq9]; exact below_drewN (Below.refl _ _) q9
              exact hK _ _ hb (fun _ => rfl)
            · intro act wa hC hd H O K hK
              clear hd
              obtain ⟨hB, -⟩ := hC
              have h129 : act.tmps.getD 129 undef = .int .i64 (lf : Int) := H 1 27 129 (by kernel_rfl) rfl
              have g129 := Array.getD_eq_getD_getElem?.symm.trans h129
              have h131 : act.tmps.getD 131 undef = .int .i64 (lf : Int) := H 1 29 131 (by kernel_rfl) rfl
              have g131 := Array.getD_eq_getD_getElem?.symm.trans h131
              have h127 : act.tmps.getD 127 undef = .bool false := H 1 25 127 (by kernel_rfl) rfl
              have g127 := Array.getD_eq_getD_getElem?.symm.trans h127
              have k127 := Inv.some_bool g127
              clear H O
              obtain ⟨krl, kr1, rr0, rrl⟩ := HPRE.out wa hB
              go_simp
              exact hK _ _ (Below.refl _ _) (fun _ => rfl)
            · intro act wa hC hd H O K hK
              clear hd
              obtain ⟨hB, -⟩ := hC
              have h127 : act.tmps.getD 127 undef = .bool false := H 1 25 127 (by kernel_rfl) rfl
              have g127 := Array.getD_eq_getD_getElem?.symm.trans h127
              have h132 : act.tmps.getD 132 undef = .bool false := H 1 30 132 (by kernel_rfl) rfl
              have g132 := Array.getD_eq_getD_getElem?.symm.trans h132
              clear H O
              obtain ⟨krl, kr1, rr0, rrl⟩ := HPRE.out wa hB
              go_simp
              exact hK _ _ (Below.refl _ _) (fun _ => rfl)
            · intro act wa hC hd H O K hK
              clear hd
              obtain ⟨hB, -⟩ := hC
              have h133 : act.tmps.getD 133 undef = .bool false := H 1 31 133 (by kernel_rfl) rfl
              have g133 := Array.getD_eq_getD_getElem?.symm.trans h133
              clear H O
              obtain ⟨krl, kr1, rr0, rrl⟩ := HPRE.out wa hB
              go_simp
              exact hK _ _ (Below.refl _ _) (fun _ => rfl)
            · intro act wa hC hd H O K hK
              clear hd
              obtain ⟨hB, -⟩ := hC
              have h5 := O 5 (by kernel_rfl)
              have g5 := Array.getD_eq_getD_getElem?.symm.trans h5
              have h134 : act.tmps.getD 134 undef = .bool false := H 1 32 134 (by kernel_rfl) rfl
              have g134 := Array.getD_eq_getD_getElem?.symm.trans h134
              have k134 := Inv.some_bool g134
              clear H O
              obtain ⟨krl, kr1, rr0, rrl⟩ := HPRE.out wa hB
              go_simp
              exact hK _ _ (Below.refl _ _) (fun _ => rfl)
            · intro act wa hC hd H O K hK
              clear hd
              obtain ⟨hB, -⟩ := hC
              have h135 : act.tmps.getD 135 undef = .pointer (some ⟨g, 0, none⟩) := H 1 33 135 (by kernel_rfl) rfl
              have g135 := Array.getD_eq_getD_getElem?.symm.trans h135
              have h134 : act.tmps.getD 134 undef = .bool false := H 1 32 134 (by kernel_rfl) rfl
              have g134 := Array.getD_eq_getD_getElem?.symm.trans h134
              have k134 := Inv.some_bool g134
              clear H O
              obtain ⟨krl, kr1, rr0, rrl⟩ := HPRE.out wa hB
              go_simp
              refine (DDown_any wa g rm vs5 _ _ _ _ (DskM.below D8.out.1 hB)).mono ?_
              rintro e1 w1 ⟨rfl, q9, hq9⟩
              rw [HDNN.out]
              have hb : Below wa.heap.size wa w1 := by rw [hq9]; exact below_drewN (Below.refl _ _) q9
              exact hK _ _ hb (fun _ => rfl)
            · intro act wa hC hd H O K hK
              clear hd
              obtain ⟨hB, -⟩ := hC
              have h7 := O 7 (by kernel_rfl)
              have g7 := Array.getD_eq_getD_getElem?.symm.trans h7
              have h134 : act.tmps.getD 134 undef = .bool false := H 1 32 134 (by kernel_rfl) rfl
              have g134 := Array.getD_eq_getD_getElem?.symm.trans h134
              have k134 := Inv.some_bool g134
              clear H O
              obtain ⟨krl, kr1, rr0, rrl⟩ := HPRE.out wa hB
              go_simp
              exact hK _ _ (Below.refl _ _) (fun _ => rfl)
            · intro act wa hC hd H O K hK
              clear hd
              obtain ⟨hB, -⟩ := hC
              have h137 : act.tmps.getD 137 undef = .pointer (some ⟨gr, 0, none⟩) := H 1 35 137 (by kernel_rfl) rfl
              have g137 := Array.getD_eq_getD_getElem?.symm.trans h137
              have h134 : act.tmps.getD 134 undef = .bool false := H 1 32 134 (by kernel_rfl) rfl
              have g134 := Array.getD_eq_getD_getElem?.symm.trans h134
              have k134 := Inv.some_bool g134
              clear H O
              obtain ⟨krl, kr1, rr0, rrl⟩ := HPRE.out wa hB
              go_simp
              exact hK _ _ (Below.refl _ _) (fun _ => rfl)
            · intro act wa hC hd H O K hK
              clear hd
              obtain ⟨hB, -⟩ := hC
              have h138 : act.tmps.getD 138 undef = .pointer (some ⟨gr, 0, none⟩) := H 1 36 138 (by kernel_rfl) rfl
              have g138 := Array.getD_eq_getD_getElem?.symm.trans h138
              have h134 : act.tmps.getD 134 undef = .bool false := H 1 32 134 (by kernel_rfl) rfl
              have g134 := Array.getD_eq_getD_getElem?.symm.trans h134
              have k134 := Inv.some_bool g134
              clear H O
              obtain ⟨krl, kr1, rr0, rrl⟩ := HPRE.out wa hB
              go_simp
              exact hK _ _ (Below.refl _ _) (fun _ => rfl)
            · intro act wa hC hd H O K hK
              clear hd
              obtain ⟨hB, -⟩ := hC
              have h139 : act.tmps.getD 139 undef = .pointer (some ⟨gr, 130, none⟩) := H 1 37 139 (by kernel_rfl) rfl
              have g139 := Array.getD_eq_getD_getElem?.symm.trans h139
              have h134 : act.tmps.getD 134 undef = .bool false := H 1 32 134 (by kernel_rfl) rfl
              have g134 := Array.getD_eq_getD_getElem?.symm.trans h134
              have k134 := Inv.some_bool g134
              clear H O
              obtain ⟨krl, kr1, rr0, rrl⟩ := HPRE.out wa hB
              go_simp
              exact hK _ _ (Below.refl _ _) (fun _ => rfl)
            · intro act wa hC hd H O K hK
              clear hd
              obtain ⟨hB, -⟩ := hC
              have h136 : act.tmps.getD 136 undef = .bool dn := H 1 34 136 (by kernel_rfl) rfl
              have g136 := Array.getD_eq_getD_getElem?.symm.trans h136
              have h140 : act.tmps.getD 140 undef = .bool dn := H 1 38 140 (by kernel_rfl) rfl
              have g140 := Array.getD_eq_getD_getElem?.symm.trans h140
              have h134 : act.tmps.getD 134 undef = .bool false := H 1 32 134 (by kernel_rfl) rfl
              have g134 := Array.getD_eq_getD_getElem?.symm.trans h134
              have k134 := Inv.some_bool g134
              clear H O
              obtain ⟨krl, kr1, rr0, rrl⟩ := HPRE.out wa hB
              go_simp
              exact hK _ _ (Below.refl _ _) (fun _ => rfl)
            · intro act wa hC hd H O K hK
              clear hd
              obtain ⟨hB, -⟩ := hC
              have h134 : act.tmps.getD 134 undef = .bool false := H 1 32 134 (by kernel_rfl) rfl
              have g134 := Array.getD_eq_getD_getElem?.symm.trans h134
              have h141 : act.tmps.getD 141 undef = .bool false := H 1 39 141 (by kernel_rfl) rfl
              have g141 := Array.getD_eq_getD_getElem?.symm.trans h141
              clear H O
              obtain ⟨krl, kr1, rr0, rrl⟩ := HPRE.out wa hB
              go_simp
              exact hK _ _ (Below.refl _ _) (fun _ => rfl)
            · intro act wa hC hd H O K hK
              clear hd
              obtain ⟨hB, -⟩ := hC
              have h142 : act.tmps.getD 142 undef = .bool false := H 1 40 142 (by kernel_rfl) rfl
              have g142 := Array.getD_eq_getD_getElem?.symm.trans h142
              clear H O
              obtain ⟨krl, kr1, rr0, rrl⟩ := HPRE.out wa hB
              go_simp
              exact hK _ _ (Below.refl _ _) (fun _ => rfl)
            · intro act wa hC hd H O K hK
              clear hd
              obtain ⟨hB, -⟩ := hC
              have h5 := O 5 (by kernel_rfl)
              have g5 := Array.getD_eq_getD_getElem?.symm.trans h5
              have h143 : act.tmps.getD 143 undef = .bool false := H 1 41 143 (by kernel_rfl) rfl
              have g143 := Array.getD_eq_getD_getElem?.symm.trans h143
              have k143 := Inv.some_bool g143
              clear H O
              obtain ⟨krl, kr1, rr0, rrl⟩ := HPRE.out wa hB
              go_simp
              exact hK _ _ (Below.refl _ _) (fun _ => rfl)
            · intro act wa hC hd H O K hK
              clear hd
              obtain ⟨hB, -⟩ := hC
              have h144 : act.tmps.getD 144 undef = .pointer (some ⟨g, 0, none⟩) := H 1 42 144 (by kernel_rfl) rfl
              have g144 := Array.getD_eq_getD_getElem?.symm.trans h144
              have h143 : act.tmps.getD 143 undef = .bool false := H 1 41 143 (by kernel_rfl) rfl
              have g143 := Array.getD_eq_getD_getElem?.symm.trans h143
              have k143 := Inv.some_bool g143
              clear H O
              obtain ⟨krl, kr1, rr0, rrl⟩ := HPRE.out wa hB
              go_simp
              refine (DFiles_any wa g rm vs5 dN (DskM.below D8.out.1 hB) OKN.out).mono ?_
              rintro e1 w1 ⟨v8, rfl, ho8, hb⟩
              rw [HFL.out, HNF.out] at ho8
              obtain ⟨A8, c8, rfl⟩ := own_sl ho8
              exact hK _ _ hb (fun _ => ⟨A8, c8, rfl, Rd.of_own ho8⟩)
            · intro act wa hC hd H O K hK
              clear hd
              obtain ⟨hB, -⟩ := hC
              have h7 := O 7 (by kernel_rfl)
              have g7 := Array.getD_eq_getD_getElem?.symm.trans h7
              have h143 : act.tmps.getD 143 undef = .bool false := H 1 41 143 (by kernel_rfl) rfl
              have g143 := Array.getD_eq_getD_getElem?.symm.trans h143
              have k143 := Inv.some_bool g143
              clear H O
              obtain ⟨krl, kr1, rr0, rrl⟩ := HPRE.out wa hB
              go_simp
              exact hK _ _ (Below.refl _ _) (fun _ => rfl)
            · intro act wa hC hd H O K hK
              clear hd
              obtain ⟨hB, -⟩ := hC
              have h146 : act.tmps.getD 146 undef = .pointer (some ⟨gr, 0, none⟩) := H 1 44 146 (by kernel_rfl) rfl
              have g146 := Array.getD_eq_getD_getElem?.symm.trans h146
              have h143 : act.tmps.getD 143 undef = .bool false := H 1 41 143 (by kernel_rfl) rfl
              have g143 := Array.getD_eq_getD_getElem?.symm.trans h143
              have k143 := Inv.some_bool g143
              clear H O
              obtain ⟨krl, kr1, rr0, rrl⟩ := HPRE.out wa hB
              go_simp
              refine (RFiles_any wa _ gr rm rvs6 dN (D8.out.2.1.below hB)).mono ?_
              rintro e1 w1 ⟨v8, rfl, ho8, hb⟩
              rw [HFL.out, HNF.out] at ho8
              obtain ⟨A8, c8, rfl⟩ := own_sl ho8
              exact hK _ _ hb (fun _ => ⟨A8, c8, rfl, Rd.of_own ho8⟩)
            · intro act wa hC hd H O K hK
              clear hd
              obtain ⟨hB, -⟩ := hC
              have h145 : ∃ A c, act.tmps.getD 145 undef = .slice A nf c ∧ Rd wa wa.heap.size A (i64n fl) := H 1 43 145 (by kernel_rfl) rfl
              obtain ⟨A145, c145, h145', l145⟩ := h145
              have h147 : ∃ A c, act.tmps.getD 147 undef = .slice A nf c ∧ Rd wa wa.heap.size A (i64n fl) := H 1 45 147 (by kernel_rfl) rfl
              obtain ⟨A147, c147, h147', l147⟩ := h147
              have h143 : act.tmps.getD 143 undef = .bool false := H 1 41 143 (by kernel_rfl) rfl
              have g143 := Array.getD_eq_getD_getElem?.symm.trans h143
              have k143 := Inv.some_bool g143
              clear H O
              obtain ⟨krl, kr1, rr0, rrl⟩ := HPRE.out wa hB
              go_simp
              rw [i64n_i] at l145 l147
              refine (ints_at wa A145 A147 c145 c147 _ _ _ _ nf nf true l145 l147 (by rw [List.length_map, HNF.out]; unfold maxLen; omega) (by rw [List.length_map, HNF.out]) (by rw [List.length_map, HNF.out]) (by simp)).mono ?_
              rintro e1 w1 ⟨rfl, q9, hq9⟩
              have hb : Below wa.heap.size wa w1 := by rw [hq9]; exact below_drewN (Below.refl _ _) q9
              exact hK _ _ hb (fun _ => rfl)
            · intro act wa hC hd H O K hK
              clear hd
              obtain ⟨hB, -⟩ := hC
              have h148 : act.tmps.getD 148 undef = .bool true := H 1 46 148 (by kernel_rfl) rfl
              have g148 := Array.getD_eq_getD_getElem?.symm.trans h148
              have h143 : act.tmps.getD 143 undef = .bool false := H 1 41 143 (by kernel_rfl) rfl
              have g143 := Array.getD_eq_getD_getElem?.symm.trans h143
              have k143 := Inv.some_bool g143
              clear H O
              obtain ⟨krl, kr1, rr0, rrl⟩ := HPRE.out wa hB
              go_simp
              exact hK _ _ (Below.refl _ _) (fun _ => rfl)
            · intro act wa hC hd H O K hK
              clear hd
              obtain ⟨hB, -⟩ := hC
              have h143 : act.tmps.getD 143 undef = .bool false := H 1 41 143 (by kernel_rfl) rfl
              have g143 := Array.getD_eq_getD_getElem?.symm.trans h143
              have h149 : act.tmps.getD 149 undef = .bool false := H 1 47 149 (by kernel_rfl) rfl
              have g149 := Array.getD_eq_getD_getElem?.symm.trans h149
              clear H O
              obtain ⟨krl, kr1, rr0, rrl⟩ := HPRE.out wa hB
              go_simp
              exact hK _ _ (Below.refl _ _) (fun _ => rfl)
          · intro us w' hC hF
            obtain ⟨hB, -⟩ := hC
            have u150 : us 150 = .bool false := hF 48 150 rfl
            clear hF
            simp only [List.foldl]
            go_simp
            have e150 : us 150 = .bool false := u150
            have R := Lib.hid (show LD w g gr rm len (.int .i64 ((k : Int) + 1)) w' from ⟨k + 1, vs5, rvs6, dN, by go_num, HLT.out, D8.out.below hB, OKN.out, AS5.out, B8.out.trans (hB.mono B8.out.size)⟩)
            clear hB u150
            try rw [e150]
            go_wp2
            go_roundw
            case rel => exact R.out
            case measure => simp [intOf]; have := HLT.out; omega
        have n21 : (a.k == 2) = false := by simp [hq2]
        have n22 : decide (a.k = 2) = false := by simp [hq2]
        by_cases hq3 : a.k = 3
        · have HDN2 := Lib.hid (doP3 rm d a hq3)
          rw [hq3] at k0
          rw [HDN2.out] at HDN HNN
          have hn0 : n = 0 := HNN.out.symm
          subst hn0
          go_wp2_with fail
          refine (RFuse_any w5 _ gr rm rvs d a.n D5.out.2.1).mono ?_
          rintro en w6 ⟨rfl, hr6, hO⟩
          obtain ⟨rvs6, hrv⟩ : ∃ q, q = rvs := ⟨_, rfl⟩
          rw [← hrv] at hr6
          clear hrv
          rw [← HDN.out] at hr6
          have B6 := Lib.hid (B5.out.trans (hO.to_below B5.out.size (fun j hj => by have := HGR.out; omega)))
          have D6 := Lib.hid (D5.out.doc hr6 hO)
          have KA6 := Lib.hid (hO.blk KA5.out HQ.out)
          clear hr6 hO k0 k1 k2 k3 k4 kl
          have k1 := KA6.out.cell 1
          simp at k1
          have kl := KA6.out.lt
          obtain ⟨⟨rb, re⟩, hrd⟩ : ∃ r, readP dN a.x = r := ⟨_, rfl⟩
          have hm20 := readP_len OKN.out a.x
          rw [hrd] at hm20
          simp only at hm20
          have HRD := Lib.hid hrd
          obtain ⟨m, hm⟩ : ∃ m, rb.length = m := ⟨_, rfl⟩
          rw [hm] at hm20
          have HM := Lib.hid hm
          clear hrd hm
          go_wp2_with fail
          refine (DRead_any w6 g rm vs5 dN a.x D6.out.1 OKN.out).mono ?_
          rintro en w7 ⟨vB, rfl, hm7, hf7, hb7⟩
          rw [HRD.out] at hm7 ⊢
          simp only at hm7
          rw [HM.out] at hm7
          obtain ⟨AB, CB, rfl, -⟩ := id hm7
          have D7 := Lib.hid (D6.out.below hb7); have B7 := Lib.hid (B6.out.trans (hb7.mono B6.out.size)); have KA7 := Lib.hid (KA6.out.below hb7 KA6.out.lt); have MB7 := Lib.hid hm7.rd_ofD
          clear hm7 hf7 hb7 k1 kl
          have k1 := KA7.out.cell 1
          simp at k1
          have kl := KA7.out.lt
          go_wp2_with fail
          refine (RRead_any w7 _ gr rm rvs6 dN a.x D7.out.2.1 OKN.out).mono ?_
          rintro en w8 ⟨vC, rfl, hm8, hf8, hb8⟩
          rw [HRD.out] at hm8 ⊢
          simp only at hm8
          rw [HM.out] at hm8
          obtain ⟨AC, CC, rfl, -⟩ := id hm8
          have D8 := Lib.hid (D7.out.below hb8); have B8 := Lib.hid (B7.out.trans (hb8.mono B7.out.size)); have KA8 := Lib.hid (KA7.out.below hb8 KA7.out.lt); have MB8 := Lib.hid ((MB7.out.below hb8).more hb8.size); have MC8 := Lib.hid hm8.rd_ofD
          clear hm8 hf8 hb8 k1 kl
          obtain ⟨nf, hnf⟩ : ∃ q, (filesK dN.1 64).length = q := ⟨_, rfl⟩
          have hnf64 : nf ≤ 64 := by rw [← hnf]; exact filesK_len _ _
          obtain ⟨fl, hfl⟩ : ∃ q, filesK dN.1 64 = q := ⟨_, rfl⟩
          have HFL := Lib.hid hfl
          have HNF := Lib.hid (show fl.length = nf by rw [← hfl]; exact hnf)
          obtain ⟨dn, hdn⟩ : ∃ q, dN.2.1 = q := ⟨_, rfl⟩
          have HDNN := Lib.hid hdn
          obtain ⟨su, hsu⟩ : ∃ q, sureF dN.1 a.x = q := ⟨_, rfl⟩
          have HSU := Lib.hid hsu
          obtain ⟨lf, hlf⟩ : ∃ q, rm - totF dN.1 = q := ⟨_, rfl⟩
          have HLF := Lib.hid hlf
          clear hnf hfl hdn hsu hlf
          have HPRE : Hid (∀ wa, Below w8.heap.size w8 wa → q < wa.heap.size ∧ wa.cell? ⟨q, 1, none⟩ = some (.int .i64 a.x) ∧ wa.cell? ⟨gr, 130, none⟩ = some (.bool dn) ∧ gr < wa.heap.size) := Lib.hid (fun wa hB => by
            have kr := KA8.out.below hB KA8.out.lt
            have kr1 := kr.cell 1
            simp at kr1
            have rr := D8.out.2.1.below hB
            have rr0 := rr.dn0
            rw [HDNN.out] at rr0
            exact ⟨kr.lt, kr1, rr0, rr.lt⟩)
          go_wp2_with fail
          refine Inv.region_below (fun i v w' => match i with
              | 0 => v = .int .i64 0
              | 1 => v = .int .i64 0
              | 2 => v = .bool false
              | 3 => v = .bool false
              | 4 => v = .slice AB m CB
              | 5 => v = .slice AC m CC
              | 6 => v = .bool true
              | 7 => v = .bool false
              | 8 => v = .bool false
              | 9 => v = .bool false
              | 10 => v = .int .i64 (re : Int)
              | 11 => v = .int .i64 (re : Int)
              | 12 => v = .bool false
              | 13 => v = .bool false
              | 14 => v = .bool false
              | 15 => v = .pointer (some ⟨g, 0, none⟩)
              | 16 => v = .pointer (some ⟨q, 1, none⟩)
              | 17 => v = .int .i64 a.x
              | 18 => v = .int .i64 (su : Int)
              | 19 => v = .pointer (some ⟨gr, 0, none⟩)
              | 20 => v = .pointer (some ⟨q, 1, none⟩)
              | 21 => v = .int .i64 a.x
              | 22 => v = .int .i64 (su : Int)
              | 23 => v = .bool false
              | 24 => v = .bool false
              | 25 => v = .bool false
              | 26 => v = .pointer (some ⟨g, 0, none⟩)
              | 27 => v = .int .i64 (lf : Int)
              | 28 => v = .pointer (some ⟨gr, 0, none⟩)
              | 29 => v = .int .i64 (lf : Int)
              | 30 => v = .bool false
              | 31 => v = .bool false
              | 32 => v = .bool false
              | 33 => v = .pointer (some ⟨g, 0, none⟩)
              | 34 => v = .bool dn
              | 35 => v = .pointer (some ⟨gr, 0, none⟩)
              | 36 => v = .pointer (some ⟨gr, 0, none⟩)
              | 37 => v = .pointer (some ⟨gr, 130, none⟩)
              | 38 => v = .bool dn
              | 39 => v = .bool false
              | 40 => v = .bool false
              | 41 => v = .bool false
              | 42 => v = .pointer (some ⟨g, 0, none⟩)
              | 43 => ∃ A c, v = .slice A nf c ∧ Rd w' w'.heap.size A (i64n fl)
              | 44 => v = .pointer (some ⟨gr, 0, none⟩)
              | 45 => ∃ A c, v = .slice A nf c ∧ Rd w' w'.heap.size A (i64n fl)
              | 46 => v = .bool true
              | 47 => v = .bool false
              | 48 => v = .bool false
              | _ => True)
            (fun w' => Below w8.heap.size w8 w' ∧ True) 152 [102, 103, 104, 105, 106, 107, 108, 109, 110, 111, 112, 113, 114, 115, 116, 117, 118, 119, 120, 121, 122, 123, 124, 125, 126, 127, 128, 129, 130, 131, 132, 133, 134, 135, 136, 137, 138, 139, 140, 141, 142, 143, 144, 145, 146, 147, 148, 149, 150] (by kernel_rfl) rfl (by kernel_rfl) (by kernel_rfl) ?_ ?_ ?_ ?_
          · intro v v' hC hb
            obtain ⟨hB, -⟩ := hC
            exact ⟨hB.trans (hb.mono hB.size), trivial⟩
          · exact ⟨(Below.refl _ _).drew, trivial⟩
          · refine ⟨⟨fun _ _ _ h _ => h, ?_⟩, ⟨fun _ _ _ h _ => h, ?_⟩, ⟨fun _ _ _ h _ => h, ?_⟩, ⟨fun _ _ _ h _ => h, ?_⟩, ⟨fun _ _ _ h _ => h, ?_⟩, ⟨fun _ _ _ h _ => h, ?_⟩, ⟨fun _ _ _ h _ => h, ?_⟩, ⟨fun _ _ _ h _ => h, ?_⟩, ⟨fun _ _ _ h _ => h, ?_⟩, ⟨fun _ _ _ h _ => h, ?_⟩, ⟨fun _ _ _ h _ => h, ?_⟩, ⟨fun _ _ _ h _ => h, ?_⟩, ⟨fun _ _ _ h _ => h, ?_⟩, ⟨fun _ _ _ h _ => h, ?_⟩, ⟨fun _ _ _ h _ => h, ?_⟩, ⟨fun _ _ _ h _ => h, ?_⟩, ⟨fun _ _ _ h _ => h, ?_⟩, ⟨fun _ _ _ h _ => h, ?_⟩, ⟨fun _ _ _ h _ => h, ?_⟩, ⟨fun _ _ _ h _ => h, ?_⟩, ⟨fun _ _ _ h _ => h, ?_⟩, ⟨fun _ _ _ h _ => h, ?_⟩, ⟨fun _ _ _ h _ => h, ?_⟩, ⟨fun _ _ _ h _ => h, ?_⟩, ⟨fun _ _ _ h _ => h, ?_⟩, ⟨fun _ _ _ h _ => h, ?_⟩, ⟨fun _ _ _ h _ => h, ?_⟩, ⟨fun _ _ _ h _ => h, ?_⟩, ⟨fun _ _ _ h _ => h, ?_⟩, ⟨fun _ _ _ h _ => h, ?_⟩, ⟨fun _ _ _ h _ => h, ?_⟩, ⟨fun _ _ _ h _ => h, ?_⟩, ⟨fun _ _ _ h _ => h, ?_⟩, ⟨fun _ _ _ h _ => h, ?_⟩, ⟨fun _ _ _ h _ => h, ?_⟩, ⟨fun _ _ _ h _ => h, ?_⟩, ⟨fun _ _ _ h _ => h, ?_⟩, ⟨fun _ _ _ h _ => h, ?_⟩, ⟨fun _ _ _ h _ => h, ?_⟩, ⟨fun _ _ _ h _ => h, ?_⟩, ⟨fun _ _ _ h _ => h, ?_⟩, ⟨fun _ _ _ h _ => h, ?_⟩, ⟨fun _ _ _ h _ => h, ?_⟩, ⟨fun v w w' ⟨A, c, h1, h2⟩ hb => ⟨A, c, h1, (h2.below hb).more hb.size⟩, ?_⟩, ⟨fun _ _ _ h _ => h, ?_⟩, ⟨fun v w w' ⟨A, c, h1, h2⟩ hb => ⟨A, c, h1, (h2.below hb).more hb.size⟩, ?_⟩, ⟨fun _ _ _ h _ => h, ?_⟩, ⟨fun _ _ _ h _ => h, ?_⟩, ⟨fun _ _ _ h _ => h, ?_⟩, trivial⟩
            · intro act wa hC hd H O K hK
              clear hd
              obtain ⟨hB, -⟩ := hC
              have h11 := O 11 (by kernel_rfl)
              have g11 := Array.getD_eq_getD_getElem?.symm.trans h11
              clear H O
              obtain ⟨krl, kr1, rr0, rrl⟩ := HPRE.out wa hB
              go_simp
              exact hK _ _ (Below.refl _ _) (fun _ => rfl)
            · intro act wa hC hd H O K hK
              clear hd
              obtain ⟨hB, -⟩ := hC
              have h12 := O 12 (by kernel_rfl)
              have g12 := Array.getD_eq_getD_getElem?.symm.trans h12
              clear H O
              obtain ⟨krl, kr1, rr0, rrl⟩ := HPRE.out wa hB
              go_simp
              exact hK _ _ (Below.refl _ _) (fun _ => rfl)
            · intro act wa hC hd H O K hK
              clear hd
              obtain ⟨hB, -⟩ := hC
              have h102 : act.tmps.getD 102 undef = .int .i64 0 := H 1 0 102 (by kernel_rfl) rfl
              have g102 := Array.getD_eq_getD_getElem?.symm.trans h102
              have h103 : act.tmps.getD 103 undef = .int .i64 0 := H 1 1 103 (by kernel_rfl) rfl
              have g103 := Array.getD_eq_getD_getElem?.symm.trans h103
              clear H O
              obtain ⟨krl, kr1, rr0, rrl⟩ := HPRE.out wa hB
              go_simp
              exact hK _ _ (Below.refl _ _) (fun _ => rfl)
            · intro act wa hC hd H O K hK
              clear hd
              obtain ⟨hB, -⟩ := hC
              have h104 : act.tmps.getD 104 undef = .bool false := H 1 2 104 (by kernel_rfl) rfl
              have g104 := Array.getD_eq_getD_getElem?.symm.trans h104
              clear H O
              obtain ⟨krl, kr1, rr0, rrl⟩ := HPRE.out wa hB
              go_simp
              exact hK _ _ (Below.refl _ _) (fun _ => rfl)
            · intro act wa hC hd H O K hK
              clear hd
              obtain ⟨hB, -⟩ := hC
              have h13 := O 13 (by kernel_rfl)
              have g13 := Array.getD_eq_getD_getElem?.symm.trans h13
              have h105 : act.tmps.getD 105 undef = .bool false := H 1 3 105 (by kernel_rfl) rfl
              have g105 := Array.getD_eq_getD_getElem?.symm.trans h105
              have k105 := Inv.some_bool g105
              clear H O
              obtain ⟨krl, kr1, rr0, rrl⟩ := HPRE.out wa hB
              go_simp
              exact hK _ _ (Below.refl _ _) (fun _ => rfl)
            · intro act wa hC hd H O K hK
              clear hd
              obtain ⟨hB, -⟩ := hC
              have h15 := O 15 (by kernel_rfl)
              have g15 := Array.getD_eq_getD_getElem?.symm.trans h15
              have h105 : act.tmps.getD 105 undef = .bool false := H 1 3 105 (by kernel_rfl) rfl
              have g105 := Array.getD_eq_getD_getElem?.symm.trans h105
              have k105 := Inv.some_bool g105
              clear H O
              obtain ⟨krl, kr1, rr0, rrl⟩ := HPRE.out wa hB
              go_simp
              exact hK _ _ (Below.refl _ _) (fun _ => rfl)
            · intro act wa hC hd H O K hK
              clear hd
              obtain ⟨hB, -⟩ := hC
              have h106 : act.tmps.getD 106 undef = .slice AB m CB := H 1 4 106 (by kernel_rfl) rfl
              have g106 := Array.getD_eq_getD_getElem?.symm.trans h106
              have h107 : act.tmps.getD 107 undef = .slice AC m CC := H 1 5 107 (by kernel_rfl) rfl
              have g107 := Array.getD_eq_getD_getElem?.symm.trans h107
              have h105 : act.tmps.getD 105 undef = .bool false := H 1 3 105 (by kernel_rfl) rfl
              have g105 := Array.getD_eq_getD_getElem?.symm.trans h105
              have k105 := Inv.some_bool g105
              clear H O
              obtain ⟨krl, kr1, rr0, rrl⟩ := HPRE.out wa hB
              go_simp
              refine (same_at wa AB AC CB CC rb rb _ _ m m true (MB8.out.below hB) (MC8.out.below hB) (by rw [HM.out]; unfold maxLen; omega) HM.out HM.out (by simp)).mono ?_
              rintro e1 w1 ⟨rfl, q9, hq9⟩
              have hb : Below wa.heap.size wa w1 := by rw [hq9]; exact below_drewN (Below.refl _ _) q9
              exact hK _ _ hb (fun _ => rfl)
            · intro act wa hC hd H O K hK
              clear hd
              obtain ⟨hB, -⟩ := hC
              have h108 : act.tmps.getD 108 undef = .bool true := H 1 6 108 (by kernel_rfl) rfl
              have g108 := Array.getD_eq_getD_getElem?.symm.trans h108
              have h105 : act.tmps.getD 105 undef = .bool false := H 1 3 105 (by kernel_rfl) rfl
              have g105 := Array.getD_eq_getD_getElem?.symm.trans h105
              have k105 := Inv.some_bool g105
              clear H O
              obtain ⟨krl, kr1, rr0, rrl⟩ := HPRE.out wa hB
              go_simp
              exact hK _ _ (Below.refl _ _) (fun _ => rfl)
            · intro act wa hC hd H O K hK
              clear hd
              obtain ⟨hB, -⟩ := hC
              have h105 : act.tmps.getD 105 undef = .bool false := H 1 3 105 (by kernel_rfl) rfl
              have g105 := Array.getD_eq_getD_getElem?.symm.trans h105
              have h109 : act.tmps.getD 109 undef = .bool false := H 1 7 109 (by kernel_rfl) rfl
              have g109 := Array.getD_eq_getD_getElem?.symm.trans h109
              clear H O
              obtain ⟨krl, kr1, rr0, rrl⟩ := HPRE.out wa hB
              go_simp
              exact hK _ _ (Below.refl _ _) (fun _ => rfl)
            · intro act wa hC hd H O K hK
              clear hd
              obtain ⟨hB, -⟩ := hC
              have h110 : act.tmps.getD 110 undef = .bool false := H 1 8 110 (by kernel_rfl) rfl
              have g110 := Array.getD_eq_getD_getElem?.symm.trans h110
              clear H O
              obtain ⟨krl, kr1, rr0, rrl⟩ := HPRE.out wa hB
              go_simp
              exact hK _ _ (Below.refl _ _) (fun _ => rfl)
            · intro act wa hC hd H O K hK
              clear hd
              obtain ⟨hB, -⟩ := hC
              have h14 := O 14 (by kernel_rfl)
              have g14 := Array.getD_eq_getD_getElem?.symm.trans h14
              have h111 : act.tmps.getD 111 undef = .bool false := H 1 9 111 (by kernel_rfl) rfl
              have g111 := Array.getD_eq_getD_getElem?.symm.trans h111
              have k111 := Inv.some_bool g111
              clear H O
              obtain ⟨krl, kr1, rr0, rrl⟩ := HPRE.out wa hB
              go_simp
              exact hK _ _ (Below.refl _ _) (fun _ => rfl)
            · intro act wa hC hd H O K hK
              clear hd
              obtain ⟨hB, -⟩ := hC
              have h16 := O 16 (by kernel_rfl)
              have g16 := Array.getD_eq_getD_getElem?.symm.trans h16
              have h111 : act.tmps.getD 111 undef = .bool false := H 1 9 111 (by kernel_rfl) rfl
              have g111 := Array.getD_eq_getD_getElem?.symm.trans h111
              have k111 := Inv.some_bool g111
              clear H O
              obtain ⟨krl, kr1, rr0, rrl⟩ := HPRE.out wa hB
              go_simp
              exact hK _ _ (Below.refl _ _) (fun _ => rfl)
            · intro act wa hC hd H O K hK
              clear hd
              obtain ⟨hB, -⟩ := hC
              have h112 : act.tmps.getD 112 undef = .int .i64 (re : Int) := H 1 10 112 (by kernel_rfl) rfl
              have g112 := Array.getD_eq_getD_getElem?.symm.trans h112
              have h113 : act.tmps.getD 113 undef = .int .i64 (re : Int) := H 1 11 113 (by kernel_rfl) rfl
              have g113 := Array.getD_eq_getD_getElem?.symm.trans h113
              have h111 : act.tmps.getD 111 undef = .bool false := H 1 9 111 (by kernel_rfl) rfl
              have g111 := Array.getD_eq_getD_getElem?.symm.trans h111
              have k111 := Inv.some_bool g111
              clear H O
              obtain ⟨krl, kr1, rr0, rrl⟩ := HPRE.out wa hB
              go_simp
              exact hK _ _ (Below.refl _ _) (fun _ => rfl)
            · intro act wa hC hd H O K hK
              clear hd
              obtain ⟨hB, -⟩ := hC
              have h111 : act.tmps.getD 111 undef = .bool false := H 1 9 111 (by kernel_rfl) rfl
              have g111 := Array.getD_eq_getD_getElem?.symm.trans h111
              have h114 : act.tmps.getD 114 undef = .bool false := H 1 12 114 (by kernel_rfl) rfl
              have g114 := Array.getD_eq_getD_getElem?.symm.trans h114
              clear H O
              obtain ⟨krl, kr1, rr0, rrl⟩ := HPRE.out wa hB
              go_simp
              exact hK _ _ (Below.refl _ _) (fun _ => rfl)
            · intro act wa hC hd H O K hK
              clear hd
              obtain ⟨hB, -⟩ := hC
              have h115 : act.tmps.getD 115 undef = .bool false := H 1 13 115 (by kernel_rfl) rfl
              have g115 := Array.getD_eq_getD_getElem?.symm.trans h115
              clear H O
              obtain ⟨krl, kr1, rr0, rrl⟩ := HPRE.out wa hB
              go_simp
              exact hK _ _ (Below.refl _ _) (fun _ => rfl)
            · intro act wa hC hd H O K hK
              clear hd
              obtain ⟨hB, -⟩ := hC
              have h5 := O 5 (by kernel_rfl)
              have g5 := Array.getD_eq_getD_getElem?.symm.trans h5
              have h116 : act.tmps.getD 116 undef = .bool false := H 1 14 116 (by kernel_rfl) rfl
              have g116 := Array.getD_eq_getD_getElem?.symm.trans h116
              have k116 := Inv.some_bool g116
              clear H O
              obtain ⟨krl, kr1, rr0, rrl⟩ := HPRE.out wa hB
              go_simp
              exact hK _ _ (Below.refl _ _) (fun _ => rfl)
            · intro act wa hC hd H O K hK
              clear hd
              obtain ⟨hB, -⟩ := hC
              have h10 := O 10 (by kernel_rfl)
              have g10 := Array.getD_eq_getD_getElem?.symm.trans h10
              have h116 : act.tmps.getD 116 undef = .bool false := H 1 14 116 (by kernel_rfl) rfl
              have g116 := Array.getD_eq_getD_getElem?.symm.trans h116
              have k116 := Inv.some_bool g116
              clear H O
              obtain ⟨krl, kr1, rr0, rrl⟩ := HPRE.out wa hB
              go_simp
              exact hK _ _ (Below.refl _ _) (fun _ => rfl)
            · intro act wa hC hd H O K hK
              clear hd
              obtain ⟨hB, -⟩ := hC
              have h118 : act.tmps.getD 118 undef = .pointer (some ⟨q, 1, none⟩) := H 1 16 118 (by kernel_rfl) rfl
              have g118 := Array.getD_eq_getD_getElem?.symm.trans h118
              have h116 : act.tmps.getD 116 undef = .bool false := H 1 14 116 (by kernel_rfl) rfl
              have g116 := Array.getD_eq_getD_getElem?.symm.trans h116
              have k116 := Inv.some_bool g116
              clear H O
              obtain ⟨krl, kr1, rr0, rrl⟩ := HPRE.out wa hB
              go_simp
              exact hK _ _ (Below.refl _ _) (fun _ => rfl)
            · intro act wa hC hd H O K hK
              clear hd
              obtain ⟨hB, -⟩ := hC
              have h117 : act.tmps.getD 117 undef = .pointer (some ⟨g, 0, none⟩) := H 1 15 117 (by kernel_rfl) rfl
              have g117 := Array.getD_eq_getD_getElem?.symm.trans h117
              have h119 : act.tmps.getD 119 undef = .int .i64 a.x := H 1 17 119 (by kernel_rfl) rfl
              have g119 := Array.getD_eq_getD_getElem?.symm.trans h119
              have h116 : act.tmps.getD 116 undef = .bool false := H 1 14 116 (by kernel_rfl) rfl
              have g116 := Array.getD_eq_getD_getElem?.symm.trans h116
              have k116 := Inv.some_bool g116
              clear H O
              obtain ⟨krl, kr1, rr0, rrl⟩ := HPRE.out wa hB
              go_simp
              refine (DSure_any wa g rm vs5 _ _ _ _ a.x (DskM.below D8.out.1 hB)).mono ?_
              rintro e1 w1 ⟨rfl, q9, hq9⟩
              rw [HSU.out]
              have hb : Below wa.heap.size wa w1 := by rw [hq9]; exact below_drewN (Below.refl _ _) q9
              exact hK _ _ hb (fun _ => rfl)
            · intro act wa hC hd H O K hK
              clear hd
              obtain ⟨hB, -⟩ := hC
              have h7 := O 7 (by kernel_rfl)
              have g7 := Array.getD_eq_getD_getElem?.symm.trans h7
              have h116 : act.tmps.getD 116 undef = .bool false := H 1 14 116 (by kernel_rfl) rfl
              have g116 := Array.getD_eq_getD_getElem?.symm.trans h116
              have k116 := Inv.some_bool g116
              clear H O
              obtain ⟨krl, kr1, rr0, rrl⟩ := HPRE.out wa hB
              go_simp
              exact hK _ _ (Below.refl _ _) (fun _ => rfl)
            · intro act wa hC hd H O K hK
              clear hd
              obtain ⟨hB, -⟩ := hC
              have h10 := O 10 (by kernel_rfl)
              have g10 := Array.getD_eq_getD_getElem?.symm.trans h10
              have h116 : act.tmps.getD 116 undef = .bool false := H 1 14 116 (by kernel_rfl) rfl
              have g116 := Array.getD_eq_getD_getElem?.symm.trans h116
              have k116 := Inv.some_bool g116
              clear H O
              obtain ⟨krl, kr1, rr0, rrl⟩ := HPRE.out wa hB
              go_simp
              exact hK _ _ (Below.refl _ _) (fun _ => rfl)
            · intro act wa hC hd H O K hK
              clear hd
              obtain ⟨hB, -⟩ := hC
              have h122 : act.tmps.getD 122 undef = .pointer (some ⟨q, 1, none⟩) := H 1 20 122 (by kernel_rfl) rfl
              have g122 := Array.getD_eq_getD_getElem?.symm.trans h122
              have h116 : act.tmps.getD 116 undef = .bool false := H 1 14 116 (by kernel_rfl) rfl
              have g116 := Array.getD_eq_getD_getElem?.symm.trans h116
              have k116 := Inv.some_bool g116
              clear H O
              obtain ⟨krl, kr1, rr0, rrl⟩ := HPRE.out wa hB
              go_simp
              exact hK _ _ (Below.refl _ _) (fun _ => rfl)
            · intro act wa hC hd H O K hK
              clear hd
              obtain ⟨hB, -⟩ := hC
              have h121 : act.tmps.getD 121 undef = .pointer (some ⟨gr, 0, none⟩) := H 1 19 121 (by kernel_rfl) rfl
              have g121 := Array.getD_eq_getD_getElem?.symm.trans h121
              have h123 : act.tmps.getD 123 undef = .int .i64 a.x := H 1 21 123 (by kernel_rfl) rfl
              have g123 := Array.getD_eq_getD_getElem?.symm.trans h123
              have h116 : act.tmps.getD 116 undef = .bool false := H 1 14 116 (by kernel_rfl) rfl
              have g116 := Array.getD_eq_getD_getElem?.symm.trans h116
              have k116 := Inv.some_bool g116
              clear H O
              obtain ⟨krl, kr1, rr0, rrl⟩ := HPRE.out wa hB
              go_simp
              refine (RSure_any wa _ gr rm rvs6 dN a.x (D8.out.2.1.below hB)).mono ?_
              rintro e1 w1 ⟨rfl, q9, hq9⟩
              rw [HSU.out]
              have hb : Below wa.heap.size wa w1 := by rw [hq9]; exact below_drewN (Below.refl _ _) q9
              exact hK _ _ hb (fun _ => rfl)
            · intro act wa hC hd H O K hK
              clear hd
              obtain ⟨hB, -⟩ := hC
              have h120 : act.tmps.getD 120 undef = .int .i64 (su : Int) := H 1 18 120 (by kernel_rfl) rfl
              have g120 := Array.getD_eq_getD_getElem?.symm.trans h120
              have h124 : act.tmps.getD 124 undef = .int .i64 (su : Int) := H 1 22 124 (by kernel_rfl) rfl
              have g124 := Array.getD_eq_getD_getElem?.symm.trans h124
              have h116 : act.tmps.getD 116 undef = .bool false := H 1 14 116 (by kernel_rfl) rfl
              have g116 := Array.getD_eq_getD_getElem?.symm.trans h116
              have k116 := Inv.some_bool g116
              clear H O
              obtain ⟨krl, kr1, rr0, rrl⟩ := HPRE.out wa hB
              go_simp
              exact hK _ _ (Below.refl _ _) (fun _ => rfl)
            · intro act wa hC hd H O K hK
              clear hd
              obtain ⟨hB, -⟩ := hC
              have h116 : act.tmps.getD 116 undef = .bool false := H 1 14 116 (by kernel_rfl) rfl
              have g116 := Array.getD_eq_getD_getElem?.symm.trans h116
              have h125 : act.tmps.getD 125 undef = .bool false := H 1 23 125 (by kernel_rfl) rfl
              have g125 := Array.getD_eq_getD_getElem?.symm.trans h125
              clear H O
              obtain ⟨krl, kr1, rr0, rrl⟩ := HPRE.out wa hB
              go_simp
              exact hK _ _ (Below.refl _ _) (fun _ => rfl)
            · intro act wa hC hd H O K hK
              clear hd
              obtain ⟨hB, -⟩ := hC
              have h126 : act.tmps.getD 126 undef = .bool false := H 1 24 126 (by kernel_rfl) rfl
              have g126 := Array.getD_eq_getD_getElem?.symm.trans h126
              clear H O
              obtain ⟨krl, kr1, rr0, rrl⟩ := HPRE.out wa hB
              go_simp
              exact hK _ _ (Below.refl _ _) (fun _ => rfl)
            · intro act wa hC hd H O K hK
              clear hd
              obtain ⟨hB, -⟩ := hC
              have h5 := O 5 (by kernel_rfl)
              have g5 := Array.getD_eq_getD_getElem?.symm.trans h5
              have h127 : act.tmps.getD 127 undef = .bool false := H 1 25 127 (by kernel_rfl) rfl
              have g127 := Array.getD_eq_getD_getElem?.symm.trans h127
              have k127 := Inv.some_bool g127
              clear H O
              obtain ⟨krl, kr1, rr0, rrl⟩ := HPRE.out wa hB
              go_simp
              exact hK _ _ (Below.refl _ _) (fun _ => rfl)
            · intro act wa hC hd H O K hK
              clear hd
              obtain ⟨hB, -⟩ := hC
              have h128 : act.tmps.getD 128 undef = .pointer (some ⟨g, 0, none⟩) := H 1 26 128 (by kernel_rfl) rfl
              have g128 := Array.getD_eq_getD_getElem?.symm.trans h128
              have h127 : act.tmps.getD 127 undef = .bool false := H 1 25 127 (by kernel_rfl) rfl
              have g127 := Array.getD_eq_getD_getElem?.symm.trans h127
              have k127 := Inv.some_bool g127
              clear H O
              obtain ⟨krl, kr1, rr0, rrl⟩ := HPRE.out wa hB
              go_simp
              refine (DLeft_any wa g rm vs5 _ _ _ _ (DskM.below D8.out.1 hB) OKN.out.1 (fun i => Nat.le_trans (totF_take_le _ _) OKN.out.2.1)).mono ?_
              rintro e1 w1 ⟨rfl, q9, hq9⟩
              rw [HLF.out]
              have hb : Below wa.heap.size wa w1 := by rw [hq9]; exact below_drewN (Below.refl _ _) q9
              exact hK _ _ hb (fun _ => rfl)
            · intro act wa hC hd H O K hK
              clear hd
              obtain ⟨hB, -⟩ := hC
              have h7 := O 7 (by kernel_rfl)
              have g7 := Array.getD_eq_getD_getElem?.symm.trans h7
              have h127 : act.tmps.getD 127 undef = .bool false := H 1 25 127 (by kernel_rfl) rfl
              have g127 := Array.getD_eq_getD_getElem?.symm.trans h127
              have k127 := Inv.some_bool g127
              clear H O
              obtain ⟨krl, kr1, rr0, rrl⟩ := HPRE.out wa hB
              go_simp
              exact hK _ _ (Below.refl _ _) (fun _ => rfl)
            · intro act wa hC hd H O K hK
              clear hd
              obtain ⟨hB, -⟩ := hC
              have h130 : act.tmps.getD 130 undef = .pointer (some ⟨gr, 0, none⟩) := H 1 28 130 (by kernel_rfl) rfl
              have g130 := Array.getD_eq_getD_getElem?.symm.trans h130
              have h127 : act.tmps.getD 127 undef = .bool false := H 1 25 127 (by kernel_rfl) rfl
              have g127 := Array.getD_eq_getD_getElem?.symm.trans h127
              have k127 := Inv.some_bool g127
              clear H O
              obtain ⟨krl, kr1, rr0, rrl⟩ := HPRE.out wa hB
              go_simp
              refine (RLeft_any wa _ gr rm rvs6 dN (D8.out.2.1.below hB) OKN.out).mono ?_
              rintro e1 w1 ⟨rfl, q9, hq9⟩
              rw [HLF.out]
              have hb : Below wa.heap.size wa w1 := by rw [hq9]; exact below_drewN (Below.refl _ _) q9
              exact hK _ _ hb (fun _ => rfl)
            · intro act wa hC hd H O K hK
              clear hd
              obtain ⟨hB, -⟩ := hC
              have h129 : act.tmps.getD 129 undef = .int .i64 (lf : Int) := H 1 27 129 (by kernel_rfl) rfl
              have g129 := Array.getD_eq_getD_getElem?.symm.trans h129
              have h131 : act.tmps.getD 131 undef = .int .i64 (lf : Int) := H 1 29 131 (by kernel_rfl) rfl
              have g131 := Array.getD_eq_getD_getElem?.symm.trans h131
              have h127 : act.tmps.getD 127 undef = .bool false := H 1 25 127 (by kernel_rfl) rfl
              have g127 := Array.getD_eq_getD_getElem?.symm.trans h127
              have k127 := Inv.some_bool g127
              clear H O
              obtain ⟨krl, kr1, rr0, rrl⟩ := HPRE.out wa hB
              go_simp
              exact hK _ _ (Below.refl _ _) (fun _ => rfl)
            · intro act wa hC hd H O K hK
              clear hd
              obtain ⟨hB, -⟩ := hC
              have h127 : act.tmps.getD 127 undef = .bool false := H 1 25 127 (by kernel_rfl) rfl
              have g127 := Array.getD_eq_getD_getElem?.symm.trans h127
              have h132 : act.tmps.getD 132 undef = .bool false := H 1 30 132 (by kernel_rfl) rfl
              have g132 := Array.getD_eq_getD_getElem?.symm.trans h132
              clear H O
              obtain ⟨krl, kr1, rr0, rrl⟩ := HPRE.out wa hB
              go_simp
              exact hK _ _ (Below.refl _ _) (fun _ => rfl)
            · intro act wa hC hd H O K hK
              clear hd
              obtain ⟨hB, -⟩ := hC
              have h133 : act.tmps.getD 133 undef = .bool false := H 1 31 133 (by kernel_rfl) rfl
              have g133 := Array.getD_eq_getD_getElem?.symm.trans h133
              clear H O
              obtain ⟨krl, kr1, rr0, rrl⟩ := HPRE.out wa hB
              go_simp
              exact hK _ _ (Below.refl _ _) (fun _ => rfl)
            · intro act wa hC hd H O K hK
              clear hd
              obtain ⟨hB, -⟩ := hC
              have h5 := O 5 (by kernel_rfl)
              have g5 := Array.getD_eq_getD_getElem?.symm.trans h5
              have h134 : act.tmps.getD 134 undef = .bool false := H 1 32 134 (by kernel_rfl) rfl
              have g134 := Array.getD_eq_getD_getElem?.symm.trans h134
              have k134 := Inv.some_bool g134
              clear H O
              obtain ⟨krl, kr1, rr0, rrl⟩ := HPRE.out wa hB
              go_simp
              exact hK _ _ (Below.refl _ _) (fun _ => rfl)
            · intro act wa hC hd H O K hK
              clear hd
              obtain ⟨hB, -⟩ := hC
              have h135 : act.tmps.getD 135 undef = .pointer (some ⟨g, 0, none⟩) := H 1 33 135 (by kernel_rfl) rfl
              have g135 := Array.getD_eq_getD_getElem?.symm.trans h135
              have h134 : act.tmps.getD 134 undef = .bool false := H 1 32 134 (by kernel_rfl) rfl
              have g134 := Array.getD_eq_getD_getElem?.symm.trans h134
              have k134 := Inv.some_bool g134
              clear H O
              obtain ⟨krl, kr1, rr0, rrl⟩ := HPRE.out wa hB
              go_simp
              refine (DDown_any wa g rm vs5 _ _ _ _ (DskM.below D8.out.1 hB)).mono ?_
              rintro e1 w1 ⟨rfl, q9, hq9⟩
              rw [HDNN.out]
              have hb : Below wa.heap.size wa w1 := by rw [hq9]; exact below_drewN (Below.refl _ _) q9
              exact hK _ _ hb (fun _ => rfl)
            · intro act wa hC hd H O K hK
              clear hd
              obtain ⟨hB, -⟩ := hC
              have h7 := O 7 (by kernel_rfl)
              have g7 := Array.getD_eq_getD_getElem?.symm.trans h7
              have h134 : act.tmps.getD 134 undef = .bool false := H 1 32 134 (by kernel_rfl) rfl
              have g134 := Array.getD_eq_getD_getElem?.symm.trans h134
              have k134 := Inv.some_bool g134
              clear H O
              obtain ⟨krl, kr1, rr0, rrl⟩ := HPRE.out wa hB
              go_simp
              exact hK _ _ (Below.refl _ _) (fun _ => rfl)
            · intro act wa hC hd H O K hK
              clear hd
              obtain ⟨hB, -⟩ := hC
              have h137 : act.tmps.getD 137 undef = .pointer (some ⟨gr, 0, none⟩) := H 1 35 137 (by kernel_rfl) rfl
              have g137 := Array.getD_eq_getD_getElem?.symm.trans h137
              have h134 : act.tmps.getD 134 undef = .bool false := H 1 32 134 (by kernel_rfl) rfl
              have g134 := Array.getD_eq_getD_getElem?.symm.trans h134
              have k134 := Inv.some_bool g134
              clear H O
              obtain ⟨krl, kr1, rr0, rrl⟩ := HPRE.out wa hB
              go_simp
              exact hK _ _ (Below.refl _ _) (fun _ => rfl)
            · intro act wa hC hd H O K hK
              clear hd
              obtain ⟨hB, -⟩ := hC
              have h138 : act.tmps.getD 138 undef = .pointer (some ⟨gr, 0, none⟩) := H 1 36 138 (by kernel_rfl) rfl
              have g138 := Array.getD_eq_getD_getElem?.symm.trans h138
              have h134 : act.tmps.getD 134 undef = .bool false := H 1 32 134 (by kernel_rfl) rfl
              have g134 := Array.getD_eq_getD_getElem?.symm.trans h134
              have k134 := Inv.some_bool g134
              clear H O
              obtain ⟨krl, kr1, rr0, rrl⟩ := HPRE.out wa hB
              go_simp
              exact hK _ _ (Below.refl _ _) (fun _ => rfl)
            · intro act wa hC hd H O K hK
              clear hd
              obtain ⟨hB, -⟩ := hC
              have h139 : act.tmps.getD 139 undef = .pointer (some ⟨gr, 130, none⟩) := H 1 37 139 (by kernel_rfl) rfl
              have g139 := Array.getD_eq_getD_getElem?.symm.trans h139
              have h134 : act.tmps.getD 134 undef = .bool false := H 1 32 134 (by kernel_rfl) rfl
              have g134 := Array.getD_eq_getD_getElem?.symm.trans h134
              have k134 := Inv.some_bool g134
              clear H O
              obtain ⟨krl, kr1, rr0, rrl⟩ := HPRE.out wa hB
              go_simp
              exact hK _ _ (Below.refl _ _) (fun _ => rfl)
            · intro act wa hC hd H O K hK
              clear hd
              obtain ⟨hB, -⟩ := hC
              have h136 : act.tmps.getD 136 undef = .bool dn := H 1 34 136 (by kernel_rfl) rfl
              have g136 := Array.getD_eq_getD_getElem?.symm.trans h136
              have h140 : act.tmps.getD 140 undef = .bool dn := H 1 38 140 (by kernel_rfl) rfl
              have g140 := Array.getD_eq_getD_getElem?.symm.trans h140
              have h134 : act.tmps.getD 134 undef = .bool false := H 1 32 134 (by kernel_rfl) rfl
              have g134 := Array.getD_eq_getD_getElem?.symm.trans h134
              have k134 := Inv.some_bool g134
              clear H O
              obtain ⟨krl, kr1, rr0, rrl⟩ := HPRE.out wa hB
              go_simp
              exact hK _ _ (Below.refl _ _) (fun _ => rfl)
            · intro act wa hC hd H O K hK
              clear hd
              obtain ⟨hB, -⟩ := hC
              have h134 : act.tmps.getD 134 undef = .bool false := H 1 32 134 (by kernel_rfl) rfl
              have g134 := Array.getD_eq_getD_getElem?.symm.trans h134
              have h141 : act.tmps.getD 141 undef = .bool false := H 1 39 141 (by kernel_rfl) rfl
              have g141 := Array.getD_eq_getD_getElem?.symm.trans h141
              clear H O
              obtain ⟨krl, kr1, rr0, rrl⟩ := HPRE.out wa hB
              go_simp
              exact hK _ _ (Below.refl _ _) (fun _ => rfl)
            · intro act wa hC hd H O K hK
              clear hd
              obtain ⟨hB, -⟩ := hC
              have h142 : act.tmps.getD 142 undef = .bool false := H 1 40 142 (by kernel_rfl) rfl
              have g142 := Array.getD_eq_getD_getElem?.symm.trans h142
              clear H O
              obtain ⟨krl, kr1, rr0, rrl⟩ := HPRE.out wa hB
              go_simp
              exact hK _ _ (Below.refl _ _) (fun _ => rfl)
            · intro act wa hC hd H O K hK
              clear hd
              obtain ⟨hB, -⟩ := hC
              have h5 := O 5 (by kernel_rfl)
              have g5 := Array.getD_eq_getD_getElem?.symm.trans h5
              have h143 : act.tmps.getD 143 undef = .bool false := H 1 41 143 (by kernel_rfl) rfl
              have g143 := Array.getD_eq_getD_getElem?.symm.trans h143
              have k143 := Inv.some_bool g143
              clear H O
              obtain ⟨krl, kr1, rr0, rrl⟩ := HPRE.out wa hB
              go_simp
              exact hK _ _ (Below.refl _ _) (fun _ => rfl)
            · intro act wa hC hd H O K hK
              clear hd
              obtain ⟨hB, -⟩ := hC
              have h144 : act.tmps.getD 144 undef = .pointer (some ⟨g, 0, none⟩) := H 1 42 144 (by kernel_rfl) rfl
              have g144 := Array.getD_eq_getD_getElem?.symm.trans h144
              have h143 : act.tmps.getD 143 undef = .bool false := H 1 41 143 (by kernel_rfl) rfl
              have g143 := Array.getD_eq_getD_getElem?.symm.trans h143
              have k143 := Inv.some_bool g143
              clear H O
              obtain ⟨krl, kr1, rr0, rrl⟩ := HPRE.out wa hB
              go_simp
              refine (DFiles_any wa g rm vs5 dN (DskM.below D8.out.1 hB) OKN.out).mono ?_
              rintro e1 w1 ⟨v8, rfl, ho8, hb⟩
              rw [HFL.out, HNF.out] at ho8
              obtain ⟨A8, c8, rfl⟩ := own_sl ho8
              exact hK _ _ hb (fun _ => ⟨A8, c8, rfl, Rd.of_own ho8⟩)
            · intro act wa hC hd H O K hK
              clear hd
              obtain ⟨hB, -⟩ := hC
              have h7 := O 7 (by kernel_rfl)
              have g7 := Array.getD_eq_getD_getElem?.symm.trans h7
              have h143 : act.tmps.getD 143 undef = .bool false := H 1 41 143 (by kernel_rfl) rfl
              have g143 := Array.getD_eq_getD_getElem?.symm.trans h143
              have k143 := Inv.some_bool g143
              clear H O
              obtain ⟨krl, kr1, rr0, rrl⟩ := HPRE.out wa hB
              go_simp
              exact hK _ _ (Below.refl _ _) (fun _ => rfl)
            · intro act wa hC hd H O K hK
              clear hd
              obtain ⟨hB, -⟩ := hC
              have h146 : act.tmps.getD 146 undef = .pointer (some ⟨gr, 0, none⟩) := H 1 44 146 (by kernel_rfl) rfl
              have g146 := Array.getD_eq_getD_getElem?.symm.trans h146
              have h143 : act.tmps.getD 143 undef = .bool false := H 1 41 143 (by kernel_rfl) rfl
              have g143 := Array.getD_eq_getD_getElem?.symm.trans h143
              have k143 := Inv.some_bool g143
              clear H O
              obtain ⟨krl, kr1, rr0, rrl⟩ := HPRE.out wa hB
              go_simp
              refine (RFiles_any wa _ gr rm rvs6 dN (D8.out.2.1.below hB)).mono ?_
              rintro e1 w1 ⟨v8, rfl, ho8, hb⟩
              rw [HFL.out, HNF.out] at ho8
              obtain ⟨A8, c8, rfl⟩ := own_sl ho8
              exact hK _ _ hb (fun _ => ⟨A8, c8, rfl, Rd.of_own ho8⟩)
            · intro act wa hC hd H O K hK
              clear hd
              obtain ⟨hB, -⟩ := hC
              have h145 : ∃ A c, act.tmps.getD 145 undef = .slice A nf c ∧ Rd wa wa.heap.size A (i64n fl) := H 1 43 145 (by kernel_rfl) rfl
              obtain ⟨A145, c145, h145', l145⟩ := h145
              have h147 : ∃ A c, act.tmps.getD 147 undef = .slice A nf c ∧ Rd wa wa.heap.size A (i64n fl) := H 1 45 147 (by kernel_rfl) rfl
              obtain ⟨A147, c147, h147', l147⟩ := h147
              have h143 : act.tmps.getD 143 undef = .bool false := H 1 41 143 (by kernel_rfl) rfl
              have g143 := Array.getD_eq_getD_getElem?.symm.trans h143
              have k143 := Inv.some_bool g143
              clear H O
              obtain ⟨krl, kr1, rr0, rrl⟩ := HPRE.out wa hB
              go_simp
              rw [i64n_i] at l145 l147
              refine (ints_at wa A145 A147 c145 c147 _ _ _ _ nf nf true l145 l147 (by rw [List.length_map, HNF.out]; unfold maxLen; omega) (by rw [List.length_map, HNF.out]) (by rw [List.length_map, HNF.out]) (by simp)).mono ?_
              rintro e1 w1 ⟨rfl, q9, hq9⟩
              have hb : Below wa.heap.size wa w1 := by rw [hq9]; exact below_drewN (Below.refl _ _) q9
              exact hK _ _ hb (fun _ => rfl)
            · intro act wa hC hd H O K hK
              clear hd
              obtain ⟨hB, -⟩ := hC
              have h148 : act.tmps.getD 148 undef = .bool true := H 1 46 148 (by kernel_rfl) rfl
              have g148 := Array.getD_eq_getD_getElem?.symm.trans h148
              have h143 : act.tmps.getD 143 undef = .bool false := H 1 41 143 (by kernel_rfl) rfl
              have g143 := Array.getD_eq_getD_getElem?.symm.trans h143
              have k143 := Inv.some_bool g143
              clear H O
              obtain ⟨krl, kr1, rr0, rrl⟩ := HPRE.out wa hB
              go_simp
              exact hK _ _ (Below.refl _ _) (fun _ => rfl)
            · intro act wa hC hd H O K hK
              clear hd
              obtain ⟨hB, -⟩ := hC
              have h143 : act.tmps.getD 143 undef = .bool false := H 1 41 143 (by kernel_rfl) rfl
              have g143 := Array.getD_eq_getD_getElem?.symm.trans h143
              have h149 : act.tmps.getD 149 undef = .bool false := H 1 47 149 (by kernel_rfl) rfl
              have g149 := Array.getD_eq_getD_getElem?.symm.trans h149
              clear H O
              obtain ⟨krl, kr1, rr0, rrl⟩ := HPRE.out wa hB
              go_simp
              exact hK _ _ (Below.refl _ _) (fun _ => rfl)
          · intro us w' hC hF
            obtain ⟨hB, -⟩ := hC
            have u150 : us 150 = .bool false := hF 48 150 rfl
            clear hF
            simp only [List.foldl]
            go_simp
            have e150 : us 150 = .bool false := u150
            have R := Lib.hid (show LD w g gr rm len (.int .i64 ((k : Int) + 1)) w' from ⟨k + 1, vs5, rvs6, dN, by go_num, HLT.out, D8.out.below hB, OKN.out, AS5.out, B8.out.trans (hB.mono B8.out.size)⟩)
            clear hB u150
            try rw [e150]
            go_wp2
            go_roundw
            case rel => exact R.out
            case measure => simp [intOf]; have := HLT.out; omega
        have n31 : (a.k == 3) = false := by simp [hq3]
        have n32 : decide (a.k = 3) = false := by simp [hq3]
        by_cases hq4 : a.k = 4
        · have HDN2 := Lib.hid (doP4 rm d a hq4)
          rw [hq4] at k0
          rw [HDN2.out] at HDN HNN
          have hn0 : n = 0 := HNN.out.symm
          subst hn0
          go_wp2_with fail
          refine (RCrash_any w5 _ gr rm rvs d Ak nk ck w.heap.size a.ks D5.out.2.1 D5.out.slt OK.out HRK5.out B5.out.size HNK.out hnk60 (Rd.ne_of HRK5.out HGR.out)).mono ?_
          rintro en w6 ⟨rfl, rvs6, hr6, hO⟩
          rw [← HDN.out] at hr6
          have B6 := Lib.hid (B5.out.trans (hO.to_below B5.out.size (fun j hj => by have := HGR.out; omega)))
          have D6 := Lib.hid (D5.out.doc hr6 hO)
          have KA6 := Lib.hid (hO.blk KA5.out HQ.out)
          clear hr6 hO k0 k1 k2 k3 k4 kl
          have k1 := KA6.out.cell 1
          simp at k1
          have kl := KA6.out.lt
          obtain ⟨⟨rb, re⟩, hrd⟩ : ∃ r, readP dN a.x = r := ⟨_, rfl⟩
          have hm20 := readP_len OKN.out a.x
          rw [hrd] at hm20
          simp only at hm20
          have HRD := Lib.hid hrd
          obtain ⟨m, hm⟩ : ∃ m, rb.length = m := ⟨_, rfl⟩
          rw [hm] at hm20
          have HM := Lib.hid hm
          clear hrd hm
          go_wp2_with fail
          refine (DRead_any w6 g rm vs5 dN a.x D6.out.1 OKN.out).mono ?_
          rintro en w7 ⟨vB, rfl, hm7, hf7, hb7⟩
          rw [HRD.out] at hm7 ⊢
          simp only at hm7
          rw [HM.out] at hm7
          obtain ⟨AB, CB, rfl, -⟩ := id hm7
          have D7 := Lib.hid (D6.out.below hb7); have B7 := Lib.hid (B6.out.trans (hb7.mono B6.out.size)); have KA7 := Lib.hid (KA6.out.below hb7 KA6.out.lt); have MB7 := Lib.hid hm7.rd_ofD
          clear hm7 hf7 hb7 k1 kl
          have k1 := KA7.out.cell 1
          simp at k1
          have kl := KA7.out.lt
          go_wp2_with fail
          refine (RRead_any w7 _ gr rm rvs6 dN a.x D7.out.2.1 OKN.out).mono ?_
          rintro en w8 ⟨vC, rfl, hm8, hf8, hb8⟩
          rw [HRD.out] at hm8 ⊢
          simp only at hm8
          rw [HM.out] at hm8
          obtain ⟨AC, CC, rfl, -⟩ := id hm8
          have D8 := Lib.hid (D7.out.below hb8); have B8 := Lib.hid (B7.out.trans (hb8.mono B7.out.size)); have KA8 := Lib.hid (KA7.out.below hb8 KA7.out.lt); have MB8 := Lib.hid ((MB7.out.below hb8).more hb8.size); have MC8 := Lib.hid hm8.rd_ofD
          clear hm8 hf8 hb8 k1 kl
          obtain ⟨nf, hnf⟩ : ∃ q, (filesK dN.1 64).length = q := ⟨_, rfl⟩
          have hnf64 : nf ≤ 64 := by rw [← hnf]; exact filesK_len _ _
          obtain ⟨fl, hfl⟩ : ∃ q, filesK dN.1 64 = q := ⟨_, rfl⟩
          have HFL := Lib.hid hfl
          have HNF := Lib.hid (show fl.length = nf by rw [← hfl]; exact hnf)
          obtain ⟨dn, hdn⟩ : ∃ q, dN.2.1 = q := ⟨_, rfl⟩
          have HDNN := Lib.hid hdn
          obtain ⟨su, hsu⟩ : ∃ q, sureF dN.1 a.x = q := ⟨_, rfl⟩
          have HSU := Lib.hid hsu
          obtain ⟨lf, hlf⟩ : ∃ q, rm - totF dN.1 = q := ⟨_, rfl⟩
          have HLF := Lib.hid hlf
          clear hnf hfl hdn hsu hlf
          have HPRE : Hid (∀ wa, Below w8.heap.size w8 wa → q < wa.heap.size ∧ wa.cell? ⟨q, 1, none⟩ = some (.int .i64 a.x) ∧ wa.cell? ⟨gr, 130, none⟩ = some (.bool dn) ∧ gr < wa.heap.size) := Lib.hid (fun wa hB => by
            have kr := KA8.out.below hB KA8.out.lt
            have kr1 := kr.cell 1
            simp at kr1
            have rr := D8.out.2.1.below hB
            have rr0 := rr.dn0
            rw [HDNN.out] at rr0
            exact ⟨kr.lt, kr1, rr0, rr.lt⟩)
          go_wp2_with fail
          refine Inv.region_below (fun i v w' => match i with
              | 0 => v = .int .i64 0
              | 1 => v = .int .i64 0
              | 2 => v = .bool false
              | 3 => v = .bool false
              | 4 => v = .slice AB m CB
              | 5 => v = .slice AC m CC
              | 6 => v = .bool true
              | 7 => v = .bool false
              | 8 => v = .bool false
              | 9 => v = .bool false
              | 10 => v = .int .i64 (re : Int)
              | 11 => v = .int .i64 (re : Int)
              | 12 => v = .bool false
              | 13 => v = .bool false
              | 14 => v = .bool false
              | 15 => v = .pointer (some ⟨g, 0, none⟩)
              | 16 => v = .pointer (some ⟨q, 1, none⟩)
              | 17 => v = .int .i64 a.x
              | 18 => v = .int .i64 (su : Int)
              | 19 => v = .pointer (some ⟨gr, 0, none⟩)
              | 20 => v = .pointer (some ⟨q, 1, none⟩)
              | 21 => v = .int .i64 a.x
              | 22 => v = .int .i64 (su : Int)
              | 23 => v = .bool false
              | 24 => v = .bool false
              | 25 => v = .bool false
              | 26 => v = .pointer (some ⟨g, 0, none⟩)
              | 27 => v = .int .i64 (lf : Int)
              | 28 => v = .pointer (some ⟨gr, 0, none⟩)
              | 29 => v = .int .i64 (lf : Int)
              | 30 => v = .bool false
              | 31 => v = .bool false
              | 32 => v = .bool false
              | 33 => v = .pointer (some ⟨g, 0, none⟩)
              | 34 => v = .bool dn
              | 35 => v = .pointer (some ⟨gr, 0, none⟩)
              | 36 => v = .pointer (some ⟨gr, 0, none⟩)
              | 37 => v = .pointer (some ⟨gr, 130, none⟩)
              | 38 => v = .bool dn
              | 39 => v = .bool false
              | 40 => v = .bool false
              | 41 => v = .bool false
              | 42 => v = .pointer (some ⟨g, 0, none⟩)
              | 43 => ∃ A c, v = .slice A nf c ∧ Rd w' w'.heap.size A (i64n fl)
              | 44 => v = .pointer (some ⟨gr, 0, none⟩)
              | 45 => ∃ A c, v = .slice A nf c ∧ Rd w' w'.heap.size A (i64n fl)
              | 46 => v = .bool true
              | 47 => v = .bool false
              | 48 => v = .bool false
              | _ => True)
            (fun w' => Below w8.heap.size w8 w' ∧ True) 152 [102, 103, 104, 105, 106, 107, 108, 109, 110, 111, 112, 113, 114, 115, 116, 117, 118, 119, 120, 121, 122, 123, 124, 125, 126, 127, 128, 129, 130, 131, 132, 133, 134, 135, 136, 137, 138, 139, 140, 141, 142, 143, 144, 145, 146, 147, 148, 149, 150] (by kernel_rfl) rfl (by kernel_rfl) (by kernel_rfl) ?_ ?_ ?_ ?_
          · intro v v' hC hb
            obtain ⟨hB, -⟩ := hC
            exact ⟨hB.trans (hb.mono hB.size), trivial⟩
          · exact ⟨(Below.refl _ _).drew, trivial⟩
          · refine ⟨⟨fun _ _ _ h _ => h, ?_⟩, ⟨fun _ _ _ h _ => h, ?_⟩, ⟨fun _ _ _ h _ => h, ?_⟩, ⟨fun _ _ _ h _ => h, ?_⟩, ⟨fun _ _ _ h _ => h, ?_⟩, ⟨fun _ _ _ h _ => h, ?_⟩, ⟨fun _ _ _ h _ => h, ?_⟩, ⟨fun _ _ _ h _ => h, ?_⟩, ⟨fun _ _ _ h _ => h, ?_⟩, ⟨fun _ _ _ h _ => h, ?_⟩, ⟨fun _ _ _ h _ => h, ?_⟩, ⟨fun _ _ _ h _ => h, ?_⟩, ⟨fun _ _ _ h _ => h, ?_⟩, ⟨fun _ _ _ h _ => h, ?_⟩, ⟨fun _ _ _ h _ => h, ?_⟩, ⟨fun _ _ _ h _ => h, ?_⟩, ⟨fun _ _ _ h _ => h, ?_⟩, ⟨fun _ _ _ h _ => h, ?_⟩, ⟨fun _ _ _ h _ => h, ?_⟩, ⟨fun _ _ _ h _ => h, ?_⟩, ⟨fun _ _ _ h _ => h, ?_⟩, ⟨fun _ _ _ h _ => h, ?_⟩, ⟨fun _ _ _ h _ => h, ?_⟩, ⟨fun _ _ _ h _ => h, ?_⟩, ⟨fun _ _ _ h _ => h, ?_⟩, ⟨fun _ _ _ h _ => h, ?_⟩, ⟨fun _ _ _ h _ => h, ?_⟩, ⟨fun _ _ _ h _ => h, ?_⟩, ⟨fun _ _ _ h _ => h, ?_⟩, ⟨fun _ _ _ h _ => h, ?_⟩, ⟨fun _ _ _ h _ => h, ?_⟩, ⟨fun _ _ _ h _ => h, ?_⟩, ⟨fun _ _ _ h _ => h, ?_⟩, ⟨fun _ _ _ h _ => h, ?_⟩, ⟨fun _ _ _ h _ => h, ?_⟩, ⟨fun _ _ _ h _ => h, ?_⟩, ⟨fun _ _ _ h _ => h, ?_⟩, ⟨fun _ _ _ h _ => h, ?_⟩, ⟨fun _ _ _ h _ => h, ?_⟩, ⟨fun _ _ _ h _ => h, ?_⟩, ⟨fun _ _ _ h _ => h, ?_⟩, ⟨fun _ _ _ h _ => h, ?_⟩, ⟨fun _ _ _ h _ => h, ?_⟩, ⟨fun v w w' ⟨A, c, h1, h2⟩ hb => ⟨A, c, h1, (h2.below hb).more hb.size⟩, ?_⟩, ⟨fun _ _ _ h _ => h, ?_⟩, ⟨fun v w w' ⟨A, c, h1, h2⟩ hb => ⟨A, c, h1, (h2.below hb).more hb.size⟩, ?_⟩, ⟨fun _ _ _ h _ => h, ?_⟩, ⟨fun _ _ _ h _ => h, ?_⟩, ⟨fun _ _ _ h _ => h, ?_⟩, trivial⟩
            · intro act wa hC hd H O K hK
              clear hd
              obtain ⟨hB, -⟩ := hC
              have h11 := O 11 (by kernel_rfl)
              have g11 := Array.getD_eq_getD_getElem?.symm.trans h11
              clear H O
              obtain ⟨krl, kr1, rr0, rrl⟩ := HPRE.out wa hB
              go_simp
              exact hK _ _ (Below.refl _ _) (fun _ => rfl)
            · intro act wa hC hd H O K hK
              clear hd
              obtain ⟨hB, -⟩ := hC
              have h12 := O 12 (by kernel_rfl)
              have g12 := Array.getD_eq_getD_getElem?.symm.trans h12
              clear H O
              obtain ⟨krl, kr1, rr0, rrl⟩ := HPRE.out wa hB
              go_simp
              exact hK _ _ (Below.refl _ _) (fun _ => rfl)
            · intro act wa hC hd H O K hK
              clear hd
              obtain ⟨hB, -⟩ := hC
              have h102 : act.tmps.getD 102 undef = .int .i64 0 := H 1 0 102 (by kernel_rfl) rfl
              have g102 := Array.getD_eq_getD_getElem?.symm.trans h102
              have h103 : act.tmps.getD 103 undef = .int .i64 0 := H 1 1 103 (by kernel_rfl) rfl
              have g103 := Array.getD_eq_getD_getElem?.symm.trans h103
              clear H O
              obtain ⟨krl, kr1, rr0, rrl⟩ := HPRE.out wa hB
              go_simp
              exact hK _ _ (Below.refl _ _) (fun _ => rfl)
            · intro act wa hC hd H O K hK
              clear hd
              obtain ⟨hB, -⟩ := hC
              have h104 : act.tmps.getD 104 undef = .bool false := H 1 2 104 (by kernel_rfl) rfl
              have g104 := Array.getD_eq_getD_getElem?.symm.trans h104
              clear H O
              obtain ⟨krl, kr1, rr0, rrl⟩ := HPRE.out wa hB
              go_simp
              exact hK _ _ (Below.refl _ _) (fun _ => rfl)
            · intro act wa hC hd H O K hK
              clear hd
              obtain ⟨hB, -⟩ := hC
              have h13 := O 13 (by kernel_rfl)
              have g13 := Array.getD_eq_getD_getElem?.symm.trans h13
              have h105 : act.tmps.getD 105 undef = .bool false := H 1 3 105 (by kernel_rfl) rfl
              have g105 := Array.getD_eq_getD_getElem?.symm.trans h105
              have k105 := Inv.some_bool g105
              clear H O
              obtain ⟨krl, kr1, rr0, rrl⟩ := HPRE.out wa hB
              go_simp
              exact hK _ _ (Below.refl _ _) (fun _ => rfl)
            · intro act wa hC hd H O K hK
              clear hd
              obtain ⟨hB, -⟩ := hC
              have h15 := O 15 (by kernel_rfl)
              have g15 := Array.getD_eq_getD_getElem?.symm.trans h15
              have h105 : act.tmps.getD 105 undef = .bool false := H 1 3 105 (by kernel_rfl) rfl
              have g105 := Array.getD_eq_getD_getElem?.symm.trans h105
              have k105 := Inv.some_bool g105
              clear H O
              obtain ⟨krl, kr1, rr0, rrl⟩ := HPRE.out wa hB
              go_simp
              exact hK _ _ (Below.refl _ _) (fun _ => rfl)
            · intro act wa hC hd H O K hK
              clear hd
              obtain ⟨hB, -⟩ := hC
              have h106 : act.tmps.getD 106 undef = .slice AB m CB := H 1 4 106 (by kernel_rfl) rfl
              have g106 := Array.getD_eq_getD_getElem?.symm.trans h106
              have h107 : act.tmps.getD 107 undef = .slice AC m CC := H 1 5 107 (by kernel_rfl) rfl
              have g107 := Array.getD_eq_getD_getElem?.symm.trans h107
              have h105 : act.tmps.getD 105 undef = .bool false := H 1 3 105 (by kernel_rfl) rfl
              have g105 := Array.getD_eq_getD_getElem?.symm.trans h105
              have k105 := Inv.some_bool g105
              clear H O
              obtain ⟨krl, kr1, rr0, rrl⟩ := HPRE.out wa hB
              go_simp
              refine (same_at wa AB AC CB CC rb rb _ _ m m true (MB8.out.below hB) (MC8.out.below hB) (by rw [HM.out]; unfold maxLen; omega) HM.out HM.out (by simp)).mono ?_
              rintro e1 w1 ⟨rfl, q9, hq9⟩
              have hb : Below wa.heap.size wa w1 := by rw [hq9]; exact below_drewN (Below.refl _ _) q9
              exact hK _ _ hb (fun _ => rfl)
            · intro act wa hC hd H O K hK
              clear hd
              obtain ⟨hB, -⟩ := hC
              have h108 : act.tmps.getD 108 undef = .bool true := H 1 6 108 (by kernel_rfl) rfl
              have g108 := Array.getD_eq_getD_getElem?.symm.trans h108
              have h105 : act.tmps.getD 105 undef = .bool false := H 1 3 105 (by kernel_rfl) rfl
              have g105 := Array.getD_eq_getD_getElem?.symm.trans h105
              have k105 := Inv.some_bool g105
              clear H O
              obtain ⟨krl, kr1, rr0, rrl⟩ := HPRE.out wa hB
              go_simp
              exact hK _ _ (Below.refl _ _) (fun _ => rfl)
            · intro act wa hC hd H O K hK
              clear hd
              obtain ⟨hB, -⟩ := hC
              have h105 : act.tmps.getD 105 undef = .bool false := H 1 3 105 (by kernel_rfl) rfl
              have g105 := Array.getD_eq_getD_getElem?.symm.trans h105
              have h109 : act.tmps.getD 109 undef = .bool false := H 1 7 109 (by kernel_rfl) rfl
              have g109 := Array.getD_eq_getD_getElem?.symm.trans h109
              clear H O
              obtain ⟨krl, kr1, rr0, rrl⟩ := HPRE.out wa hB
              go_simp
              exact hK _ _ (Below.refl _ _) (fun _ => rfl)
            · intro act wa hC hd H O K hK
              clear hd
              obtain ⟨hB, -⟩ := hC
              have h110 : act.tmps.getD 110 undef = .bool false := H 1 8 110 (by kernel_rfl) rfl
              have g110 := Array.getD_eq_getD_getElem?.symm.trans h110
              clear H O
              obtain ⟨krl, kr1, rr0, rrl⟩ := HPRE.out wa hB
              go_simp
              exact hK _ _ (Below.refl _ _) (fun _ => rfl)
            · intro act wa hC hd H O K hK
              clear hd
              obtain ⟨hB, -⟩ := hC
              have h14 := O 14 (by kernel_rfl)
              have g14 := Array.getD_eq_getD_getElem?.symm.trans h14
              have h111 : act.tmps.getD 111 undef = .bool false := H 1 9 111 (by kernel_rfl) rfl
              have g111 := Array.getD_eq_getD_getElem?.symm.trans h111
              have k111 := Inv.some_bool g111
              clear H O
              obtain ⟨krl, kr1, rr0, rrl⟩ := HPRE.out wa hB
              go_simp
              exact hK _ _ (Below.refl _ _) (fun _ => rfl)
            · intro act wa hC hd H O K hK
              clear hd
              obtain ⟨hB, -⟩ := hC
              have h16 := O 16 (by kernel_rfl)
              have g16 := Array.getD_eq_getD_getElem?.symm.trans h16
              have h111 : act.tmps.getD 111 undef = .bool false := H 1 9 111 (by kernel_rfl) rfl
              have g111 := Array.getD_eq_getD_getElem?.symm.trans h111
              have k111 := Inv.some_bool g111
              clear H O
              obtain ⟨krl, kr1, rr0, rrl⟩ := HPRE.out wa hB
              go_simp
              exact hK _ _ (Below.refl _ _) (fun _ => rfl)
            · intro act wa hC hd H O K hK
              clear hd
              obtain ⟨hB, -⟩ := hC
              have h112 : act.tmps.getD 112 undef = .int .i64 (re : Int) := H 1 10 112 (by kernel_rfl) rfl
              have g112 := Array.getD_eq_getD_getElem?.symm.trans h112
              have h113 : act.tmps.getD 113 undef = .int .i64 (re : Int) := H 1 11 113 (by kernel_rfl) rfl
              have g113 := Array.getD_eq_getD_getElem?.symm.trans h113
              have h111 : act.tmps.getD 111 undef = .bool false := H 1 9 111 (by kernel_rfl) rfl
              have g111 := Array.getD_eq_getD_getElem?.symm.trans h111
              have k111 := Inv.some_bool g111
              clear H O
              obtain ⟨krl, kr1, rr0, rrl⟩ := HPRE.out wa hB
              go_simp
              exact hK _ _ (Below.refl _ _) (fun _ => rfl)
            · intro act wa hC hd H O K hK
              clear hd
              obtain ⟨hB, -⟩ := hC
              have h111 : act.tmps.getD 111 undef = .bool false := H 1 9 111 (by kernel_rfl) rfl
              have g111 := Array.getD_eq_getD_getElem?.symm.trans h111
              have h114 : act.tmps.getD 114 undef = .bool false := H 1 12 114 (by kernel_rfl) rfl
              have g114 := Array.getD_eq_getD_getElem?.symm.trans h114
              clear H O
              obtain ⟨krl, kr1, rr0, rrl⟩ := HPRE.out wa hB
              go_simp
              exact hK _ _ (Below.refl _ _) (fun _ => rfl)
            · intro act wa hC hd H O K hK
              clear hd
              obtain ⟨hB, -⟩ := hC
              have h115 : act.tmps.getD 115 undef = .bool false := H 1 13 115 (by kernel_rfl) rfl
              have g115 := Array.getD_eq_getD_getElem?.symm.trans h115
              clear H O
              obtain ⟨krl, kr1, rr0, rrl⟩ := HPRE.out wa hB
              go_simp
              exact hK _ _ (Below.refl _ _) (fun _ => rfl)
            · intro act wa hC hd H O K hK
              clear hd
              obtain ⟨hB, -⟩ := hC
              have h5 := O 5 (by kernel_rfl)
              have g5 := Array.getD_eq_getD_getElem?.symm.trans h5
              have h116 : act.tmps.getD 116 undef = .bool false := H 1 14 116 (by kernel_rfl) rfl
              have g116 := Array.getD_eq_getD_getElem?.symm.trans h116
              have k116 := Inv.some_bool g116
              clear H O
              obtain ⟨krl, kr1, rr0, rrl⟩ := HPRE.out wa hB
              go_simp
              exact hK _ _ (Below.refl _ _) (fun _ => rfl)
            · intro act wa hC hd H O K hK
              clear hd
              obtain ⟨hB, -⟩ := hC
              have h10 := O 10 (by kernel_rfl)
              have g10 := Array.getD_eq_getD_getElem?.symm.trans h10
              have h116 : act.tmps.getD 116 undef = .bool false := H 1 14 116 (by kernel_rfl) rfl
              have g116 := Array.getD_eq_getD_getElem?.symm.trans h116
              have k116 := Inv.some_bool g116
              clear H O
              obtain ⟨krl, kr1, rr0, rrl⟩ := HPRE.out wa hB
              go_simp
              exact hK _ _ (Below.refl _ _) (fun _ => rfl)
            · intro act wa hC hd H O K hK
              clear hd
              obtain ⟨hB, -⟩ := hC
              have h118 : act.tmps.getD 118 undef = .pointer (some ⟨q, 1, none⟩) := H 1 16 118 (by kernel_rfl) rfl
              have g118 := Array.getD_eq_getD_getElem?.symm.trans h118
              have h116 : act.tmps.getD 116 undef = .bool false := H 1 14 116 (by kernel_rfl) rfl
              have g116 := Array.getD_eq_getD_getElem?.symm.trans h116
              have k116 := Inv.some_bool g116
              clear H O
              obtain ⟨krl, kr1, rr0, rrl⟩ := HPRE.out wa hB
              go_simp
              exact hK _ _ (Below.refl _ _) (fun _ => rfl)
            · intro act wa hC hd H O K hK
              clear hd
              obtain ⟨hB, -⟩ := hC
              have h117 : act.tmps.getD 117 undef = .pointer (some ⟨g, 0, none⟩) := H 1 15 117 (by kernel_rfl) rfl
              have g117 := Array.getD_eq_getD_getElem?.symm.trans h117
              have h119 : act.tmps.getD 119 undef = .int .i64 a.x := H 1 17 119 (by kernel_rfl) rfl
              have g119 := Array.getD_eq_getD_getElem?.symm.trans h119
              have h116 : act.tmps.getD 116 undef = .bool false := H 1 14 116 (by kernel_rfl) rfl
              have g116 := Array.getD_eq_getD_getElem?.symm.trans h116
              have k116 := Inv.some_bool g116
              clear H O
              obtain ⟨krl, kr1, rr0, rrl⟩ := HPRE.out wa hB
              go_simp
              refine (DSure_any wa g rm vs5 _ _ _ _ a.x (DskM.below D8.out.1 hB)).mono ?_
              rintro e1 w1 ⟨rfl, q9, hq9⟩
              rw [HSU.out]
              have hb : Below wa.heap.size wa w1 := by rw [hq9]; exact below_drewN (Below.refl _ _) q9
              exact hK _ _ hb (fun _ => rfl)
            · intro act wa hC hd H O K hK
              clear hd
              obtain ⟨hB, -⟩ := hC
              have h7 := O 7 (by kernel_rfl)
              have g7 := Array.getD_eq_getD_getElem?.symm.trans h7
              have h116 : act.tmps.getD 116 undef = .bool false := H 1 14 116 (by kernel_rfl) rfl
              have g116 := Array.getD_eq_getD_getElem?.symm.trans h116
              have k116 := Inv.some_bool g116
              clear H O
              obtain ⟨krl, kr1, rr0, rrl⟩ := HPRE.out wa hB
              go_simp
              exact hK _ _ (Below.refl _ _) (fun _ => rfl)
            · intro act wa hC hd H O K hK
              clear hd
              obtain ⟨hB, -⟩ := hC
              have h10 := O 10 (by kernel_rfl)
              have g10 := Array.getD_eq_getD_getElem?.symm.trans h10
              have h116 : act.tmps.getD 116 undef = .bool false := H 1 14 116 (by kernel_rfl) rfl
              have g116 := Array.getD_eq_getD_getElem?.symm.trans h116
              have k116 := Inv.some_bool g116
              clear H O
              obtain ⟨krl, kr1, rr0, rrl⟩ := HPRE.out wa hB
              go_simp
              exact hK _ _ (Below.refl _ _) (fun _ => rfl)
            · intro act wa hC hd H O K hK
              clear hd
              obtain ⟨hB, -⟩ := hC
              have h122 : act.tmps.getD 122 undef = .pointer (some ⟨q, 1, none⟩) := H 1 20 122 (by kernel_rfl) rfl
              have g122 := Array.getD_eq_getD_getElem?.symm.trans h122
              have h116 : act.tmps.getD 116 undef = .bool false := H 1 14 116 (by kernel_rfl) rfl
              have g116 := Array.getD_eq_getD_getElem?.symm.trans h116
              have k116 := Inv.some_bool g116
              clear H O
              obtain ⟨krl, kr1, rr0, rrl⟩ := HPRE.out wa hB
              go_simp
              exact hK _ _ (Below.refl _ _) (fun _ => rfl)
            · intro act wa hC hd H O K hK
              clear hd
              obtain ⟨hB, -⟩ := hC
              have h121 : act.tmps.getD 121 undef = .pointer (some ⟨gr, 0, none⟩) := H 1 19 121 (by kernel_rfl) rfl
              have g121 := Array.getD_eq_getD_getElem?.symm.trans h121
              have h123 : act.tmps.getD 123 undef = .int .i64 a.x := H 1 21 123 (by kernel_rfl) rfl
              have g123 := Array.getD_eq_getD_getElem?.symm.trans h123
              have h116 : act.tmps.getD 116 undef = .bool false := H 1 14 116 (by kernel_rfl) rfl
              have g116 := Array.getD_eq_getD_getElem?.symm.trans h116
              have k116 := Inv.some_bool g116
              clear H O
              obtain ⟨krl, kr1, rr0, rrl⟩ := HPRE.out wa hB
              go_simp
              refine (RSure_any wa _ gr rm rvs6 dN a.x (D8.out.2.1.below hB)).mono ?_
              rintro e1 w1 ⟨rfl, q9, hq9⟩
              rw [HSU.out]
              have hb : Below wa.heap.size wa w1 := by rw [hq9]; exact below_drewN (Below.refl _ _) q9
              exact hK _ _ hb (fun _ => rfl)
            · intro act wa hC hd H O K hK
              clear hd
              obtain ⟨hB, -⟩ := hC
              have h120 : act.tmps.getD 120 undef = .int .i64 (su : Int) := H 1 18 120 (by kernel_rfl) rfl
              have g120 := Array.getD_eq_getD_getElem?.symm.trans h120
              have h124 : act.tmps.getD 124 undef = .int .i64 (su : Int) := H 1 22 124 (by kernel_rfl) rfl
              have g124 := Array.getD_eq_getD_getElem?.symm.trans h124
              have h116 : act.tmps.getD 116 undef = .bool false := H 1 14 116 (by kernel_rfl) rfl
              have g116 := Array.getD_eq_getD_getElem?.symm.trans h116
              have k116 := Inv.some_bool g116
              clear H O
              obtain ⟨krl, kr1, rr0, rrl⟩ := HPRE.out wa hB
              go_simp
              exact hK _ _ (Below.refl _ _) (fun _ => rfl)
            · intro act wa hC hd H O K hK
              clear hd
              obtain ⟨hB, -⟩ := hC
              have h116 : act.tmps.getD 116 undef = .bool false := H 1 14 116 (by kernel_rfl) rfl
              have g116 := Array.getD_eq_getD_getElem?.symm.trans h116
              have h125 : act.tmps.getD 125 undef = .bool false := H 1 23 125 (by kernel_rfl) rfl
              have g125 := Array.getD_eq_getD_getElem?.symm.trans h125
              clear H O
              obtain ⟨krl, kr1, rr0, rrl⟩ := HPRE.out wa hB
              go_simp
              exact hK _ _ (Below.refl _ _) (fun _ => rfl)
            · intro act wa hC hd H O K hK
              clear hd
              obtain ⟨hB, -⟩ := hC
              have h126 : act.tmps.getD 126 undef = .bool false := H 1 24 126 (by kernel_rfl) rfl
              have g126 := Array.getD_eq_getD_getElem?.symm.trans h126
              clear H O
              obtain ⟨krl, kr1, rr0, rrl⟩ := HPRE.out wa hB
              go_simp
              exact hK _ _ (Below.refl _ _) (fun _ => rfl)
            · intro act wa hC hd H O K hK
              clear hd
              obtain ⟨hB, -⟩ := hC
              have h5 := O 5 (by kernel_rfl)
              have g5 := Array.getD_eq_getD_getElem?.symm.trans h5
              have h127 : act.tmps.getD 127 undef = .bool false := H 1 25 127 (by kernel_rfl) rfl
              have g127 := Array.getD_eq_getD_getElem?.symm.trans h127
              have k127 := Inv.some_bool g127
              clear H O
              obtain ⟨krl, kr1, rr0, rrl⟩ := HPRE.out wa hB
              go_simp
              exact hK _ _ (Below.refl _ _) (fun _ => rfl)
            · intro act wa hC hd H O K hK
              clear hd
              obtain ⟨hB, -⟩ := hC
              have h128 : act.tmps.getD 128 undef = .pointer (some ⟨g, 0, none⟩) := H 1 26 128 (by kernel_rfl) rfl
              have g128 := Array.getD_eq_getD_getElem?.symm.trans h128
              have h127 : act.tmps.getD 127 undef = .bool false := H 1 25 127 (by kernel_rfl) rfl
              have g127 := Array.getD_eq_getD_getElem?.symm.trans h127
              have k127 := Inv.some_bool g127
              clear H O
              obtain ⟨krl, kr1, rr0, rrl⟩ := HPRE.out wa hB
              go_simp
              refine (DLeft_any wa g rm vs5 _ _ _ _ (DskM.below D8.out.1 hB) OKN.out.1 (fun i => Nat.le_trans (totF_take_le _ _) OKN.out.2.1)).mono ?_
              rintro e1 w1 ⟨rfl, q9, hq9⟩
              rw [HLF.out]
              have hb : Below wa.heap.size wa w1 := by rw [hq9]; exact below_drewN (Below.refl _ _) q9
              exact hK _ _ hb (fun _ => rfl)
            · intro act wa hC hd H O K hK
              clear hd
              obtain ⟨hB, -⟩ := hC
              have h7 := O 7 (by kernel_rfl)
              have g7 := Array.getD_eq_getD_getElem?.symm.trans h7
              have h127 : act.tmps.getD 127 undef = .bool false := H 1 25 127 (by kernel_rfl) rfl
              have g127 := Array.getD_eq_getD_getElem?.symm.trans h127
              have k127 := Inv.some_bool g127
              clear H O
              obtain ⟨krl, kr1, rr0, rrl⟩ := HPRE.out wa hB
              go_simp
              exact hK _ _ (Below.refl _ _) (fun _ => rfl)
            · intro act wa hC hd H O K hK
              clear hd
              obtain ⟨hB, -⟩ := hC
              have h130 : act.tmps.getD 130 undef = .pointer (some ⟨gr, 0, none⟩) := H 1 28 130 (by kernel_rfl) rfl
              have g130 := Array.getD_eq_getD_getElem?.symm.trans h130
              have h127 : act.tmps.getD 127 undef = .bool false := H 1 25 127 (by kernel_rfl) rfl
              have g127 := Array.getD_eq_getD_getElem?.symm.trans h127
              have k127 := Inv.some_bool g127
              clear H O
              obtain ⟨krl, kr1, rr0, rrl⟩ := HPRE.out wa hB
              go_simp
              refine (RLeft_any wa _ gr rm rvs6 dN (D8.out.2.1.below hB) OKN.out).mono ?_
              rintro e1 w1 ⟨rfl, q9, hq9⟩
              rw [HLF.out]
              have hb : Below wa.heap.size wa w1 := by rw [hq9]; exact below_drewN (Below.refl _ _) q9
              exact hK _ _ hb (fun _ => rfl)
            · intro act wa hC hd H O K hK
              clear hd
              obtain ⟨hB, -⟩ := hC
              have h129 : act.tmps.getD 129 undef = .int .i64 (lf : Int) := H 1 27 129 (by kernel_rfl) rfl
              have g129 := Array.getD_eq_getD_getElem?.symm.trans h129
              have h131 : act.tmps.getD 131 undef = .int .i64 (lf : Int) := H 1 29 131 (by kernel_rfl) rfl
              have g131 := Array.getD_eq_getD_getElem?.symm.trans h131
              have h127 : act.tmps.getD 127 undef = .bool false := H 1 25 127 (by kernel_rfl) rfl
              have g127 := Array.getD_eq_getD_getElem?.symm.trans h127
              have k127 := Inv.some_bool g127
              clear H O
              obtain ⟨krl, kr1, rr0, rrl⟩ := HPRE.out wa hB
              go_simp
              exact hK _ _ (Below.refl _ _) (fun _ => rfl)
            · intro act wa hC hd H O K hK
              clear hd
              obtain ⟨hB, -⟩ := hC
              have h127 : act.tmps.getD 127 undef = .bool false := H 1 25 127 (by kernel_rfl) rfl
              have g127 := Array.getD_eq_getD_getElem?.symm.trans h127
              have h132 : act.tmps.getD 132 undef = .bool false := H 1 30 132 (by kernel_rfl) rfl
              have g132 := Array.getD_eq_getD_getElem?.symm.trans h132
              clear H O
              obtain ⟨krl, kr1, rr0, rrl⟩ := HPRE.out wa hB
              go_simp
              exact hK _ _ (Below.refl _ _) (fun _ => rfl)
            · intro act wa hC hd H O K hK
              clear hd
              obtain ⟨hB, -⟩ := hC
              have h133 : act.tmps.getD 133 undef = .bool false := H 1 31 133 (by kernel_rfl) rfl
              have g133 := Array.getD_eq_getD_getElem?.symm.trans h133
              clear H O
              obtain ⟨krl, kr1, rr0, rrl⟩ := HPRE.out wa hB
              go_simp
              exact hK _ _ (Below.refl _ _) (fun _ => rfl)
            · intro act wa hC hd H O K hK
              clear hd
              obtain ⟨hB, -⟩ := hC
              have h5 := O 5 (by kernel_rfl)
              have g5 := Array.getD_eq_getD_getElem?.symm.trans h5
              have h134 : act.tmps.getD 134 undef = .bool false := H 1 32 134 (by kernel_rfl) rfl
              have g134 := Array.getD_eq_getD_getElem?.symm.trans h134
              have k134 := Inv.some_bool g134
              clear H O
              obtain ⟨krl, kr1, rr0, rrl⟩ := HPRE.out wa hB
              go_simp
              exact hK _ _ (Below.refl _ _) (fun _ => rfl)
            · intro act wa hC hd H O K hK
              clear hd
              obtain ⟨hB, -⟩ := hC
              have h135 : act.tmps.getD 135 undef = .pointer (some ⟨g, 0, none⟩) := H 1 33 135 (by kernel_rfl) rfl
              have g135 := Array.getD_eq_getD_getElem?.symm.trans h135
              have h134 : act.tmps.getD 134 undef = .bool false := H 1 32 134 (by kernel_rfl) rfl
              have g134 := Array.getD_eq_getD_getElem?.symm.trans h134
              have k134 := Inv.some_bool g134
              clear H O
              obtain ⟨krl, kr1, rr0, rrl⟩ := HPRE.out wa hB
              go_simp
              refine (DDown_any wa g rm vs5 _ _ _ _ (DskM.below D8.out.1 hB)).mono ?_
              rintro e1 w1 ⟨rfl, q9, hq9⟩
              rw [HDNN.out]
              have hb : Below wa.heap.size wa w1 := by rw [hq9]; exact below_drewN (Below.refl _ _) q9
              exact hK _ _ hb (fun _ => rfl)
            · intro act wa hC hd H O K hK
              clear hd
              obtain ⟨hB, -⟩ := hC
              have h7 := O 7 (by kernel_rfl)
              have g7 := Array.getD_eq_getD_getElem?.symm.trans h7
              have h134 : act.tmps.getD 134 undef = .bool false := H 1 32 134 (by kernel_rfl) rfl
              have g134 := Array.getD_eq_getD_getElem?.symm.trans h134
              have k134 := Inv.some_bool g134
              clear H O
              obtain ⟨krl, kr1, rr0, rrl⟩ := HPRE.out wa hB
              go_simp
              exact hK _ _ (Below.refl _ _) (fun _ => rfl)
            · intro act wa hC hd H O K hK
              clear hd
              obtain ⟨hB, -⟩ := hC
              have h137 : act.tmps.getD 137 undef = .pointer (some ⟨gr, 0, none⟩) := H 1 35 137 (by kernel_rfl) rfl
              have g137 := Array.getD_eq_getD_getElem?.symm.trans h137
              have h134 : act.tmps.getD 134 undef = .bool false := H 1 32 134 (by kernel_rfl) rfl
              have g134 := Array.getD_eq_getD_getElem?.symm.trans h134
              have k134 := Inv.some_bool g134
              clear H O
              obtain ⟨krl, kr1, rr0, rrl⟩ := HPRE.out wa hB
              go_simp
              exact hK _ _ (Below.refl _ _) (fun _ => rfl)
            · intro act wa hC hd H O K hK
              clear hd
              obtain ⟨hB, -⟩ := hC
              have h138 : act.tmps.getD 138 undef = .pointer (some ⟨gr, 0, none⟩) := H 1 36 138 (by kernel_rfl) rfl
              have g138 := Array.getD_eq_getD_getElem?.symm.trans h138
              have h134 : act.tmps.getD 134 undef = .bool false := H 1 32 134 (by kernel_rfl) rfl
              have g134 := Array.getD_eq_getD_getElem?.symm.trans h134
              have k134 := Inv.some_bool g134
              clear H O
              obtain ⟨krl, kr1, rr0, rrl⟩ := HPRE.out wa hB
              go_simp
              exact hK _ _ (Below.refl _ _) (fun _ => rfl)
            · intro act wa hC hd H O K hK
              clear hd
              obtain ⟨hB, -⟩ := hC
              have h139 : act.tmps.getD 139 undef = .pointer (some ⟨gr, 130, none⟩) := H 1 37 139 (by kernel_rfl) rfl
              have g139 := Array.getD_eq_getD_getElem?.symm.trans h139
              have h134 : act.tmps.getD 134 undef = .bool false := H 1 32 134 (by kernel_rfl) rfl
              have g134 := Array.getD_eq_getD_getElem?.symm.trans h134
              have k134 := Inv.some_bool g134
              clear H O
              obtain ⟨krl, kr1, rr0, rrl⟩ := HPRE.out wa hB
              go_simp
              exact hK _ _ (Below.refl _ _) (fun _ => rfl)
            · intro act wa hC hd H O K hK
              clear hd
              obtain ⟨hB, -⟩ := hC
              have h136 : act.tmps.getD 136 undef = .bool dn := H 1 34 136 (by kernel_rfl) rfl
              have g136 := Array.getD_eq_getD_getElem?.symm.trans h136
              have h140 : act.tmps.getD 140 undef = .bool dn := H 1 38 140 (by kernel_rfl) rfl
              have g140 := Array.getD_eq_getD_getElem?.symm.trans h140
              have h134 : act.tmps.getD 134 undef = .bool false := H 1 32 134 (by kernel_rfl) rfl
              have g134 := Array.getD_eq_getD_getElem?.symm.trans h134
              have k134 := Inv.some_bool g134
              clear H O
              obtain ⟨krl, kr1, rr0, rrl⟩ := HPRE.out wa hB
              go_simp
              exact hK _ _ (Below.refl _ _) (fun _ => rfl)
            · intro act wa hC hd H O K hK
              clear hd
              obtain ⟨hB, -⟩ := hC
              have h134 : act.tmps.getD 134 undef = .bool false := H 1 32 134 (by kernel_rfl) rfl
              have g134 := Array.getD_eq_getD_getElem?.symm.trans h134
              have h141 : act.tmps.getD 141 undef = .bool false := H 1 39 141 (by kernel_rfl) rfl
              have g141 := Array.getD_eq_getD_getElem?.symm.trans h141
              clear H O
              obtain ⟨krl, kr1, rr0, rrl⟩ := HPRE.out wa hB
              go_simp
              exact hK _ _ (Below.refl _ _) (fun _ => rfl)
            · intro act wa hC hd H O K hK
              clear hd
              obtain ⟨hB, -⟩ := hC
              have h142 : act.tmps.getD 142 undef = .bool false := H 1 40 142 (by kernel_rfl) rfl
              have g142 := Array.getD_eq_getD_getElem?.symm.trans h142
              clear H O
              obtain ⟨krl, kr1, rr0, rrl⟩ := HPRE.out wa hB
              go_simp
              exact hK _ _ (Below.refl _ _) (fun _ => rfl)
            · intro act wa hC hd H O K hK
              clear hd
              obtain ⟨hB, -⟩ := hC
              have h5 := O 5 (by kernel_rfl)
              have g5 := Array.getD_eq_getD_getElem?.symm.trans h5
              have h143 : act.tmps.getD 143 undef = .bool false := H 1 41 143 (by kernel_rfl) rfl
              have g143 := Array.getD_eq_getD_getElem?.symm.trans h143
              have k143 := Inv.some_bool g143
              clear H O
              obtain ⟨krl, kr1, rr0, rrl⟩ := HPRE.out wa hB
              go_simp
              exact hK _ _ (Below.refl _ _) (fun _ => rfl)
            · intro act wa hC hd H O K hK
              clear hd
              obtain ⟨hB, -⟩ := hC
              have h144 : act.tmps.getD 144 undef = .pointer (some ⟨g, 0, none⟩) := H 1 42 144 (by kernel_rfl) rfl
              have g144 := Array.getD_eq_getD_getElem?.symm.trans h144
              have h143 : act.tmps.getD 143 undef = .bool false := H 1 41 143 (by kernel_rfl) rfl
              have g143 := Array.getD_eq_getD_getElem?.symm.trans h143
              have k143 := Inv.some_bool g143
              clear H O
              obtain ⟨krl, kr1, rr0, rrl⟩ := HPRE.out wa hB
              go_simp
              refine (DFiles_any wa g rm vs5 dN (DskM.below D8.out.1 hB) OKN.out).mono ?_
              rintro e1 w1 ⟨v8, rfl, ho8, hb⟩
              rw [HFL.out, HNF.out] at ho8
              obtain ⟨A8, c8, rfl⟩ := own_sl ho8
              exact hK _ _ hb (fun _ => ⟨A8, c8, rfl, Rd.of_own ho8⟩)
            · intro act wa hC hd H O K hK
              clear hd
              obtain ⟨hB, -⟩ := hC
              have h7 := O 7 (by kernel_rfl)
              have g7 := Array.getD_eq_getD_getElem?.symm.trans h7
              have h143 : act.tmps.getD 143 undef = .bool false := H 1 41 143 (by kernel_rfl) rfl
              have g143 := Array.getD_eq_getD_getElem?.symm.trans h143
              have k143 := Inv.some_bool g143
              clear H O
              obtain ⟨krl, kr1, rr0, rrl⟩ := HPRE.out wa hB
              go_simp
              exact hK _ _ (Below.refl _ _) (fun _ => rfl)
            · intro act wa hC hd H O K hK
              clear hd
              obtain ⟨hB, -⟩ := hC
              have h146 : act.tmps.getD 146 undef = .pointer (some ⟨gr, 0, none⟩) := H 1 44 146 (by kernel_rfl) rfl
              have g146 := Array.getD_eq_getD_getElem?.symm.trans h146
              have h143 : act.tmps.getD 143 undef = .bool false := H 1 41 143 (by kernel_rfl) rfl
              have g143 := Array.getD_eq_getD_getElem?.symm.trans h143
              have k143 := Inv.some_bool g143
              clear H O
              obtain ⟨krl, kr1, rr0, rrl⟩ := HPRE.out wa hB
              go_simp
              refine (RFiles_any wa _ gr rm rvs6 dN (D8.out.2.1.below hB)).mono ?_
              rintro e1 w1 ⟨v8, rfl, ho8, hb⟩
              rw [HFL.out, HNF.out] at ho8
              obtain ⟨A8, c8, rfl⟩ := own_sl ho8
              exact hK _ _ hb (fun _ => ⟨A8, c8, rfl, Rd.of_own ho8⟩)
            · intro act wa hC hd H O K hK
              clear hd
              obtain ⟨hB, -⟩ := hC
              have h145 : ∃ A c, act.tmps.getD 145 undef = .slice A nf c ∧ Rd wa wa.heap.size A (i64n fl) := H 1 43 145 (by kernel_rfl) rfl
              obtain ⟨A145, c145, h145', l145⟩ := h145
              have h147 : ∃ A c, act.tmps.getD 147 undef = .slice A nf c ∧ Rd wa wa.heap.size A (i64n fl) := H 1 45 147 (by kernel_rfl) rfl
              obtain ⟨A147, c147, h147', l147⟩ := h147
              have h143 : act.tmps.getD 143 undef = .bool false := H 1 41 143 (by kernel_rfl) rfl
              have g143 := Array.getD_eq_getD_getElem?.symm.trans h143
              have k143 := Inv.some_bool g143
              clear H O
              obtain ⟨krl, kr1, rr0, rrl⟩ := HPRE.out wa hB
              go_simp
              rw [i64n_i] at l145 l147
              refine (ints_at wa A145 A147 c145 c147 _ _ _ _ nf nf true l145 l147 (by rw [List.length_map, HNF.out]; unfold maxLen; omega) (by rw [List.length_map, HNF.out]) (by rw [List.length_map, HNF.out]) (by simp)).mono ?_
              rintro e1 w1 ⟨rfl, q9, hq9⟩
              have hb : Below wa.heap.size wa w1 := by rw [hq9]; exact below_drewN (Below.refl _ _) q9
              exact hK _ _ hb (fun _ => rfl)
            · intro act wa hC hd H O K hK
              clear hd
              obtain ⟨hB, -⟩ := hC
              have h148 : act.tmps.getD 148 undef = .bool true := H 1 46 148 (by kernel_rfl) rfl
              have g148 := Array.getD_eq_getD_getElem?.symm.trans h148
              have h143 : act.tmps.getD 143 undef = .bool false := H 1 41 143 (by kernel_rfl) rfl
              have g143 := Array.getD_eq_getD_getElem?.symm.trans h143
              have k143 := Inv.some_bool g143
              clear H O
              obtain ⟨krl, kr1, rr0, rrl⟩ := HPRE.out wa hB
              go_simp
              exact hK _ _ (Below.refl _ _) (fun _ => rfl)
            · intro act wa hC hd H O K hK
              clear hd
              obtain ⟨hB, -⟩ := hC
              have h143 : act.tmps.getD 143 undef = .bool false := H 1 41 143 (by kernel_rfl) rfl
              have g143 := Array.getD_eq_getD_getElem?.symm.trans h143
              have h149 : act.tmps.getD 149 undef = .bool false := H 1 47 149 (by kernel_rfl) rfl
              have g149 := Array.getD_eq_getD_getElem?.symm.trans h149
              clear H O
              obtain ⟨krl, kr1, rr0, rrl⟩ := HPRE.out wa hB
              go_simp
              exact hK _ _ (Below.refl _ _) (fun _ => rfl)
          · intro us w' hC hF
            obtain ⟨hB, -⟩ := hC
            have u150 : us 150 = .bool false := hF 48 150 rfl
            clear hF
            simp only [List.foldl]
            go_simp
            have e150 : us 150 = .bool false := u150
            have R := Lib.hid (show LD w g gr rm len (.int .i64 ((k : Int) + 1)) w' from ⟨k + 1, vs5, rvs6, dN, by go_num, HLT.out, D8.out.below hB, OKN.out, AS5.out, B8.out.trans (hB.mono B8.out.size)⟩)
            clear hB u150
            try rw [e150]
            go_wp2
            go_roundw
            case rel => exact R.out
            case measure => simp [intOf]; have := HLT.out; omega
        have n41 : (a.k == 4) = false := by simp [hq4]
        have n42 : decide (a.k = 4) = false := by simp [hq4]
        have HDN2 := Lib.hid (doPn rm d a hq0 hq1 hq2 hq3 hq4)
        rw [HDN2.out] at HDN HNN
        have hn0 : n = 0 := HNN.out.symm
        subst hn0
        obtain ⟨w6, hw6⟩ : ∃ q, q = w5 := ⟨_, rfl⟩
        obtain ⟨rvs6, hrv⟩ : ∃ q, q = rvs := ⟨_, rfl⟩
        have hr6 : RM w6 (SDD g gr vs5) gr rm rvs6 dN := by rw [hw6, hrv, HDN.out]; exact D5.out.2.1
        have hO : Only (fun j => j = gr) w5 w6 := by rw [hw6]; exact Only.refl _ _
        rw [← hw6] at k0 k1 k2 k3 k4 kl
        rw [← hw6]
        have HW6 := Lib.hid hw6
        clear hw6 hrv
        have B6 := Lib.hid (B5.out.trans (hO.to_below B5.out.size (fun j hj => by have := HGR.out; omega)))
        have D6 := Lib.hid (D5.out.doc hr6 hO)
        have KA6 := Lib.hid (hO.blk KA5.out HQ.out)
        clear hr6 hO k0 k1 k2 k3 k4 kl
        have k0 := KA6.out.cell 0
        have k1 := KA6.out.cell 1
        simp at k0 k1
        have kl := KA6.out.lt
        obtain ⟨⟨rb, re⟩, hrd⟩ : ∃ r, readP dN a.x = r := ⟨_, rfl⟩
        have hm20 := readP_len OKN.out a.x
        rw [hrd] at hm20
        simp only at hm20
        have HRD := Lib.hid hrd
        obtain ⟨m, hm⟩ : ∃ m, rb.length = m := ⟨_, rfl⟩
        rw [hm] at hm20
        have HM := Lib.hid hm
        clear hrd hm
        go_wp2_with fail
        refine (DRead_any w6 g rm vs5 dN a.x D6.out.1 OKN.out).mono ?_
        rintro en w7 ⟨vB, rfl, hm7, hf7, hb7⟩
        rw [HRD.out] at hm7 ⊢
        simp only at hm7
        rw [HM.out] at hm7
        obtain ⟨AB, CB, rfl, -⟩ := id hm7
        have D7 := Lib.hid (D6.out.below hb7); have B7 := Lib.hid (B6.out.trans (hb7.mono B6.out.size)); have KA7 := Lib.hid (KA6.out.below hb7 KA6.out.lt); have MB7 := Lib.hid hm7.rd_ofD
        clear hm7 hf7 hb7 k1 kl
        have k1 := KA7.out.cell 1
        simp at k1
        have kl := KA7.out.lt
        go_wp2_with fail
        refine (RRead_any w7 _ gr rm rvs6 dN a.x D7.out.2.1 OKN.out).mono ?_
        rintro en w8 ⟨vC, rfl, hm8, hf8, hb8⟩
        rw [HRD.out] at hm8 ⊢
        simp only at hm8
        rw [HM.out] at hm8
        obtain ⟨AC, CC, rfl, -⟩ := id hm8
        have D8 := Lib.hid (D7.out.below hb8); have B8 := Lib.hid (B7.out.trans (hb8.mono B7.out.size)); have KA8 := Lib.hid (KA7.out.below hb8 KA7.out.lt); have MB8 := Lib.hid ((MB7.out.below hb8).more hb8.size); have MC8 := Lib.hid hm8.rd_ofD
        clear hm8 hf8 hb8 k1 kl
        obtain ⟨nf, hnf⟩ : ∃ q, (filesK dN.1 64).length = q := ⟨_, rfl⟩
        have hnf64 : nf ≤ 64 := by rw [← hnf]; exact filesK_len _ _
        obtain ⟨fl, hfl⟩ : ∃ q, filesK dN.1 64 = q := ⟨_, rfl⟩
        have HFL := Lib.hid hfl
        have HNF := Lib.hid (show fl.length = nf by rw [← hfl]; exact hnf)
        obtain ⟨dn, hdn⟩ : ∃ q, dN.2.1 = q := ⟨_, rfl⟩
        have HDNN := Lib.hid hdn
        obtain ⟨su, hsu⟩ : ∃ q, sureF dN.1 a.x = q := ⟨_, rfl⟩
        have HSU := Lib.hid hsu
        obtain ⟨lf, hlf⟩ : ∃ q, rm - totF dN.1 = q := ⟨_, rfl⟩
        have HLF := Lib.hid hlf
        clear hnf hfl hdn hsu hlf
        have HPRE : Hid (∀ wa, Below w8.heap.size w8 wa → q < wa.heap.size ∧ wa.cell? ⟨q, 1, none⟩ = some (.int .i64 a.x) ∧ wa.cell? ⟨gr, 130, none⟩ = some (.bool dn) ∧ gr < wa.heap.size) := Lib.hid (fun wa hB => by
          have kr := KA8.out.below hB KA8.out.lt
          have kr1 := kr.cell 1
          simp at kr1
          have rr := D8.out.2.1.below hB
          have rr0 := rr.dn0
          rw [HDNN.out] at rr0
          exact ⟨kr.lt, kr1, rr0, rr.lt⟩)
        go_wp2_with fail
        refine Inv.region_below (fun i v w' => match i with
            | 0 => v = .int .i64 0
            | 1 => v = .int .i64 0
            | 2 => v = .bool false
            | 3 => v = .bool false
            | 4 => v = .slice AB m CB
            | 5 => v = .slice AC m CC
            | 6 => v = .bool true
            | 7 => v = .bool false
            | 8 => v = .bool false
            | 9 => v = .bool false
            | 10 => v = .int .i64 (re : Int)
            | 11 => v = .int .i64 (re : Int)
            | 12 => v = .bool false
            | 13 => v = .bool false
            | 14 => v = .bool false
            | 15 => v = .pointer (some ⟨g, 0, none⟩)
            | 16 => v = .pointer (some ⟨q, 1, none⟩)
            | 17 => v = .int .i64 a.x
            | 18 => v = .int .i64 (su : Int)
            | 19 => v = .pointer (some ⟨gr, 0, none⟩)
            | 20 => v = .pointer (some ⟨q, 1, none⟩)
            | 21 => v = .int .i64 a.x
            | 22 => v = .int .i64 (su : Int)
            | 23 => v = .bool false
            | 24 => v = .bool false
            | 25 => v = .bool false
            | 26 => v = .pointer (some ⟨g, 0, none⟩)
            | 27 => v = .int .i64 (lf : Int)
            | 28 => v = .pointer (some ⟨gr, 0, none⟩)
            | 29 => v = .int .i64 (lf : Int)
            | 30 => v = .bool false
            | 31 => v = .bool false
            | 32 => v = .bool false
            | 33 => v = .pointer (some ⟨g, 0, none⟩)
            | 34 => v = .bool dn
            | 35 => v = .pointer (some ⟨gr, 0, none⟩)
            | 36 => v = .pointer (some ⟨gr, 0, none⟩)
            | 37 => v = .pointer (some ⟨gr, 130, none⟩)
            | 38 => v = .bool dn
            | 39 => v = .bool false
            | 40 => v = .bool false
            | 41 => v = .bool false
            | 42 => v = .pointer (some ⟨g, 0, none⟩)
            | 43 => ∃ A c, v = .slice A nf c ∧ Rd w' w'.heap.size A (i64n fl)
            | 44 => v = .pointer (some ⟨gr, 0, none⟩)
            | 45 => ∃ A c, v = .slice A nf c ∧ Rd w' w'.heap.size A (i64n fl)
            | 46 => v = .bool true
            | 47 => v = .bool false
            | 48 => v = .bool false
            | _ => True)
          (fun w' => Below w8.heap.size w8 w' ∧ True) 152 [102, 103, 104, 105, 106, 107, 108, 109, 110, 111, 112, 113, 114, 115, 116, 117, 118, 119, 120, 121, 122, 123, 124, 125, 126, 127, 128, 129, 130, 131, 132, 133, 134, 135, 136, 137, 138, 139, 140, 141, 142, 143, 144, 145, 146, 147, 148, 149, 150] (by kernel_rfl) rfl (by kernel_rfl) (by kernel_rfl) ?_ ?_ ?_ ?_
        · intro v v' hC hb
          obtain ⟨hB, -⟩ := hC
          exact ⟨hB.trans (hb.mono hB.size), trivial⟩
        · exact ⟨(Below.refl _ _).drew, trivial⟩
        · refine ⟨⟨fun _ _ _ h _ => h, ?_⟩, ⟨fun _ _ _ h _ => h, ?_⟩, ⟨fun _ _ _ h _ => h, ?_⟩, ⟨fun _ _ _ h _ => h, ?_⟩, ⟨fun _ _ _ h _ => h, ?_⟩, ⟨fun _ _ _ h _ => h, ?_⟩, ⟨fun _ _ _ h _ => h, ?_⟩, ⟨fun _ _ _ h _ => h, ?_⟩, ⟨fun _ _ _ h _ => h, ?_⟩, ⟨fun _ _ _ h _ => h, ?_⟩, ⟨fun _ _ _ h _ => h, ?_⟩, ⟨fun _ _ _ h _ => h, ?_⟩, ⟨fun _ _ _ h _ => h, ?_⟩, ⟨fun _ _ _ h _ => h, ?_⟩, ⟨fun _ _ _ h _ => h, ?_⟩, ⟨fun _ _ _ h _ => h, ?_⟩, ⟨fun _ _ _ h _ => h, ?_⟩, ⟨fun _ _ _ h _ => h, ?_⟩, ⟨fun _ _ _ h _ => h, ?_⟩, ⟨fun _ _ _ h _ => h, ?_⟩, ⟨fun _ _ _ h _ => h, ?_⟩, ⟨fun _ _ _ h _ => h, ?_⟩, ⟨fun _ _ _ h _ => h, ?_⟩, ⟨fun _ _ _ h _ => h, ?_⟩, ⟨fun _ _ _ h _ => h, ?_⟩, ⟨fun _ _ _ h _ => h, ?_⟩, ⟨fun _ _ _ h _ => h, ?_⟩, ⟨fun _ _ _ h _ => h, ?_⟩, ⟨fun _ _ _ h _ => h, ?_⟩, ⟨fun _ _ _ h _ => h, ?_⟩, ⟨fun _ _ _ h _ => h, ?_⟩, ⟨fun _ _ _ h _ => h, ?_⟩, ⟨fun _ _ _ h _ => h, ?_⟩, ⟨fun _ _ _ h _ => h, ?_⟩, ⟨fun _ _ _ h _ => h, ?_⟩, ⟨fun _ _ _ h _ => h, ?_⟩, ⟨fun _ _ _ h _ => h, ?_⟩, ⟨fun _ _ _ h _ => h, ?_⟩, ⟨fun _ _ _ h _ => h, ?_⟩, ⟨fun _ _ _ h _ => h, ?_⟩, ⟨fun _ _ _ h _ => h, ?_⟩, ⟨fun _ _ _ h _ => h, ?_⟩, ⟨fun _ _ _ h _ => h, ?_⟩, ⟨fun v w w' ⟨A, c, h1, h2⟩ hb => ⟨A, c, h1, (h2.below hb).more hb.size⟩, ?_⟩, ⟨fun _ _ _ h _ => h, ?_⟩, ⟨fun v w w' ⟨A, c, h1, h2⟩ hb => ⟨A, c, h1, (h2.below hb).more hb.size⟩, ?_⟩, ⟨fun _ _ _ h _ => h, ?_⟩, ⟨fun _ _ _ h _ => h, ?_⟩, ⟨fun _ _ _ h _ => h, ?_⟩, trivial⟩
          · intro act wa hC hd H O K hK
            clear hd
            obtain ⟨hB, -⟩ := hC
            have h11 := O 11 (by kernel_rfl)
            have g11 := Array.getD_eq_getD_getElem?.symm.trans h11
            clear H O
            obtain ⟨krl, kr1, rr0, rrl⟩ := HPRE.out wa hB
            go_simp
            exact hK _ _ (Below.refl _ _) (fun _ => rfl)
          · intro act wa hC hd H O K hK
            clear hd
            obtain ⟨hB, -⟩ := hC
            have h12 := O 12 (by kernel_rfl)
            have g12 := Array.getD_eq_getD_getElem?.symm.trans h12
            clear H O
            obtain ⟨krl, kr1, rr0, rrl⟩ := HPRE.out wa hB
            go_simp
            exact hK _ _ (Below.refl _ _) (fun _ => rfl)
          · intro act wa hC hd H O K hK
            clear hd
            obtain ⟨hB, -⟩ := hC
            have h102 : act.tmps.getD 102 undef = .int .i64 0 := H 1 0 102 (by kernel_rfl) rfl
            have g102 := Array.getD_eq_getD_getElem?.symm.trans h102
            have h103 : act.tmps.getD 103 undef = .int .i64 0 := H 1 1 103 (by kernel_rfl) rfl
            have g103 := Array.getD_eq_getD_getElem?.symm.trans h103
            clear H O
            obtain ⟨krl, kr1, rr0, rrl⟩ := HPRE.out wa hB
            go_simp
            exact hK _ _ (Below.refl _ _) (fun _ => rfl)
          · intro act wa hC hd H O K hK
            clear hd
            obtain ⟨hB, -⟩ := hC
            have h104 : act.tmps.getD 104 undef = .bool false := H 1 2 104 (by kernel_rfl) rfl
            have g104 := Array.getD_eq_getD_getElem?.symm.trans h104
            clear H O
            obtain ⟨krl, kr1, rr0, rrl⟩ := HPRE.out wa hB
            go_simp
            exact hK _ _ (Below.refl _ _) (fun _ => rfl)
          · intro act wa hC hd H O K hK
            clear hd
            obtain ⟨hB, -⟩ := hC
            have h13 := O 13 (by kernel_rfl)
            have g13 := Array.getD_eq_getD_getElem?.symm.trans h13
            have h105 : act.tmps.getD 105 undef = .bool false := H 1 3 105 (by kernel_rfl) rfl
            have g105 := Array.getD_eq_getD_getElem?.symm.trans h105
            have k105 := Inv.some_bool g105
            clear H O
            obtain ⟨krl, kr1, rr0, rrl⟩ := HPRE.out wa hB
            go_simp
            exact hK _ _ (Below.refl _ _) (fun _ => rfl)
          · intro act wa hC hd H O K hK
            clear hd
            obtain ⟨hB, -⟩ := hC
            have h15 := O 15 (by kernel_rfl)
            have g15 := Array.getD_eq_getD_getElem?.symm.trans h15
            have h105 : act.tmps.getD 105 undef = .bool false := H 1 3 105 (by kernel_rfl) rfl
            have g105 := Array.getD_eq_getD_getElem?.symm.trans h105
            have k105 := Inv.some_bool g105
            clear H O
            obtain ⟨krl, kr1, rr0, rrl⟩ := HPRE.out wa hB
            go_simp
            exact hK _ _ (Below.refl _ _) (fun _ => rfl)
          · intro act wa hC hd H O K hK
            clear hd
            obtain ⟨hB, -⟩ := hC
            have h106 : act.tmps.getD 106 undef = .slice AB m CB := H 1 4 106 (by kernel_rfl) rfl
            have g106 := Array.getD_eq_getD_getElem?.symm.trans h106
            have h107 : act.tmps.getD 107 undef = .slice AC m CC := H 1 5 107 (by kernel_rfl) rfl
            have g107 := Array.getD_eq_getD_getElem?.symm.trans h107
            have h105 : act.tmps.getD 105 undef = .bool false := H 1 3 105 (by kernel_rfl) rfl
            have g105 := Array.getD_eq_getD_getElem?.symm.trans h105
            have k105 := Inv.some_bool g105
            clear H O
            obtain ⟨krl, kr1, rr0, rrl⟩ := HPRE.out wa hB
            go_simp
            refine (same_at wa AB AC CB CC rb rb _ _ m m true (MB8.out.below hB) (MC8.out.below hB) (by rw [HM.out]; unfold maxLen; omega) HM.out HM.out (by simp)).mono ?_
            rintro e1 w1 ⟨rfl, q9, hq9⟩
            have hb : Below wa.heap.size wa w1 := by rw [hq9]; exact below_drewN (Below.refl _ _) q9
            exact hK _ _ hb (fun _ => rfl)
          · intro act wa hC hd H O K hK
            clear hd
            obtain ⟨hB, -⟩ := hC
            have h108 : act.tmps.getD 108 undef = .bool true := H 1 6 108 (by kernel_rfl) rfl
            have g108 := Array.getD_eq_getD_getElem?.symm.trans h108
            have h105 : act.tmps.getD 105 undef = .bool false := H 1 3 105 (by kernel_rfl) rfl
            have g105 := Array.getD_eq_getD_getElem?.symm.trans h105
            have k105 := Inv.some_bool g105
            clear H O
            obtain ⟨krl, kr1, rr0, rrl⟩ := HPRE.out wa hB
            go_simp
            exact hK _ _ (Below.refl _ _) (fun _ => rfl)
          · intro act wa hC hd H O K hK
            clear hd
            obtain ⟨hB, -⟩ := hC
            have h105 : act.tmps.getD 105 undef = .bool false := H 1 3 105 (by kernel_rfl) rfl
            have g105 := Array.getD_eq_getD_getElem?.symm.trans h105
            have h109 : act.tmps.getD 109 undef = .bool false := H 1 7 109 (by kernel_rfl) rfl
            have g109 := Array.getD_eq_getD_getElem?.symm.trans h109
            clear H O
            obtain ⟨krl, kr1, rr0, rrl⟩ := HPRE.out wa hB
            go_simp
            exact hK _ _ (Below.refl _ _) (fun _ => rfl)
          · intro act wa hC hd H O K hK
            clear hd
            obtain ⟨hB, -⟩ := hC
            have h110 : act.tmps.getD 110 undef = .bool false := H 1 8 110 (by kernel_rfl) rfl
            have g110 := Array.getD_eq_getD_getElem?.symm.trans h110
            clear H O
            obtain ⟨krl, kr1, rr0, rrl⟩ := HPRE.out wa hB
            go_simp
            exact hK _ _ (Below.refl _ _) (fun _ => rfl)
          · intro act wa hC hd H O K hK
            clear hd
            obtain ⟨hB, -⟩ := hC
            have h14 := O 14 (by kernel_rfl)
            have g14 := Array.getD_eq_getD_getElem?.symm.trans h14
            have h111 : act.tmps.getD 111 undef = .bool false := H 1 9 111 (by kernel_rfl) rfl
            have g111 := Array.getD_eq_getD_getElem?.symm.trans h111
            have k111 := Inv.some_bool g111
            clear H O
            obtain ⟨krl, kr1, rr0, rrl⟩ := HPRE.out wa hB
            go_simp
            exact hK _ _ (Below.refl _ _) (fun _ => rfl)
          · intro act wa hC hd H O K hK
            clear hd
            obtain ⟨hB, -⟩ := hC
            have h16 := O 16 (by kernel_rfl)
            have g16 := Array.getD_eq_getD_getElem?.symm.trans h16
            have h111 : act.tmps.getD 111 undef = .bool false := H 1 9 111 (by kernel_rfl) rfl
            have g111 := Array.getD_eq_getD_getElem?.symm.trans h111
            have k111 := Inv.some_bool g111
            clear H O
            obtain ⟨krl, kr1, rr0, rrl⟩ := HPRE.out wa hB
            go_simp
            exact hK _ _ (Below.refl _ _) (fun _ => rfl)
          · intro act wa hC hd H O K hK
            clear hd
            obtain ⟨hB, -⟩ := hC
            have h112 : act.tmps.getD 112 undef = .int .i64 (re : Int) := H 1 10 112 (by kernel_rfl) rfl
            have g112 := Array.getD_eq_getD_getElem?.symm.trans h112
            have h113 : act.tmps.getD 113 undef = .int .i64 (re : Int) := H 1 11 113 (by kernel_rfl) rfl
            have g113 := Array.getD_eq_getD_getElem?.symm.trans h113
            have h111 : act.tmps.getD 111 undef = .bool false := H 1 9 111 (by kernel_rfl) rfl
            have g111 := Array.getD_eq_getD_getElem?.symm.trans h111
            have k111 := Inv.some_bool g111
            clear H O
            obtain ⟨krl, kr1, rr0, rrl⟩ := HPRE.out wa hB
            go_simp
            exact hK _ _ (Below.refl _ _) (fun _ => rfl)
          · intro act wa hC hd H O K hK
            clear hd
            obtain ⟨hB, -⟩ := hC
            have h111 : act.tmps.getD 111 undef = .bool false := H 1 9 111 (by kernel_rfl) rfl
            have g111 := Array.getD_eq_getD_getElem?.symm.trans h111
            have h114 : act.tmps.getD 114 undef = .bool false := H 1 12 114 (by kernel_rfl) rfl
            have g114 := Array.getD_eq_getD_getElem?.symm.trans h114
            clear H O
            obtain ⟨krl, kr1, rr0, rrl⟩ := HPRE.out wa hB
            go_simp
            exact hK _ _ (Below.refl _ _) (fun _ => rfl)
          · intro act wa hC hd H O K hK
            clear hd
            obtain ⟨hB, -⟩ := hC
            have h115 : act.tmps.getD 115 undef = .bool false := H 1 13 115 (by kernel_rfl) rfl
            have g115 := Array.getD_eq_getD_getElem?.symm.trans h115
            clear H O
            obtain ⟨krl, kr1, rr0, rrl⟩ := HPRE.out wa hB
            go_simp
            exact hK _ _ (Below.refl _ _) (fun _ => rfl)
          · intro act wa hC hd H O K hK
            clear hd
            obtain ⟨hB, -⟩ := hC
            have h5 := O 5 (by kernel_rfl)
            have g5 := Array.getD_eq_getD_getElem?.symm.trans h5
            have h116 : act.tmps.getD 116 undef = .bool false := H 1 14 116 (by kernel_rfl) rfl
            have g116 := Array.getD_eq_getD_getElem?.symm.trans h116
            have k116 := Inv.some_bool g116
            clear H O
            obtain ⟨krl, kr1, rr0, rrl⟩ := HPRE.out wa hB
            go_simp
            exact hK _ _ (Below.refl _ _) (fun _ => rfl)
          · intro act wa hC hd H O K hK
            clear hd
            obtain ⟨hB, -⟩ := hC
            have h10 := O 10 (by kernel_rfl)
            have g10 := Array.getD_eq_getD_getElem?.symm.trans h10
            have h116 : act.tmps.getD 116 undef = .bool false := H 1 14 116 (by kernel_rfl) rfl
            have g116 := Array.getD_eq_getD_getElem?.symm.trans h116
            have k116 := Inv.some_bool g116
            clear H O
            obtain ⟨krl, kr1, rr0, rrl⟩ := HPRE.out wa hB
            go_simp
            exact hK _ _ (Below.refl _ _) (fun _ => rfl)
          · intro act wa hC hd H O K hK
            clear hd
            obtain ⟨hB, -⟩ := hC
            have h118 : act.tmps.getD 118 undef = .pointer (some ⟨q, 1, none⟩) := H 1 16 118 (by kernel_rfl) rfl
            have g118 := Array.getD_eq_getD_getElem?.symm.trans h118
            have h116 : act.tmps.getD 116 undef = .bool false := H 1 14 116 (by kernel_rfl) rfl
            have g116 := Array.getD_eq_getD_getElem?.symm.trans h116
            have k116 := Inv.some_bool g116
            clear H O
            obtain ⟨krl, kr1, rr0, rrl⟩ := HPRE.out wa hB
            go_simp
            exact hK _ _ (Below.refl _ _) (fun _ => rfl)
          · intro act wa hC hd H O K hK
            clear hd
            obtain ⟨hB, -⟩ := hC
            have h117 : act.tmps.getD 117 undef = .pointer (some ⟨g, 0, none⟩) := H 1 15 117 (by kernel_rfl) rfl
            have g117 := Array.getD_eq_getD_getElem?.symm.trans h117
            have h119 : act.tmps.getD 119 undef = .int .i64 a.x := H 1 17 119 (by kernel_rfl) rfl
            have g119 := Array.getD_eq_getD_getElem?.symm.trans h119
            have h116 : act.tmps.getD 116 undef = .bool false := H 1 14 116 (by kernel_rfl) rfl
            have g116 := Array.getD_eq_getD_getElem?.symm.trans h116
            have k116 := Inv.some_bool g116
            clear H O
            obtain ⟨krl, kr1, rr0, rrl⟩ := HPRE.out wa hB
            go_simp
            refine (DSure_any wa g rm vs5 _ _ _ _ a.x (DskM.below D8.out.1 hB)).mono ?_
            rintro e1 w1 ⟨rfl, q9, hq9⟩
            rw [HSU.out]
            have hb : Below wa.heap.size wa w1 := by rw [hq9]; exact below_drewN (Below.refl _ _) q9
            exact hK _ _ hb (fun _ => rfl)
          · intro act wa hC hd H O K hK
            clear hd
            obtain ⟨hB, -⟩ := hC
            have h7 := O 7 (by kernel_rfl)
            have g7 := Array.getD_eq_getD_getElem?.symm.trans h7
            have h116 : act.tmps.getD 116 undef = .bool false := H 1 14 116 (by kernel_rfl) rfl
            have g116 := Array.getD_eq_getD_getElem?.symm.trans h116
            have k116 := Inv.some_bool g116
            clear H O
            obtain ⟨krl, kr1, rr0, rrl⟩ := HPRE.out wa hB
            go_simp
            exact hK _ _ (Below.refl _ _) (fun _ => rfl)
          · intro act wa hC hd H O K hK
            clear hd
            obtain ⟨hB, -⟩ := hC
            have h10 := O 10 (by kernel_rfl)
            have g10 := Array.getD_eq_getD_getElem?.symm.trans h10
            have h116 : act.tmps.getD 116 undef = .bool false := H 1 14 116 (by kernel_rfl) rfl
            have g116 := Array.getD_eq_getD_getElem?.symm.trans h116
            have k116 := Inv.some_bool g116
            clear H O
            obtain ⟨krl, kr1, rr0, rrl⟩ := HPRE.out wa hB
            go_simp
            exact hK _ _ (Below.refl _ _) (fun _ => rfl)
          · intro act wa hC hd H O K hK
            clear hd
            obtain ⟨hB, -⟩ := hC
            have h122 : act.tmps.getD 122 undef = .pointer (some ⟨q, 1, none⟩) := H 1 20 122 (by kernel_rfl) rfl
            have g122 := Array.getD_eq_getD_getElem?.symm.trans h122
            have h116 : act.tmps.getD 116 undef = .bool false := H 1 14 116 (by kernel_rfl) rfl
            have g116 := Array.getD_eq_getD_getElem?.symm.trans h116
            have k116 := Inv.some_bool g116
            clear H O
            obtain ⟨krl, kr1, rr0, rrl⟩ := HPRE.out wa hB
            go_simp
            exact hK _ _ (Below.refl _ _) (fun _ => rfl)
          · intro act wa hC hd H O K hK
            clear hd
            obtain ⟨hB, -⟩ := hC
            have h121 : act.tmps.getD 121 undef = .pointer (some ⟨gr, 0, none⟩) := H 1 19 121 (by kernel_rfl) rfl
            have g121 := Array.getD_eq_getD_getElem?.symm.trans h121
            have h123 : act.tmps.getD 123 undef = .int .i64 a.x := H 1 21 123 (by kernel_rfl) rfl
            have g123 := Array.getD_eq_getD_getElem?.symm.trans h123
            have h116 : act.tmps.getD 116 undef = .bool false := H 1 14 116 (by kernel_rfl) rfl
            have g116 := Array.getD_eq_getD_getElem?.symm.trans h116
            have k116 := Inv.some_bool g116
            clear H O
            obtain ⟨krl, kr1, rr0, rrl⟩ := HPRE.out wa hB
            go_simp
            refine (RSure_any wa _ gr rm rvs6 dN a.x (D8.out.2.1.below hB)).mono ?_
            rintro e1 w1 ⟨rfl, q9, hq9⟩
            rw [HSU.out]
            have hb : Below wa.heap.size wa w1 := by rw [hq9]; exact below_drewN (Below.refl _ _) q9
            exact hK _ _ hb (fun _ => rfl)
          · intro act wa hC hd H O K hK
            clear hd
            obtain ⟨hB, -⟩ := hC
            have h120 : act.tmps.getD 120 undef = .int .i64 (su : Int) := H 1 18 120 (by kernel_rfl) rfl
            have g120 := Array.getD_eq_getD_getElem?.symm.trans h120
            have h124 : act.tmps.getD 124 undef = .int .i64 (su : Int) := H 1 22 124 (by kernel_rfl) rfl
            have g124 := Array.getD_eq_getD_getElem?.symm.trans h124
            have h116 : act.tmps.getD 116 undef = .bool false := H 1 14 116 (by kernel_rfl) rfl
            have g116 := Array.getD_eq_getD_getElem?.symm.trans h116
            have k116 := Inv.some_bool g116
            clear H O
            obtain ⟨krl, kr1, rr0, rrl⟩ := HPRE.out wa hB
            go_simp
            exact hK _ _ (Below.refl _ _) (fun _ => rfl)
          · intro act wa hC hd H O K hK
            clear hd
            obtain ⟨hB, -⟩ := hC
            have h116 : act.tmps.getD 116 undef = .bool false := H 1 14 116 (by kernel_rfl) rfl
            have g116 := Array.getD_eq_getD_getElem?.symm.trans h116
            have h125 : act.tmps.getD 125 undef = .bool false := H 1 23 125 (by kernel_rfl) rfl
            have g125 := Array.getD_eq_getD_getElem?.symm.trans h125
            clear H O
            obtain ⟨krl, kr1, rr0, rrl⟩ := HPRE.out wa hB
            go_simp
            exact hK _ _ (Below.refl _ _) (fun _ => rfl)
          · intro act wa hC hd H O K hK
            clear hd
            obtain ⟨hB, -⟩ := hC
            have h126 : act.tmps.getD 126 undef = .bool false := H 1 24 126 (by kernel_rfl) rfl
            have g126 := Array.getD_eq_getD_getElem?.symm.trans h126
            clear H O
            obtain ⟨krl, kr1, rr0, rrl⟩ := HPRE.out wa hB
            go_simp
            exact hK _ _ (Below.refl _ _) (fun _ => rfl)
          · intro act wa hC hd H O K hK
            clear hd
            obtain ⟨hB, -⟩ := hC
            have h5 := O 5 (by kernel_rfl)
            have g5 := Array.getD_eq_getD_getElem?.symm.trans h5
            have h127 : act.tmps.getD 127 undef = .bool false := H 1 25 127 (by kernel_rfl) rfl
            have g127 := Array.getD_eq_getD_getElem?.symm.trans h127
            have k127 := Inv.some_bool g127
            clear H O
            obtain ⟨krl, kr1, rr0, rrl⟩ := HPRE.out wa hB
            go_simp
            exact hK _ _ (Below.refl _ _) (fun _ => rfl)
          · intro act wa hC hd H O K hK
            clear hd
            obtain ⟨hB, -⟩ := hC
            have h128 : act.tmps.getD 128 undef = .pointer (some ⟨g, 0, none⟩) := H 1 26 128 (by kernel_rfl) rfl
            have g128 := Array.getD_eq_getD_getElem?.symm.trans h128
            have h127 : act.tmps.getD 127 undef = .bool false := H 1 25 127 (by kernel_rfl) rfl
            have g127 := Array.getD_eq_getD_getElem?.symm.trans h127
            have k127 := Inv.some_bool g127
            clear H O
            obtain ⟨krl, kr1, rr0, rrl⟩ := HPRE.out wa hB
            go_simp
            refine (DLeft_any wa g rm vs5 _ _ _ _ (DskM.below D8.out.1 hB) OKN.out.1 (fun i => Nat.le_trans (totF_take_le _ _) OKN.out.2.1)).mono ?_
            rintro e1 w1 ⟨rfl, q9, hq9⟩
            rw [HLF.out]
            have hb : Below wa.heap.size wa w1 := by rw [hq9]; exact below_drewN (Below.refl _ _) q9
            exact hK _ _ hb (fun _ => rfl)
          · intro act wa hC hd H O K hK
            clear hd
            obtain ⟨hB, -⟩ := hC
            have h7 := O 7 (by kernel_rfl)
            have g7 := Array.getD_eq_getD_getElem?.symm.trans h7
            have h127 : act.tmps.getD 127 undef = .bool false := H 1 25 127 (by kernel_rfl) rfl
            have g127 := Array.getD_eq_getD_getElem?.symm.trans h127
            have k127 := Inv.some_bool g127
            clear H O
            obtain ⟨krl, kr1, rr0, rrl⟩ := HPRE.out wa hB
            go_simp
            exact hK _ _ (Below.refl _ _) (fun _ => rfl)
          · intro act wa hC hd H O K hK
            clear hd
            obtain ⟨hB, -⟩ := hC
            have h130 : act.tmps.getD 130 undef = .pointer (some ⟨gr, 0, none⟩) := H 1 28 130 (by kernel_rfl) rfl
            have g130 := Array.getD_eq_getD_getElem?.symm.trans h130
            have h127 : act.tmps.getD 127 undef = .bool false := H 1 25 127 (by kernel_rfl) rfl
            have g127 := Array.getD_eq_getD_getElem?.symm.trans h127
            have k127 := Inv.some_bool g127
            clear H O
            obtain ⟨krl, kr1, rr0, rrl⟩ := HPRE.out wa hB
            go_simp
            refine (RLeft_any wa _ gr rm rvs6 dN (D8.out.2.1.below hB) OKN.out).mono ?_
            rintro e1 w1 ⟨rfl, q9, hq9⟩
            rw [HLF.out]
            have hb : Below wa.heap.size wa w1 := by rw [hq9]; exact below_drewN (Below.refl _ _) q9
            exact hK _ _ hb (fun _ => rfl)
          · intro act wa hC hd H O K hK
            clear hd
            obtain ⟨hB, -⟩ := hC
            have h129 : act.tmps.getD 129 undef = .int .i64 (lf : Int) := H 1 27 129 (by kernel_rfl) rfl
            have g129 := Array.getD_eq_getD_getElem?.symm.trans h129
            have h131 : act.tmps.getD 131 undef = .int .i64 (lf : Int) := H 1 29 131 (by kernel_rfl) rfl
            have g131 := Array.getD_eq_getD_getElem?.symm.trans h131
            have h127 : act.tmps.getD 127 undef = .bool false := H 1 25 127 (by kernel_rfl) rfl
            have g127 := Array.getD_eq_getD_getElem?.symm.trans h127
            have k127 := Inv.some_bool g127
            clear H O
            obtain ⟨krl, kr1, rr0, rrl⟩ := HPRE.out wa hB
            go_simp
            exact hK _ _ (Below.refl _ _) (fun _ => rfl)
          · intro act wa hC hd H O K hK
            clear hd
            obtain ⟨hB, -⟩ := hC
            have h127 : act.tmps.getD 127 undef = .bool false := H 1 25 127 (by kernel_rfl) rfl
            have g127 := Array.getD_eq_getD_getElem?.symm.trans h127
            have h132 : act.tmps.getD 132 undef = .bool false := H 1 30 132 (by kernel_rfl) rfl
            have g132 := Array.getD_eq_getD_getElem?.symm.trans h132
            clear H O
            obtain ⟨krl, kr1, rr0, rrl⟩ := HPRE.out wa hB
            go_simp
            exact hK _ _ (Below.refl _ _) (fun _ => rfl)
          · intro act wa hC hd H O K hK
            clear hd
            obtain ⟨hB, -⟩ := hC
            have h133 : act.tmps.getD 133 undef = .bool false := H 1 31 133 (by kernel_rfl) rfl
            have g133 := Array.getD_eq_getD_getElem?.symm.trans h133
            clear H O
            obtain ⟨krl, kr1, rr0, rrl⟩ := HPRE.out wa hB
            go_simp
            exact hK _ _ (Below.refl _ _) (fun _ => rfl)
          · intro act wa hC hd H O K hK
            clear hd
            obtain ⟨hB, -⟩ := hC
            have h5 := O 5 (by kernel_rfl)
            have g5 := Array.getD_eq_getD_getElem?.symm.trans h5
            have h134 : act.tmps.getD 134 undef = .bool false := H 1 32 134 (by kernel_rfl) rfl
            have g134 := Array.getD_eq_getD_getElem?.symm.trans h134
            have k134 := Inv.some_bool g134
            clear H O
            obtain ⟨krl, kr1, rr0, rrl⟩ := HPRE.out wa hB
            go_simp
            exact hK _ _ (Below.refl _ _) (fun _ => rfl)
          · intro act wa hC hd H O K hK
            clear hd
            obtain ⟨hB, -⟩ := hC
            have h135 : act.tmps.getD 135 undef = .pointer (some ⟨g, 0, none⟩) := H 1 33 135 (by kernel_rfl) rfl
            have g135 := Array.getD_eq_getD_getElem?.symm.trans h135
            have h134 : act.tmps.getD 134 undef = .bool false := H 1 32 134 (by kernel_rfl) rfl
            have g134 := Array.getD_eq_getD_getElem?.symm.trans h134
            have k134 := Inv.some_bool g134
            clear H O
            obtain ⟨krl, kr1, rr0, rrl⟩ := HPRE.out wa hB
            go_simp
            refine (DDown_any wa g rm vs5 _ _ _ _ (DskM.below D8.out.1 hB)).mono ?_
            rintro e1 w1 ⟨rfl, q9, hq9⟩
            rw [HDNN.out]
            have hb : Below wa.heap.size wa w1 := by rw [hq9]; exact below_drewN (Below.refl _ _) q9
            exact hK _ _ hb (fun _ => rfl)
          · intro act wa hC hd H O K hK
            clear hd
            obtain ⟨hB, -⟩ := hC
            have h7 := O 7 (by kernel_rfl)
            have g7 := Array.getD_eq_getD_getElem?.symm.trans h7
            have h134 : act.tmps.getD 134 undef = .bool false := H 1 32 134 (by kernel_rfl) rfl
            have g134 := Array.getD_eq_getD_getElem?.symm.trans h134
            have k134 := Inv.some_bool g134
            clear H O
            obtain ⟨krl, kr1, rr0, rrl⟩ := HPRE.out wa hB
            go_simp
            exact hK _ _ (Below.refl _ _) (fun _ => rfl)
          · intro act wa hC hd H O K hK
            clear hd
            obtain ⟨hB, -⟩ := hC
            have h137 : act.tmps.getD 137 undef = .pointer (some ⟨gr, 0, none⟩) := H 1 35 137 (by kernel_rfl) rfl
            have g137 := Array.getD_eq_getD_getElem?.symm.trans h137
            have h134 : act.tmps.getD 134 undef = .bool false := H 1 32 134 (by kernel_rfl) rfl
            have g134 := Array.getD_eq_getD_getElem?.symm.trans h134
            have k134 := Inv.some_bool g134
            clear H O
            obtain ⟨krl, kr1, rr0, rrl⟩ := HPRE.out wa hB
            go_simp
            exact hK _ _ (Below.refl _ _) (fun _ => rfl)
          · intro act wa hC hd H O K hK
            clear hd
            obtain ⟨hB, -⟩ := hC
            have h138 : act.tmps.getD 138 undef = .pointer (some ⟨gr, 0, none⟩) := H 1 36 138 (by kernel_rfl) rfl
            have g138 := Array.getD_eq_getD_getElem?.symm.trans h138
            have h134 : act.tmps.getD 134 undef = .bool false := H 1 32 134 (by kernel_rfl) rfl
            have g134 := Array.getD_eq_getD_getElem?.symm.trans h134
            have k134 := Inv.some_bool g134
            clear H O
            obtain ⟨krl, kr1, rr0, rrl⟩ := HPRE.out wa hB
            go_simp
            exact hK _ _ (Below.refl _ _) (fun _ => rfl)
          · intro act wa hC hd H O K hK
            clear hd
            obtain ⟨hB, -⟩ := hC
            have h139 : act.tmps.getD 139 undef = .pointer (some ⟨gr, 130, none⟩) := H 1 37 139 (by kernel_rfl) rfl
            have g139 := Array.getD_eq_getD_getElem?.symm.trans h139
            have h134 : act.tmps.getD 134 undef = .bool false := H 1 32 134 (by kernel_rfl) rfl
            have g134 := Array.getD_eq_getD_getElem?.symm.trans h134
            have k134 := Inv.some_bool g134
            clear H O
            obtain ⟨krl, kr1, rr0, rrl⟩ := HPRE.out wa hB
            go_simp
            exact hK _ _ (Below.refl _ _) (fun _ => rfl)
          · intro act wa hC hd H O K hK
            clear hd
            obtain ⟨hB, -⟩ := hC
            have h136 : act.tmps.getD 136 undef = .bool dn := H 1 34 136 (by kernel_rfl) rfl
            have g136 := Array.getD_eq_getD_getElem?.symm.trans h136
            have h140 : act.tmps.getD 140 undef = .bool dn := H 1 38 140 (by kernel_rfl) rfl
            have g140 := Array.getD_eq_getD_getElem?.symm.trans h140
            have h134 : act.tmps.getD 134 undef = .bool false := H 1 32 134 (by kernel_rfl) rfl
            have g134 := Array.getD_eq_getD_getElem?.symm.trans h134
            have k134 := Inv.some_bool g134
            clear H O
            obtain ⟨krl, kr1, rr0, rrl⟩ := HPRE.out wa hB
            go_simp
            exact hK _ _ (Below.refl _ _) (fun _ => rfl)
          · intro act wa hC hd H O K hK
            clear hd
            obtain ⟨hB, -⟩ := hC
            have h134 : act.tmps.getD 134 undef = .bool false := H 1 32 134 (by kernel_rfl) rfl
            have g134 := Array.getD_eq_getD_getElem?.symm.trans h134
            have h141 : act.tmps.getD 141 undef = .bool false := H 1 39 141 (by kernel_rfl) rfl
            have g141 := Array.getD_eq_getD_getElem?.symm.trans h141
            clear H O
            obtain ⟨krl, kr1, rr0, rrl⟩ := HPRE.out wa hB
            go_simp
            exact hK _ _ (Below.refl _ _) (fun _ => rfl)
          · intro act wa hC hd H O K hK
            clear hd
            obtain ⟨hB, -⟩ := hC
            have h142 : act.tmps.getD 142 undef = .bool false := H 1 40 142 (by kernel_rfl) rfl
            have g142 := Array.getD_eq_getD_getElem?.symm.trans h142
            clear H O
            obtain ⟨krl, kr1, rr0, rrl⟩ := HPRE.out wa hB
            go_simp
            exact hK _ _ (Below.refl _ _) (fun _ => rfl)
          · intro act wa hC hd H O K hK
            clear hd
            obtain ⟨hB, -⟩ := hC
            have h5 := O 5 (by kernel_rfl)
            have g5 := Array.getD_eq_getD_getElem?.symm.trans h5
            have h143 : act.tmps.getD 143 undef = .bool false := H 1 41 143 (by kernel_rfl) rfl
            have g143 := Array.getD_eq_getD_getElem?.symm.trans h143
            have k143 := Inv.some_bool g143
            clear H O
            obtain ⟨krl, kr1, rr0, rrl⟩ := HPRE.out wa hB
            go_simp
            exact hK _ _ (Below.refl _ _) (fun _ => rfl)
          · intro act wa hC hd H O K hK
            clear hd
            obtain ⟨hB, -⟩ := hC
            have h144 : act.tmps.getD 144 undef = .pointer (some ⟨g, 0, none⟩) := H 1 42 144 (by kernel_rfl) rfl
            have g144 := Array.getD_eq_getD_getElem?.symm.trans h144
            have h143 : act.tmps.getD 143 undef = .bool false := H 1 41 143 (by kernel_rfl) rfl
            have g143 := Array.getD_eq_getD_getElem?.symm.trans h143
            have k143 := Inv.some_bool g143
            clear H O
            obtain ⟨krl, kr1, rr0, rrl⟩ := HPRE.out wa hB
            go_simp
            refine (DFiles_any wa g rm vs5 dN (DskM.below D8.out.1 hB) OKN.out).mono ?_
            rintro e1 w1 ⟨v8, rfl, ho8, hb⟩
            rw [HFL.out, HNF.out] at ho8
            obtain ⟨A8, c8, rfl⟩ := own_sl ho8
            exact hK _ _ hb (fun _ => ⟨A8, c8, rfl, Rd.of_own ho8⟩)
          · intro act wa hC hd H O K hK
            clear hd
            obtain ⟨hB, -⟩ := hC
            have h7 := O 7 (by kernel_rfl)
            have g7 := Array.getD_eq_getD_getElem?.symm.trans h7
            have h143 : act.tmps.getD 143 undef = .bool false := H 1 41 143 (by kernel_rfl) rfl
            have g143 := Array.getD_eq_getD_getElem?.symm.trans h143
            have k143 := Inv.some_bool g143
            clear H O
            obtain ⟨krl, kr1, rr0, rrl⟩ := HPRE.out wa hB
            go_simp
            exact hK _ _ (Below.refl _ _) (fun _ => rfl)
          · intro act wa hC hd H O K hK
            clear hd
            obtain ⟨hB, -⟩ := hC
            have h146 : act.tmps.getD 146 undef = .pointer (some ⟨gr, 0, none⟩) := H 1 44 146 (by kernel_rfl) rfl
            have g146 := Array.getD_eq_getD_getElem?.symm.trans h146
            have h143 : act.tmps.getD 143 undef = .bool false := H 1 41 143 (by kernel_rfl) rfl
            have g143 := Array.getD_eq_getD_getElem?.symm.trans h143
            have k143 := Inv.some_bool g143
            clear H O
            obtain ⟨krl, kr1, rr0, rrl⟩ := HPRE.out wa hB
            go_simp
            refine (RFiles_any wa _ gr rm rvs6 dN (D8.out.2.1.below hB)).mono ?_
            rintro e1 w1 ⟨v8, rfl, ho8, hb⟩
            rw [HFL.out, HNF.out] at ho8
            obtain ⟨A8, c8, rfl⟩ := own_sl ho8
            exact hK _ _ hb (fun _ => ⟨A8, c8, rfl, Rd.of_own ho8⟩)
          · intro act wa hC hd H O K hK
            clear hd
            obtain ⟨hB, -⟩ := hC
            have h145 : ∃ A c, act.tmps.getD 145 undef = .slice A nf c ∧ Rd wa wa.heap.size A (i64n fl) := H 1 43 145 (by kernel_rfl) rfl
            obtain ⟨A145, c145, h145', l145⟩ := h145
            have h147 : ∃ A c, act.tmps.getD 147 undef = .slice A nf c ∧ Rd wa wa.heap.size A (i64n fl) := H 1 45 147 (by kernel_rfl) rfl
            obtain ⟨A147, c147, h147', l147⟩ := h147
            have h143 : act.tmps.getD 143 undef = .bool false := H 1 41 143 (by kernel_rfl) rfl
            have g143 := Array.getD_eq_getD_getElem?.symm.trans h143
            have k143 := Inv.some_bool g143
            clear H O
            obtain ⟨krl, kr1, rr0, rrl⟩ := HPRE.out wa hB
            go_simp
            rw [i64n_i] at l145 l147
            refine (ints_at wa A145 A147 c145 c147 _ _ _ _ nf nf true l145 l147 (by rw [List.length_map, HNF.out]; unfold maxLen; omega) (by rw [List.length_map, HNF.out]) (by rw [List.length_map, HNF.out]) (by simp)).mono ?_
            rintro e1 w1 ⟨rfl, q9, hq9⟩
            have hb : Below wa.heap.size wa w1 := by rw [hq9]; exact below_drewN (Below.refl _ _) q9
            exact hK _ _ hb (fun _ => rfl)
          · intro act wa hC hd H O K hK
            clear hd
            obtain ⟨hB, -⟩ := hC
            have h148 : act.tmps.getD 148 undef = .bool true := H 1 46 148 (by kernel_rfl) rfl
            have g148 := Array.getD_eq_getD_getElem?.symm.trans h148
            have h143 : act.tmps.getD 143 undef = .bool false := H 1 41 143 (by kernel_rfl) rfl
            have g143 := Array.getD_eq_getD_getElem?.symm.trans h143
            have k143 := Inv.some_bool g143
            clear H O
            obtain ⟨krl, kr1, rr0, rrl⟩ := HPRE.out wa hB
            go_simp
            exact hK _ _ (Below.refl _ _) (fun _ => rfl)
          · intro act wa hC hd H O K hK
            clear hd
            obtain ⟨hB, -⟩ := hC
            have h143 : act.tmps.getD 143 undef = .bool false := H 1 41 143 (by kernel_rfl) rfl
            have g143 := Array.getD_eq_getD_getElem?.symm.trans h143
            have h149 : act.tmps.getD 149 undef = .bool false := H 1 47 149 (by kernel_rfl) rfl
            have g149 := Array.getD_eq_getD_getElem?.symm.trans h149
            clear H O
            obtain ⟨krl, kr1, rr0, rrl⟩ := HPRE.out wa hB
            go_simp
            exact hK _ _ (Below.refl _ _) (fun _ => rfl)
        · intro us w' hC hF
          obtain ⟨hB, -⟩ := hC
          have u150 : us 150 = .bool false := hF 48 150 rfl
          clear hF
          simp only [List.foldl]
          go_simp
          have e150 : us 150 = .bool false := u150
          have R := Lib.hid (show LD w g gr rm len (.int .i64 ((k : Int) + 1)) w' from ⟨k + 1, vs5, rvs6, dN, by go_num, HLT.out, D8.out.below hB, OKN.out, AS5.out, B8.out.trans (hB.mono B8.out.size)⟩)
          clear hB u150
          try rw [e150]
          go_wp2
          go_roundw
          case rel => exact R.out
          case measure => simp [intOf]; have := HLT.out; omega
      · obtain rfl : k = len := by omega
        have HP := Lib.hid (show TrueD w (.returned (.bool true)) wr from ⟨rfl, HB.out⟩)
        clear hdd hok hS hbel
        go_wp2
        go_ret
        exact HP.out
end Go.Proofs.Ytahichieakdbnaa

/- net: Take. -/
import Derived.Test.YtahichieakdbnaaNv
namespace Go.Proofs.Ytahichieakdbnaa
open Go.ChangeShapes Go.WideShapes Go.ChangeAt Go.RowKit Go.Maps
set_option linter.unusedVariables false
set_option linter.unusedSimpArgs false

theorem take_row {cur : List Value} {ms : Mrow} {n k : Nat} (ht : cur.take (n * 3) = fl3 ms) (hn : ms.length = n) (hk : k < n) (hs : n * 3 ≤ cur.length) :
    (cur.take (k * 3) ++ (fl3 ms).drop ((k + 1) * 3) ++ cur.drop (k * 3 + ((fl3 ms).drop ((k + 1) * 3)).length)).take ((n - 1) * 3) = fl3 (ms.eraseIdx k) := by
  have hl := fl3_length ms
  have hd : ((fl3 ms).drop ((k + 1) * 3)).length = (n - 1 - k) * 3 := by rw [List.length_drop, hl, hn]; omega
  have hck : (cur.take (k * 3)).length = k * 3 := by rw [List.length_take]; omega
  have h2 : (cur.take (k * 3) ++ (fl3 ms).drop ((k + 1) * 3)).length = (n - 1) * 3 := by rw [List.length_append, hck, hd]; omega
  have h1 : cur.take (k * 3) = (fl3 ms).take (k * 3) := by rw [← ht, List.take_take, show min (k * 3) (n * 3) = k * 3 by omega]
  rw [← h2, List.take_left, h1, List.eraseIdx_eq_take_drop_succ, fl3_append, fl3_take, fl3_drop]
theorem take_sets {cur : Array Value} {m i : Nat} (h : m ≤ i) (u : Value) : (cur.setIfInBounds i u).toList.take m = cur.toList.take m := by
  rw [Array.toList_setIfInBounds, List.take_set_of_le h]
theorem take_end {w w' : World} {g q n cp k : Nat} {S : Nat → Prop} {Q : Value → Prop} {row : List Snt} {ms : Mrow} {cur : Array Value}
    (h2 : NRow w S ms row) (h4 : ∀ j, S j ↔ (j = g ∨ q = j)) (hn : row.length = n) (hk : k < n) (hcp : n ≤ cp) (hcm : cp ≤ maxLen) (hcs : cur.size = cp * 3)
    (hg : Blk w' g 138 #[.slice (some ⟨q, 0, none⟩) (n - 1) cp]) (hq : Blk w' q 141 cur) (ht : cur.toList.take ((n - 1) * 3) = fl3 (ms.eraseIdx k)) (hO : Only S w w') (hQ : ∀ (j : Nat) (m : Int × Value × Bool), ms[j]? = some m → Q m.2.1) :
    NetQ w' g S Q (row.eraseIdx k) ∧ Turned w S S w' := by
  have hT : Turned w S S w' := ⟨Sub.refl _ _, hO⟩
  have hl : (row.eraseIdx k).length = n - 1 := by rw [List.length_eraseIdx, if_pos (by omega), hn]
  refine ⟨⟨.slice (some ⟨q, 0, none⟩) (n - 1) cp, ms.eraseIdx k, hg, ⟨?_, .inr ⟨q, cp, cur, by rw [hl], Nat.zero_le _, hq, by omega, hcm, hcs, by rw [hl]; exact ht⟩⟩, (h2.turn hT).erase k, fun j => (h4 j).trans (by simp [Value.ownBlock]), fun j m hm => by
    rw [List.getElem?_eraseIdx] at hm
    split at hm
    · exact hQ _ m hm
    · exact hQ _ m hm⟩, hT⟩
  rw [fl3_length, List.length_eraseIdx, if_pos (by rw [h2.1]; omega), h2.1, hl, hn]
theorem only2 (w : World) (g : Nat) (a b : Value) : Only (fun j => j = g) w ((w.setCell ⟨g, 0, none⟩ a).setCell ⟨g, 1, none⟩ b) := ((Only.refl (fun j => j = g) w).set (g := g) rfl 0 a).set (g := g) rfl 1 b
/-- the worlds' last stores -/
def tkW (w : World) (q m g Z : Nat) (s a b : Value) : World := (((((w.setCell ⟨q, m, none⟩ (.int .i64 0)).setCell ⟨q, m + 1, none⟩ (.slice none 0 0)).setCell ⟨q, m + 2, none⟩ (.bool false)).setCell ⟨g, 0, none⟩ s).setCell ⟨Z, 0, none⟩ a).setCell ⟨Z, 1, none⟩ b
theorem tkW_net {w : World} {q m g Z : Nat} {s a b x : Value} {t : TypeId} (h : Blk w g t #[x]) (hq : g ≠ q) (hZ : g ≠ Z) : Blk (tkW w q m g Z s a b) g t #[s] :=
  ((((((h.far (p := ⟨q, m, none⟩) hq (.int .i64 0)).far (p := ⟨q, m + 1, none⟩) hq (.slice none 0 0)).far (p := ⟨q, m + 2, none⟩) hq (.bool false)).set 0 s).far (p := ⟨Z, 0, none⟩) hZ a).far (p := ⟨Z, 1, none⟩) hZ b)
theorem tkW_row {w : World} {q m g Z : Nat} {s a b : Value} {t : TypeId} {cur : Array Value} (h : Blk w q t cur) (hg : q ≠ g) (hZ : q ≠ Z) : Blk (tkW w q m g Z s a b) q t (((cur.setIfInBounds m (.int .i64 0)).setIfInBounds (m + 1) (.slice none 0 0)).setIfInBounds (m + 2) (.bool false)) :=
  ((((((h.set m (.int .i64 0)).set (m + 1) (.slice none 0 0)).set (m + 2) (.bool false)).far (p := ⟨g, 0, none⟩) hg s).far (p := ⟨Z, 0, none⟩) hZ a).far (p := ⟨Z, 1, none⟩) hZ b)
theorem tkW_only {w0 w : World} {q m g Z : Nat} {s a b : Value} {S : Nat → Prop} (h : Only S w0 w) (hq : S q) (hg : S g) (hZ : w0.heap.size ≤ Z) : Only S w0 (tkW w q m g Z s a b) :=
  ((((h.set hq m (.int .i64 0)).set hq (m + 1) (.slice none 0 0)).set hq (m + 2) (.bool false)).set hg 0 s).trans (only2 _ Z a b) (fun j hj => .inr (by rw [hj]; exact hZ))
theorem tkW_let {w : World} {q m g Z : Nat} {s a b x y : Value} {t : TypeId} (h : Blk w Z t #[x, y]) (hq : Z ≠ q) (hg : Z ≠ g) : Blk (tkW w q m g Z s a b) Z t #[a, b] :=
  ((((((h.far (p := ⟨q, m, none⟩) hq (.int .i64 0)).far (p := ⟨q, m + 1, none⟩) hq (.slice none 0 0)).far (p := ⟨q, m + 2, none⟩) hq (.bool false)).far (p := ⟨g, 0, none⟩) hg s).set 0 a).set 1 b)
def NTkPost (w : World) (g : Nat) (S : Nat → Prop) (Q : Value → Prop) (r : (Let × Bool) × List Snt) (en : Ending) (w' : World) : Prop :=
  ∃ A c, en = .returned (.tuple #[.agg #[.int .i64 r.1.1.1, .slice A r.1.1.2.length c], .bool r.1.2]) ∧ NetQ w' g S Q r.2 ∧ Turned w S S w' ∧ MadeO w' S (.slice A r.1.1.2.length c) r.1.1.2 r.1.1.2.length ∧ (r.1.2 = true → Q (.slice A r.1.1.2.length c))
theorem take_ret {W : World} {a : Act} {Z : Nat} {to : Int} {A : Option Addr} {nb c : Nat} {b : Bool} {Post : Ending → World → Prop} (r0 : W.cell? ⟨Z, 0, none⟩ = some (.int .i64 to)) (r1 : W.cell? ⟨Z, 1, none⟩ = some (.slice A nb c)) (h4 : a.tmps[4]?.getD undef = .pointer (some ⟨Z, 0, none⟩)) (h5 : a.tmps[5]?.getD undef = .bool b) (hd : a.defers = [])
    (hP : Post (.returned (.tuple #[.agg #[.int .i64 to, .slice A nb c], .bool b])) W) : bodyPost Try.prog Try.f56 Post Exit.ret a W := by
  refine bodyPost_ret (v := .tuple #[.agg #[.int .i64 to, .slice A nb c], .bool b]) (by simp [results, Try.results56, go_sem, h4, h5, r0, r1]) hd hP
abbrev z3 : Array Value := #[.int .i64 0, .slice none 0 0]
set_option maxHeartbeats 12000000 in
set_option maxRecDepth 100000 in
theorem NTakeQ_any (w : World) (g : Nat) (S : Nat → Prop) (Q : Value → Prop) (row : List Snt) (i : Int) (h : NetQ w g S Q row) (hi0 : -9223372036854775808 ≤ i) (hi1 : i ≤ 9223372036854775807) (hrl : row.length ≤ 64) (hbl : ∀ x ∈ row, x.1.2.length ≤ 1099511627776) :
    Calls Try.prog 56 #[.pointer (some ⟨g, 0, none⟩), .int .i64 i] w (NTkPost w g S Q (Nm.take row i)) := by
  have hB := (Below.refl w.heap.size w).alloc (Nat.le_refl _) (.cells z3 98)
  have HB := Lib.hid hB
  have HM := Lib.hid h
  have HC := Lib.hid (plc_any (w.alloc (.cells z3 98)) g S row i (h.toM.below hB) hi0 hi1 hrl)
  have HZ := Lib.hid (Blk.new w 98 z3)
  unfold PlcPost at HC
  unfold Nm.take
  cases hp : Nm.plc row i with
  | none =>
    rw [hp] at HC
    simp only at HC ⊢
    have HP := Lib.hid (show NTkPost w g S Q (((0, []), false), row) (.returned (.tuple #[.agg #[.int .i64 0, .slice none 0 0], .bool false])) (w.alloc (.cells #[.int .i64 0, .slice none 0 0] 98)) from
      ⟨none, 0, rfl, HM.out.below hB, (Turned.refl w S).below hB, ⟨made_none _, fun g o n c hv => by cases hv⟩, fun h => by cases h⟩)
    clear h hp hB
    go_enter Try.func56, Try.ntmps56
    go_wp2_with fail
    refine HC.out.mono ?_
    rintro en w1 ⟨rfl, rfl⟩
    go_wp2
    try simp only [Exit.inBlock, Exit.then]
    refine bodyPost_ret (v := .tuple #[.agg #[.int .i64 0, .slice none 0 0], .bool false]) (by simp [results, Try.results56, go_sem, *]) rfl HP.out
  | some k =>
    rw [hp] at HC
    simp only at HC ⊢
    obtain ⟨hk, -, -⟩ := Nm.plc_lt hp
    obtain ⟨v, ms, h1, h2, h3, h4, h5Q⟩ := h
    have HQQ := Lib.hid h5Q
    obtain ⟨to, A, c, bs, sp, e1, e2, e3⟩ := h3.of_key hk
    have hown := h2
    rcases h2.2 with ⟨_, h0⟩ | ⟨q, cp, cur, rfl, _, hq, hnc, hcm, hcs, htk⟩
    · omega
    have hqg : q ≠ g := own_ne_blk hown h1 (by decide) q rfl
    have hql : q < w.heap.size := (Array.getElem?_eq_some_iff.1 hq).1
    have hgl := h1.lt
    have hc := fl3_get ms k _ e2
    have hcell := fun j u hu => (addk q (k * 3 + j)) ▸ hown.cells (g := q) rfl (k * 3 + j) u (hc j u hu)
    have b0 := hcell 0 _ rfl
    have b1 := hcell 1 _ rfl
    have b2 := hcell 2 _ rfl
    obtain ⟨n, hn⟩ : ∃ n, row.length = n := ⟨_, rfl⟩
    have hx : row[k]?.getD Nm.s0 = ((to, bs), sp) := by rw [e1]; rfl
    rw [hn] at hk hnc hrl h1 htk
    have a0 : w.cell? ⟨g, 0, none⟩ = some (.slice (some ⟨q, 0, none⟩) n cp) := h1.cell 0
    obtain ⟨nb, hnb⟩ : ∃ n, bs.length = n := ⟨_, rfl⟩
    have hmsl : ms.length = n := by rw [h3.1, hn]
    have hflen := fl3_length ms
    simp only [Nat.add_zero] at b0
    simp only [hnb] at b1
    have HX := Lib.hid hx; have HE2 := Lib.hid (h5Q k _ e2); have H1 := Lib.hid h1; have H3 := Lib.hid h3; have H4 : Hid (∀ j, S j ↔ (j = g ∨ q = j)) := Lib.hid (fun j => (h4 j).trans (by simp [Value.ownBlock])); have HQ := Lib.hid hq; have HTK := Lib.hid htk; have HE3 := Lib.hid e3; have HMS := Lib.hid hmsl; have HFL := Lib.hid hflen; have HCS := Lib.hid hcs; have HNB := Lib.hid hnb; have HN := Lib.hid hn
    obtain ⟨o2, hval, p2⟩ : ∃ o2, (if cp = k + 1 then some (⟨q, 0, none⟩ : Addr) else some ⟨q, (k + 1) * 3, none⟩) = some ⟨q, o2, none⟩ ∧ (k + 1 < cp → o2 = (k + 1) * 3) := by
      by_cases hh : cp = k + 1
      · exact ⟨0, by rw [if_pos hh], fun h => by omega⟩
      · exact ⟨(k + 1) * 3, by rw [if_neg hh], fun _ => rfl⟩
    have HVAL := Lib.hid hval
    have hk2I : (k : Int) + 1 ≤ (n : Int) := by omega
    have hk3I : (0 : Int) ≤ (k : Int) + 1 := by omega
    have hkn : k ≤ n := by omega
    have hcpk : ¬ cp = k := by omega
    clear hval
    have hw1 : IntKind.i64.wrap ((n : Int) - 1) = ((n - 1 : Nat) : Int) := by rw [IntWalk.i64_in _ ⟨by omega, by omega⟩]; omega
    have hw2 : IntKind.i64.wrap ((k : Int) + 1) = ((k + 1 : Nat) : Int) := by rw [IntWalk.i64_in _ ⟨by omega, by omega⟩]; omega
    have hkI : (k : Int) < (n : Int) := by omega
    have hk1I : ((n - 1 : Nat) : Int) < (n : Int) := by omega
    clear h5Q hp h1 h2 h3 h4 hq htk e3 hown hc hcell hx e1 e2 hn hnb hmsl hflen hcs hB HM
    go_enter Try.func56, Try.ntmps56
    go_wp2_with fail
    refine HC.out.mono ?_
    rintro en w1 ⟨rfl, rfl⟩
    go_wp2
    obtain ⟨W1, hW⟩ : ∃ W1, (w.alloc (.cells #[.int .i64 0, .slice none 0 0] 98)).alloc (.cells #[.int .i64 to, .slice A nb c] 98) = W1 := ⟨_, rfl⟩
    try rw [hW]
    have hb1 : Below w.heap.size w W1 := by rw [← hW]; exact HB.out.alloc (by simp) _
    have k1 := H1.out.below hb1 hgl
    have q1 : Blk W1 q 141 cur := (Blk.below (t := 141) (cs := cur) HQ.out hb1 hql)
    have z1 : Blk W1 w.heap.size 98 #[.int .i64 0, .slice none 0 0] := by rw [← hW]; exact HZ.out.alloc _
    have l1 : Blk W1 (w.heap.size + 1) 98 #[.int .i64 to, .slice A nb c] := by rw [← hW]; exact Blk.new' (w.alloc (.cells #[.int .i64 0, .slice none 0 0] 98)) 98 #[.int .i64 to, .slice A nb c] (by simp)
    have BW := Lib.hid hb1; have K1 := Lib.hid k1; have Q1 := Lib.hid q1; have Z1 := Lib.hid z1; have L1 := Lib.hid l1
    have c0 : W1.cell? ⟨g, 0, none⟩ = some (.slice (some ⟨q, 0, none⟩) n cp) := k1.cell 0
    have cl := k1.lt
    have hcsl : cur.toList.length = cp * 3 := by rw [Array.length_toList]; exact HCS.out
    have hdl : ((fl3 ms).drop ((k + 1) * 3)).length = (n - (k + 1)) * 3 := by rw [List.length_drop, HFL.out, HMS.out]; omega
    have hsrc : ∀ j v, ((fl3 ms).drop ((k + 1) * 3))[j]? = some v → W1.drew.cell? ((⟨q, o2, none⟩ : Addr).add j) = some v := by
      intro j v hj
      have hjl := (List.getElem?_eq_some_iff.1 hj).1
      rw [hdl] at hjl
      obtain rfl := p2 (by omega)
      rw [List.getElem?_drop] at hj
      have h5 : cur.toList[(k + 1) * 3 + j]? = some v := by
        rw [← HTK.out, List.getElem?_take] at hj
        split at hj
        · exact hj
        · cases hj
      rw [addk2]
      show W1.cell? _ = _
      rw [Q1.out.cell]
      rw [← Array.getElem?_toList]
      exact h5
    have hone : ∀ v ∈ (fl3 ms).drop ((k + 1) * 3), v.oneCell' = true := by
      intro v hv
      have h5 := List.mem_of_mem_drop hv
      unfold fl3 at h5
      obtain ⟨m, hm5, h6⟩ := List.mem_flatMap.1 h5
      simp at h6
      rcases h6 with rfl | rfl | rfl
      · rfl
      · obtain ⟨j, hj⟩ := List.getElem?_of_mem hm5
        have hjl := (List.getElem?_eq_some_iff.1 hj).1
        obtain ⟨A5, c5, e5, -⟩ := (H3.out.2 j m _ hj (List.getElem?_eq_getElem (by rw [← H3.out.1]; exact hjl))).2.2.1
        rw [e5]
        rfl
      · rfl
    have HSRC := Lib.hid hsrc; have HONE := Lib.hid hone; have HDL := Lib.hid hdl; have HCL := Lib.hid hcsl
    clear hb1 k1 q1 z1 l1 hsrc hone hdl hcsl hW a0 b0 b1 b2
    go_region_law (first
      | (go_must (refine step_copyS rfl (.tmp 38) (.tmp 45) 136 136 rfl 141 3 Try.underlying136 infoSent1 q (k * 3) (n - k) (cp - k) ⟨q, o2, none⟩ (n - (k + 1)) (cp - (k + 1)) (n - (k + 1)) (by simp [Act.eval, Act.put]) (by simp only [Act.eval, Act.put]; simp; exact HVAL.out) cur 141 Q1.out ((fl3 ms).drop ((k + 1) * 3)) (Nat.min_eq_left (by omega)) HDL.out HSRC.out (by have := HDL.out; have := HCS.out; omega) HONE.out ?_; intro w5 hq5 hO5; have HQ5 := Lib.hid hq5; have HO5 := Lib.hid hO5; clear hq5 hO5; simp only [HVAL.out]; go_simp))
      | fail)
    all_goals (
      have k5 := HO5.out.blk K1.out.drew (fun h => hqg h.symm)
      have z5 := HO5.out.blk Z1.out.drew (fun h => by omega)
      have l5 := HO5.out.blk L1.out.drew (fun h => by omega)
      have Q5 := HQ5.out
      obtain ⟨cur1, hcur1⟩ : ∃ cur1, (cur.toList.take (k * 3) ++ (fl3 ms).drop ((k + 1) * 3) ++ cur.toList.drop (k * 3 + ((fl3 ms).drop ((k + 1) * 3)).length)).toArray = cur1 := ⟨_, rfl⟩
      rw [hcur1] at Q5
      have hsz1 : cur1.size = cp * 3 := by
        rw [← hcur1]
        have h6 := HDL.out
        have h7 := HCL.out
        simp only [List.size_toArray, List.length_append, List.length_take, List.length_drop] at h6 ⊢
        omega
      have htk1 : cur1.toList.take ((n - 1) * 3) = fl3 (ms.eraseIdx k) := by
        rw [← hcur1]
        exact take_row HTK.out HMS.out hk (by rw [HCL.out]; omega)
      have u0 : w5.cell? ⟨q, (n - 1) * 3, none⟩ = some cur1[(n - 1) * 3] := by rw [Q5.cell]; exact Array.getElem?_eq_getElem (by omega)
      have u1 : w5.cell? ⟨q, (n - 1) * 3 + 1, none⟩ = some cur1[(n - 1) * 3 + 1] := by rw [Q5.cell]; exact Array.getElem?_eq_getElem (by omega)
      have u2 : w5.cell? ⟨q, (n - 1) * 3 + 2, none⟩ = some cur1[(n - 1) * 3 + 2] := by rw [Q5.cell]; exact Array.getElem?_eq_getElem (by omega)
      obtain ⟨x0, hx0⟩ : ∃ x, cur1[(n - 1) * 3] = x := ⟨_, rfl⟩
      obtain ⟨x1, hx1⟩ : ∃ x, cur1[(n - 1) * 3 + 1] = x := ⟨_, rfl⟩
      obtain ⟨x2, hx2⟩ : ∃ x, cur1[(n - 1) * 3 + 2] = x := ⟨_, rfl⟩
      rw [hx0] at u0; rw [hx1] at u1; rw [hx2] at u2
      have v0 := Q5.frozen ((n - 1) * 3)
      have v1 := Q5.frozen ((n - 1) * 3 + 1)
      have v2 := Q5.frozen ((n - 1) * 3 + 2)
      have d0 := k5.cell 0
      have df := k5.frozen 0
      have e0 := l5.cell 0
      have e1 := l5.cell 1
      have f0 := z5.cell 0
      have f1 := z5.cell 1
      have ff0 := z5.frozen 0
      have ff1 := z5.frozen 1
      simp at d0 e0 e1 f0 f1
      have kl := k5.lt
      have zl := z5.lt
      have ll := l5.lt
      have ql := Q5.lt
      have g1 : g ≠ w.heap.size := by omega
      have g2 : g ≠ w.heap.size + 1 := by omega
      have g3 : q ≠ w.heap.size := by omega
      have g4 : q ≠ w.heap.size + 1 := by omega
      have hn1 : n - 1 ≤ cp := by omega
      have hP : NTkPost w g S Q (((row[k]?.getD Nm.s0).1, true), row.eraseIdx k) (.returned (.tuple #[.agg #[.int .i64 to, .slice A nb c], .bool true])) (tkW w5 q ((n - 1) * 3) g w.heap.size (.slice (some ⟨q, 0, none⟩) (n - 1) cp) (.int .i64 to) (.slice A nb c)) := by
        have hSq : S q := (H4.out q).2 (.inr rfl)
        have hSg : S g := (H4.out g).2 (.inl rfl)
        have o1 : Only S w w5 := (Only.of_below (S := S) BW.out).trans (HO5.out.mono (T := S) (fun j _ hj => by rw [hj]; exact hSq)) (Sub.refl _ _)
        have te := take_end H3.out H4.out HN.out hk hnc hcm (by simpa using hsz1) (tkW_net k5 (fun h => hqg h.symm) g1) (tkW_row Q5 hqg g3) (by rw [take_sets (by omega), take_sets (by omega), take_sets (by omega)]; exact htk1) (tkW_only (m := (n - 1) * 3) (s := .slice (some ⟨q, 0, none⟩) (n - 1) cp) (a := .int .i64 to) (b := .slice A nb c) o1 hSq hSg (Nat.le_refl _)) HQQ.out
        refine ⟨A, c, ?_, te.1, te.2, ?_, fun _ => ?_⟩
        · rw [HX.out]; simp only [HNB.out]
        · rw [HX.out]; exact HE3.out.turn te.2
        · rw [HX.out]; exact HE2.out
      have HPP := Lib.hid hP
      have HZZ := Lib.hid (tkW_let (m := (n - 1) * 3) (s := .slice (some ⟨q, 0, none⟩) (n - 1) cp) (a := .int .i64 to) (b := .slice A nb c) z5 (fun h => g3 h.symm) (fun h => g1 h.symm))
      clear hP k5 z5 l5 Q5 hcur1 hsz1 htk1 hx0 hx1 hx2 HQ5 HO5
      go_wp2
      try simp only [Exit.inBlock, Exit.then]
      exact take_ret (HZZ.out.cell 0) (HZZ.out.cell 1) rfl rfl rfl HPP.out)
theorem NTake_any (w : World) (g : Nat) (S : Nat → Prop) (row : List Snt) (i : Int) (h : NetM w g S row) (hi0 : -9223372036854775808 ≤ i) (hi1 : i ≤ 9223372036854775807) (hrl : row.length ≤ 64) (hbl : ∀ x ∈ row, x.1.2.length ≤ 1099511627776) :
    Calls Try.prog 56 #[.pointer (some ⟨g, 0, none⟩), .int .i64 i] w (fun en w' => ∃ A c, en = .returned (.tuple #[.agg #[.int .i64 (Nm.take row i).1.1.1, .slice A (Nm.take row i).1.1.2.length c], .bool (Nm.take row i).1.2]) ∧ NetM w' g S (Nm.take row i).2 ∧ Turned w S S w' ∧ MadeO w' S (.slice A (Nm.take row i).1.1.2.length c) (Nm.take row i).1.1.2 (Nm.take row i).1.1.2.length) :=
  (NTakeQ_any w g S (fun _ => True) row i h.toT hi0 hi1 hrl hbl).mono (fun en w' ⟨A, c, h1, h2, h3, h4, _⟩ => ⟨A, c, h1, h2.toM, h3, h4⟩)
end Go.Proofs.Ytahichieakdbnaa

/- net: own, place, put, Send, Double, Len, New. -/
import Derived.Test.YtahichieakdbnaaNm
import Derived.Handy
namespace Go.Proofs.Ytahichieakdbnaa
open Go.ChangeShapes Go.WideShapes Go.ChangeAt Go.RowKit Go.Maps
set_option linter.unusedVariables false
set_option linter.unusedSimpArgs false

def OwnPost (w : World) (to : Int) (bs : List Nat) (e : Ending) (w' : World) : Prop := ∃ A c, e = .returned (.agg #[.int .i64 to, .slice A bs.length c]) ∧ Made w' (.slice A bs.length c) bs bs.length ∧ Fre w (fun _ => False) (.slice A bs.length c) ∧ Below w.heap.size w w'
theorem nown_end {w w0 w1 w2 : World} {to : Int} {A : Option Addr} {c : Nat} {bs : List Nat} (h0 : Below w.heap.size w w0) (hb : Below w0.heap.size w0 w1) (hm : Made w1 (.slice A bs.length c) bs bs.length) (hf : Fre w0 (fun _ => False) (.slice A bs.length c)) (hO : Only (fun j => j = w.heap.size + 1) w1 w2) (hs : w0.heap.size = w.heap.size + 2) : OwnPost w to bs (.returned (.agg #[.int .i64 to, .slice A bs.length c])) w2 :=
  ⟨A, c, rfl, (MadeO.other (S := fun _ => False) ⟨hm, fun _ _ _ _ _ _ h => h⟩ hO (fun g o n c' hv _ hg => by have := (hf g o n c' hv).1; omega)).1, fun g o n c' hv => ⟨by have := (hf g o n c' hv).1; omega, fun h => h⟩, (h0.trans (hb.mono (by omega))).trans (hO.to_below (by have := hb.size; omega) (fun j hj => by omega))⟩
set_option maxHeartbeats 2000000 in
set_option maxRecDepth 100000 in
theorem nown_any (w : World) (to : Int) (A : Option Addr) (n c : Nat) (bs : List Nat) (hr : Rd w w.heap.size A (u8s bs)) (h256 : ∀ b ∈ bs, b < 256) (hn : bs.length = n) (hl : n ≤ 1099511627776) (hc : n ≤ c) (hnone : A = none → c = 0) :
    Calls Try.prog 90 #[.agg #[.int .i64 to, .slice A n c]] w (OwnPost w to bs) := by
  have HC := fun W (hb : Below w.heap.size w W) => Lib.hid (Clone_any W A n c bs ((hr.below hb).more hb.size) h256 hn hl hc hnone)
  have HN := Lib.hid hn
  have hB := ((Below.refl w.heap.size w).alloc (Nat.le_refl _) (.cells #[.int .i64 to, .slice A n c] 98)).alloc (by simp) (.cells #[.int .i64 0, .slice none 0 0] 98)
  have HB := Lib.hid hB
  have hZ := Blk.new' (w.alloc (.cells #[.int .i64 to, .slice A n c] 98)) 98 #[.int .i64 0, .slice none 0 0] (g := w.heap.size + 1) (by simp)
  have HZ := Lib.hid hZ
  have HY := Lib.hid ((Blk.new w 98 #[.int .i64 to, .slice A n c]).alloc (.cells #[.int .i64 0, .slice none 0 0] 98))
  clear hr h256 hn hnone hB hZ
  go_enter Try.func90, Try.ntmps90
  go_wp2
  go_region_law (first
    | (go_simp; go_at_call 72; refine ((HC _ HB.out.drew).out).mono ?_; rintro e w1 ⟨v, rfl, hm, hf, hb⟩; have HMM := Lib.hid hm; have HF := Lib.hid hf; have HBB := Lib.hid hb; have z1 := (HZ.out.drew).below hb HZ.out.drew.lt; have Z1 := Lib.hid z1; have zl := z1.lt; have y1 := (HY.out.drew).below hb HY.out.drew.lt; have y0 := y1.cell 0; have y2 := y1.cell 1; simp at y0 y2; have c0 := z1.cell 0; have c1 := z1.cell 1; have f0 := z1.frozen 0; have f1 := z1.frozen 1; simp at c0 c1; obtain ⟨A2, c2, rfl, -⟩ := id hm; clear hm hf hb z1 y1; go_simp)
    | fail)
  all_goals (
    go_wp2
    try simp only [Exit.inBlock, Exit.then]
    refine bodyPost_ret (v := .agg #[.int .i64 to, .slice A2 n c2]) (by simp [results, Try.results90, go_sem, *]) rfl ?_
    obtain rfl := HN.out
    exact nown_end HB.out.drew HBB.out HMM.out HF.out ((((Only.refl (fun j => j = w.heap.size + 1) w1).set (g := w.heap.size + 1) rfl 0 (.int .i64 to)).set (g := w.heap.size + 1) rfl 1 (.slice A2 bs.length c2))) (by simp))
theorem infoSent : (Try.prog.info? 141).map (fun i => (i.zero, i.size, i.bytes)) = some (some (.agg #[.int .i64 0, .slice none 0 0, .bool false]), 3, 40) := by kernel_rfl
def NRes (w : World) (g : Nat) (S : Nat → Prop) (r : Bool × List Snt) (en : Ending) (w' : World) : Prop := en = .returned (.bool r.1) ∧ ∃ S', NetM w' g S' r.2 ∧ Turned w S S' w'
def NResQ (w : World) (g : Nat) (S : Nat → Prop) (Q : Value → Prop) (r : Bool × List Snt) (en : Ending) (w' : World) : Prop := en = .returned (.bool r.1) ∧ ∃ S', NetQ w' g S' Q r.2 ∧ Turned w S S' w'
theorem NResQ.toM {w : World} {g : Nat} {S : Nat → Prop} {Q : Value → Prop} {r : Bool × List Snt} {en : Ending} {w' : World} (h : NResQ w g S Q r en w') : NRes w g S r en w' := ⟨h.1, h.2.choose, h.2.choose_spec.1.toM, h.2.choose_spec.2⟩
/-- what is new has Q -/
def QNew (w : World) (Q : Value → Prop) : Prop := ∀ v, Fre w (fun _ => False) v → Q v
theorem fre_down {w w' : World} {S : Nat → Prop} {v : Value} (h : Fre w' S v) (hs : w.heap.size ≤ w'.heap.size) : Fre w S v := fun g o n c hv => ⟨Nat.le_trans hs (h g o n c hv).1, (h g o n c hv).2⟩
/-- a letter is put at the row's end -/
theorem put_end {w w1 w2 w3 : World} {g q cap c : Nat} {S : Nat → Prop} {Q : Value → Prop} {row : List Snt} {v : Value} {ms : Mrow} {to : Int} {A : Option Addr} {bs : List Nat} {sp : Bool}
    (h1 : Blk w g 138 #[v]) (h2 : w.ownsRow 0 141 3 v row.length (fl3 ms)) (h3 : NRow w S ms row) (h4 : ∀ j, S j ↔ (j = g ∨ v.ownBlock = some j))
    (hb1 : Below w.heap.size w w1) (hm : Made w1 (.slice A bs.length c) bs bs.length) (hf : Fre w (fun _ => False) (.slice A bs.length c)) (hb2 : Below w1.heap.size w1 w2)
    (ho : w3.ownsRow 0 141 3 (.slice (some ⟨q, 0, none⟩) (row.length + 1) cap) (row.length + 1) (fl3 ms ++ [.int .i64 to, .slice A bs.length c, .bool sp])) (hg : w2.grownBy w3 v.ownBlock) (hat : v.ownBlock = some q ∨ q = w2.heap.size) (hQ : ∀ (j : Nat) (m : Int × Value × Bool), ms[j]? = some m → Q m.2.1) (hQn : Q (.slice A bs.length c)) :
    ∃ S', NetQ (w3.setCell ⟨g, 0, none⟩ (.slice (some ⟨q, 0, none⟩) (row.length + 1) cap)) g S' Q (row ++ [((to, bs), sp)]) ∧ Turned w S S' (w3.setCell ⟨g, 0, none⟩ (.slice (some ⟨q, 0, none⟩) (row.length + 1) cap)) := by
  have hgS : S g := (h4 g).2 (.inl rfl)
  have hgl := h1.lt
  have hvl : ∀ j, v.ownBlock = some j → j < w.heap.size := own_lt h2
  have hvne : ∀ j, v.ownBlock = some j → j ≠ g := fun j hj => own_ne_blk h2 h1 (by decide) j hj
  have hs1 := hb1.size
  have hs2 := hb2.size
  have hs3 := hg.size
  have hq : q ≠ g := by rcases hat with h | h; exact hvne q h; omega
  have hO2 : Only S w w2 := Only.of_below (hb1.trans (hb2.mono hs1))
  have hO3 : Only S w2 w3 := Only.of_grown hg (fun j hj => (h4 j).2 (.inr hj))
  have hOr := hO2.trans hO3 (fun j hj => .inl hj)
  have hO4 := hOr.trans ((Only.refl (fun j => j = g) w3).set rfl 0 (.slice (some ⟨q, 0, none⟩) (row.length + 1) cap)) (fun j hj => .inl (by rw [hj]; exact hgS))
  have hk3 : Blk w3 g 138 #[v] := ((h1.below hb1 hgl).below hb2 (by omega)).grown hg (fun h => hvne g h.symm rfl)
  have hT : Turned w S (fun j => j = g ∨ j = q) (w3.setCell ⟨g, 0, none⟩ (.slice (some ⟨q, 0, none⟩) (row.length + 1) cap)) := by
    refine ⟨fun j hj => ?_, hO4⟩
    rcases hj with rfl | rfl
    · exact .inl hgS
    · rcases hat with h | h
      · exact .inl ((h4 _).2 (.inr h))
      · exact .inr (by omega)
  have hbd : MadeO w1 (fun j => j = g ∨ j = q) (.slice A bs.length c) bs bs.length := ⟨hm, fun b o n' c' hv hne hj => by
    have h1 := (hf b o n' c' hv).1
    have h2 : b < w1.heap.size := MadeO.lt (S := fun _ => False) ⟨hm, fun _ _ _ _ _ _ h => h⟩ hv hne
    rcases hj with rfl | rfl
    · omega
    · rcases hat with h | h
      · have := hvl _ h; omega
      · omega⟩
  have hbd4 : MadeO (w3.setCell ⟨g, 0, none⟩ (.slice (some ⟨q, 0, none⟩) (row.length + 1) cap)) (fun j => j = g ∨ j = q) (.slice A bs.length c) bs bs.length := by
    refine ((hbd.below hb2).other (Only.of_grown (S := fun j => v.ownBlock = some j) hg (fun j hj => hj)) (fun b o n' c' hv hne hj => ?_)).other ((Only.refl (fun j => j = g) w3).set rfl 0 _) (fun b o n' c' hv hne hj => ?_)
    · have := hvl b hj
      have := (hf b o n' c' hv).1
      omega
    · have := (hf b o n' c' hv).1
      omega
  refine ⟨fun j => j = g ∨ j = q, ⟨.slice (some ⟨q, 0, none⟩) (row.length + 1) cap, ms ++ [(to, .slice A bs.length c, sp)], hk3.set 0 _, ?_, (h3.turn hT).snoc rfl rfl hbd4, fun j => ?_, fun j m hm => ?_⟩, hT⟩
  · rw [List.length_append, fl3_append]
    exact ((Only.refl (fun j => j = g) w3).set rfl 0 _).own ho (fun j hj hjg => by simp [Value.ownBlock] at hj; omega)
  · simp only [Value.ownBlock, Option.some.injEq]
    exact ⟨fun h => by rcases h with h | h; exact .inl h; exact .inr h.symm, fun h => by rcases h with h | h; exact .inl h; exact .inr h.symm⟩
  · by_cases hj : j < ms.length
    · rw [List.getElem?_append_left hj] at hm
      exact hQ j m hm
    · rw [List.getElem?_append_right (by omega)] at hm
      have := (List.getElem?_eq_some_iff.1 hm).1
      simp at this
      rw [show j - ms.length = 0 by omega] at hm
      simp at hm
      subst hm
      exact hQn
set_option maxHeartbeats 4000000 in
set_option maxRecDepth 100000 in
theorem nputQ_any (w : World) (g : Nat) (S : Nat → Prop) (Q : Value → Prop) (row : List Snt) (to : Int) (A : Option Addr) (n c : Nat) (bs : List Nat) (sp : Bool) (h : NetQ w g S Q row) (hQN : QNew w Q) (hr : Rd w w.heap.size A (u8s bs)) (h256 : ∀ b ∈ bs, b < 256) (hn : bs.length = n) (hl : n ≤ 1099511627776) (hc : n ≤ c) (hnone : A = none → c = 0) (hrl : row.length ≤ 64) :
    Calls Try.prog 85 #[.pointer (some ⟨g, 0, none⟩), .agg #[.int .i64 to, .slice A n c, .bool sp]] w (NResQ w g S Q (Nm.put row ((to, bs), sp))) := by
  obtain ⟨i0, hi, hz0, hz1, hz2⟩ := info_parts infoSent
  have HM := Lib.hid h; have HQN := Lib.hid hQN
  obtain ⟨v, ms, h1, h2, h3, h4, h5Q⟩ := h
  have HQQ := Lib.hid h5Q
  clear h5Q hQN
  have hB := (Below.refl w.heap.size w).alloc (Nat.le_refl _) (.cells #[.int .i64 to, .slice A n c, .bool sp] 141)
  have HB := Lib.hid hB
  have a0 : w.cell? ⟨g, 0, none⟩ = some v := h1.cell 0
  have hgl := h1.lt
  obtain ⟨A9, c9, rfl⟩ := own_sl h2
  by_cases hbig : 64 ≤ row.length
  · have hbI : (64 : Int) ≤ (row.length : Int) := by omega
    have HP := Lib.hid (show NResQ w g S Q (Nm.put row ((to, bs), sp)) (.returned (.bool false)) (w.alloc (.cells #[.int .i64 to, .slice A n c, .bool sp] 141)) from by
      unfold Nm.put
      rw [if_pos hbig]
      exact ⟨rfl, S, HM.out.below hB, (Turned.refl w S).below hB⟩)
    clear h1 h2 h3 h4 hr h256 hn hnone hB
    go_enter Try.func85, Try.ntmps85
    go_wp2
    go_ret
    exact HP.out
  · have hbI : ¬ (64 : Int) ≤ (row.length : Int) := by omega
    have HC := fun W (hb : Below w.heap.size w W) => Lib.hid (nown_any W to A n c bs ((hr.below hb).more hb.size) h256 hn hl hc hnone)
    have HN := Lib.hid hn; have H1 := Lib.hid h1; have H2 := Lib.hid h2; have H3 := Lib.hid h3; have H4 := Lib.hid h4
    have HY := Lib.hid (Blk.new w 141 #[.int .i64 to, .slice A n c, .bool sp])
    have HNE := Lib.hid (fun j hj => own_ne_blk h2 h1 (by decide) j hj)
    clear h1 h2 h3 h4 hr h256 hn hnone hB
    go_enter Try.func85, Try.ntmps85
    go_wp2
    go_region_law (first
      | (go_simp; go_at_call 90; go_must (refine ((HC _ HB.out.drew).out).mono ?_; rintro e w1 ⟨A2, c2, rfl, hm, hf, hb⟩; have HMM := Lib.hid hm; have HF := Lib.hid hf; have HBB := Lib.hid hb; have y1 := (HY.out.drew).below hb HY.out.drew.lt; have y0 := y1.cell 0; have y2 := y1.cell 1; have y3 := y1.cell 2; simp at y0 y2 y3; have k1 := (((H1.out.below HB.out hgl).drew).below hb (by simp <;> omega)); have k0 := k1.cell 0; have kl := k1.lt; have yl := y1.lt; have kne : g ≠ w1.heap.size := (by omega); have yne : w.heap.size ≠ w1.heap.size := (by omega); simp at k0; have HK := Lib.hid k1; have HO5 := Lib.hid (own_below (own_below H2.out HB.out.drew) hb); clear hm hf hb y1 k1; go_simp))
      | (go_must (refine step_append_lies _ rfl (.tmp 15) (.tmp 22) 136 rfl 0 141 i0 (.agg #[.int .i64 0, .slice none 0 0, .bool false]) 3 40 Try.underlying136 hi hz0 hz1 hz2 rfl (by decide) _ row.length (fl3 ms) (by simp [Act.eval, Act.put]) (own_below HO5.out ((Below.refl _ w1).alloc (Nat.le_refl _) _)) ⟨w1.heap.size, 0, none⟩ 1 1 [.int .i64 to, .slice A2 bs.length c2, .bool sp] (by simp [Act.eval, Act.put]) rfl (nw3 w1 _ _ _ _) (by intro u hu; simp at hu; rcases hu with rfl | rfl | rfl <;> rfl) (by decide) (by unfold maxLen; omega) (by omega) (Nat.zero_le _) _ rfl ?_; intro q cap w3 ho3 hg3 hat3 hlt3; have HO3 := Lib.hid ho3; have HG3 := Lib.hid hg3; have HAT := Lib.hid hat3; have k3 := (HK.out.alloc (.cells #[.int .i64 to, .slice A2 bs.length c2, .bool sp] 141)).grown hg3 (fun h => HNE.out g h.symm rfl); have e0 := k3.cell 0; have ef := k3.frozen 0; have el := k3.lt; simp at e0; clear ho3 hg3 hat3 hlt3 k3; go_simp))
      | fail)
    all_goals (
      go_wp2
      go_ret
      refine ⟨by unfold Nm.put; rw [if_neg hbig]; rfl, ?_⟩
      unfold Nm.put
      rw [if_neg hbig]
      exact put_end H1.out H2.out H3.out H4.out (HB.out.drew.trans (HBB.out.mono (by simp))) HMM.out (fre_down HF.out (by simp)) ((Below.refl _ w1).alloc (Nat.le_refl _) _) HO3.out HG3.out HAT.out HQQ.out (HQN.out _ (fre_down HF.out (by simp))))
theorem nput_any (w : World) (g : Nat) (S : Nat → Prop) (row : List Snt) (to : Int) (A : Option Addr) (n c : Nat) (bs : List Nat) (sp : Bool) (h : NetM w g S row) (hr : Rd w w.heap.size A (u8s bs)) (h256 : ∀ b ∈ bs, b < 256) (hn : bs.length = n) (hl : n ≤ 1099511627776) (hc : n ≤ c) (hnone : A = none → c = 0) (hrl : row.length ≤ 64) :
    Calls Try.prog 85 #[.pointer (some ⟨g, 0, none⟩), .agg #[.int .i64 to, .slice A n c, .bool sp]] w (NRes w g S (Nm.put row ((to, bs), sp))) :=
  (nputQ_any w g S (fun _ => True) row to A n c bs sp h.toT (fun _ _ => trivial) hr h256 hn hl hc hnone hrl).mono (fun _ _ h => h.toM)
end Go.Proofs.Ytahichieakdbnaa

/- dict: a key comes. -/
import Derived.Test.YtgjkeccopjgjlaaDct
import Derived.StillTailTactics
import Derived.Maps.AppendAt
import Derived.Deep.DeepMust
namespace Go.Proofs.Ytgjkeccopjgjlaa
open Go.ChangeShapes Go.WideShapes Go.ChangeAt Go.RowKit Go.Maps
set_option linter.unusedVariables false
set_option linter.unusedSimpArgs false

theorem infoStr : (Try.prog.info? 9).map (fun i => (i.zero, i.size, i.bytes)) = some (some (.string ⟨#[]⟩), 1, 16) := by kernel_rfl
theorem plainI (i : Nat) (hi : i ≤ 1000000) : plainElem (H := Unit) Try.prog 3 (.int .i64 (i : Int)) = some (.lit (.int .i64 (i : Int)), []) := plainElem_int Try.underlying3 (by simp [Lit.wf, IntKind.min, IntKind.max, IntKind.signed, IntKind.bits]; omega)
/-- what become of a dictionary's blocks: S' is S and new ones; only S turned -/
def Turned (w : World) (S S' : Nat → Prop) (w' : World) : Prop := Sub w S S' ∧ Only S w w'
def ComePost (w : World) (g : Nat) (S : Nat → Prop) (ks : List ByteArray) (e : Nat) (en : Ending) (w' : World) : Prop := en = .returned (.tuple #[]) ∧ ∃ S', DictM w' g S' ks e ∧ Turned w S S' w'
theorem own_set {w : World} {base n c r i : Nat} {e : TypeId} {xs : List Value} {u : Value} (h : w.ownsRow base e 1 (.slice (some ⟨r, 0, none⟩) n c) n xs) (hi : i < n) :
    (w.setCell ⟨r, i, none⟩ u).ownsRow base e 1 (.slice (some ⟨r, 0, none⟩) n c) n (xs.set i u) := by
  refine ⟨by simpa using h.1, ?_⟩
  rcases h.2 with ⟨h2, _⟩ | ⟨g, cap, cur, hv, hb, hh, hnc, hcm, hs, ht⟩
  · cases h2
  · injection hv with h1 h2 h3
    injection h1 with h1
    injection h1 with h1 _
    subst h1 h3
    refine .inr ⟨r, c, cur.setIfInBounds i u, rfl, hb, ?_, hnc, hcm, by simpa using hs, ?_⟩
    · simp [World.setCell, Array.getElem?_modify, hh]
    · rw [Array.toList_setIfInBounds, List.take_set, ht]
theorem own_cell {w : World} {base n c r i : Nat} {e : TypeId} {xs : List Value} {u : Value} (h : w.ownsRow base e 1 (.slice (some ⟨r, 0, none⟩) n c) n xs) (hi : i < n) (hu : xs[i]? = some u) :
    w.cell? ⟨r, i, none⟩ = some u ∧ w.frozen? ⟨r, i, none⟩ = false := by
  rcases h.2 with ⟨h2, _⟩ | ⟨g, cap, cur, hv, hb, hh, hnc, hcm, hs, ht⟩
  · cases h2
  · injection hv with h1 h2 h3
    injection h1 with h1
    injection h1 with h1 _
    subst h1 h3
    refine ⟨?_, by simp [World.frozen?, hh]⟩
    rw [cell_of_row w r i cur e (0, 0) hh]
    rw [← ht, List.getElem?_take_of_lt (by omega), Array.getElem?_toList] at hu
    exact hu
/-- a key behind the others -/
theorem come_push {w w1 w2 : World} {g m e : Nat} {S : Nat → Prop} {v v2 : Value} {ks : List ByteArray} {k : ByteArray} {D : Dm.DU} (hS : ∀ j, S j ↔ j = g ∨ j = m ∨ v.ownBlock = some j)
    (hG : w.drew.grownBy w1 (some m)) (hk1 : Blk w1 g 106 (dcs v e m)) (hm1 : w1.ownsMap Try.prog 9 (plainElem Try.prog 3) m 8 D) (hD : Dm.DI D (ks ++ [k])) (hO : Dm.Ok (ks ++ [k]) e)
    (hvm : v.ownBlock ≠ some m) (hvg : v.ownBlock ≠ some g) (ho : w2.ownsRow 0 9 1 v2 (ks.length + 1) (ks.map .string ++ [.string k])) (hg2 : (w1.alloc (.cells #[.string k] 9)).grownBy w2 v.ownBlock)
    (hat : v2.ownBlock = v.ownBlock ∨ v2.ownBlock = some (w1.alloc (.cells #[.string k] 9)).heap.size) :
    ComePost w g S (ks ++ [k]) e (.returned (.tuple #[])) (w2.setCell ⟨g, 0, none⟩ v2) := by
  have hg1 : g < w1.heap.size := hk1.lt
  have hmlt : m < w1.heap.size := hm1.lt
  have hmg := map_blk hm1 hk1
  have hsz : w.heap.size ≤ w1.heap.size := hG.size
  have hv2g : v2.ownBlock ≠ some g := by
    rcases hat with h | h
    · rw [h]; exact hvg
    · rw [h]; intro h2; injection h2 with h2; simp at h2; omega
  refine ⟨rfl, fun j => j = g ∨ j = m ∨ v2.ownBlock = some j, ⟨v2, m, D, ?_, ?_, ?_, hD, hO, fun j => Iff.rfl⟩, ?_, ?_⟩
  · exact ((hk1.alloc _).grown hg2 (fun h => hvg h.symm)).set 0 v2
  · have h1 := (Only.refl (fun j => j = g) w2).set rfl 0 v2
    have h2 := h1.own ho (fun j hj hjg => by subst hjg; exact hv2g hj)
    simpa using h2
  · exact (((Only.of_grown (S := fun j => v.ownBlock = some j) hg2 (fun j hj => hj)).map (hm1.alloc _) hvm).setCell hmg _)
  · intro j hj
    rcases hj with rfl | rfl | hj
    · exact .inl ((hS _).2 (.inl rfl))
    · exact .inl ((hS _).2 (.inr (.inl rfl)))
    · rcases hat with h | h
      · rw [h] at hj; exact .inl ((hS _).2 (.inr (.inr hj)))
      · rw [h] at hj; injection hj with hj; simp at hj; exact .inr (by omega)
  · have h1 : Only S w w1 := Only.of_grown (a := w.drew) hG (fun j hj => by injection hj with hj; exact (hS _).2 (.inr (.inl hj.symm)))
    have h2 : Only S w w2 := (h1.alloc _).trans (Only.of_grown (S := S) hg2 (fun j hj => (hS _).2 (.inr (.inr hj)))) (Sub.refl _ _)
    exact h2.set ((hS _).2 (.inl rfl)) 0 v2
/-- a key in the eldest one's place -/
theorem come_turn {w w1 w2 : World} {g m e r c n : Nat} {S : Nat → Prop} {ks : List ByteArray} {k old : ByteArray} {D : Dm.DU} (hS : ∀ j, S j ↔ j = g ∨ j = m ∨ (Value.slice (some ⟨r, 0, none⟩) ks.length c).ownBlock = some j)
    (hD : Dm.DI D ks) (ho : ks[e]? = some old) (hp : Dm.plc ks k = none) (hO : Dm.Ok (ks.set e k) ((e + 1) % 8)) (hmg : m ≠ g) (hmr : m ≠ r) (hgr : g ≠ r)
    (hT1 : w.drew.grownBy w1 (some m)) (hT2 : w1.drew.grownBy w2 (some m)) (hk2 : Blk w2 g 106 (dcs (.slice (some ⟨r, 0, none⟩) ks.length c) e m))
    (h2 : w2.ownsRow 0 9 1 (.slice (some ⟨r, 0, none⟩) ks.length c) ks.length (ks.map .string)) (hm2 : w2.ownsMap Try.prog 9 (plainElem Try.prog 3) m n ((D.del (Dm.lit old)).put (Dm.lit k) (.lit (.int .i64 (e : Int)))))
    (hl8 : ks.length = 8) (he : (e : Int) < 8) (hn : n = Maps.size ((D.del (Dm.lit old)).put (Dm.lit k) (.lit (.int .i64 (e : Int)))) := by rfl) :
    ComePost w g S (ks.set e k) ((e + 1) % 8) (.returned (.tuple #[])) ((w2.drew.setCell ⟨r, e, none⟩ (.string k)).setCell ⟨g, 1, none⟩ (.int .i64 (((e : Int) + 1) % 8))) := by
  have hDI := Dm.DI_turn hD hp ho
  have hS1 : S m := (hS m).2 (.inr (.inl rfl))
  have hSg : S g := (hS g).2 (.inl rfl)
  have hSr : S r := (hS r).2 (.inr (.inr rfl))
  refine ⟨rfl, S, ⟨.slice (some ⟨r, 0, none⟩) ks.length c, m, _, ?_, ?_, ?_, hDI, hO, hS⟩, Sub.refl _ _, ?_⟩
  · have h := ((hk2.drew).far (p := ⟨r, e, none⟩) hgr (.string k)).set 1 (.int .i64 (((e : Int) + 1) % 8))
    have e1 : (dcs (.slice (some ⟨r, 0, none⟩) ks.length c) e m).setIfInBounds 1 (.int .i64 (((e : Int) + 1) % 8)) = dcs (.slice (some ⟨r, 0, none⟩) ks.length c) ((e + 1) % 8) m := by
      have e2 : ((e : Int) + 1) % 8 = (((e + 1) % 8 : Nat) : Int) := by omega
      rw [e2]
      rfl
    rw [e1] at h
    exact h
  · have h := own_set (u := .string k) (i := e) h2 (by omega)
    have h3 := (Only.refl (fun j => j = g) (w2.drew.setCell ⟨r, e, none⟩ (.string k))).set rfl 1 (.int .i64 (((e : Int) + 1) % 8))
    have h4 := h3.own (v := .slice (some ⟨r, 0, none⟩) ks.length c) h (fun j hj hjg => by injection hj with hj; exact hgr (hjg.symm.trans hj.symm))
    rw [List.length_set, List.map_set]
    exact h4
  · refine (World.ownsMap.setCell (World.ownsMap.setCell ((hm2.mono ?_).drew) hmr _) hmg _)
    rw [hn, hDI.2.1, List.length_set]
    omega
  · have h1 : Only S w w1 := Only.of_grown (a := w.drew) hT1 (fun j hj => by injection hj with hj; subst hj; exact hS1)
    have h3 : Only S w w2 := h1.trans (b := w1) (Only.of_grown (S := S) (a := w1.drew) hT2 (fun j hj => by injection hj with hj; subst hj; exact hS1)) (Sub.refl _ _)
    exact (h3.drew.set hSr e (.string k)).set hSg 1 _
set_option maxHeartbeats 2000000 in
set_option maxRecDepth 100000 in
theorem come_any (w : World) (g : Nat) (S : Nat → Prop) (ks : List ByteArray) (e : Nat) (k : ByteArray) (h : DictM w g S ks e) (hp : Dm.plc ks k = none) (h64 : k.size ≤ 64) :
    Calls Try.prog 64 #[.pointer (some ⟨g, 0, none⟩), .string k] w (ComePost w g S (Dm.comeD ks e k).1 (Dm.comeD ks e k).2) := by
  have hk64 : k.size ≤ maxLen := by unfold maxLen; omega
  have hOk := h.ok.come hp h64
  obtain ⟨v, m, D, h1, h2, h3, h4, h5, h6⟩ := h
  obtain ⟨i0, hi, hz0, hz1, hz2⟩ := info_parts infoStr
  obtain ⟨c0, c1, c2, cf⟩ := Blk.three h1
  have hlen := h5.2.1
  have hsz := h4.2.1
  have hmg := map_blk h3 h1
  have hvm := map_own h3 h2
  have hvg : v.ownBlock ≠ some g := by
    intro hv
    rcases h2.2 with ⟨rfl, _⟩ | ⟨g', cap, cur, rfl, _, hh, _⟩
    · simp [Value.ownBlock] at hv
    · simp [Value.ownBlock] at hv
      subst hv
      have h9 : w.heap[g']? = some (.cells (dcs (.slice (some ⟨g', 0, none⟩) ks.length cap) e m) 106 (0, 0)) := h1
      rw [hh] at h9
      injection h9 with h9
      injection h9 with _ h9 _
      exact absurd h9 (by decide)
  obtain ⟨A, c, rfl, hnc, hcm, -, hr, hnone⟩ := own_form h2
  by_cases hlt : ks.length < 8
  · have hcd : Dm.comeD ks e k = (ks ++ [k], e) := by unfold Dm.comeD; rw [if_pos hlt]
    rw [hcd] at hOk ⊢
    simp only at hOk ⊢
    obtain ⟨w1, hrun, hm1, hturn⟩ := (h3.drew).store KS Try.underlying104 (by unfold maxLen; omega) (keyS hk64) (plainI ks.length (by omega))
    have hgr := hturn.grown
    have hk1 : Blk w1 g 106 (dcs (.slice A ks.length c) e m) := h1.drew.grown hgr (by intro h; injection h with h; exact hmg h.symm)
    have h2' := (Only.of_grown (S := fun j => j = m) hgr (fun j hj => by injection hj with hj; exact hj.symm)).own (v := .slice A ks.length c) (h2 : w.drew.ownsRow 0 9 1 _ _ _) (fun j hj hjm => by subst hjm; exact hvm hj)
    have hm1' := map_tight hm1
    have hsz1 : Maps.size (D.put (Dm.lit k) (.lit (.int .i64 (ks.length : Int)))) ≤ 8 := by
      rw [Maps.size_put h4.1, h4.2.2.2.2 k hp]
      simp only [Bool.false_eq_true, if_false]
      omega
    have H1 := Lib.hid hk1; have H2 := Lib.hid h2'; have H3 := Lib.hid (hm1'.mono hsz1); have H4 := Lib.hid (Dm.DI_push h4 hp); have H5 := Lib.hid hOk; have H6 := Lib.hid h6; have HG := Lib.hid hgr
    have HM := Lib.hid hmg; have HVM := Lib.hid hvm; have HVG := Lib.hid hvg; have HLT := Lib.hid h3.lt; have HGL := Lib.hid h1.lt
    have hltI : (ks.length : Int) < 8 := by omega
    clear h1 h2 h3 h4 h5 h6 hgr hk1 h2' hm1 hm1' hturn hsz hsz1 hOk hr hmg hvm hvg hcd hp
    go_enter Try.func64, Try.ntmps64
    go_wp2
    go_still_tail 10, (by kernel_rfl)
    change wpList _ _ _ _ _ w.drew
    obtain ⟨d0, d1, d2, df⟩ := Blk.three H1.out
    go_wp2_with (at_builtin; go_must (refine wpList_append_own_at _ rfl (.tmp 24) (.tmp 26) 30 rfl 0 9 i0 (.string ⟨#[]⟩) 1 16 Try.underlying30 hi hz0 hz1 hz2 rfl (by decide) _ ks.length (ks.map Value.string) rfl (H2.out.alloc _) ⟨w1.heap.size, 0, none⟩ 1 1 [.string k] rfl rfl (one_new _ _ _) (one_cell rfl) (by unfold maxLen; omega) (by omega) (by simp) ?_; intro v2 w2 ho2 hg2 hnil2 hat2; obtain ⟨A2, cp2, rfl, -, -, -, -, -⟩ := own_form ho2; have HP := Lib.hid (come_push H6.out HG.out H1.out H3.out H4.out H5.out HVM.out HVG.out ho2 hg2 hat2); obtain ⟨e0, e1, e2, ef⟩ := Blk.three ((H1.out.alloc _).grown hg2 (fun h => HVG.out h.symm)); clear ho2 hg2 hnil2 hat2 d0 d1 d2 df))
    go_end0
    exact HP.out
  · obtain hl8 : ks.length = 8 := by omega
    have hcd : Dm.comeD ks e k = (ks.set e k, (e + 1) % 8) := by unfold Dm.comeD; rw [if_neg hlt]
    rw [hcd] at hOk ⊢
    simp only at hOk ⊢
    have he8 := h5.2.2.1
    obtain ⟨r, o, hA⟩ := hr.at_ (by intro h0; have := congrArg List.length h0; simp [hl8] at this)
    subst hA
    have hro : o = 0 := by
      rcases h2.2 with ⟨h9, _⟩ | ⟨g', cap, cur, h9, _⟩
      · cases h9
      · injection h9 with h9 _ _; injection h9 with h9; injection h9
    subst hro
    obtain ⟨old, hold⟩ : ∃ old, ks[e]? = some old := ⟨_, List.getElem?_eq_getElem (by omega)⟩
    have hos := h5.2.2.2.1 old (List.mem_of_getElem? hold)
    have hom : old.size ≤ maxLen := by unfold maxLen; omega
    have hrg : r ≠ g := fun h => hvg (by rw [← h]; rfl)
    have hgr : g ≠ r := fun h => hrg h.symm
    have hmr : m ≠ r := fun h => hvm (by rw [h]; rfl)
    have hcell : w.cell? ⟨r, 0 + e, none⟩ = some (.string old) := by
      obtain ⟨r', o', he, hlt, hc⟩ := hr (by intro h0; have := congrArg List.length h0; simp [hl8] at this)
      injection he with he
      injection he with e1 e2
      subst e1 e2
      exact hc e _ (by rw [List.getElem?_map, hold]; rfl)
    rw [Nat.zero_add] at hcell
    have H1 := Lib.hid h1; have H2 := Lib.hid h2; have H3 := Lib.hid h3; have H4 := Lib.hid h4; have H5 := Lib.hid hOk; have H6 := Lib.hid h6; have HP0 := Lib.hid hp; have HOLD := Lib.hid hold
    have hkt := keyS hom
    have HKT := Lib.hid hkt
    have hcnt : c ≤ 9223372036854775807 := by unfold maxLen at hcm; omega
    have hee : (e : Int) < 8 := by omega
    have hee2 : (e : Int) < (ks.length : Int) := by omega
    have hen : e < ks.length := by omega
    have HL8 := Lib.hid hl8
    have hge : ¬ (ks.length : Int) < 8 := by omega
    clear h1 h2 h3 h4 h5 h6 hsz hOk hr hvm hvg hcd hp hold hkt hl8
    go_enter Try.func64, Try.ntmps64
    go_wp2
    go_still_tail 14, (by kernel_rfl)
    change wpList _ _ _ _ _ w.drew
    go_wp2_with (at_delete; refine wpList_delete_own _ rfl (.tmp 33) (.tmp 43) 104 9 rfl 3 KS Try.underlying104 (plainElem Try.prog 3) m 8 D rfl H3.out.drew (.string old) _ rfl HKT.out ?_; intro w1 hm1 hturn1; have HM1 := Lib.hid hm1; have HT1 := Lib.hid hturn1.grown; clear hm1 hturn1)
    have K1 := Lib.hid (H1.out.drew.grown HT1.out (by intro h; injection h with h; exact hmg h.symm))
    have O1 := Lib.hid ((Only.of_grown (S := fun j => j = m) HT1.out (fun j hj => by injection hj with hj; exact hj.symm)).own (v := .slice (some ⟨r, 0, none⟩) ks.length c) (H2.out : w.drew.ownsRow 0 9 1 _ _ _) (fun j hj hjm => by injection hj with hj; exact hmr (hjm.symm.trans hj.symm)))
    obtain ⟨d0, d1, d2, df⟩ := Blk.three K1.out
    go_still_tail 9, (by kernel_rfl)
    change wpList _ _ _ _ _ w1.drew
    obtain ⟨w2, hrun2, hm2, hturn2⟩ := (HM1.out.drew).store KS Try.underlying104 (by unfold maxLen; omega) (keyS hk64) (plainI e (by omega))
    have HT2 := Lib.hid hturn2.grown
    have K2 := Lib.hid (K1.out.drew.grown HT2.out (by intro h; injection h with h; exact hmg h.symm))
    have O2 := Lib.hid ((Only.of_grown (S := fun j => j = m) HT2.out (fun j hj => by injection hj with hj; exact hj.symm)).own (v := .slice (some ⟨r, 0, none⟩) ks.length c) (O1.out : w1.drew.ownsRow 0 9 1 _ _ _) (fun j hj hjm => by injection hj with hj; exact hmr (hjm.symm.trans hj.symm)))
    have M2 := Lib.hid (map_tight hm2)
    obtain ⟨e0, e1, e2, ef⟩ := Blk.three K2.out
    obtain ⟨f1, f2⟩ := own_cell O2.out hen (u := .string old) (by rw [List.getElem?_map, HOLD.out]; rfl)
    clear hm2 hturn2
    go_wp2
    go_still_tail 10, (by kernel_rfl)
    change wpList _ _ _ _ _ w2.drew
    clear d0 d1 d2 df
    go_wp2
    go_end0
    exact come_turn H6.out H4.out HOLD.out HP0.out H5.out hmg hmr hgr HT1.out HT2.out K2.out O2.out M2.out HL8.out hee
end Go.Proofs.Ytgjkeccopjgjlaa

/- ref21.Net: Take. -/
import Derived.Test.YtahichieakdbnaaRs
namespace Go.Proofs.Ytahichieakdbnaa
open Go.ChangeShapes Go.WideShapes Go.ChangeAt Go.RowKit Go.Maps
set_option linter.unusedVariables false
set_option linter.unusedSimpArgs false

/-- what the operations of 'x.f = append(append([]T{}, x.f[:k]...), x.f[k+1:]...)' have told -/
def FT (r fo H : Nat) (t : TypeId) (sz n cp q o2 k : Nat) (xs1 xs2 : List Value) (i : Nat) (L : Nat → Bool) (v : Value) (w : World) : Prop := match i with
  | 0 => v = .pointer (some ⟨r, 0, none⟩)
  | 1 => L 8 = true ∨ ∃ b, v = .slice (some ⟨b, 0, none⟩) 0 0 ∧ H ≤ b ∧ Blk w b t #[]
  | 2 => v = .pointer (some ⟨r, 0, none⟩)
  | 3 => v = .pointer (some ⟨r, 0, none⟩)
  | 4 => v = .pointer (some ⟨r, fo, none⟩)
  | 5 => v = .slice (some ⟨q, 0, none⟩) n cp
  | 6 => v = .int .i64 (k : Int)
  | 7 => v = .slice (some ⟨q, 0, none⟩) k cp
  | 8 => L 16 = true ∨ w.ownsRow H t sz v k xs1
  | 9 => v = .pointer (some ⟨r, 0, none⟩)
  | 10 => v = .pointer (some ⟨r, 0, none⟩)
  | 11 => v = .pointer (some ⟨r, fo, none⟩)
  | 12 => v = .slice (some ⟨q, 0, none⟩) n cp
  | 13 => v = .int .i64 (k : Int)
  | 14 => v = .int .i64 ((k : Int) + 1)
  | 15 => v = .slice (some ⟨q, o2, none⟩) (n - (k + 1)) (cp - (k + 1))
  | 16 => L 19 = true ∨ w.ownsRow H t sz v (n - 1) (xs1 ++ xs2)
  | 17 => v = .pointer (some ⟨r, 0, none⟩)
  | 18 => v = .pointer (some ⟨r, fo, none⟩)
  | _ => True
namespace FT
variable {r fo H : Nat} {t : TypeId} {sz n cp q o2 k : Nat} {xs1 xs2 : List Value} {L : Nat → Bool} {v : Value} {w w' : World}
theorem keep (i : Nat) (hb : Below w.heap.size w w') (j : Nat) (h : FT r fo H t sz n cp q o2 k xs1 xs2 j L v w) : FT r fo H t sz n cp q o2 k xs1 xs2 j (Inv.upd L i) v w' := by
  unfold FT at h ⊢
  split at h
  case h_2 =>
    rcases h with h | ⟨b, h1, h2, h3⟩
    · exact .inl (upd_up h)
    · exact .inr ⟨b, h1, h2, h3.below hb h3.lt⟩
  case h_9 =>
    rcases h with h | h
    · exact .inl (upd_up h)
    · exact .inr (own_below h hb)
  case h_17 =>
    rcases h with h | h
    · exact .inl (upd_up h)
    · exact .inr (own_below h hb)
  all_goals exact h
theorem late (i : Nat) (h8 : Inv.upd L i 8 = true) (h16 : Inv.upd L i 16 = true) (j : Nat) (hj : j = 16 → Inv.upd L i 19 = true) (h : FT r fo H t sz n cp q o2 k xs1 xs2 j L v w) : FT r fo H t sz n cp q o2 k xs1 xs2 j (Inv.upd L i) v w' := by
  unfold FT at h ⊢
  split at h
  case h_2 => exact .inl h8
  case h_9 => exact .inl h16
  case h_17 => exact .inl (hj rfl)
  all_goals exact h
end FT
theorem get_of_take {xs : List Value} {m j : Nat} {u : Value} (h : (xs.take m)[j]? = some u) : xs[j]? = some u := by
  rw [List.getElem?_take] at h
  split at h
  · exact h
  · cases h
theorem get_of_drop {w : World} {base sz n cp q o2 k : Nat} {e : TypeId} {xs : List Value} (ho : w.ownsRow base e sz (.slice (some ⟨q, 0, none⟩) n cp) n xs) (hl : xs.length = n * sz) (hp : k + 1 < cp → o2 = (k + 1) * sz) {j : Nat} {u : Value} (h : (xs.drop ((k + 1) * sz))[j]? = some u) : w.cell? ((⟨q, o2, none⟩ : Addr).add j) = some u := by
  have hj := (List.getElem?_eq_some_iff.1 h).1
  rw [List.length_drop, hl] at hj
  have hkn : k + 1 < n := by
    rcases Nat.lt_or_ge (k + 1) n with h1 | h1
    · exact h1
    · have := Nat.mul_le_mul_right sz h1
      omega
  have hnc : n ≤ cp := by
    rcases ho.2 with ⟨h1, _⟩ | ⟨g, cap, cur, hv, hb, hh, hnc, r⟩
    · cases h1
    · injection hv with _ _ e3
      omega
  rw [List.getElem?_drop] at h
  rw [hp (by omega), addk2, ← addk]
  exact ho.cells (g := q) rfl _ u h
theorem sizeRL : ∀ w, (sizeOf 103).run Try.prog w = .ok 2 w := fun w => by kernel_rfl
theorem sizeBool : ∀ w, (sizeOf 4).run Try.prog w = .ok 1 w := fun w => by kernel_rfl
def RTkPost (w : World) (r : Nat) (X : Nat → Prop) (vL0 : Value) (p : (Let × Bool) × List Snt) (en : Ending) (w' : World) : Prop :=
  ∃ A c, en = .returned (.tuple #[.agg #[.int .i64 p.1.1.1, .slice A p.1.1.2.length c], .bool p.1.2]) ∧ MadeO w' X (.slice A p.1.1.2.length c) p.1.1.2 p.1.1.2.length ∧ ∃ vL vSp, RN w' r X vL vSp p.2 ∧ Only (fun j => j = r) w w' ∧ (∀ j, vL.ownBlock = some j → vL0.ownBlock = some j ∨ w.heap.size ≤ j)
theorem rtake_ret {W : World} {a : Act} {Z : Nat} {to : Int} {A : Option Addr} {nb c : Nat} {b : Bool} {Post : Ending → World → Prop} (r0 : W.cell? ⟨Z, 0, none⟩ = some (.int .i64 to)) (r1 : W.cell? ⟨Z, 1, none⟩ = some (.slice A nb c)) (h4 : a.tmps[4]?.getD undef = .pointer (some ⟨Z, 0, none⟩)) (h5 : a.tmps[5]?.getD undef = .bool b) (hd : a.defers = [])
    (hP : Post (.returned (.tuple #[.agg #[.int .i64 to, .slice A nb c], .bool b])) W) : bodyPost Try.prog Try.f57 Post Exit.ret a W := by
  refine bodyPost_ret (v := .tuple #[.agg #[.int .i64 to, .slice A nb c], .bool b]) (by simp [results, Try.results57, go_sem, h4, h5, r0, r1]) hd hP
theorem bls_take (row : List Snt) (k : Nat) : bls (row.take k) = (bls row).take k := by simp [bls, List.map_take]
theorem bls_erase (row : List Snt) (k : Nat) : bls (row.eraseIdx k) = (bls row).take (k * 1) ++ (bls row).drop ((k + 1) * 1) := by
  simp [bls, List.eraseIdx_eq_take_drop_succ, List.map_take, List.map_drop]
theorem fl2_erase (ms : Mlet) (k : Nat) : fl2 (ms.eraseIdx k) = (fl2 ms).take (k * 2) ++ (fl2 ms).drop ((k + 1) * 2) := by
  rw [List.eraseIdx_eq_take_drop_succ, fl2_append, fl2_take, fl2_drop]
set_option maxHeartbeats 3000000 in
set_option maxRecDepth 100000 in
theorem RTake_any (w : World) (r : Nat) (X : Nat → Prop) (vL vSp : Value) (row : List Snt) (i : Int) (h : RN w r X vL vSp row) (hXr : X r) (hXl : ∀ j, X j → j < w.heap.size) (hi0 : -9223372036854775808 ≤ i) (hi1 : i ≤ 9223372036854775807) (hrl : row.length ≤ 64) :
    Calls Try.prog 57 #[.pointer (some ⟨r, 0, none⟩), .int .i64 i] w (RTkPost w r X vL (Nm.take row i)) := by
  obtain ⟨v0, hv0⟩ : ∃ v0, vL = v0 := ⟨_, rfl⟩
  have HV0 := Lib.hid hv0
  rw [hv0]
  clear hv0
  obtain ⟨i0, hi, hz0, hz1, hz2⟩ := info_parts infoRLet
  obtain ⟨j0, hj, hy0, hy1, hy2⟩ := info_parts infoBool
  have hB := (Below.refl w.heap.size w).alloc (Nat.le_refl _) (.cells z3 103)
  have HB := Lib.hid hB
  have H0 := Lib.hid h
  have HC := Lib.hid (Rplc_any (w.alloc (.cells z3 103)) r X vL vSp row i (h.below hB) hi0 hi1 hrl)
  have HZ := Lib.hid (Blk.new w 103 z3)
  unfold RplcPost at HC
  unfold Nm.take
  cases hp : Nm.plc row i with
  | none =>
    rw [hp] at HC
    simp only at HC ⊢
    have HP := Lib.hid (show RTkPost w r X v0 (((0, []), false), row) (.returned (.tuple #[.agg #[.int .i64 0, .slice none 0 0], .bool false])) (w.alloc (.cells #[.int .i64 0, .slice none 0 0] 103)) from
      ⟨none, 0, rfl, ⟨made_none _, fun g o n c hv => by cases hv⟩, _, _, H0.out.below HB.out, Only.of_below HB.out, fun j hj => .inl (by rw [← HV0.out]; exact hj)⟩)
    clear h hp hB
    go_enter Try.func57, Try.ntmps57
    go_wp2_with fail
    refine HC.out.mono ?_
    rintro en w1 ⟨rfl, rfl⟩
    go_wp2
    try simp only [Exit.inBlock, Exit.then]
    refine bodyPost_ret (v := .tuple #[.agg #[.int .i64 0, .slice none 0 0], .bool false]) (by simp [results, Try.results57, go_sem, *]) rfl HP.out
  | some k =>
    rw [hp] at HC
    simp only at HC ⊢
    obtain ⟨hk, -, -⟩ := Nm.plc_lt hp
    have hkr := H0.out.1
    obtain ⟨ms, hms, h2⟩ := h.ms
    have h3 := h.2.2
    have hneL := h.neL
    have hneS := h.neS
    have hrw : r < w.heap.size := h.1.lt
    obtain ⟨q, cL, rfl, -, hql⟩ := h2.form (by omega)
    obtain ⟨q2, cS, rfl, -, hql2⟩ := h3.form (by omega)
    have hkl : k < (row.map (·.1)).length := by rw [List.length_map]; exact hk
    obtain ⟨to, A, c, bs, e1, e2, e3⟩ : ∃ to A c bs, (row.map (·.1))[k]? = some (to, bs) ∧ ms[k]? = some (to, .slice A bs.length c) ∧ MadeO w X (.slice A bs.length c) bs bs.length := by
      have hx : (row.map (·.1))[k]? = some ((row.map (·.1))[k]) := List.getElem?_eq_getElem hkl
      have hm : ms[k]? = some (ms[k]'(by rw [hms.1]; exact hkl)) := List.getElem?_eq_getElem _
      obtain ⟨h5, h6⟩ := hms.2 k _ _ hm hx
      obtain ⟨A, c, hv, -⟩ := id h6.1
      rw [hv] at h6
      exact ⟨_, A, c, _, hx, by rw [hm]; exact congrArg some (Prod.ext h5 hv), h6⟩
    have hx : (row[k]?.getD Nm.s0).1 = (to, bs) := by
      rw [List.getElem?_map] at e1
      cases h7 : row[k]? with
      | none => rw [h7] at e1; cases e1
      | some y => rw [h7] at e1; simpa using e1
    obtain ⟨nr, hnr⟩ : ∃ q, row.length = q := ⟨_, rfl⟩
    rw [hnr] at h2 h3 hkr hneL hneS hrl hk
    obtain ⟨nb, hnb⟩ : ∃ q, bs.length = q := ⟨_, rfl⟩
    have hc := fl2_get ms k _ e2
    have hcell := fun j u hu => (addk q (k * 2 + j)) ▸ h2.cells (g := q) rfl (k * 2 + j) u (hc j u hu)
    have b0 := hcell 0 _ rfl
    have b1 := hcell 1 _ rfl
    simp only [Nat.add_zero] at b0
    simp only [hnb] at b1
    have hncL : nr ≤ cL ∧ nr ≤ cS := by
      constructor
      · rcases h2.2 with ⟨h1, _⟩ | ⟨g, cap, cur, hv, hb, hh, hnc, r⟩
        · cases h1
        · injection hv with _ _ e3; omega
      · rcases h3.2 with ⟨h1, _⟩ | ⟨g, cap, cur, hv, hb, hh, hnc, r⟩
        · cases h1
        · injection hv with _ _ e3; omega
    obtain ⟨o2, hsl, hp2⟩ := sl_fromS 92 103 2 Try.underlying92 sizeRL q nr cL (k + 1) (by omega) hncL.1
    obtain ⟨o3, hsl3, hp3⟩ := sl_fromS 93 4 1 Try.underlying93 sizeBool q2 nr cS (k + 1) (by omega) hncL.2
    have HSH := Lib.hid (sl_hS 92 103 2 Try.underlying92 sizeRL q nr cL k (by omega))
    have HSH3 := Lib.hid (sl_hS 93 4 1 Try.underlying93 sizeBool q2 nr cS k (by omega))
    push_cast at hsl hsl3
    have HSL := Lib.hid hsl; have HSL3 := Lib.hid hsl3; have HP2 := Lib.hid hp2; have HP3 := Lib.hid hp3
    have H2 := Lib.hid h2; have H3 := Lib.hid h3; have HMS := Lib.hid hms; have HNL := Lib.hid hneL; have HNS := Lib.hid hneS; have HNR := Lib.hid hnr; have HNB := Lib.hid hnb; have HX := Lib.hid hx; have E3 := Lib.hid e3; have HK := Lib.hid hkr; have HKL := Lib.hid hkl
    have HL2 : Hid ((fl2 ms).length = nr * 2) := Lib.hid (by rw [fl2_length, hms.1, List.length_map, hnr])
    have HL3 : Hid ((bls row).length = nr * 1) := Lib.hid (by rw [bls_length, hnr]; omega)
    have a0 := hkr.cell 0
    have a1 := hkr.cell 1
    simp at a0 a1
    have hkI : ¬ (k : Int) < 0 := by omega
    have hkI2 : (k : Int) < (nr : Int) := by omega
    have hwr : IntKind.i64.wrap ((k : Int) + 1) = (k : Int) + 1 := IntWalk.i64_in _ ⟨by omega, by omega⟩
    clear h hp hB h2 h3 hms hneL hneS hnr hnb hx e1 e2 e3 hkr hkl hc hcell hsl hsl3 hp2 hp3
    go_enter Try.func57, Try.ntmps57
    go_wp2_with fail
    refine HC.out.mono ?_
    rintro en w1 ⟨rfl, rfl⟩
    go_wp2
    obtain ⟨W, hW⟩ : ∃ W, (w.alloc (.cells #[.int .i64 0, .slice none 0 0] 103)).alloc (.cells #[.int .i64 to, .slice A nb c] 103) = W := ⟨_, rfl⟩
    try rw [hW]
    have hbW : Below w.heap.size w W := by rw [← hW]; exact HB.out.alloc (by simp) _
    have BW := Lib.hid hbW
    have KW := Lib.hid (HK.out.below hbW hrw)
    have Z1 : Hid (Blk W w.heap.size 103 #[.int .i64 0, .slice none 0 0]) := Lib.hid (by rw [← hW]; exact HZ.out.alloc _)
    have L1 : Hid (Blk W (w.heap.size + 1) 103 #[.int .i64 to, .slice A nb c]) := Lib.hid (by rw [← hW]; exact Blk.new' (w.alloc (.cells #[.int .i64 0, .slice none 0 0] 103)) 103 #[.int .i64 to, .slice A nb c] (by simp))
    have HWS : Hid (W.heap.size = w.heap.size + 2) := Lib.hid (by rw [← hW]; simp)
    have O2 := Lib.hid (own_below H2.out hbW); have O3 := Lib.hid (own_below H3.out hbW)
    have hle0 := Lib.hid hbW.size
    clear hW hbW a0 a1 b0 b1
    refine Inv.region_genL (FT r 0 W.heap.size 103 2 nr cL q o2 k ((fl2 ms).take (k * 2)) ((fl2 ms).drop ((k + 1) * 2))) (CK W r 19 0 95 #[.slice (some ⟨q, 0, none⟩) nr cL, .slice (some ⟨q2, 0, none⟩) nr cS] W.heap.size 103 2 (nr - 1) (((fl2 ms).take (k * 2)) ++ ((fl2 ms).drop ((k + 1) * 2)))) 60 [21, 22, 23, 24, 25, 26, 27, 28, 29, 30, 31, 32, 33, 34, 35, 36, 37, 38, 39] (by kernel_rfl) rfl (by kernel_rfl) (by kernel_rfl) ?_ ?_ ?_
    · exact CK.start KW.out
    · refine ⟨?_, ?_, ?_, ?_, ?_, ?_, ?_, ?_, ?_, ?_, ?_, ?_, ?_, ?_, ?_, ?_, ?_, ?_, ?_, ?_, trivial⟩
      · intro act wa L hC hd hLi hLa hLb HF O K hK
        clear hd
        have hsz := hC.1.size
        have h0 := O 0 (by kernel_rfl)
        try have g0 := Array.getD_eq_getD_getElem?.symm.trans h0
        go_simp
        exact hK _ _ (hC.keep 0 (by decide) (Below.refl wa.heap.size wa)) (fun j d _ _ _ h => FT.keep 0 (Below.refl wa.heap.size wa) _ h) (fun _ => rfl)
      · intro act wa L hC hd hLi hLa hLb HF O K hK
        clear hd
        have hsz := hC.1.size
        go_simp
        exact hK _ _ (hC.keep 1 (by decide) ((Below.refl wa.heap.size wa).alloc (Nat.le_refl _) _)) (fun j d _ _ _ h => FT.keep 1 ((Below.refl wa.heap.size wa).alloc (Nat.le_refl _) _) _ h) (fun _ => .inr ⟨wa.heap.size, rfl, hsz, Blk.new wa _ _⟩)
      · intro act wa L hC hd hLi hLa hLb HF O K hK
        clear hd
        have hsz := hC.1.size
        have h0 := O 0 (by kernel_rfl)
        try have g0 := Array.getD_eq_getD_getElem?.symm.trans h0
        go_simp
        exact hK _ _ (hC.keep 2 (by decide) (Below.refl wa.heap.size wa)) (fun j d _ _ _ h => FT.keep 2 (Below.refl wa.heap.size wa) _ h) (fun _ => rfl)
      · intro act wa L hC hd hLi hLa hLb HF O K hK
        clear hd
        have hsz := hC.1.size
        have h23 := HF 2 23 (hLa 1 2 (by kernel_rfl)) rfl
        dsimp only [FT] at h23
        try have g23 := Array.getD_eq_getD_getElem?.symm.trans h23
        go_simp
        exact hK _ _ (hC.keep 3 (by decide) (Below.refl wa.heap.size wa)) (fun j d _ _ _ h => FT.keep 3 (Below.refl wa.heap.size wa) _ h) (fun _ => rfl)
      · intro act wa L hC hd hLi hLa hLb HF O K hK
        clear hd
        have hsz := hC.1.size
        have h24 := HF 3 24 (hLa 1 3 (by kernel_rfl)) rfl
        dsimp only [FT] at h24
        try have g24 := Array.getD_eq_getD_getElem?.symm.trans h24
        go_simp
        exact hK _ _ (hC.keep 4 (by decide) (Below.refl wa.heap.size wa)) (fun j d _ _ _ h => FT.keep 4 (Below.refl wa.heap.size wa) _ h) (fun _ => rfl)
      · intro act wa L hC hd hLi hLa hLb HF O K hK
        clear hd
        have hsz := hC.1.size
        have h25 := HF 4 25 (hLa 1 4 (by kernel_rfl)) rfl
        dsimp only [FT] at h25
        try have g25 := Array.getD_eq_getD_getElem?.symm.trans h25
        have l19 : L 19 = false := hLb 6 19 (by kernel_rfl)
        have kk := (hC.2.1 l19).cell 0
        have kl := (hC.2.1 l19).lt
        simp at kk
        go_simp
        exact hK _ _ (hC.keep 5 (by decide) (Below.refl wa.heap.size wa)) (fun j d _ _ _ h => FT.keep 5 (Below.refl wa.heap.size wa) _ h) (fun _ => rfl)
      · intro act wa L hC hd hLi hLa hLb HF O K hK
        clear hd
        have hsz := hC.1.size
        have h6 := O 6 (by kernel_rfl)
        try have g6 := Array.getD_eq_getD_getElem?.symm.trans h6
        go_simp
        exact hK _ _ (hC.keep 6 (by decide) (Below.refl wa.heap.size wa)) (fun j d _ _ _ h => FT.keep 6 (Below.refl wa.heap.size wa) _ h) (fun _ => rfl)
      · intro act wa L hC hd hLi hLa hLb HF O K hK
        clear hd
        have hsz := hC.1.size
        have h26 := HF 5 26 (hLa 1 5 (by kernel_rfl)) rfl
        dsimp only [FT] at h26
        try have g26 := Array.getD_eq_getD_getElem?.symm.trans h26
        have h27 := HF 6 27 (hLa 1 6 (by kernel_rfl)) rfl
        dsimp only [FT] at h27
        try have g27 := Array.getD_eq_getD_getElem?.symm.trans h27
        have hs5 := HSH.out
        go_simp
        exact hK _ _ (hC.keep 7 (by decide) (Below.refl wa.heap.size wa)) (fun j d _ _ _ h => FT.keep 7 (Below.refl wa.heap.size wa) _ h) (fun _ => rfl)
      · intro act wa L hC hd hLi hLa hLb HF O K hK
        clear hd
        have hsz := hC.1.size
        have h22 := HF 1 22 (hLa 1 1 (by kernel_rfl)) rfl
        dsimp only [FT] at h22
        try have g22 := Array.getD_eq_getD_getElem?.symm.trans h22
        have h28 := HF 7 28 (hLa 1 7 (by kernel_rfl)) rfl
        dsimp only [FT] at h28
        try have g28 := Array.getD_eq_getD_getElem?.symm.trans h28
        rcases h22 with hh | ⟨b, hvl, hHb, hbk⟩
        · rw [hLi] at hh; cases hh
        refine step_app0 (w := wa) rfl (.tmp 22) (.tmp 28) 92 rfl W.heap.size 103 i0 (.agg #[.int .i64 0, .slice none 0 0]) 2 32 Try.underlying92 hi hz0 hz1 hz2 rfl (by decide) b hvl hbk hHb (some ⟨q, 0, none⟩) k cL ((fl2 ms).take (k * 2)) h28 (by have := HL2.out; rw [List.length_take]; omega) (.inr ⟨_, rfl, fun j u hu => (hC.1.own O2.out HNL.out).cells (g := q) rfl j u (get_of_take hu)⟩) (fun u hu => HMS.out.one_cell u (List.mem_of_mem_take hu)) (by unfold maxLen; omega) (by omega) ?_
        intro v' w' ho hb hne
        exact hK _ _ (hC.keep 8 (by decide) hb) (fun j d _ _ _ h => FT.keep 8 hb _ h) (fun _ => .inr ho)
      · intro act wa L hC hd hLi hLa hLb HF O K hK
        clear hd
        have hsz := hC.1.size
        have h0 := O 0 (by kernel_rfl)
        try have g0 := Array.getD_eq_getD_getElem?.symm.trans h0
        go_simp
        exact hK _ _ (hC.keep 9 (by decide) (Below.refl wa.heap.size wa)) (fun j d _ _ _ h => FT.keep 9 (Below.refl wa.heap.size wa) _ h) (fun _ => rfl)
      · intro act wa L hC hd hLi hLa hLb HF O K hK
        clear hd
        have hsz := hC.1.size
        have h30 := HF 9 30 (hLa 1 9 (by kernel_rfl)) rfl
        dsimp only [FT] at h30
        try have g30 := Array.getD_eq_getD_getElem?.symm.trans h30
        go_simp
        exact hK _ _ (hC.keep 10 (by decide) (Below.refl wa.heap.size wa)) (fun j d _ _ _ h => FT.keep 10 (Below.refl wa.heap.size wa) _ h) (fun _ => rfl)
      · intro act wa L hC hd hLi hLa hLb HF O K hK
        clear hd
        have hsz := hC.1.size
        have h31 := HF 10 31 (hLa 1 10 (by kernel_rfl)) rfl
        dsimp only [FT] at h31
        try have g31 := Array.getD_eq_getD_getElem?.symm.trans h31
        go_simp
        exact hK _ _ (hC.keep 11 (by decide) (Below.refl wa.heap.size wa)) (fun j d _ _ _ h => FT.keep 11 (Below.refl wa.heap.size wa) _ h) (fun _ => rfl)
      · intro act wa L hC hd hLi hLa hLb HF O K hK
        clear hd
        have hsz := hC.1.size
        have h32 := HF 11 32 (hLa 1 11 (by kernel_rfl)) rfl
        dsimp only [FT] at h32
        try have g32 := Array.getD_eq_getD_getElem?.symm.trans h32
        have l19 : L 19 = false := hLb 6 19 (by kernel_rfl)
        have kk := (hC.2.1 l19).cell 0
        have kl := (hC.2.1 l19).lt
        simp at kk
        go_simp
        exact hK _ _ (hC.keep 12 (by decide) (Below.refl wa.heap.size wa)) (fun j d _ _ _ h => FT.keep 12 (Below.refl wa.heap.size wa) _ h) (fun _ => rfl)
      · intro act wa L hC hd hLi hLa hLb HF O K hK
        clear hd
        have hsz := hC.1.size
        have h6 := O 6 (by kernel_rfl)
        try have g6 := Array.getD_eq_getD_getElem?.symm.trans h6
        go_simp
        exact hK _ _ (hC.keep 13 (by decide) (Below.refl wa.heap.size wa)) (fun j d _ _ _ h => FT.keep 13 (Below.refl wa.heap.size wa) _ h) (fun _ => rfl)
      · intro act wa L hC hd hLi hLa hLb HF O K hK
        clear hd
        have hsz := hC.1.size
        have h34 := HF 13 34 (hLa 1 13 (by kernel_rfl)) rfl
        dsimp only [FT] at h34
        try have g34 := Array.getD_eq_getD_getElem?.symm.trans h34
        go_simp
        exact hK _ _ (hC.keep 14 (by decide) (Below.refl wa.heap.size wa)) (fun j d _ _ _ h => FT.keep 14 (Below.refl wa.heap.size wa) _ h) (fun _ => rfl)
      · intro act wa L hC hd hLi hLa hLb HF O K hK
        clear hd
        have hsz := hC.1.size
        have h33 := HF 12 33 (hLa 1 12 (by kernel_rfl)) rfl
        dsimp only [FT] at h33
        try have g33 := Array.getD_eq_getD_getElem?.symm.trans h33
        have h35 := HF 14 35 (hLa 1 14 (by kernel_rfl)) rfl
        dsimp only [FT] at h35
        try have g35 := Array.getD_eq_getD_getElem?.symm.trans h35
        have hs5 := HSL.out
        go_simp
        exact hK _ _ (hC.keep 15 (by decide) (Below.refl wa.heap.size wa)) (fun j d _ _ _ h => FT.keep 15 (Below.refl wa.heap.size wa) _ h) (fun _ => rfl)
      · intro act wa L hC hd hLi hLa hLb HF O K hK
        clear hd
        have hsz := hC.1.size
        have h29 := HF 8 29 (hLa 1 8 (by kernel_rfl)) rfl
        dsimp only [FT] at h29
        try have g29 := Array.getD_eq_getD_getElem?.symm.trans h29
        have h36 := HF 15 36 (hLa 1 15 (by kernel_rfl)) rfl
        dsimp only [FT] at h36
        try have g36 := Array.getD_eq_getD_getElem?.symm.trans h36
        have l19 : L 19 = false := hLb 6 19 (by kernel_rfl)
        have l8 : L 8 = true := hLa 6 8 (by kernel_rfl)
        rcases h29 with hh | ho0
        · rw [hLi] at hh; cases hh
        refine step_app_at (w := wa) rfl (.tmp 29) (.tmp 36) 92 rfl W.heap.size 103 i0 (.agg #[.int .i64 0, .slice none 0 0]) 2 32 Try.underlying92 hi hz0 hz1 hz2 rfl (by decide) _ k ((fl2 ms).take (k * 2)) rfl ho0 (some ⟨q, o2, none⟩) (nr - (k + 1)) (cL - (k + 1)) ((fl2 ms).drop ((k + 1) * 2)) h36 (by have := HL2.out; rw [List.length_drop]; omega) (.inr ⟨_, rfl, fun j u hu => get_of_drop (hC.1.own O2.out HNL.out) HL2.out HP2.out hu⟩) (fun u hu => HMS.out.one_cell u (List.mem_of_mem_drop hu)) (by unfold maxLen; omega) (by omega) hsz ?_
        intro v' w' ho hg hat
        have ee : k + (nr - (k + 1)) = nr - 1 := (by omega)
        rw [ee] at ho
        exact hK _ _ (hC.app 16 (by decide) l19 ho0 hg (Nat.lt_of_lt_of_le hrw hle0.out) (Nat.le_refl _)) (fun j d hne _ _ h => FT.late 16 (upd_up l8) (Inv.upd_same L 16) j (fun e => absurd e hne) h) (fun _ => .inr ho)
      · intro act wa L hC hd hLi hLa hLb HF O K hK
        clear hd
        have hsz := hC.1.size
        have h21 := HF 0 21 (hLa 1 0 (by kernel_rfl)) rfl
        dsimp only [FT] at h21
        try have g21 := Array.getD_eq_getD_getElem?.symm.trans h21
        go_simp
        exact hK _ _ (hC.keep 17 (by decide) (Below.refl wa.heap.size wa)) (fun j d _ _ _ h => FT.keep 17 (Below.refl wa.heap.size wa) _ h) (fun _ => rfl)
      · intro act wa L hC hd hLi hLa hLb HF O K hK
        clear hd
        have hsz := hC.1.size
        have h38 := HF 17 38 (hLa 1 17 (by kernel_rfl)) rfl
        dsimp only [FT] at h38
        try have g38 := Array.getD_eq_getD_getElem?.symm.trans h38
        go_simp
        exact hK _ _ (hC.keep 18 (by decide) (Below.refl wa.heap.size wa)) (fun j d _ _ _ h => FT.keep 18 (Below.refl wa.heap.size wa) _ h) (fun _ => rfl)
      · intro act wa L hC hd hLi hLa hLb HF O K hK
        clear hd
        have hsz := hC.1.size
        have h39 := HF 18 39 (hLa 1 18 (by kernel_rfl)) rfl
        dsimp only [FT] at h39
        try have g39 := Array.getD_eq_getD_getElem?.symm.trans h39
        have h37 := HF 16 37 (hLa 1 16 (by kernel_rfl)) rfl
        dsimp only [FT] at h37
        try have g37 := Array.getD_eq_getD_getElem?.symm.trans h37
        have l8 : L 8 = true := hLa 6 8 (by kernel_rfl)
        have l16 : L 16 = true := hLa 6 16 (by kernel_rfl)
        rcases h37 with hh | ho0
        · rw [hLi] at hh; cases hh
        obtain ⟨A9, c9, hv9⟩ := own_sl ho0
        have kf := (hC.2.1 hLi).frozen 0
        have kl := (hC.2.1 hLi).lt
        have kk := (hC.2.1 hLi).cell 0
        simp at kk
        try have g37 := Array.getD_eq_getD_getElem?.symm.trans hv9
        rw [hv9] at ho0
        go_simp
        exact hK undef _ (hC.store hLi ho0 (Nat.lt_of_lt_of_le hrw hle0.out)) (fun j d hne _ _ h => FT.late 19 (upd_up l8) (upd_up l16) j (fun _ => Inv.upd_same L 19) h) (fun h => absurd rfl h)
    · intro us w' hC HF
      clear HF
      simp only [List.foldl]
      go_simp
      obtain ⟨LL, hLL, hO, -, hst⟩ := hC
      obtain ⟨v3, hk3, ho3⟩ := hst (hLL 19 (by decide))
      obtain ⟨A3, c3, rfl⟩ := own_sl ho3
      have OW := Lib.hid hO; have HO3 := Lib.hid ho3
      have K3 : Hid (Blk w' r 95 #[.slice A3 (nr - 1) c3, .slice (some ⟨q2, 0, none⟩) nr cS]) := Lib.hid (by simpa using hk3)
      have O4 := Lib.hid (hO.own O3.out HNS.out)
      have hle1 := Lib.hid (Nat.le_trans hle0.out hO.size)
      clear hst hLL hk3 ho3 hO
      obtain ⟨W2, hW2⟩ : ∃ W2, w' = W2 := ⟨_, rfl⟩
      rw [hW2] at OW HO3 K3 O4 hle1 ⊢
      clear hW2
      go_wp2
      refine Inv.region_genL (FT r 1 W2.heap.size 4 1 nr cS q2 o3 k ((bls row).take (k * 1)) ((bls row).drop ((k + 1) * 1))) (CK W2 r 19 1 95 #[.slice A3 (nr - 1) c3, .slice (some ⟨q2, 0, none⟩) nr cS] W2.heap.size 4 1 (nr - 1) (((bls row).take (k * 1)) ++ ((bls row).drop ((k + 1) * 1)))) 60 [40, 41, 42, 43, 44, 45, 46, 47, 48, 49, 50, 51, 52, 53, 54, 55, 56, 57, 58] (by kernel_rfl) rfl (by kernel_rfl) (by kernel_rfl) ?_ ?_ ?_
      · exact CK.start K3.out
      · refine ⟨?_, ?_, ?_, ?_, ?_, ?_, ?_, ?_, ?_, ?_, ?_, ?_, ?_, ?_, ?_, ?_, ?_, ?_, ?_, ?_, trivial⟩
        · intro act wa L hC hd hLi hLa hLb HF O K hK
          clear hd
          have hsz := hC.1.size
          have h0 := O 0 (by kernel_rfl)
          try have g0 := Array.getD_eq_getD_getElem?.symm.trans h0
          go_simp
          exact hK _ _ (hC.keep 0 (by decide) (Below.refl wa.heap.size wa)) (fun j d _ _ _ h => FT.keep 0 (Below.refl wa.heap.size wa) _ h) (fun _ => rfl)
        · intro act wa L hC hd hLi hLa hLb HF O K hK
          clear hd
          have hsz := hC.1.size
          go_simp
          exact hK _ _ (hC.keep 1 (by decide) ((Below.refl wa.heap.size wa).alloc (Nat.le_refl _) _)) (fun j d _ _ _ h => FT.keep 1 ((Below.refl wa.heap.size wa).alloc (Nat.le_refl _) _) _ h) (fun _ => .inr ⟨wa.heap.size, rfl, hsz, Blk.new wa _ _⟩)
        · intro act wa L hC hd hLi hLa hLb HF O K hK
          clear hd
          have hsz := hC.1.size
          have h0 := O 0 (by kernel_rfl)
          try have g0 := Array.getD_eq_getD_getElem?.symm.trans h0
          go_simp
          exact hK _ _ (hC.keep 2 (by decide) (Below.refl wa.heap.size wa)) (fun j d _ _ _ h => FT.keep 2 (Below.refl wa.heap.size wa) _ h) (fun _ => rfl)
        · intro act wa L hC hd hLi hLa hLb HF O K hK
          clear hd
          have hsz := hC.1.size
          have h42 := HF 2 42 (hLa 1 2 (by kernel_rfl)) rfl
          dsimp only [FT] at h42
          try have g42 := Array.getD_eq_getD_getElem?.symm.trans h42
          go_simp
          exact hK _ _ (hC.keep 3 (by decide) (Below.refl wa.heap.size wa)) (fun j d _ _ _ h => FT.keep 3 (Below.refl wa.heap.size wa) _ h) (fun _ => rfl)
        · intro act wa L hC hd hLi hLa hLb HF O K hK
          clear hd
          have hsz := hC.1.size
          have h43 := HF 3 43 (hLa 1 3 (by kernel_rfl)) rfl
          dsimp only [FT] at h43
          try have g43 := Array.getD_eq_getD_getElem?.symm.trans h43
          go_simp
          exact hK _ _ (hC.keep 4 (by decide) (Below.refl wa.heap.size wa)) (fun j d _ _ _ h => FT.keep 4 (Below.refl wa.heap.size wa) _ h) (fun _ => rfl)
        · intro act wa L hC hd hLi hLa hLb HF O K hK
          clear hd
          have hsz := hC.1.size
          have h44 := HF 4 44 (hLa 1 4 (by kernel_rfl)) rfl
          dsimp only [FT] at h44
          try have g44 := Array.getD_eq_getD_getElem?.symm.trans h44
          have l19 : L 19 = false := hLb 6 19 (by kernel_rfl)
          have kk := (hC.2.1 l19).cell 1
          have kl := (hC.2.1 l19).lt
          simp at kk
          go_simp
          exact hK _ _ (hC.keep 5 (by decide) (Below.refl wa.heap.size wa)) (fun j d _ _ _ h => FT.keep 5 (Below.refl wa.heap.size wa) _ h) (fun _ => rfl)
        · intro act wa L hC hd hLi hLa hLb HF O K hK
          clear hd
          have hsz := hC.1.size
          have h6 := O 6 (by kernel_rfl)
          try have g6 := Array.getD_eq_getD_getElem?.symm.trans h6
          go_simp
          exact hK _ _ (hC.keep 6 (by decide) (Below.refl wa.heap.size wa)) (fun j d _ _ _ h => FT.keep 6 (Below.refl wa.heap.size wa) _ h) (fun _ => rfl)
        · intro act wa L hC hd hLi hLa hLb HF O K hK
          clear hd
          have hsz := hC.1.size
          have h45 := HF 5 45 (hLa 1 5 (by kernel_rfl)) rfl
          dsimp only [FT] at h45
          try have g45 := Array.getD_eq_getD_getElem?.symm.trans h45
          have h46 := HF 6 46 (hLa 1 6 (by kernel_rfl)) rfl
          dsimp only [FT] at h46
          try have g46 := Array.getD_eq_getD_getElem?.symm.trans h46
          have hs5 := HSH3.out
          go_simp
          exact hK _ _ (hC.keep 7 (by decide) (Below.refl wa.heap.size wa)) (fun j d _ _ _ h => FT.keep 7 (Below.refl wa.heap.size wa) _ h) (fun _ => rfl)
        · intro act wa L hC hd hLi hLa hLb HF O K hK
          clear hd
          have hsz := hC.1.size
          have h41 := HF 1 41 (hLa 1 1 (by kernel_rfl)) rfl
          dsimp only [FT] at h41
          try have g41 := Array.getD_eq_getD_getElem?.symm.trans h41
          have h47 := HF 7 47 (hLa 1 7 (by kernel_rfl)) rfl
          dsimp only [FT] at h47
          try have g47 := Array.getD_eq_getD_getElem?.symm.trans h47
          rcases h41 with hh | ⟨b, hvl, hHb, hbk⟩
          · rw [hLi] at hh; cases hh
          refine step_app0 (w := wa) rfl (.tmp 41) (.tmp 47) 93 rfl W2.heap.size 4 j0 (.bool false) 1 1 Try.underlying93 hj hy0 hy1 hy2 rfl (by decide) b hvl hbk hHb (some ⟨q2, 0, none⟩) k cS ((bls row).take (k * 1)) h47 (by have := HL3.out; rw [List.length_take]; omega) (.inr ⟨_, rfl, fun j u hu => (hC.1.own O4.out HNS.out).cells (g := q2) rfl j u (get_of_take hu)⟩) (fun u hu => bls_one row u (List.mem_of_mem_take hu)) (by unfold maxLen; omega) (by omega) ?_
          intro v' w' ho hb hne
          exact hK _ _ (hC.keep 8 (by decide) hb) (fun j d _ _ _ h => FT.keep 8 hb _ h) (fun _ => .inr ho)
        · intro act wa L hC hd hLi hLa hLb HF O K hK
          clear hd
          have hsz := hC.1.size
          have h0 := O 0 (by kernel_rfl)
          try have g0 := Array.getD_eq_getD_getElem?.symm.trans h0
          go_simp
          exact hK _ _ (hC.keep 9 (by decide) (Below.refl wa.heap.size wa)) (fun j d _ _ _ h => FT.keep 9 (Below.refl wa.heap.size wa) _ h) (fun _ => rfl)
        · intro act wa L hC hd hLi hLa hLb HF O K hK
          clear hd
          have hsz := hC.1.size
          have h49 := HF 9 49 (hLa 1 9 (by kernel_rfl)) rfl
          dsimp only [FT] at h49
          try have g49 := Array.getD_eq_getD_getElem?.symm.trans h49
          go_simp
          exact hK _ _ (hC.keep 10 (by decide) (Below.refl wa.heap.size wa)) (fun j d _ _ _ h => FT.keep 10 (Below.refl wa.heap.size wa) _ h) (fun _ => rfl)
        · intro act wa L hC hd hLi hLa hLb HF O K hK
          clear hd
          have hsz := hC.1.size
          have h50 := HF 10 50 (hLa 1 10 (by kernel_rfl)) rfl
          dsimp only [FT] at h50
          try have g50 := Array.getD_eq_getD_getElem?.symm.trans h50
          go_simp
          exact hK _ _ (hC.keep 11 (by decide) (Below.refl wa.heap.size wa)) (fun j d _ _ _ h => FT.keep 11 (Below.refl wa.heap.size wa) _ h) (fun _ => rfl)
        · intro act wa L hC hd hLi hLa hLb HF O K hK
          clear hd
          have hsz := hC.1.size
          have h51 := HF 11 51 (hLa 1 11 (by kernel_rfl)) rfl
          dsimp only [FT] at h51
          try have g51 := Array.getD_eq_getD_getElem?.symm.trans h51
          have l19 : L 19 = false := hLb 6 19 (by kernel_rfl)
          have kk := (hC.2.1 l19).cell 1
          have kl := (hC.2.1 l19).lt
          simp at kk
          go_simp
          exact hK _ _ (hC.keep 12 (by decide) (Below.refl wa.heap.size wa)) (fun j d _ _ _ h => FT.keep 12 (Below.refl wa.heap.size wa) _ h) (fun _ => rfl)
        · intro act wa L hC hd hLi hLa hLb HF O K hK
          clear hd
          have hsz := hC.1.size
          have h6 := O 6 (by kernel_rfl)
          try have g6 := Array.getD_eq_getD_getElem?.symm.trans h6
          go_simp
          exact hK _ _ (hC.keep 13 (by decide) (Below.refl wa.heap.size wa)) (fun j d _ _ _ h => FT.keep 13 (Below.refl wa.heap.size wa) _ h) (fun _ => rfl)
        · intro act wa L hC hd hLi hLa hLb HF O K hK
          clear hd
          have hsz := hC.1.size
          have h53 := HF 13 53 (hLa 1 13 (by kernel_rfl)) rfl
          dsimp only [FT] at h53
          try have g53 := Array.getD_eq_getD_getElem?.symm.trans h53
          go_simp
          exact hK _ _ (hC.keep 14 (by decide) (Below.refl wa.heap.size wa)) (fun j d _ _ _ h => FT.keep 14 (Below.refl wa.heap.size wa) _ h) (fun _ => rfl)
        · intro act wa L hC hd hLi hLa hLb HF O K hK
          clear hd
          have hsz := hC.1.size
          have h52 := HF 12 52 (hLa 1 12 (by kernel_rfl)) rfl
          dsimp only [FT] at h52
          try have g52 := Array.getD_eq_getD_getElem?.symm.trans h52
          have h54 := HF 14 54 (hLa 1 14 (by kernel_rfl)) rfl
          dsimp only [FT] at h54
          try have g54 := Array.getD_eq_getD_getElem?.symm.trans h54
          have hs5 := HSL3.out
          go_simp
          exact hK _ _ (hC.keep 15 (by decide) (Below.refl wa.heap.size wa)) (fun j d _ _ _ h => FT.keep 15 (Below.refl wa.heap.size wa) _ h) (fun _ => rfl)
        · intro act wa L hC hd hLi hLa hLb HF O K hK
          clear hd
          have hsz := hC.1.size
          have h48 := HF 8 48 (hLa 1 8 (by kernel_rfl)) rfl
          dsimp only [FT] at h48
          try have g48 := Array.getD_eq_getD_getElem?.symm.trans h48
          have h55 := HF 15 55 (hLa 1 15 (by kernel_rfl)) rfl
          dsimp only [FT] at h55
          try have g55 := Array.getD_eq_getD_getElem?.symm.trans h55
          have l19 : L 19 = false := hLb 6 19 (by kernel_rfl)
          have l8 : L 8 = true := hLa 6 8 (by kernel_rfl)
          rcases h48 with hh | ho0
          · rw [hLi] at hh; cases hh
          refine step_app_at (w := wa) rfl (.tmp 48) (.tmp 55) 93 rfl W2.heap.size 4 j0 (.bool false) 1 1 Try.underlying93 hj hy0 hy1 hy2 rfl (by decide) _ k ((bls row).take (k * 1)) rfl ho0 (some ⟨q2, o3, none⟩) (nr - (k + 1)) (cS - (k + 1)) ((bls row).drop ((k + 1) * 1)) h55 (by have := HL3.out; rw [List.length_drop]; omega) (.inr ⟨_, rfl, fun j u hu => get_of_drop (hC.1.own O4.out HNS.out) HL3.out HP3.out hu⟩) (fun u hu => bls_one row u (List.mem_of_mem_drop hu)) (by unfold maxLen; omega) (by omega) hsz ?_
          intro v' w' ho hg hat
          have ee : k + (nr - (k + 1)) = nr - 1 := (by omega)
          rw [ee] at ho
          exact hK _ _ (hC.app 16 (by decide) l19 ho0 hg (Nat.lt_of_lt_of_le hrw hle1.out) (Nat.le_refl _)) (fun j d hne _ _ h => FT.late 16 (upd_up l8) (Inv.upd_same L 16) j (fun e => absurd e hne) h) (fun _ => .inr ho)
        · intro act wa L hC hd hLi hLa hLb HF O K hK
          clear hd
          have hsz := hC.1.size
          have h40 := HF 0 40 (hLa 1 0 (by kernel_rfl)) rfl
          dsimp only [FT] at h40
          try have g40 := Array.getD_eq_getD_getElem?.symm.trans h40
          go_simp
          exact hK _ _ (hC.keep 17 (by decide) (Below.refl wa.heap.size wa)) (fun j d _ _ _ h => FT.keep 17 (Below.refl wa.heap.size wa) _ h) (fun _ => rfl)
        · intro act wa L hC hd hLi hLa hLb HF O K hK
          clear hd
          have hsz := hC.1.size
          have h57 := HF 17 57 (hLa 1 17 (by kernel_rfl)) rfl
          dsimp only [FT] at h57
          try have g57 := Array.getD_eq_getD_getElem?.symm.trans h57
          go_simp
          exact hK _ _ (hC.keep 18 (by decide) (Below.refl wa.heap.size wa)) (fun j d _ _ _ h => FT.keep 18 (Below.refl wa.heap.size wa) _ h) (fun _ => rfl)
        · intro act wa L hC hd hLi hLa hLb HF O K hK
          clear hd
          have hsz := hC.1.size
          have h58 := HF 18 58 (hLa 1 18 (by kernel_rfl)) rfl
          dsimp only [FT] at h58
          try have g58 := Array.getD_eq_getD_getElem?.symm.trans h58
          have h56 := HF 16 56 (hLa 1 16 (by kernel_rfl)) rfl
          dsimp only [FT] at h56
          try have g56 := Array.getD_eq_getD_getElem?.symm.trans h56
          have l8 : L 8 = true := hLa 6 8 (by kernel_rfl)
          have l16 : L 16 = true := hLa 6 16 (by kernel_rfl)
          rcases h56 with hh | ho0
          · rw [hLi] at hh; cases hh
          obtain ⟨A9, c9, hv9⟩ := own_sl ho0
          have kf := (hC.2.1 hLi).frozen 1
          have kl := (hC.2.1 hLi).lt
          have kk := (hC.2.1 hLi).cell 1
          simp at kk
          try have g56 := Array.getD_eq_getD_getElem?.symm.trans hv9
          rw [hv9] at ho0
          go_simp
          exact hK undef _ (hC.store hLi ho0 (Nat.lt_of_lt_of_le hrw hle1.out)) (fun j d hne _ _ h => FT.late 19 (upd_up l8) (upd_up l16) j (fun _ => Inv.upd_same L 19) h) (fun h => absurd rfl h)
      · intro us w' hC HF
        clear HF
        simp only [List.foldl]
        go_simp
        obtain ⟨LL, hLL, hO, -, hst⟩ := hC
        obtain ⟨v6, hk6, ho6⟩ := hst (hLL 19 (by decide))
        obtain ⟨A6, c6, rfl⟩ := own_sl ho6
        have K6 : Hid (Blk w' r 95 #[.slice A3 (nr - 1) c3, .slice A6 (nr - 1) c6]) := Lib.hid (by simpa using hk6)
        have OO := Lib.hid (OW.out.trans hO (Sub.refl _ _)); have HO6 := Lib.hid ho6
        have HO37 := Lib.hid (hO.own HO3.out (fun j hj hjr => by have := (HO3.out.lt j hj).1; have := hle0.out; omega))
        have z6 := Lib.hid (OO.out.blk Z1.out (fun h => by omega)); have l6 := OO.out.blk L1.out (fun h => by omega)
        have zl := z6.out.lt
        have ll := l6.lt
        have l60 := l6.cell 0
        have l61 := l6.cell 1
        have z60 := z6.out.cell 0
        have z61 := z6.out.cell 1
        have zf0 := z6.out.frozen 0
        have zf1 := z6.out.frozen 1
        simp at l60 l61 z60 z61
        clear hst hLL hk6 ho6 hO l6
        have hwF : Only (fun j => j = r) w ((w'.setCell ⟨w.heap.size, 0, none⟩ (.int .i64 to)).setCell ⟨w.heap.size, 1, none⟩ (.slice A nb c)) := ((Only.of_below (S := fun j => j = r) BW.out).trans OO.out (Sub.refl _ _)).trans (only2 w' w.heap.size (.int .i64 to) (.slice A nb c)) (fun j hj => .inr (by rw [hj]; exact Nat.le_refl _))
        have hP : RTkPost w r X v0 (((row[k]?.getD Nm.s0).1, true), row.eraseIdx k) (.returned (.tuple #[.agg #[.int .i64 to, .slice A nb c], .bool true])) ((w'.setCell ⟨w.heap.size, 0, none⟩ (.int .i64 to)).setCell ⟨w.heap.size, 1, none⟩ (.slice A nb c)) := by
          have hz := only2 w' w.heap.size (.int .i64 to) (.slice A nb c)
          refine ⟨A, c, by rw [HX.out]; simp only [HNB.out], ?_, .slice A3 (nr - 1) c3, .slice A6 (nr - 1) c6, ⟨hz.blk K6.out (fun hr => by omega), ?_, ?_⟩, hwF, fun j hj => .inr (by have := (HO3.out.lt j hj).1; have := HWS.out; omega)⟩
          · rw [HX.out]
            exact E3.out.other hwF (fun g o n c hv hn hj => E3.out.2 g o n c hv hn (by rw [hj]; exact hXr))
          · have e4 : (row.eraseIdx k).map (·.1) = (row.map (·.1)).eraseIdx k := by simp [List.eraseIdx_eq_take_drop_succ, List.map_take, List.map_drop]
            rw [e4]
            refine (HMS.out.erase k).row hwF hXr (H := W.heap.size) (by have := HWS.out; omega) ?_ (fun j hj => by have := (HO6.out.lt j hj).1; have := HWS.out; have := OW.out.size; omega)
            rw [List.length_eraseIdx, if_pos HKL.out, List.length_map, HNR.out, fl2_erase]
            exact hz.own HO37.out (fun j hj hjr => by have := (HO37.out.lt j hj).1; have := HWS.out; omega)
          · rw [List.length_eraseIdx, HNR.out, if_pos hk, bls_erase]
            exact own_base0 (hz.own HO6.out (fun j hj hjr => by have := (HO6.out.lt j hj).1; have := hle1.out; have := HWS.out; have := OW.out.size; omega))
        have HPP := Lib.hid hP
        have HZZ : Hid (Blk ((w'.setCell ⟨w.heap.size, 0, none⟩ (.int .i64 to)).setCell ⟨w.heap.size, 1, none⟩ (.slice A nb c)) w.heap.size 103 #[.int .i64 to, .slice A nb c]) := Lib.hid (by have h9 := (z6.out.set 0 (.int .i64 to)).set 1 (.slice A nb c); simpa using h9)
        clear hP hwF
        go_wp2
        try simp only [Exit.inBlock, Exit.then]
        exact rtake_ret (HZZ.out.cell 0) (HZZ.out.cell 1) rfl rfl rfl HPP.out
end Go.Proofs.Ytahichieakdbnaa

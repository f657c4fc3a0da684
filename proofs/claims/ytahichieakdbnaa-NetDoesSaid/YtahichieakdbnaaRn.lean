/- ref21.Net: its rows in memory; place. -/
import Derived.Test.YtahichieakdbnaaNs
import Derived.Test.YtahichieakdbnaaAz
import Derived.Test.YtahichieakdbnaaInvL
namespace Go.Proofs.Ytahichieakdbnaa
open Go.ChangeShapes Go.WideShapes Go.ChangeAt Go.RowKit Go.Maps
set_option linter.unusedVariables false
set_option linter.unusedSimpArgs false

theorem own_base0 {w : World} {base sz n : Nat} {e : TypeId} {v : Value} {xs : List Value} (h : w.ownsRow base e sz v n xs) : w.ownsRow 0 e sz v n xs := by
  refine ⟨h.1, ?_⟩
  rcases h.2 with h2 | ⟨g, cap, cur, hv, hb, r⟩
  · exact .inl h2
  · exact .inr ⟨g, cap, cur, hv, Nat.zero_le _, r⟩
/-- letters as they lie, none in X -/
def MsR (w : World) (X : Nat → Prop) (ms : Mlet) (ls : List Let) : Prop := ms.length = ls.length ∧ ∀ (j : Nat) (m : Int × Value) (x : Let), ms[j]? = some m → ls[j]? = some x → m.1 = x.1 ∧ MadeO w X m.2 x.2 x.2.length
namespace MsR
variable {w w' : World} {X : Nat → Prop} {ms m1 m2 : Mlet} {ls l1 l2 : List Let}
theorem app (h : MsR w X m1 l1) (k : MsR w X m2 l2) : MsR w X (m1 ++ m2) (l1 ++ l2) := by
  refine ⟨by simp [h.1, k.1], fun j m x hm hx => ?_⟩
  by_cases hj : j < m1.length
  · rw [List.getElem?_append_left hj] at hm
    rw [List.getElem?_append_left (by rw [← h.1]; exact hj)] at hx
    exact h.2 j m x hm hx
  · rw [List.getElem?_append_right (by omega)] at hm
    rw [List.getElem?_append_right (by rw [← h.1]; omega), ← h.1] at hx
    exact k.2 _ m x hm hx
theorem one {to : Int} {bv : Value} {bs : List Nat} (h : MadeO w X bv bs bs.length) : MsR w X [(to, bv)] [(to, bs)] := ⟨rfl, fun j m x hm hx => by
  have hl := (List.getElem?_eq_some_iff.1 hm).1
  obtain rfl : j = 0 := by simp at hl; omega
  simp at hm hx
  subst hm hx
  exact ⟨rfl, h⟩⟩
theorem erase (h : MsR w X ms ls) (k : Nat) : MsR w X (ms.eraseIdx k) (ls.eraseIdx k) := by
  refine ⟨by rw [List.length_eraseIdx, List.length_eraseIdx, h.1], fun j a b ha hb => ?_⟩
  rw [List.getElem?_eraseIdx] at ha hb
  split at ha
  · next hj => rw [if_pos hj] at hb; exact h.2 _ a b ha hb
  · next hj => rw [if_neg hj] at hb; exact h.2 _ a b ha hb
theorem set (h : MsR w X ms ls) (k : Nat) {to : Int} {bv : Value} {bs : List Nat} (hm : MadeO w X bv bs bs.length) : MsR w X (ms.set k (to, bv)) (ls.set k (to, bs)) := by
  refine ⟨by simp [h.1], fun j a b ha hb => ?_⟩
  rw [List.getElem?_set] at ha hb
  by_cases hj : k = j
  · subst hj
    rw [if_pos rfl] at ha hb
    split at ha
    · next hl =>
      rw [if_pos (by rw [← h.1]; exact hl)] at hb
      injection ha with ha; injection hb with hb
      subst ha hb
      exact ⟨rfl, hm⟩
    · cases ha
  · rw [if_neg hj] at ha hb
    exact h.2 j a b ha hb
theorem turn {X' : Nat → Prop} (h : MsR w X ms ls) (hT : Turned w X X' w') : MsR w' X' ms ls := ⟨h.1, fun j m x hm hx => ⟨(h.2 j m x hm hx).1, (h.2 j m x hm hx).2.turn hT⟩⟩
theorem one_cell (h : MsR w X ms ls) : ∀ u ∈ fl2 ms, u.oneCell' = true := fl2_one h.1 h.2
theorem fst {T : Nat → Prop} (h : MsR w (fun j => X j ∨ T j) ms ls) : MsR w X ms ls := ⟨h.1, fun j m x hm hx => ⟨(h.2 j m x hm hx).1, (h.2 j m x hm hx).2.1, fun g o n c hv hn hs => (h.2 j m x hm hx).2.2 g o n c hv hn (.inl hs)⟩⟩
end MsR
theorem fl2_take : ∀ (ms : Mlet) (k : Nat), fl2 (ms.take k) = (fl2 ms).take (k * 2)
  | [], k => by simp [fl2]
  | m :: ms, 0 => by simp [fl2]
  | m :: ms, k + 1 => by
    rw [List.take_succ_cons, fl2_cons, fl2_cons, fl2_take ms k, List.take_append]
    have : (k + 1) * 2 - [Value.int .i64 m.1, m.2].length = k * 2 := by simp; omega
    have h3 : ∀ l : List Value, l.length = 2 → l.take ((k + 1) * 2) = l := fun l hl => List.take_of_length_le (by omega)
    rw [this, h3 _ rfl]
theorem fl2_drop : ∀ (ms : Mlet) (k : Nat), fl2 (ms.drop k) = (fl2 ms).drop (k * 2)
  | [], k => by simp [fl2]
  | m :: ms, 0 => by simp
  | m :: ms, k + 1 => by
    rw [List.drop_succ_cons, fl2_cons, fl2_drop ms k, List.drop_append]
    have : (k + 1) * 2 - [Value.int .i64 m.1, m.2].length = k * 2 := by simp; omega
    have h3 : ∀ l : List Value, l.length = 2 → l.drop ((k + 1) * 2) = [] := fun l hl => List.drop_of_length_le (by omega)
    rw [this, h3 _ rfl, List.nil_append]
theorem infoBool : (Try.prog.info? 4).map (fun i => (i.zero, i.size, i.bytes)) = some (some (.bool false), 1, 1) := by kernel_rfl
def bls (row : List Snt) : List Value := row.map fun x => .bool x.2
theorem bls_one (row : List Snt) : ∀ u ∈ bls row, u.oneCell' = true := fun u hu => by
  obtain ⟨x, -, rfl⟩ := List.mem_map.1 hu
  rfl
theorem bls_length (row : List Snt) : (bls row).length = row.length := by simp [bls]
/-- block r is the document's net; its letters' bodies lie in none of X -/
def RN (w : World) (r : Nat) (X : Nat → Prop) (vL vSp : Value) (row : List Snt) : Prop :=
  Blk w r 95 #[vL, vSp] ∧ LRowX 103 w 0 (fun j => X j ∨ vSp.ownBlock = some j) vL (row.map (·.1)) ∧ w.ownsRow 0 4 1 vSp row.length (bls row)
def RRes (w : World) (r : Nat) (X : Nat → Prop) (vL0 : Value) (b : Bool) (row' : List Snt) (en : Ending) (w' : World) : Prop := en = .returned (.bool b) ∧ ∃ vL vSp, RN w' r X vL vSp row' ∧ Only (fun j => j = r) w w' ∧ (b = true → ∀ j, vSp.ownBlock = some j → w.heap.size ≤ j) ∧ (∀ j, vL.ownBlock = some j → vL0.ownBlock = some j ∨ w.heap.size ≤ j)
namespace RN
variable {w w' : World} {r : Nat} {X : Nat → Prop} {vL vSp : Value} {row : List Snt}
theorem ms (h : RN w r X vL vSp row) : ∃ ms, MsR w X ms (row.map (·.1)) ∧ w.ownsRow 0 103 2 vL row.length (fl2 ms) := by
  obtain ⟨-, ⟨ms, h1, h2, h3⟩, -⟩ := h
  exact ⟨ms, MsR.fst (MsR.fst ⟨h1, h3⟩), by simpa using h2⟩
theorem below (h : RN w r X vL vSp row) (hb : Below w.heap.size w w') : RN w' r X vL vSp row := ⟨h.1.below hb h.1.lt, h.2.1.below hb, own_below h.2.2 hb⟩
theorem neL (h : RN w r X vL vSp row) : ∀ j, vL.ownBlock = some j → j ≠ r := by
  obtain ⟨h1, ⟨ms, -, h2, -⟩, -⟩ := h
  exact own_ne_blk h2 h1 (by decide)
theorem neS (h : RN w r X vL vSp row) : ∀ j, vSp.ownBlock = some j → j ≠ r := own_ne_blk h.2.2 h.1 (by decide)
end RN
/-- a new row of letters, behind a call that changed block r alone -/
theorem MsR.row {w w' : World} {r H : Nat} {X : Nat → Prop} {ms : Mlet} {ls : List Let} {v : Value} (h : MsR w X ms ls) (hO : Only (fun j => j = r) w w') (hXr : X r) (hH : w.heap.size ≤ H) (ho : w'.ownsRow H 103 2 v ls.length (fl2 ms)) {T : Nat → Prop} (hT : ∀ j, T j → w.heap.size ≤ j) : LRowX 103 w' 0 (fun j => X j ∨ T j) v ls :=
  ⟨ms, h.1, own_base0 ho, fun j m x hm hx => ⟨(h.2 j m x hm hx).1, ((h.2 j m x hm hx).2.other hO (fun g o n c hv hn hj => (h.2 j m x hm hx).2.2 g o n c hv hn (by rw [hj]; exact hXr))).1, fun g o n c hv hn hs => by
    rcases hs with (hs | hs) | hs
    · exact (h.2 j m x hm hx).2.2 g o n c hv hn hs
    · have h1 := hT g hs
      have h2 := MadeO.lt (h.2 j m x hm hx).2 hv hn
      omega
    · have h1 := (ho.lt g hs).1
      have h2 := MadeO.lt (h.2 j m x hm hx).2 hv hn
      omega⟩⟩
theorem fl2_set : ∀ (ms : Mlet) (k : Nat) (to : Int) (v : Value), k < ms.length → fl2 (ms.set k (to, v)) = ((fl2 ms).set (k * 2) (.int .i64 to)).set (k * 2 + 1) v
  | [], k, to, v, h => by simp at h
  | m :: ms, 0, to, v, h => by simp [fl2]
  | m :: ms, k + 1, to, v, h => by
    rw [List.set_cons_succ, fl2_cons, fl2_cons, fl2_set ms k to v (by simpa using h)]
    rw [List.set_append_right _ _ (by simp; omega), List.set_append_right _ _ (by simp; omega)]
    congr 2
    · congr 1
      simp; omega
    · simp; omega
namespace RN
variable {w : World} {r q : Nat} {X : Nat → Prop} {vL vSp : Value} {row row' : List Snt} {n c k : Nat}
/-- a flag is set -/
theorem setSp (h : RN w r X vL (.slice (some ⟨q, 0, none⟩) n c) row) (b : Bool) (hl : row'.map (·.1) = row.map (·.1)) (hb : bls row' = (bls row).set k (.bool b)) : RN (w.setCell ⟨q, k, none⟩ (.bool b)) r X vL (.slice (some ⟨q, 0, none⟩) n c) row' ∧ Only (fun j => j = q) w (w.setCell ⟨q, k, none⟩ (.bool b)) := by
  have hO : Only (fun j => j = q) w (w.setCell ⟨q, k, none⟩ (.bool b)) := (Only.refl (fun j => j = q) w).set rfl k (.bool b)
  have hn := h.neS q rfl
  have hlen : row'.length = row.length := by have := congrArg List.length hl; simpa using this
  obtain ⟨h1, ⟨ms, m1, m2, m3⟩, h3⟩ := h
  refine ⟨⟨hO.blk h1 (fun e => hn e.symm), ⟨ms, by rw [hl]; exact m1, by rw [hl]; exact hO.own m2 (fun j hj hjq => own_apart m2 h3 (by decide) j hj (by rw [hjq]; rfl)), fun j m x hm hx => ?_⟩, ?_⟩, hO⟩
  · rw [hl] at hx
    exact ⟨(m3 j m x hm hx).1, (m3 j m x hm hx).2.other hO (fun g o n c hv hne hj => (m3 j m x hm hx).2.2 g o n c hv hne (.inl (.inr (by rw [hj]; rfl))))⟩
  · rw [hb, hlen]
    have hv : ∀ n', n' = n → (w.ownsRow 0 4 1 (.slice (some ⟨q, 0, none⟩) n c) n' (bls row)) → (w.setCell ⟨q, k, none⟩ (.bool b)).ownsRow 0 4 1 (.slice (some ⟨q, 0, none⟩) n c) n' ((bls row).set k (.bool b)) := fun n' e h => by subst e; exact own_setS h
    refine hv _ ?_ h3
    rcases h3.2 with ⟨h5, _⟩ | ⟨g, cap, cur, h5, _⟩
    · cases h5
    · injection h5 with _ e2 _
      exact e2.symm
/-- a letter is set -/
theorem setL {to : Int} {bv : Value} {bs : List Nat} (h : RN w r X (.slice (some ⟨q, 0, none⟩) n c) vSp row) (hm : MadeO w (fun j => (X j ∨ vSp.ownBlock = some j) ∨ q = j) bv bs bs.length) (hk : k < row.length) (hl : row'.map (·.1) = (row.map (·.1)).set k (to, bs)) (hb : bls row' = bls row) :
    RN ((w.setCell ⟨q, k * 2, none⟩ (.int .i64 to)).setCell ⟨q, k * 2 + 1, none⟩ bv) r X (.slice (some ⟨q, 0, none⟩) n c) vSp row' ∧ Only (fun j => j = q) w ((w.setCell ⟨q, k * 2, none⟩ (.int .i64 to)).setCell ⟨q, k * 2 + 1, none⟩ bv) := by
  have hO : Only (fun j => j = q) w ((w.setCell ⟨q, k * 2, none⟩ (.int .i64 to)).setCell ⟨q, k * 2 + 1, none⟩ bv) := ((Only.refl (fun j => j = q) w).set rfl (k * 2) (.int .i64 to)).set rfl (k * 2 + 1) bv
  have hn := h.neL q rfl
  have hlen : row'.length = row.length := by have := congrArg List.length hl; simpa using this
  obtain ⟨h1, ⟨ms, m1, m2, m3⟩, h3⟩ := h
  refine ⟨⟨hO.blk h1 (fun e => hn e.symm), ⟨ms.set k (to, bv), by rw [hl]; simpa using m1, ?_, fun j m x hm' hx => ?_⟩, ?_⟩, hO⟩
  · have hv : ∀ n', n' = n → (w.ownsRow 0 103 2 (.slice (some ⟨q, 0, none⟩) n c) n' (fl2 ms)) → ((w.setCell ⟨q, k * 2, none⟩ (.int .i64 to)).setCell ⟨q, k * 2 + 1, none⟩ bv).ownsRow 0 103 2 (.slice (some ⟨q, 0, none⟩) n c) n' (((fl2 ms).set (k * 2) (.int .i64 to)).set (k * 2 + 1) bv) := fun n' e h => by subst e; exact own_setS (own_setS h)
    rw [fl2_set ms k to bv (by rw [m1, List.length_map]; exact hk), hl, List.length_set]
    refine hv _ ?_ m2
    rcases m2.2 with ⟨h5, _⟩ | ⟨g, cap, cur, h5, _⟩
    · cases h5
    · injection h5 with _ e2 _
      exact e2.symm
  · rw [hl] at hx
    rw [List.getElem?_set] at hm' hx
    have hk' : k < (row.map (·.1)).length := by simpa using hk
    by_cases hj : k = j
    · subst hj
      rw [if_pos rfl, if_pos (by rw [m1]; exact hk')] at hm'
      rw [if_pos rfl, if_pos hk'] at hx
      injection hm' with hm'; injection hx with hx
      subst hm' hx
      exact ⟨rfl, by
        have h9 := hm.other hO (fun g o n c hv hne hj => hm.2 g o n c hv hne (.inr hj.symm))
        exact ⟨h9.1, fun g o n c hv hne hs => hm.2 g o n c hv hne (by
          rcases hs with hs | hs
          · exact .inl hs
          · exact .inr (by simpa [Value.ownBlock] using hs))⟩⟩
    · rw [if_neg hj] at hm' hx
      exact ⟨(m3 j m x hm' hx).1, (m3 j m x hm' hx).2.other hO (fun g o n c hv hne hj => (m3 j m x hm' hx).2.2 g o n c hv hne (.inr (by rw [hj]; rfl)))⟩
  · rw [hb, hlen]
    exact hO.own h3 (fun j hj hjq => own_apart h3 m2 (by decide) j hj (by rw [hjq]; rfl))
end RN
def RplcPost (w : World) (row : List Snt) (i : Int) (en : Ending) (w' : World) : Prop := w = w' ∧ match Nm.plc row i with
  | none => en = .returned (.int .i64 (-1))
  | some k => en = .returned (.int .i64 (k : Int))
set_option maxHeartbeats 1000000 in
theorem Rplc_any (w : World) (r : Nat) (X : Nat → Prop) (vL vSp : Value) (row : List Snt) (i : Int) (h : RN w r X vL vSp row) (hi0 : -9223372036854775808 ≤ i) (hi1 : i ≤ 9223372036854775807) (hl : row.length ≤ 64) : Calls Try.prog 87 #[.pointer (some ⟨r, 0, none⟩), .int .i64 i] w (RplcPost w row i) := by
  obtain ⟨ms, hm, h2⟩ := h.ms
  obtain ⟨A, c, rfl⟩ := own_sl h2
  have a0 : w.cell? ⟨r, 0, none⟩ = some (.slice A row.length c) := h.1.cell 0
  clear h hm h2
  unfold RplcPost Nm.plc
  by_cases hneg : i < 0
  · rw [if_pos (.inl hneg)]
    go_enter Try.func87, Try.ntmps87
    go_wp2
    go_ret
    exact ⟨rfl, rfl⟩
  · obtain ⟨m, rfl⟩ := Int.eq_ofNat_of_zero_le (show 0 ≤ i by omega)
    by_cases h0 : row.length = 0
    · rw [if_pos (.inr h0)]
      obtain ⟨n, hn⟩ : ∃ n, row.length = n := ⟨_, rfl⟩
      rw [hn] at a0 h0
      subst h0
      clear hn
      go_enter Try.func87, Try.ntmps87
      go_wp2
      go_ret
      exact ⟨rfl, rfl⟩
    · rw [if_neg (by omega)]
      obtain ⟨n, hn⟩ : ∃ n, row.length = n := ⟨_, rfl⟩
      rw [hn] at a0 h0 hl ⊢
      have h0I : (n : Int) ≠ 0 := by omega
      have hmod : Int.tmod (m : Int) (n : Int) = ((m % n : Nat) : Int) := by rw [Int.tmod_eq_emod_of_nonneg (by omega)]; rfl
      have hlt := Nat.mod_lt m (show n > 0 by omega)
      have hw : IntKind.i64.wrap ((m % n : Nat) : Int) = ((m % n : Nat) : Int) := IntWalk.i64_in _ ⟨by omega, by omega⟩
      clear hn
      go_enter Try.func87, Try.ntmps87
      go_wp2
      go_ret
      exact ⟨rfl, rfl⟩
/-- what stands while a field of block r is made anew: W as it was but for r; is: the store has been -/
def CK (W : World) (r is fo : Nat) (T : TypeId) (vs : Array Value) (H : Nat) (t : TypeId) (sz m : Nat) (xs : List Value) (L : Nat → Bool) (w : World) : Prop :=
  Only (fun j => j = r) W w ∧ (L is = false → Blk w r T vs) ∧ (L is = true → ∃ v, Blk w r T (vs.setIfInBounds fo v) ∧ w.ownsRow H t sz v m xs)
theorem upd_ne {L : Nat → Bool} {i k : Nat} (h : i ≠ k) : Inv.upd L i k = L k := by unfold Inv.upd; rw [if_neg (fun e => h e.symm)]
theorem upd_up {L : Nat → Bool} {i k : Nat} (h : L k = true) : Inv.upd L i k = true := by
  by_cases hik : i = k
  · subst hik; exact Inv.upd_same L i
  · rw [upd_ne hik]; exact h
namespace CK
variable {W : World} {r is fo : Nat} {T : TypeId} {vs : Array Value} {H : Nat} {t : TypeId} {sz m : Nat} {xs : List Value} {L : Nat → Bool} {w w' : World}
theorem start (hk : Blk W r T vs) : CK W r is fo T vs H t sz m xs (fun _ => false) W.drew := ⟨(Only.refl _ W).trans (Only.of_below ((Below.refl _ W).drew)) (Sub.refl _ _), fun _ => hk.drew, fun h => by cases h⟩
theorem keep (i : Nat) (hi : i ≠ is) (h : CK W r is fo T vs H t sz m xs L w) (hb : Below w.heap.size w w') : CK W r is fo T vs H t sz m xs (Inv.upd L i) w' := by
  obtain ⟨h1, h2, h3⟩ := h
  refine ⟨h1.trans (Only.of_below (S := fun j => j = r) hb) (Sub.refl _ _), fun hl => ?_, fun hl => ?_⟩
  · rw [upd_ne hi] at hl
    exact (h2 hl).below hb (h2 hl).lt
  · rw [upd_ne hi] at hl
    obtain ⟨v, a, b⟩ := h3 hl
    exact ⟨v, a.below hb a.lt, own_below b hb⟩
theorem app (i : Nat) (hi : i ≠ is) (h : CK W r is fo T vs H t sz m xs L w) (hl : L is = false) {v : Value} {t' : TypeId} {sz' n : Nat} {ys : List Value} (ho : w.ownsRow H t' sz' v n ys) (hg : w.grownBy w' v.ownBlock) (hr : r < H) (hH : W.heap.size ≤ H) : CK W r is fo T vs H t sz m xs (Inv.upd L i) w' := by
  obtain ⟨h1, h2, h3⟩ := h
  refine ⟨h1.trans (Only.of_grown (S := fun j => v.ownBlock = some j) hg (fun j hj => hj)) (fun j hj => .inr (by have := (ho.lt j hj).1; omega)), fun _ => (h2 hl).grown hg (fun hh => by have := (ho.lt r hh.symm).1; omega), fun hl' => ?_⟩
  rw [upd_ne hi, hl] at hl'
  cases hl'
theorem store (h : CK W r is fo T vs H t sz m xs L w) (hl : L is = false) {v : Value} (ho : w.ownsRow H t sz v m xs) (hr : r < H) : CK W r is fo T vs H t sz m xs (Inv.upd L is) (w.setCell ⟨r, fo, none⟩ v) := by
  obtain ⟨h1, h2, h3⟩ := h
  refine ⟨h1.set rfl fo v, fun hl' => ?_, fun _ => ⟨v, (h2 hl).set fo v, ?_⟩⟩
  · rw [Inv.upd_same] at hl'; cases hl'
  · exact ((Only.refl (fun j => j = r) w).set rfl fo v).own ho (fun j hj hjr => by have := (ho.lt j hj).1; omega)
end CK
end Go.Proofs.Ytahichieakdbnaa

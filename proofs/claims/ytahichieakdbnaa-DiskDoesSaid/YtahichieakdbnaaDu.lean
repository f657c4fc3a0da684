/- disk: the closures of Sync, Cut and Append. -/
import Derived.Test.YtahichieakdbnaaDt
import Derived.StillTailTactics
namespace Go.Proofs.Ytahichieakdbnaa
open Go.ChangeShapes Go.WideShapes Go.ChangeAt Go.RowKit Go.Maps
set_option linter.unusedVariables false
set_option linter.unusedSimpArgs false

theorem slice_h0 {P : Program} (t e : TypeId) (ht : P.underlying t = some (.slice e)) (hs : ∀ w, (sizeOf e).run P w = .ok 1 w) (A : Option Addr) (n c h : Nat) (y : Int) (hy : (h : Int) = y) (hh : h ≤ c) (hA : ∀ a, A = some a → a.add 0 = a) :
    ∀ w, (Instr.sliceAt t (.slice A n c) none (some (.int .i64 y)) none).run P w = .ok (.slice A h c) w := by
  subst hy
  have he : P.elem t = e := by simp [Program.elem, ht]
  intro w
  rw [run_sliceAt_slice w t _ _ _ _ (by rw [he]; exact ht), run_slice_h w t A n c (by rw [he]; exact ht) .i64 (h : Int) (by omega) (by omega), he, hs]
  simp only [sliced, Int.toNat_natCast, Nat.zero_mul, Nat.sub_zero]
  by_cases hc : c = 0
  · simp [hc]
  · cases A with
    | none => simp
    | some a => simp [hc, hA a rfl]
theorem add0 (g o : Nat) : (⟨g, o, none⟩ : Addr).add 0 = ⟨g, o, none⟩ := by simp [Addr.add]
set_option maxHeartbeats 2000000 in
set_option maxRecDepth 100000 in
theorem Sync1_any (w : World) (g room : Nat) (vs : List Value) (fs : List Fl) (down fused : Bool) (fuse i bf : Nat) (v : Value) (f : Fl) (h : DskM w g room vs fs down fused fuse) (hv : vs[i]? = some v) (hf : fs[i]? = some f)
    (hc : w.cell? ⟨bf, 0, none⟩ = some (.pointer (some ⟨g, 1 + i * 2, none⟩))) :
    Calls Try.prog 74 #[.pointer (some ⟨bf, 0, none⟩)] w (fun en w' => en = .returned (.int .i64 0) ∧ DskM w' g room vs (fs.set i (f.1, f.1.length)) down fused fuse ∧ Only (fun j => j = g) w w') := by
  have gl := h.2.2.1.lt
  have c0 := h.bytesA hv
  have c1 := h.sureA hf
  have z1 := h.2.2.1.frozen (1 + i * 2 + 1)
  have ho := h.2.2.2.1 i v f hv hf
  obtain ⟨A, c, rfl⟩ := own_sl ho
  have HD := Lib.hid (show DskM (w.drew.setCell ⟨g, 1 + i * 2 + 1, none⟩ (.int .i64 (f.1.length : Int))) g room vs (fs.set i (f.1, f.1.length)) down fused fuse from (h.below ((Below.refl _ w).drew)).setS hf f.1.length)
  have HO := Lib.hid (show Only (fun j => j = g) w (w.drew.setCell ⟨g, 1 + i * 2 + 1, none⟩ (.int .i64 (f.1.length : Int))) from Only.set (S := fun j => j = g) (Only.refl _ w).drew rfl _ _)
  generalize f.1.length = n at *
  clear h ho hv hf
  go_enter Try.func74, Try.ntmps74
  go_wp2
  go_still_tail 8, (by kernel_rfl)
  change wpList _ _ _ _ _ w.drew
  go_wp2
  go_ret
  exact ⟨rfl, HD.out, HO.out⟩
/-- a file cut shorter -/
def cutF (fs : List Fl) (i n : Nat) : List Fl := fs.set i ((fs[i]?.getD ([], 0)).1.take n, min (fs[i]?.getD ([], 0)).2 n)
theorem one8d : ∀ w, (sizeOf 5).run Try.prog w = .ok 1 w := fun w => by kernel_rfl
theorem own_add0 {w : World} {base n c : Nat} {e : TypeId} {s : Nat} {A : Option Addr} {xs : List Value} (h : w.ownsRow base e s (.slice A n c) n xs) : ∀ a, A = some a → a.add 0 = a := by
  rintro a rfl
  rcases h.2 with ⟨h1, _⟩ | ⟨g, cap, cur, hv, _⟩
  · cases h1
  · injection hv with e1
    injection e1 with e1
    subst e1
    exact add0 g 0
theorem own_cap {w : World} {base n c : Nat} {e : TypeId} {s : Nat} {A : Option Addr} {xs : List Value} (h : w.ownsRow base e s (.slice A n c) n xs) : n ≤ c := by
  rcases h.2 with ⟨h1, h0⟩ | ⟨g, cap, cur, hv, hb, hh, hnc, _⟩
  · omega
  · injection hv with e1 e2 e3
    omega
set_option maxHeartbeats 3000000 in
set_option maxRecDepth 100000 in
theorem Cut1_any (w : World) (g room : Nat) (vs : List Value) (fs : List Fl) (down fused : Bool) (fuse i bf bn n : Nat) (v : Value) (f : Fl) (h : DskM w g room vs fs down fused fuse) (hv : vs[i]? = some v) (hf : fs[i]? = some f)
    (hc : w.cell? ⟨bf, 0, none⟩ = some (.pointer (some ⟨g, 1 + i * 2, none⟩))) (hcn : w.cell? ⟨bn, 0, none⟩ = some (.int .i64 (n : Int))) (hbf : bf ≠ g) (hbn : bn ≠ g) (hn : n ≤ f.1.length) :
    Calls Try.prog 92 #[.pointer (some ⟨bf, 0, none⟩), .pointer (some ⟨bn, 0, none⟩)] w (fun en w' => en = .returned (.int .i64 0) ∧ ∃ v', (∀ j, v'.ownBlock = some j → v.ownBlock = some j) ∧ DskM w' g room (vs.set i v') (cutF fs i n) down fused fuse ∧ Only (fun j => j = g) w w') := by
  have gl := h.2.2.1.lt
  have c0 := h.bytesA hv
  have z0 := h.2.2.1.frozen (1 + i * 2)
  have ho := h.2.2.2.1 i v f hv hf
  obtain ⟨A, c, rfl⟩ := own_sl ho
  have hcap := own_cap ho
  have S0 := slice_h0 32 5 Try.underlying32 one8d A f.1.length c n (n : Int) rfl (by omega) (own_add0 ho)
  have hon := own_cut ho hn
  rw [Nat.mul_one] at hon
  have hB := (Below.refl w.heap.size w).drew
  have hD := (h.below hB).setV (v' := .slice A n c) (bs := f.1.take n) (w2 := w.drew) hv hf (World.grownBy.refl _ _) (by
    rw [List.length_take, Nat.min_eq_left hn]
    have := own_below hon hB
    simpa [u8s, List.map_take] using this) (fun j hj => by left; cases A with | none => simp [Value.ownBlock] at hj | some a => simpa [Value.ownBlock] using hj)
  have e0 : w.drew.setCell ⟨g, 1 + i * 2, none⟩ (.slice A n c) = (w.setCell ⟨g, 1 + i * 2, none⟩ (.slice A n c)).drew := rfl
  rw [e0] at hD
  have hil := (List.getElem?_eq_some_iff.1 hv).1
  have hfl := (List.getElem?_eq_some_iff.1 hf).1
  have hf2 : (fs.set i (f.1.take n, f.2))[i]? = some (f.1.take n, f.2) := by rw [List.getElem?_set_self hfl]
  have c1 := hD.sureA hf2
  have z1 := hD.2.2.1.frozen (1 + i * 2 + 1)
  have gl2 := hD.2.2.1.lt
  have hcW : (w.setCell ⟨g, 1 + i * 2, none⟩ (.slice A n c)).drew.cell? ⟨bf, 0, none⟩ = some (.pointer (some ⟨g, 1 + i * 2, none⟩)) := by
    rw [← e0]
    rw [World.cell?_setCell_other _ _ _ _ (by intro e; injection e with e1 e2; exact hbf e1.symm)]; exact hc
  have hnW : (w.setCell ⟨g, 1 + i * 2, none⟩ (.slice A n c)).drew.cell? ⟨bn, 0, none⟩ = some (.int .i64 (n : Int)) := by
    rw [← e0]
    rw [World.cell?_setCell_other _ _ _ _ (by intro e; injection e with e1 e2; exact hbn e1.symm)]; exact hcn
  have hD3 := (hD.below (Below.refl _ _).drew).setS hf2 (min f.2 n)
  have HD := Lib.hid hD3
  have HO : Hid (Only (fun j => j = g) w (w.setCell ⟨g, 1 + i * 2, none⟩ (.slice A n c)).drew) := Lib.hid (Only.set (S := fun j => j = g) (Only.refl _ w).drew rfl _ _)
  have HC : Hid ((fs.set i (f.1.take n, f.2)).set i (f.1.take n, min f.2 n) = cutF fs i n) := Lib.hid (by unfold cutF; rw [List.set_set, hf]; rfl)
  obtain ⟨s, hs⟩ : ∃ s, f.2 = s := ⟨_, rfl⟩
  generalize f.1.length = m at *
  rw [hs] at c1
  have HS := Lib.hid hs
  clear h ho hon hv hf hf2 hD hD3 hs hcap hn
  go_enter Try.func92, Try.ntmps92
  go_wp2
  go_still_tail 9, (by kernel_rfl)
  change wpList _ _ _ _ _ w.drew
  go_wp2
  generalize (w.setCell ⟨g, 1 + i * 2, none⟩ (.slice A n c)).drew = W at *
  go_still_tail 9, (by kernel_rfl)
  change wpList _ _ _ _ _ W.drew
  go_wp2
  all_goals (
    go_ret
    refine ⟨rfl, .slice A n c, fun j hj => by cases A with | none => simp [Value.ownBlock] at hj | some a => simpa [Value.ownBlock] using hj, ?_, Only.set (S := fun j => j = g) HO.out rfl _ _⟩
    have hd := HD.out
    have hs := HS.out
    rw [HC.out] at hd
    first
      | (rw [show min f.2 n = s by omega] at hd; exact hd)
      | (rw [show min f.2 n = n by omega] at hd; exact hd))
end Go.Proofs.Ytahichieakdbnaa

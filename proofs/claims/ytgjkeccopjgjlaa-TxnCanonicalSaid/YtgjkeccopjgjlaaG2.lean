/- Two clocks, held against each other by '==' and '!='. -/
import Derived.Test.YtgjkeccopjgjlaaW
import Derived.Laws.StructEq
import Derived.Laws.Tables
import Derived.KernelRfl
import Derived.Test.YtgjkeccopjgjlaaTck
import Derived.BigQuiet
import Derived.Test.YtgjkeccopjgjlaaG1
import Derived.Test.YtgjkeccopjgjlaaSame
namespace Go.Proofs.Ytgjkeccopjgjlaa
open Go.ChangeShapes Go.WideShapes Go.ChangeAt Go.RowKit
set_option linter.unusedVariables false
set_option linter.unusedSimpArgs false

def eqcB (a b c x y z : Int) : Bool := decide (a = x ∧ b = y ∧ c = z)
theorem eqc_in (a b c x y z : Int) (w : World) : (Op.equalIn 10000 29 (.agg #[.int .i64 a, .int .i64 b, .int .i64 c]) (.agg #[.int .i64 x, .int .i64 y, .int .i64 z])).run Try.prog w = .ok (eqcB a b c x y z) w := by
  rw [show (10000 : Nat) = 9999 + 1 from rfl, Op.equalIn]
  simp only [Sem.run_bind, run_underlying Try.underlying29, Result.andThen_ok]
  simp only [Std.Legacy.Range.forIn_eq_forIn_range', Std.Legacy.Range.size, Nat.sub_zero, Nat.add_sub_cancel, Nat.div_one, List.range'_succ, List.range'_zero, List.forIn_cons, List.forIn_nil]
  have u3 := Try.underlying2
  have a3 := Try.isAgg2
  have z3 := Try.sizeOf2
  go_simp
  unfold eqcB
  by_cases h1 : a = x <;> by_cases h2 : b = y <;> by_cases h3 : c = z <;> simp [h1, h2, h3]
end Go.Proofs.Ytgjkeccopjgjlaa
/- Transactions that are the same: slices.Equal of writes, txn.Same, packetboatref06.Same. -/
namespace Go.Proofs.Ytgjkeccopjgjlaa
open Go.ChangeShapes Go.WideShapes Go.ChangeAt Go.RowKit
set_option linter.unusedVariables false
set_option linter.unusedSimpArgs false

theorem stood_wr : Try.prog.stoodInHeld 73 = false := by kernel_rfl
theorem eqw_in (a b : Wr) (w : World) : (Op.equalIn 10000 73 (.agg #[.string a.1, .string a.2.1, .bool a.2.2]) (.agg #[.string b.1, .string b.2.1, .bool b.2.2])).run Try.prog w = .ok (decide (a = b)) w := by
  obtain ⟨a1, a2, a3⟩ := a
  obtain ⟨b1, b2, b3⟩ := b
  rw [show (10000 : Nat) = 9999 + 1 from rfl, run_equalIn_struct (P := Try.prog) w 9999 73 _ _ (by simp [Program.fieldsOf, Try.underlying73]) stood_wr]
  simp only [Program.fieldsOf, Try.underlying73, Op.eqFields]
  have u3 := Try.underlying9
  have a3' := Try.isAgg9
  have z3 := Try.sizeOf9
  have u4 := Try.underlying4
  have a4' := Try.isAgg4
  have z4 := Try.sizeOf4
  go_simp
  have n1 : a1 ≠ b1 → ¬ a1.toList = b1.toList := fun h h2 => h (bas_inj h2)
  have n2 : a2 ≠ b2 → ¬ a2.toList = b2.toList := fun h h2 => h (bas_inj h2)
  by_cases h1 : a1 = b1
  · by_cases h2 : a2 = b2
    · by_cases h3 : a3 = b3 <;> simp [h1, h2, h3]
    · by_cases h3 : a3 = b3 <;> simp [h1, h2, h3, n2 h2]
  · simp [h1, n1 h1]
def sameB (t u : Txn) : Bool := decide (t.1 = u.1) && (decide (t.2.1 = u.2.1) && (decide (t.2.2.1.1 = u.2.2.1.1 ∧ t.2.2.1.2.1 = u.2.2.1.2.1 ∧ t.2.2.1.2.2 = u.2.2.1.2.2) && decide (t.2.2.2 = u.2.2.2)))
theorem sameB_iff {t u : Txn} : sameB t u = true ↔ t = u := by
  obtain ⟨o, s, ⟨x, y, z⟩, l⟩ := t
  obtain ⟨o', s', ⟨x', y', z'⟩, l'⟩ := u
  unfold sameB
  simp only [Bool.and_eq_true, decide_eq_true_eq, Prod.mk.injEq]
theorem sameB_self (t : Txn) : sameB t t = true := sameB_iff.2 rfl
theorem sameB_ne {t u : Txn} (h : t ≠ u) : sameB t u = false := by
  cases hb : sameB t u
  · rfl
  · exact absurd (sameB_iff.1 hb) h
theorem wr_take {l1 l2 : List Wr} {k : Nat} {x y : Wr} (h : l1.take k = l2.take k) (h1 : l1[k]? = some x) (h2 : l2[k]? = some y) (e : x = y) : l1.take (k + 1) = l2.take (k + 1) := by
  rw [List.take_add_one, List.take_add_one, h, h1, h2, e]
set_option maxHeartbeats 2000000 in
set_option maxRecDepth 100000 in
theorem WEq_any (w : World) (A1 A2 : Option Addr) (c1 c2 n1 n2 : Nat) (l1 l2 : List Wr) (B1 B2 : Nat) (h1 : WrR w B1 A1 l1) (h2 : WrR w B2 A2 l2) (hn1 : l1.length = n1) (hn2 : l2.length = n2) (hl1 : n1 ≤ 1099511627776) (hl2 : n2 ≤ 1099511627776) :
    Calls Try.prog 60 #[.slice A1 n1 c1, .slice A2 n2 c2] w (BoolP w (decide (l1 = l2))) := by
  have HB := fun q => Lib.hid (below_drewN (Below.refl w.heap.size w) q)
  by_cases hne : n1 = n2
  · subst hne
    have H1 := Lib.hid h1; have H2 := Lib.hid h2; have HN1 := Lib.hid hn1; have HN2 := Lib.hid hn2
    clear h1 h2 hn1 hn2
    go_enter Try.func60, Try.ntmps60
    go_wp2
    go_loopw [13] (fun s13 wr => ∃ k : Nat, s13 = .int .i64 (k : Int) ∧ k ≤ n1 ∧ Hid (l1.take k = l2.take k) ∧ ∃ q, wr = w.drewN q) (fun s13 _ => n1 - (intOf s13).toNat)
    case atStart => exact ⟨0, rfl, by omega, Lib.hid rfl, 0, rfl⟩
    case round =>
      obtain ⟨k, rfl, hk, ht, q, rfl⟩ := hrel
      by_cases hlt : k < n1
      · obtain ⟨g1, o1, ⟨x0, x1, x2⟩, rfl, -, hx, a0, a1, a2⟩ := WrR.row H1.out (k := k) (by rw [HN1.out]; exact hlt)
        obtain ⟨g2, o2, ⟨y0, y1, y2⟩, rfl, -, hy, b0, b1, b2⟩ := WrR.row H2.out (k := k) (by rw [HN2.out]; exact hlt)
        simp only at a0 a1 a2 b0 b1 b2
        have HX := Lib.hid hx; have HY := Lib.hid hy
        have hlI : (k : Int) < (n1 : Int) := by omega
        by_cases hxy : ((x0, x1, x2) : Wr) = (y0, y1, y2)
        · have qe : ∀ w, (Op.equalIn 10000 73 (.agg #[.string x0, .string x1, .bool x2]) (.agg #[.string y0, .string y1, .bool y2])).run Try.prog w = .ok true w := fun w => (eqw_in (x0, x1, x2) (y0, y1, y2) w).trans (by rw [decide_eq_true hxy])
          have R := Lib.hid (wr_take ht.out hx hy hxy)
          clear hx hy hxy ht
          go_wp2
          go_quiet (fail)
          go_wp2
          go_roundw
          case rel => exact ⟨k + 1, by go_num, by omega, R, _, rfl⟩
          case measure => simp [intOf]; omega
        · have qe : ∀ w, (Op.equalIn 10000 73 (.agg #[.string x0, .string x1, .bool x2]) (.agg #[.string y0, .string y1, .bool y2])).run Try.prog w = .ok false w := fun w => (eqw_in (x0, x1, x2) (y0, y1, y2) w).trans (by rw [decide_eq_false hxy])
          have R := Lib.hid (show decide (l1 = l2) = false from decide_eq_false (fun h => by subst h; rw [hx] at hy; injection hy with hy; exact hxy hy))
          clear hx hy hxy ht
          go_wp2
          go_quiet (fail)
          go_wp2
          go_ret
          exact ⟨by rw [R.out]; rfl, by first | exact (HB _).out | (rw [World.drewN_drewN]; exact (HB _).out) | exact (HB _).out.drew⟩
      · obtain rfl : k = n1 := by omega
        have hge : ¬ ((k : Int) < (k : Int)) := by omega
        have R := Lib.hid (show decide (l1 = l2) = true from decide_eq_true (by
          have h := ht.out
          rw [← HN1.out, List.take_length, HN1.out, ← HN2.out, List.take_length] at h
          exact h))
        clear ht
        go_wp2
        go_ret
        exact ⟨by rw [R.out]; rfl, by first | exact (HB _).out | (rw [World.drewN_drewN]; exact (HB _).out) | exact (HB _).out.drew⟩
  · have hnI : (n1 : Int) ≠ (n2 : Int) := by omega
    have R := Lib.hid (show decide (l1 = l2) = false from decide_eq_false (fun h => by subst h; omega))
    clear h1 h2 hn1 hn2
    go_enter Try.func60, Try.ntmps60
    go_wp2
    go_ret
    exact ⟨by rw [R.out]; rfl, (HB 0).out⟩
set_option maxHeartbeats 4000000 in
set_option maxRecDepth 100000 in
theorem TSame_any (w : World) (o s x y z o' s' x' y' z' : Int) (l l' : List Wr) (A A' : Option Addr) (n c n' c' : Nat) (h1 : WrR w w.heap.size A l) (h2 : WrR w w.heap.size A' l') (hn1 : l.length = n) (hn2 : l'.length = n') (hl1 : n ≤ 1099511627776) (hl2 : n' ≤ 1099511627776) :
    Calls Try.prog 38 #[.agg #[.int .i64 o, .int .i64 s, .int .i64 x, .int .i64 y, .int .i64 z, .slice A n c], .agg #[.int .i64 o', .int .i64 s', .int .i64 x', .int .i64 y', .int .i64 z', .slice A' n' c']] w (BoolP w (sameB (o, s, (x, y, z), l) (o', s', (x', y', z'), l'))) := by
  have hB := ((Below.refl w.heap.size w).alloc (Nat.le_refl _) (.cells #[.int .i64 o, .int .i64 s, .int .i64 x, .int .i64 y, .int .i64 z, .slice A n c] 38)).alloc (by simp) (.cells #[.int .i64 o', .int .i64 s', .int .i64 x', .int .i64 y', .int .i64 z', .slice A' n' c'] 38)
  have HB := Lib.hid hB
  have H1 := Lib.hid (StR.more (WrR.below h1 hB) hB.size); have H2 := Lib.hid (StR.more (WrR.below h2 hB) hB.size); have HN1 := Lib.hid hn1; have HN2 := Lib.hid hn2
  clear hB h1 h2 hn1 hn2
  by_cases e1 : o = o'
  · subst e1
    by_cases e2 : s = s'
    · subst e2
      by_cases e3 : x = x' ∧ y = y' ∧ z = z'
      · obtain ⟨rfl, rfl, rfl⟩ := e3
        have qe : ∀ w, (Op.equalIn 10000 29 (.agg #[.int .i64 x, .int .i64 y, .int .i64 z]) (.agg #[.int .i64 x, .int .i64 y, .int .i64 z])).run Try.prog w = .ok true w := fun w => by rw [eqc_in]; simp [eqcB]
        have R := Lib.hid (show sameB (o, s, (x, y, z), l) (o, s, (x, y, z), l') = decide (l = l') from by simp [sameB])
        go_enter Try.func38, Try.ntmps38
        go_wp2_with fail
        refine (WEq_any _ A A' c c' n n' l l' _ _ H1.out H2.out HN1.out HN2.out hl1 hl2).mono ?_
        rintro e1 w1 ⟨rfl, hb⟩
        have P := Lib.hid (HB.out.trans (hb.mono (by simp; omega)))
        clear hb
        go_wp2
        go_ret
        exact ⟨by rw [R.out]; rfl, P.out⟩
      · have qe : ∀ w, (Op.equalIn 10000 29 (.agg #[.int .i64 x, .int .i64 y, .int .i64 z]) (.agg #[.int .i64 x', .int .i64 y', .int .i64 z'])).run Try.prog w = .ok false w := fun w => by rw [eqc_in]; simp only [eqcB, e3, decide_false]
        have R := Lib.hid (show sameB (o, s, (x, y, z), l) (o, s, (x', y', z'), l') = false from sameB_ne (fun h => by injection h with _ h; injection h with _ h; injection h with h _; injection h with ha h; injection h with hb hc; exact e3 ⟨ha, hb, hc⟩))
        clear e3
        go_enter Try.func38, Try.ntmps38
        go_wp2
        go_ret
        exact ⟨by rw [R.out]; rfl, HB.out⟩
    · have R := Lib.hid (show sameB (o, s, (x, y, z), l) (o, s', (x', y', z'), l') = false from sameB_ne (fun h => by injection h with _ h; injection h with h _; exact e2 h))
      have t1 : (s == s') = false := by simp [e2]
      go_enter Try.func38, Try.ntmps38
      go_wp2
      go_ret
      exact ⟨by rw [R.out]; rfl, HB.out⟩
  · have R := Lib.hid (show sameB (o, s, (x, y, z), l) (o', s', (x', y', z'), l') = false from sameB_ne (fun h => by injection h with h _; exact e1 h))
    have t0 : (o == o') = false := by simp [e1]
    go_enter Try.func38, Try.ntmps38
    go_wp2
    go_ret
    exact ⟨by rw [R.out]; rfl, HB.out⟩
set_option maxHeartbeats 4000000 in
set_option maxRecDepth 100000 in
theorem RTSame_any (w : World) (o s x y z o' s' x' y' z' : Int) (l l' : List Wr) (A A' : Option Addr) (n c n' c' : Nat) (h1 : WrR w w.heap.size A l) (h2 : WrR w w.heap.size A' l') (hn1 : l.length = n) (hn2 : l'.length = n') (hl1 : n ≤ 1099511627776) (hl2 : n' ≤ 1099511627776) :
    Calls Try.prog 19 #[.agg #[.int .i64 o, .int .i64 s, .int .i64 x, .int .i64 y, .int .i64 z, .slice A n c], .agg #[.int .i64 o', .int .i64 s', .int .i64 x', .int .i64 y', .int .i64 z', .slice A' n' c']] w (BoolP w (sameB (o, s, (x, y, z), l) (o', s', (x', y', z'), l'))) := by
  have hB := ((Below.refl w.heap.size w).alloc (Nat.le_refl _) (.cells #[.int .i64 o, .int .i64 s, .int .i64 x, .int .i64 y, .int .i64 z, .slice A n c] 38)).alloc (by simp) (.cells #[.int .i64 o', .int .i64 s', .int .i64 x', .int .i64 y', .int .i64 z', .slice A' n' c'] 38)
  have HB := Lib.hid hB
  have H1 := Lib.hid (StR.more (WrR.below h1 hB) hB.size); have H2 := Lib.hid (StR.more (WrR.below h2 hB) hB.size); have HN1 := Lib.hid hn1; have HN2 := Lib.hid hn2
  clear hB h1 h2 hn1 hn2
  by_cases e1 : o = o'
  · subst e1
    by_cases e2 : s = s'
    · subst e2
      by_cases e3 : x = x' ∧ y = y' ∧ z = z'
      · obtain ⟨rfl, rfl, rfl⟩ := e3
        have qe : ∀ w, (Op.equalIn 10000 29 (.agg #[.int .i64 x, .int .i64 y, .int .i64 z]) (.agg #[.int .i64 x, .int .i64 y, .int .i64 z])).run Try.prog w = .ok true w := fun w => by rw [eqc_in]; simp [eqcB]
        have R := Lib.hid (show sameB (o, s, (x, y, z), l) (o, s, (x, y, z), l') = decide (l = l') from by simp [sameB])
        by_cases hne : n = n'
        · subst hne
          go_enter Try.func19, Try.ntmps19
          go_wp2
          obtain ⟨W, hW⟩ : ∃ W, (w.alloc (.cells #[.int .i64 o, .int .i64 s, .int .i64 x, .int .i64 y, .int .i64 z, .slice A n c] 38)).alloc (.cells #[.int .i64 o, .int .i64 s, .int .i64 x, .int .i64 y, .int .i64 z, .slice A' n c'] 38) = W := ⟨_, rfl⟩
          have hw1 := ((Blk.new w 38 #[.int .i64 o, .int .i64 s, .int .i64 x, .int .i64 y, .int .i64 z, .slice A n c]).alloc (.cells #[.int .i64 o, .int .i64 s, .int .i64 x, .int .i64 y, .int .i64 z, .slice A' n c'] 38))
          have hw2 := Blk.new (w.alloc (.cells #[.int .i64 o, .int .i64 s, .int .i64 x, .int .i64 y, .int .i64 z, .slice A n c] 38)) 38 #[.int .i64 o, .int .i64 s, .int .i64 x, .int .i64 y, .int .i64 z, .slice A' n c']
          rw [hW] at hw1 hw2 HB H1 H2
          have c5 : W.cell? ⟨w.heap.size, 5, none⟩ = some (.slice A n c) := hw1.cell 5
          have c6 : W.cell? ⟨w.heap.size + 1, 5, none⟩ = some (.slice A' n c') := by have h := hw2.cell 5; simpa using h
          clear hw1 hw2
          try rw [hW]
          clear hW
          have HBB := fun q => Lib.hid (below_drewN HB.out q)
          go_loopw [5] (fun s5 wr => ∃ k : Nat, s5 = .int .i64 (k : Int) ∧ k ≤ n ∧ Hid (l.take k = l'.take k) ∧ ∃ q, wr = W.drewN q) (fun s5 _ => n - (intOf s5).toNat)
          case atStart => exact ⟨0, rfl, by omega, Lib.hid rfl, 0, rfl⟩
          case round =>
            obtain ⟨k, rfl, hk, ht, q, rfl⟩ := hrel
            by_cases hlt : k < n
            · obtain ⟨g1, o1, ⟨x0, x1, x2⟩, rfl, -, hx, a0, a1, a2⟩ := WrR.row H1.out (k := k) (by rw [HN1.out]; exact hlt)
              obtain ⟨g2, o2, ⟨y0, y1, y2⟩, rfl, -, hy, b0, b1, b2⟩ := WrR.row H2.out (k := k) (by rw [HN2.out]; exact hlt)
              simp only at a0 a1 a2 b0 b1 b2
              have hlI : (k : Int) < (n : Int) := by omega
              by_cases hxy : ((x0, x1, x2) : Wr) = (y0, y1, y2)
              · have qw : ∀ w, (Op.equalIn 10000 73 (.agg #[.string x0, .string x1, .bool x2]) (.agg #[.string y0, .string y1, .bool y2])).run Try.prog w = .ok true w := fun w => (eqw_in (x0, x1, x2) (y0, y1, y2) w).trans (by rw [decide_eq_true hxy])
                have RT := Lib.hid (wr_take ht.out hx hy hxy)
                clear hx hy hxy ht qe
                go_wp2
                go_quiet (fail)
                go_wp2
                go_roundw
                case rel => exact ⟨k + 1, by go_num, by omega, RT, _, rfl⟩
                case measure => simp [intOf]; omega
              · have qw : ∀ w, (Op.equalIn 10000 73 (.agg #[.string x0, .string x1, .bool x2]) (.agg #[.string y0, .string y1, .bool y2])).run Try.prog w = .ok false w := fun w => (eqw_in (x0, x1, x2) (y0, y1, y2) w).trans (by rw [decide_eq_false hxy])
                have RT := Lib.hid (show decide (l = l') = false from decide_eq_false (fun h => by subst h; rw [hx] at hy; injection hy with hy; exact hxy hy))
                clear hx hy hxy ht qe
                go_wp2
                go_quiet (fail)
                go_wp2
                go_ret
                exact ⟨by rw [R.out, RT.out]; rfl, by first | exact (HBB _).out | (rw [World.drewN_drewN]; exact (HBB _).out) | exact (HBB _).out.drew⟩
            · obtain rfl : k = n := by omega
              have RT := Lib.hid (show decide (l = l') = true from decide_eq_true (by
                have h := ht.out
                rw [← HN1.out, List.take_length, HN1.out, ← HN2.out, List.take_length] at h
                exact h))
              clear ht qe
              go_wp2
              go_ret
              exact ⟨by rw [R.out, RT.out]; rfl, by first | exact (HBB _).out | (rw [World.drewN_drewN]; exact (HBB _).out) | exact (HBB _).out.drew⟩
        · have hnI : (n : Int) ≠ (n' : Int) := by omega
          have RT := Lib.hid (show decide (l = l') = false from decide_eq_false (fun h => hne (by rw [← HN1.out, ← HN2.out, h])))
          go_enter Try.func19, Try.ntmps19
          go_wp2
          go_ret
          exact ⟨by rw [R.out, RT.out]; rfl, HB.out⟩
      · have qe : ∀ w, (Op.equalIn 10000 29 (.agg #[.int .i64 x, .int .i64 y, .int .i64 z]) (.agg #[.int .i64 x', .int .i64 y', .int .i64 z'])).run Try.prog w = .ok false w := fun w => by rw [eqc_in]; simp only [eqcB, e3, decide_false]
        have R := Lib.hid (show sameB (o, s, (x, y, z), l) (o, s, (x', y', z'), l') = false from sameB_ne (fun h => by injection h with _ h; injection h with _ h; injection h with h _; injection h with ha h; injection h with hb hc; exact e3 ⟨ha, hb, hc⟩))
        clear e3
        go_enter Try.func19, Try.ntmps19
        go_wp2
        go_ret
        exact ⟨by rw [R.out]; rfl, HB.out⟩
    · have R := Lib.hid (show sameB (o, s, (x, y, z), l) (o, s', (x', y', z'), l') = false from sameB_ne (fun h => by injection h with _ h; injection h with h _; exact e2 h))
      have t1 : (s == s') = false := by simp [e2]
      go_enter Try.func19, Try.ntmps19
      go_wp2
      go_ret
      exact ⟨by rw [R.out]; rfl, HB.out⟩
  · have R := Lib.hid (show sameB (o, s, (x, y, z), l) (o', s', (x', y', z'), l') = false from sameB_ne (fun h => by injection h with h _; exact e1 h))
    have t0 : (o == o') = false := by simp [e1]
    go_enter Try.func19, Try.ntmps19
    go_wp2
    go_ret
    exact ⟨by rw [R.out]; rfl, HB.out⟩
end Go.Proofs.Ytgjkeccopjgjlaa
/- law 6's awake. -/
namespace Go.Proofs.Ytgjkeccopjgjlaa
open Go.ChangeShapes Go.WideShapes Go.ChangeAt Go.RowKit Go.Maps
set_option linter.unusedVariables false
set_option linter.unusedSimpArgs false

theorem wr_one {w : World} {q : Nat} {x : Wr} {cs : Array Value} (h : Blk w q 73 cs) (e : cs = #[.string x.1, .string x.2.1, .bool x.2.2]) : WrR w w.heap.size (some ⟨q, 0, none⟩) [x] := fun _ => by
  subst e
  refine ⟨q, 0, rfl, h.lt, fun k a hk => ?_⟩
  obtain ⟨hk1, rfl⟩ : k = 0 ∧ a = x := by
    cases k with
    | zero => simp at hk; exact ⟨rfl, hk.symm⟩
    | succ k => simp at hk
  subst hk1
  refine ⟨_, rfl, rfl, fun j u hu => ?_⟩
  rw [h.cell]
  simpa using hu
theorem hap_of {q : Nat} {S : Nat → Prop} {ws : List Wr} (hn : ¬ S q) : ∀ g' o', (some ⟨q, 0, none⟩ : Option Addr) = some ⟨g', o', none⟩ → ws ≠ [] → ¬ S g' := by
  intro g' o' h _
  injection h with h
  injection h with h _
  exact h ▸ hn
theorem Made.rd_of6 {w : World} {A : Option Addr} {n c : Nat} {bs : List Nat} {k : Nat} (h : Made w (.slice A n c) bs k) : Rd w w.heap.size A (u8s bs) ∧ n ≤ c ∧ c ≤ maxLen ∧ (A = none → c = 0) := by
  obtain ⟨A', c', hv, hr, h1, h2, h3, h4, h5⟩ := h
  injection hv with e1 e2 e3
  subst e1 e2 e3
  exact ⟨hr, h2, h3, h5⟩
theorem Made.cap6 {w : World} {A : Option Addr} {n c : Nat} {bs : List Nat} {k : Nat} (h : Made w (.slice A n c) bs k) : n ≤ c ∧ c ≤ maxLen := ⟨h.rd_of6.2.1, h.rd_of6.2.2.1⟩
theorem Blk.six {w : World} {g : Nat} {t : TypeId} {a b c d e f : Value} (h : Blk w g t #[a, b, c, d, e, f]) : w.cell? ⟨g, 0, none⟩ = some a ∧ w.cell? ⟨g, 1, none⟩ = some b ∧ w.cell? ⟨g, 2, none⟩ = some c ∧ w.cell? ⟨g, 3, none⟩ = some d ∧ w.cell? ⟨g, 4, none⟩ = some e ∧ w.cell? ⟨g, 5, none⟩ = some f :=
  ⟨h.cell 0, h.cell 1, h.cell 2, h.cell 3, h.cell 4, h.cell 5⟩
theorem Rd.of_blk8 {w : World} {g : Nat} {t : TypeId} {cs : Array Value} {bs : List Nat} (h : Blk w g t cs) (e : u8s bs = cs.toList) : Rd w w.heap.size (some ⟨g, 0, none⟩) (u8s bs) := fun _ => by
  refine ⟨g, 0, rfl, h.lt, fun k v hv => ?_⟩
  rw [h.cell]
  rw [e] at hv
  simpa using hv
def TrueP (w : World) (e : Ending) (w' : World) : Prop := e = .returned (.bool true) ∧ Below w.heap.size w w'
set_option maxRecDepth 100000 in
set_option maxHeartbeats 8000000 in
theorem awake6_any (w : World) : Calls Try.prog 9 #[] w (TrueP w) := by
  obtain ⟨i0, hi, hz0, hz1, hz2⟩ := info_parts infoU8
  go_enter Try.func9, Try.ntmps9
  go_wp2_with fail
  refine (CNew_any w).mono ?_
  rintro en w1 ⟨g, S1, rfl, hd, hS, hb⟩
  have D1 := Lib.hid hd; have A1 := Lib.hid hS; have B1 := Lib.hid hb
  clear hd hS hb
  go_wp2_with fail
  generalize hW : (((w1.alloc (.cells #[.string ⟨#[97]⟩, .string ⟨#[120]⟩, .bool false] 73)).alloc (.cells #[.int .i64 1, .int .i64 1, .int .i64 0, .int .i64 0, .int .i64 0, .slice (some ⟨w1.heap.size, 0, none⟩) 1 1] 38)).alloc (.cells #[.string ⟨#[97]⟩, .string ⟨#[]⟩, .bool true] 73)).alloc (.cells #[.int .i64 1, .int .i64 2, .int .i64 0, .int .i64 1, .int .i64 0, .slice (some ⟨w1.heap.size + 2, 0, none⟩) 1 1] 38) = w2
  have hb : Below w1.heap.size w1 w2 := by rw [← hW]; exact ((((Below.refl _ w1).alloc (by simp <;> omega) _).alloc (by simp <;> omega) _).alloc (by simp <;> omega) _).alloc (by simp <;> omega) _
  have D2 := Lib.hid (D1.out.below hb); have A2 := A1; have B2 := Lib.hid (B1.out.trans (hb.mono B1.out.size))
  have K2 : Hid (Blk w2 (w1.heap.size) 73 #[.string ⟨#[97]⟩, .string ⟨#[120]⟩, .bool false]) := Lib.hid (by rw [← hW]; exact ((((Blk.new' w1 73 #[.string ⟨#[97]⟩, .string ⟨#[120]⟩, .bool false] (g := w1.heap.size) (by simp)).alloc _).alloc _).alloc _))
  have O2 : Hid (Blk w2 (w1.heap.size + 1) 38 #[.int .i64 1, .int .i64 1, .int .i64 0, .int .i64 0, .int .i64 0, .slice (some ⟨w1.heap.size, 0, none⟩) 1 1]) := Lib.hid (by rw [← hW]; exact (((Blk.new' (w1.alloc (.cells #[.string ⟨#[97]⟩, .string ⟨#[120]⟩, .bool false] 73)) 38 #[.int .i64 1, .int .i64 1, .int .i64 0, .int .i64 0, .int .i64 0, .slice (some ⟨w1.heap.size, 0, none⟩) 1 1] (g := w1.heap.size + 1) (by simp)).alloc _).alloc _))
  have L2 : Hid (Blk w2 (w1.heap.size + 2) 73 #[.string ⟨#[97]⟩, .string ⟨#[]⟩, .bool true]) := Lib.hid (by rw [← hW]; exact ((Blk.new' ((w1.alloc (.cells #[.string ⟨#[97]⟩, .string ⟨#[120]⟩, .bool false] 73)).alloc (.cells #[.int .i64 1, .int .i64 1, .int .i64 0, .int .i64 0, .int .i64 0, .slice (some ⟨w1.heap.size, 0, none⟩) 1 1] 38)) 73 #[.string ⟨#[97]⟩, .string ⟨#[]⟩, .bool true] (g := w1.heap.size + 2) (by simp)).alloc _))
  have P2 : Hid (Blk w2 (w1.heap.size + 3) 38 #[.int .i64 1, .int .i64 2, .int .i64 0, .int .i64 1, .int .i64 0, .slice (some ⟨w1.heap.size + 2, 0, none⟩) 1 1]) := Lib.hid (by rw [← hW]; exact (Blk.new' (((w1.alloc (.cells #[.string ⟨#[97]⟩, .string ⟨#[120]⟩, .bool false] 73)).alloc (.cells #[.int .i64 1, .int .i64 1, .int .i64 0, .int .i64 0, .int .i64 0, .slice (some ⟨w1.heap.size, 0, none⟩) 1 1] 38)).alloc (.cells #[.string ⟨#[97]⟩, .string ⟨#[]⟩, .bool true] 73)) 38 #[.int .i64 1, .int .i64 2, .int .i64 0, .int .i64 1, .int .i64 0, .slice (some ⟨w1.heap.size + 2, 0, none⟩) 1 1] (g := w1.heap.size + 3) (by simp)))
  clear hb hW
  refine (CPut_at w2 g S1 [] 0 (0, 0, 0) 1 1 0 0 0 [(⟨#[97]⟩, ⟨#[120]⟩, false)] (some ⟨w1.heap.size, 0, none⟩) 1 1 D2.out (wr_one K2.out rfl) (hap_of (D2.out.not_blk K2.out (by decide) (by decide) (by decide))) rfl (by omega) [1, 1, 0, 0, 0, 1, 0, 1, 97, 2, 120] 0 11 [⟨#[97]⟩] 0 (0, 0, 0) (by decide +kernel) rfl).mono ?_
  rintro en w3 ⟨v, S3, rfl, hm, hf, hd, hT⟩
  obtain ⟨VMA, CMA, rfl, -⟩ := id hm
  have K3 := Lib.hid (hT.2.blk K2.out (D2.out.not_blk K2.out (by decide) (by decide) (by decide)))
  have O3 := Lib.hid (hT.2.blk O2.out (D2.out.not_blk O2.out (by decide) (by decide) (by decide)))
  have L3 := Lib.hid (hT.2.blk L2.out (D2.out.not_blk L2.out (by decide) (by decide) (by decide)))
  have P3 := Lib.hid (hT.2.blk P2.out (D2.out.not_blk P2.out (by decide) (by decide) (by decide)))
  have D3 := Lib.hid hd; have A3 := Lib.hid (hT.1.above B2.out.size A2.out); have B3 := Lib.hid (B2.out.trans (hT.2.to_below B2.out.size A2.out))
  have MA3 := Lib.hid (MadeO.of_fre hm hf)
  clear hm hf hd hT
  obtain ⟨Pa, Pb, Pc, Pd, Pe, Pf⟩ := P3.out.six
  have Pl := P3.out.lt
  go_wp2_with fail
  clear Pa Pb Pc Pd Pe Pf Pl
  refine (CPut_at w3 g S3 [⟨#[97]⟩] 0 (0, 0, 0) 1 2 0 1 0 [(⟨#[97]⟩, ⟨#[]⟩, true)] (some ⟨w1.heap.size + 2, 0, none⟩) 1 1 D3.out (wr_one L3.out rfl) (hap_of (D3.out.not_blk L3.out (by decide) (by decide) (by decide))) rfl (by omega) [1, 2, 0, 2, 0, 1, 1, 0] 0 8 [⟨#[97]⟩] 0 (0, 1, 0) (by decide +kernel) rfl).mono ?_
  rintro en w4 ⟨v, S4, rfl, hm, hf, hd, hT⟩
  obtain ⟨VMB, CMB, rfl, -⟩ := id hm
  have K4 := Lib.hid (hT.2.blk K3.out (D3.out.not_blk K3.out (by decide) (by decide) (by decide)))
  have O4 := Lib.hid (hT.2.blk O3.out (D3.out.not_blk O3.out (by decide) (by decide) (by decide)))
  have L4 := Lib.hid (hT.2.blk L3.out (D3.out.not_blk L3.out (by decide) (by decide) (by decide)))
  have P4 := Lib.hid (hT.2.blk P3.out (D3.out.not_blk P3.out (by decide) (by decide) (by decide)))
  have MA4 := Lib.hid (MA3.out.turn hT)
  have D4 := Lib.hid hd; have A4 := Lib.hid (hT.1.above B3.out.size A3.out); have B4 := Lib.hid (B3.out.trans (hT.2.to_below B3.out.size A3.out))
  have MB4 := Lib.hid (MadeO.of_fre hm hf)
  clear hm hf hd hT
  obtain ⟨Oa, Ob, Oc, Od, Oe, Of⟩ := O4.out.six
  have Ol := O4.out.lt
  go_wp2_with fail
  clear Oa Ob Oc Od Oe Of Ol
  refine (CPut_at w4 g S4 [⟨#[97]⟩] 0 (0, 1, 0) 1 1 0 0 0 [(⟨#[97]⟩, ⟨#[120]⟩, false)] (some ⟨w1.heap.size, 0, none⟩) 1 1 D4.out (wr_one K4.out rfl) (hap_of (D4.out.not_blk K4.out (by decide) (by decide) (by decide))) rfl (by omega) [1, 1, 0, 1, 0, 1, 1, 2, 120] 0 9 [⟨#[97]⟩] 0 (0, 0, 0) (by decide +kernel) rfl).mono ?_
  rintro en w5 ⟨v, S5, rfl, hm, hf, hd, hT⟩
  obtain ⟨VMC, CMC, rfl, -⟩ := id hm
  have K5 := Lib.hid (hT.2.blk K4.out (D4.out.not_blk K4.out (by decide) (by decide) (by decide)))
  have O5 := Lib.hid (hT.2.blk O4.out (D4.out.not_blk O4.out (by decide) (by decide) (by decide)))
  have L5 := Lib.hid (hT.2.blk L4.out (D4.out.not_blk L4.out (by decide) (by decide) (by decide)))
  have P5 := Lib.hid (hT.2.blk P4.out (D4.out.not_blk P4.out (by decide) (by decide) (by decide)))
  have MA5 := Lib.hid (MA4.out.turn hT)
  have MB5 := Lib.hid (MB4.out.turn hT)
  have D5 := Lib.hid hd; have A5 := Lib.hid (hT.1.above B4.out.size A4.out); have B5 := Lib.hid (B4.out.trans (hT.2.to_below B4.out.size A4.out))
  have MC5 := Lib.hid (MadeO.of_fre hm hf)
  clear hm hf hd hT
  go_wp2_with fail
  refine (CNew_any w5).mono ?_
  rintro en w6 ⟨f, U6, rfl, hd, hS, hb⟩
  have K6 := Lib.hid (K5.out.below hb K5.out.lt)
  have O6 := Lib.hid (O5.out.below hb O5.out.lt)
  have L6 := Lib.hid (L5.out.below hb L5.out.lt)
  have P6 := Lib.hid (P5.out.below hb P5.out.lt)
  have MA6 := Lib.hid (MA5.out.below hb)
  have MB6 := Lib.hid (MB5.out.below hb)
  have D6 := Lib.hid (D5.out.below hb); have A6 := A5; have B6 := Lib.hid (B5.out.trans (hb.mono B5.out.size))
  have F6 := Lib.hid hd; have AF6 := Lib.hid (fun j hj => Nat.le_trans B5.out.size (hS j hj)); have X6 : Hid (Apart S5 U6) := Lib.hid (fun j h1 h2 => by have := D5.out.lt j h1; have := hS j h2; omega)
  replace MA6 := Lib.hid (MA5.out.more hb hS)
  replace MB6 := Lib.hid (MB5.out.more hb hS)
  clear hd hS hb
  have RA := Lib.hid MA6.out.1.rd_of6.1; have HNA := Lib.hid MA6.out.1.rd_of6.2.2.2
  have hca := MA6.out.1.cap6
  have ho1 := own_lit0 w6 5 w6.heap.size (Nat.le_refl _)
  have tok1 : True := trivial
  go_wp2_with (first
    | (at_builtin; have _t := tok1; go_must (refine app_own rfl (.tmp 56) (.tmp 57) 39 rfl w6.heap.size 5 i0 (.int .u8 0) 1 Try.underlying39 hi hz0 hz1 hz2 rfl (.slice (some ⟨w6.heap.size, 0, none⟩) 0 0) 0 [] rfl ho1 _ VMA 11 CMA (u8s [1, 1, 0, 0, 0, 1, 0, 1, 97, 2, 120]) rfl rfl (RA.out.alloc _) HNA.out (u8s_one _) (by unfold maxLen; omega) (by omega) (by simp) ?_; intro v2 x2 ho2 hg2 _hne2; have HO2 := Lib.hid ho2; have HB2 := Lib.hid (below_own (B := w6.heap.size) ho1 hg2 (Nat.le_refl _) (by simp)); clear ho2 hg2 ho1 tok1 _t _hne2))
    | (at_builtin; go_must (refine app_own rfl (.tmp 58) (.tmp 59) 39 rfl w6.heap.size 5 i0 (.int .u8 0) 1 Try.underlying39 hi hz0 hz1 hz2 rfl v2 11 (u8s [1, 1, 0, 0, 0, 1, 0, 1, 97, 2, 120]) rfl (own_below (by have := HO2.out; rwa [Nat.zero_add, List.nil_append] at this) ((Below.refl _ x2).alloc (Nat.le_refl _) _)) _ (some ⟨x2.heap.size, 0, none⟩) 1 1 (u8s [9]) rfl rfl (Rd.new8 x2 5 [9] #[.int .u8 9] rfl) (fun h => by cases h) (u8s_one _) (by unfold maxLen; omega) (by omega) (by have := HB2.out.size; simp at this ⊢; omega) ?_; intro v3 x3 ho3 hg3 _hne3; obtain ⟨A3, c3, rfl, -, -, -, -, -⟩ := own_form ho3; have HO3 := Lib.hid ho3; have HG3 := Lib.hid hg3; clear ho3 hg3 _hne3)))
  have ho3 := HO3.out
  rw [← u8s_append] at ho3
  obtain ⟨A3', c3', hv3, hnc3, hcm3, -, hrd3, hno3⟩ := own_form ho3
  injection hv3 with e1 _ e2
  subst e1 e2
  have hb : Below w6.heap.size w6 x3 := (((Below.refl _ w6).alloc (Nat.le_refl _) _).trans HB2.out).trans ((((Below.refl _ x2).alloc (by have := HB2.out.size; simp at this; omega) _).trans (below_own (B := w6.heap.size) (own_below HO2.out ((Below.refl _ x2).alloc (Nat.le_refl _) _)) HG3.out (Nat.le_refl _) (by have := HB2.out.size; simp at this ⊢; omega))))
  obtain ⟨w7, rfl⟩ : ∃ q, q = x3 := ⟨_, rfl⟩
  have K7 := Lib.hid (K6.out.below hb K6.out.lt)
  have O7 := Lib.hid (O6.out.below hb O6.out.lt)
  have L7 := Lib.hid (L6.out.below hb L6.out.lt)
  have P7 := Lib.hid (P6.out.below hb P6.out.lt)
  have MA7 := Lib.hid (MA6.out.below hb)
  have MB7 := Lib.hid (MB6.out.below hb)
  have D7 := Lib.hid (D6.out.below hb); have A7 := A6; have B7 := Lib.hid (B6.out.trans (hb.mono B6.out.size))
  have F7 := Lib.hid (F6.out.below hb); have AF7 := AF6; have X7 := X6
  have RT := Lib.hid hrd3; have HNT := Lib.hid hno3
  clear ho3 hrd3 hno3 hb HO2 HB2 HO3 HG3 HNA RA
  refine (CTake_at w7 f U6 [] 0 (0, 0, 0) A3 12 c3 [1, 1, 0, 0, 0, 1, 0, 1, 97, 2, 120, 9] F7.out RT.out (by decide) rfl (by omega) hnc3 hcm3 HNT.out 1 1 0 0 0 [(⟨#[97]⟩, ⟨#[120]⟩, false)] 11 0 1 [⟨#[97]⟩] 0 (0, 0, 0) (by kernel_rfl) rfl).mono ?_
  rintro en w8 ⟨RT, CT, U8, rfl, ho, hd, hT⟩
  have K8 := Lib.hid (hT.2.blk K7.out (F7.out.not_blk K7.out (by decide) (by decide) (by decide)))
  have O8 := Lib.hid (hT.2.blk O7.out (F7.out.not_blk O7.out (by decide) (by decide) (by decide)))
  have L8 := Lib.hid (hT.2.blk L7.out (F7.out.not_blk L7.out (by decide) (by decide) (by decide)))
  have P8 := Lib.hid (hT.2.blk P7.out (F7.out.not_blk P7.out (by decide) (by decide) (by decide)))
  have MA8 := Lib.hid (MA7.out.turn hT.right)
  have MB8 := Lib.hid (MB7.out.turn hT.right)
  have F8 := Lib.hid hd; have AF8 := Lib.hid (hT.1.above B7.out.size AF7.out); have B8 := Lib.hid (B7.out.trans (hT.2.to_below B7.out.size AF7.out))
  have D8 := Lib.hid (D7.out.only hT.2 X7.out.symm); have A8 := A7; have X8 := Lib.hid (X7.out.symm.turn hT D7.out.lt).symm
  have WT8 := Lib.hid (own_base (B' := w.heap.size) ho B7.out.size)
  clear ho hd hT
  go_wp2_with fail
  generalize hW : (w8.alloc (.cells #[.int .i64 1, .int .i64 1, .int .i64 0, .int .i64 0, .int .i64 0, .slice RT 1 CT] 38)).alloc (.cells #[.int .u8 1, .int .u8 2, .int .u8 0, .int .u8 2, .int .u8 0, .int .u8 1, .int .u8 1] 5) = w9
  have hb : Below w8.heap.size w8 w9 := by rw [← hW]; exact ((Below.refl _ w8).alloc (by simp <;> omega) _).alloc (by simp <;> omega) _
  have K9 := Lib.hid (K8.out.below hb K8.out.lt)
  have O9 := Lib.hid (O8.out.below hb O8.out.lt)
  have L9 := Lib.hid (L8.out.below hb L8.out.lt)
  have P9 := Lib.hid (P8.out.below hb P8.out.lt)
  have MA9 := Lib.hid (MA8.out.below hb)
  have MB9 := Lib.hid (MB8.out.below hb)
  have WT9 := Lib.hid (own_below WT8.out hb)
  have D9 := Lib.hid (D8.out.below hb); have A9 := A8; have B9 := Lib.hid (B8.out.trans (hb.mono B8.out.size))
  have F9 := Lib.hid (F8.out.below hb); have AF9 := AF8; have X9 := X8
  have T9 : Hid (Blk w9 (w8.heap.size) 38 #[.int .i64 1, .int .i64 1, .int .i64 0, .int .i64 0, .int .i64 0, .slice RT 1 CT]) := Lib.hid (by rw [← hW]; exact ((Blk.new' w8 38 #[.int .i64 1, .int .i64 1, .int .i64 0, .int .i64 0, .int .i64 0, .slice RT 1 CT] (g := w8.heap.size) (by simp)).alloc _))
  have Z9 : Hid (Blk w9 (w8.heap.size + 1) 5 #[.int .u8 1, .int .u8 2, .int .u8 0, .int .u8 2, .int .u8 0, .int .u8 1, .int .u8 1]) := Lib.hid (by rw [← hW]; exact (Blk.new' (w8.alloc (.cells #[.int .i64 1, .int .i64 1, .int .i64 0, .int .i64 0, .int .i64 0, .slice RT 1 CT] 38)) 5 #[.int .u8 1, .int .u8 2, .int .u8 0, .int .u8 2, .int .u8 0, .int .u8 1, .int .u8 1] (g := w8.heap.size + 1) (by simp)))
  clear hb hW
  refine (CTake_at w9 f U8 [⟨#[97]⟩] 0 (0, 0, 0) (some ⟨w8.heap.size + 1, 0, none⟩) 7 7 [1, 2, 0, 2, 0, 1, 1] F9.out (by have h := Rd.of_blk8 Z9.out (bs := [1, 2, 0, 2, 0, 1, 1]) rfl; exact h) (by decide) rfl (by omega) (by omega) (by unfold maxLen; omega) (fun h => by cases h) 0 0 0 0 0 [] 0 2 0 [⟨#[97]⟩] 0 (0, 0, 0) (by kernel_rfl) rfl).mono ?_
  rintro en w10 ⟨RQ, CQ, U10, rfl, ho, hd, hT⟩
  have K10 := Lib.hid (hT.2.blk K9.out (F9.out.not_blk K9.out (by decide) (by decide) (by decide)))
  have O10 := Lib.hid (hT.2.blk O9.out (F9.out.not_blk O9.out (by decide) (by decide) (by decide)))
  have L10 := Lib.hid (hT.2.blk L9.out (F9.out.not_blk L9.out (by decide) (by decide) (by decide)))
  have P10 := Lib.hid (hT.2.blk P9.out (F9.out.not_blk P9.out (by decide) (by decide) (by decide)))
  have T10 := Lib.hid (hT.2.blk T9.out (F9.out.not_blk T9.out (by decide) (by decide) (by decide)))
  have Z10 := Lib.hid (hT.2.blk Z9.out (F9.out.not_blk Z9.out (by decide) (by decide) (by decide)))
  have MA10 := Lib.hid (MA9.out.turn hT.right)
  have MB10 := Lib.hid (MB9.out.turn hT.right)
  have WT10 := Lib.hid (hT.2.own WT9.out (F9.out.not_own WT9.out (by decide) (by decide) (by decide)))
  have F10 := Lib.hid hd; have AF10 := Lib.hid (hT.1.above B9.out.size AF9.out); have B10 := Lib.hid (B9.out.trans (hT.2.to_below B9.out.size AF9.out))
  have D10 := Lib.hid (D9.out.only hT.2 X9.out.symm); have A10 := A9; have X10 := Lib.hid (X9.out.symm.turn hT D9.out.lt).symm
  clear ho hd hT
  go_wp2_with fail
  generalize hW : w10.alloc (.cells #[.int .i64 0, .int .i64 0, .int .i64 0, .int .i64 0, .int .i64 0, .slice RQ 0 CQ] 38) = w11
  have hb : Below w10.heap.size w10 w11 := by rw [← hW]; exact (Below.refl _ w10).alloc (by simp <;> omega) _
  have K11 := Lib.hid (K10.out.below hb K10.out.lt)
  have O11 := Lib.hid (O10.out.below hb O10.out.lt)
  have L11 := Lib.hid (L10.out.below hb L10.out.lt)
  have P11 := Lib.hid (P10.out.below hb P10.out.lt)
  have T11 := Lib.hid (T10.out.below hb T10.out.lt)
  have MA11 := Lib.hid (MA10.out.below hb)
  have MB11 := Lib.hid (MB10.out.below hb)
  have WT11 := Lib.hid (own_below WT10.out hb)
  have D11 := Lib.hid (D10.out.below hb); have A11 := A10; have B11 := Lib.hid (B10.out.trans (hb.mono B10.out.size))
  have F11 := Lib.hid (F10.out.below hb); have AF11 := AF10; have X11 := X10
  clear hb hW
  refine (CTake_at w11 f U10 [⟨#[97]⟩] 0 (0, 0, 0) VMB 8 CMB [1, 2, 0, 2, 0, 1, 1, 0] F11.out MB11.out.1.rd_of6.1 (by decide) rfl (by omega) MB11.out.1.cap6.1 MB11.out.1.cap6.2 MB11.out.1.rd_of6.2.2.2 1 2 0 1 0 [(⟨#[97]⟩, ⟨#[]⟩, true)] 8 0 1 [⟨#[97]⟩] 0 (0, 1, 0) (by kernel_rfl) rfl).mono ?_
  rintro en w12 ⟨RV, CV, U12, rfl, ho, hd, hT⟩
  have K12 := Lib.hid (hT.2.blk K11.out (F11.out.not_blk K11.out (by decide) (by decide) (by decide)))
  have O12 := Lib.hid (hT.2.blk O11.out (F11.out.not_blk O11.out (by decide) (by decide) (by decide)))
  have L12 := Lib.hid (hT.2.blk L11.out (F11.out.not_blk L11.out (by decide) (by decide) (by decide)))
  have P12 := Lib.hid (hT.2.blk P11.out (F11.out.not_blk P11.out (by decide) (by decide) (by decide)))
  have T12 := Lib.hid (hT.2.blk T11.out (F11.out.not_blk T11.out (by decide) (by decide) (by decide)))
  have MA12 := Lib.hid (MA11.out.turn hT.right)
  have MB12 := Lib.hid (MB11.out.turn hT.right)
  have WT12 := Lib.hid (hT.2.own WT11.out (F11.out.not_own WT11.out (by decide) (by decide) (by decide)))
  have F12 := Lib.hid hd; have AF12 := Lib.hid (hT.1.above B11.out.size AF11.out); have B12 := Lib.hid (B11.out.trans (hT.2.to_below B11.out.size AF11.out))
  have D12 := Lib.hid (D11.out.only hT.2 X11.out.symm); have A12 := A11; have X12 := Lib.hid (X11.out.symm.turn hT D11.out.lt).symm
  have WV12 := Lib.hid (own_base (B' := w.heap.size) ho B11.out.size)
  clear ho hd hT
  go_wp2_with fail
  generalize hW : (w12.alloc (.cells #[.int .i64 1, .int .i64 2, .int .i64 0, .int .i64 1, .int .i64 0, .slice RV 1 CV] 38)).alloc (.cells #[.int .u8 3, .int .u8 1, .int .u8 0, .int .u8 1, .int .u8 0, .int .u8 0] 5) = w13
  have hb : Below w12.heap.size w12 w13 := by rw [← hW]; exact ((Below.refl _ w12).alloc (by simp <;> omega) _).alloc (by simp <;> omega) _
  have K13 := Lib.hid (K12.out.below hb K12.out.lt)
  have O13 := Lib.hid (O12.out.below hb O12.out.lt)
  have L13 := Lib.hid (L12.out.below hb L12.out.lt)
  have P13 := Lib.hid (P12.out.below hb P12.out.lt)
  have T13 := Lib.hid (T12.out.below hb T12.out.lt)
  have MA13 := Lib.hid (MA12.out.below hb)
  have MB13 := Lib.hid (MB12.out.below hb)
  have WT13 := Lib.hid (own_below WT12.out hb)
  have WV13 := Lib.hid (own_below WV12.out hb)
  have D13 := Lib.hid (D12.out.below hb); have A13 := A12; have B13 := Lib.hid (B12.out.trans (hb.mono B12.out.size))
  have F13 := Lib.hid (F12.out.below hb); have AF13 := AF12; have X13 := X12
  have V13 : Hid (Blk w13 (w12.heap.size) 38 #[.int .i64 1, .int .i64 2, .int .i64 0, .int .i64 1, .int .i64 0, .slice RV 1 CV]) := Lib.hid (by rw [← hW]; exact ((Blk.new' w12 38 #[.int .i64 1, .int .i64 2, .int .i64 0, .int .i64 1, .int .i64 0, .slice RV 1 CV] (g := w12.heap.size) (by simp)).alloc _))
  have Z13 : Hid (Blk w13 (w12.heap.size + 1) 5 #[.int .u8 3, .int .u8 1, .int .u8 0, .int .u8 1, .int .u8 0, .int .u8 0]) := Lib.hid (by rw [← hW]; exact (Blk.new' (w12.alloc (.cells #[.int .i64 1, .int .i64 2, .int .i64 0, .int .i64 1, .int .i64 0, .slice RV 1 CV] 38)) 5 #[.int .u8 3, .int .u8 1, .int .u8 0, .int .u8 1, .int .u8 0, .int .u8 0] (g := w12.heap.size + 1) (by simp)))
  clear hb hW
  refine (CTake_at w13 f U12 [⟨#[97]⟩] 0 (0, 1, 0) (some ⟨w12.heap.size + 1, 0, none⟩) 6 6 [3, 1, 0, 1, 0, 0] F13.out (by have h := Rd.of_blk8 Z13.out (bs := [3, 1, 0, 1, 0, 0]) rfl; exact h) (by decide) rfl (by omega) (by omega) (by unfold maxLen; omega) (fun h => by cases h) 0 0 0 0 0 [] 0 9 0 [⟨#[97]⟩] 0 (0, 1, 0) (by kernel_rfl) rfl).mono ?_
  rintro en w14 ⟨RN, CN, U14, rfl, ho, hd, hT⟩
  have K14 := Lib.hid (hT.2.blk K13.out (F13.out.not_blk K13.out (by decide) (by decide) (by decide)))
  have O14 := Lib.hid (hT.2.blk O13.out (F13.out.not_blk O13.out (by decide) (by decide) (by decide)))
  have L14 := Lib.hid (hT.2.blk L13.out (F13.out.not_blk L13.out (by decide) (by decide) (by decide)))
  have P14 := Lib.hid (hT.2.blk P13.out (F13.out.not_blk P13.out (by decide) (by decide) (by decide)))
  have T14 := Lib.hid (hT.2.blk T13.out (F13.out.not_blk T13.out (by decide) (by decide) (by decide)))
  have V14 := Lib.hid (hT.2.blk V13.out (F13.out.not_blk V13.out (by decide) (by decide) (by decide)))
  have Z14 := Lib.hid (hT.2.blk Z13.out (F13.out.not_blk Z13.out (by decide) (by decide) (by decide)))
  have MA14 := Lib.hid (MA13.out.turn hT.right)
  have MB14 := Lib.hid (MB13.out.turn hT.right)
  have WT14 := Lib.hid (hT.2.own WT13.out (F13.out.not_own WT13.out (by decide) (by decide) (by decide)))
  have WV14 := Lib.hid (hT.2.own WV13.out (F13.out.not_own WV13.out (by decide) (by decide) (by decide)))
  have F14 := Lib.hid hd; have AF14 := Lib.hid (hT.1.above B13.out.size AF13.out); have B14 := Lib.hid (B13.out.trans (hT.2.to_below B13.out.size AF13.out))
  have D14 := Lib.hid (D13.out.only hT.2 X13.out.symm); have A14 := A13; have X14 := Lib.hid (X13.out.symm.turn hT D13.out.lt).symm
  clear ho hd hT
  go_wp2_with fail
  generalize hW : (w14.alloc (.cells #[.int .i64 0, .int .i64 0, .int .i64 0, .int .i64 0, .int .i64 0, .slice RN 0 CN] 38)).alloc (.cells #[.int .u8 1, .int .u8 1, .int .u8 0, .int .u8 0, .int .u8 0, .int .u8 1, .int .u8 0, .int .u8 1, .int .u8 97, .int .u8 2, .int .u8 120] 5) = w15
  have hb : Below w14.heap.size w14 w15 := by rw [← hW]; exact ((Below.refl _ w14).alloc (by simp <;> omega) _).alloc (by simp <;> omega) _
  have K15 := Lib.hid (K14.out.below hb K14.out.lt)
  have O15 := Lib.hid (O14.out.below hb O14.out.lt)
  have L15 := Lib.hid (L14.out.below hb L14.out.lt)
  have P15 := Lib.hid (P14.out.below hb P14.out.lt)
  have T15 := Lib.hid (T14.out.below hb T14.out.lt)
  have V15 := Lib.hid (V14.out.below hb V14.out.lt)
  have MA15 := Lib.hid (MA14.out.below hb)
  have MB15 := Lib.hid (MB14.out.below hb)
  have WT15 := Lib.hid (own_below WT14.out hb)
  have WV15 := Lib.hid (own_below WV14.out hb)
  have D15 := Lib.hid (D14.out.below hb); have A15 := A14; have B15 := Lib.hid (B14.out.trans (hb.mono B14.out.size))
  have F15 := Lib.hid (F14.out.below hb); have AF15 := AF14; have X15 := X14
  have Z15 : Hid (Blk w15 (w14.heap.size + 1) 5 #[.int .u8 1, .int .u8 1, .int .u8 0, .int .u8 0, .int .u8 0, .int .u8 1, .int .u8 0, .int .u8 1, .int .u8 97, .int .u8 2, .int .u8 120]) := Lib.hid (by rw [← hW]; exact (Blk.new' (w14.alloc (.cells #[.int .i64 0, .int .i64 0, .int .i64 0, .int .i64 0, .int .i64 0, .slice RN 0 CN] 38)) 5 #[.int .u8 1, .int .u8 1, .int .u8 0, .int .u8 0, .int .u8 0, .int .u8 1, .int .u8 0, .int .u8 1, .int .u8 97, .int .u8 2, .int .u8 120] (g := w14.heap.size + 1) (by simp)))
  clear hb hW
  refine (same_at w15 VMA _ CMA 11 [1, 1, 0, 0, 0, 1, 0, 1, 97, 2, 120] [1, 1, 0, 0, 0, 1, 0, 1, 97, 2, 120] _ _ 11 11 true (MA15.out.1.rd_of6.1) (Rd.of_blk8 Z15.out (bs := [1, 1, 0, 0, 0, 1, 0, 1, 97, 2, 120]) rfl) (by simp [maxLen]) rfl rfl (by decide)).mono ?_
  rintro en w16 ⟨rfl, q, hq⟩
  have hb : Below w15.heap.size w15 w16 := by rw [hq]; exact below_drewN (Below.refl _ _) q
  clear hq
  have K16 := Lib.hid (K15.out.below hb K15.out.lt)
  have O16 := Lib.hid (O15.out.below hb O15.out.lt)
  have L16 := Lib.hid (L15.out.below hb L15.out.lt)
  have P16 := Lib.hid (P15.out.below hb P15.out.lt)
  have T16 := Lib.hid (T15.out.below hb T15.out.lt)
  have V16 := Lib.hid (V15.out.below hb V15.out.lt)
  have Z16 := Lib.hid (Z15.out.below hb Z15.out.lt)
  have MA16 := Lib.hid (MA15.out.below hb)
  have MB16 := Lib.hid (MB15.out.below hb)
  have WT16 := Lib.hid (own_below WT15.out hb)
  have WV16 := Lib.hid (own_below WV15.out hb)
  have D16 := Lib.hid (D15.out.below hb); have A16 := A15; have B16 := Lib.hid (B15.out.trans (hb.mono B15.out.size))
  have F16 := Lib.hid (F15.out.below hb); have AF16 := AF15; have X16 := X15
  clear hb
  go_wp2_with fail
  generalize hW : w16.alloc (.cells #[.int .u8 1, .int .u8 2, .int .u8 0, .int .u8 2, .int .u8 0, .int .u8 1, .int .u8 1, .int .u8 0] 5) = w17
  have hb : Below w16.heap.size w16 w17 := by rw [← hW]; exact (Below.refl _ w16).alloc (by simp <;> omega) _
  have K17 := Lib.hid (K16.out.below hb K16.out.lt)
  have O17 := Lib.hid (O16.out.below hb O16.out.lt)
  have L17 := Lib.hid (L16.out.below hb L16.out.lt)
  have P17 := Lib.hid (P16.out.below hb P16.out.lt)
  have T17 := Lib.hid (T16.out.below hb T16.out.lt)
  have V17 := Lib.hid (V16.out.below hb V16.out.lt)
  have MA17 := Lib.hid (MA16.out.below hb)
  have MB17 := Lib.hid (MB16.out.below hb)
  have WT17 := Lib.hid (own_below WT16.out hb)
  have WV17 := Lib.hid (own_below WV16.out hb)
  have D17 := Lib.hid (D16.out.below hb); have A17 := A16; have B17 := Lib.hid (B16.out.trans (hb.mono B16.out.size))
  have F17 := Lib.hid (F16.out.below hb); have AF17 := AF16; have X17 := X16
  have Z17 : Hid (Blk w17 (w16.heap.size) 5 #[.int .u8 1, .int .u8 2, .int .u8 0, .int .u8 2, .int .u8 0, .int .u8 1, .int .u8 1, .int .u8 0]) := Lib.hid (by rw [← hW]; exact (Blk.new' w16 5 #[.int .u8 1, .int .u8 2, .int .u8 0, .int .u8 2, .int .u8 0, .int .u8 1, .int .u8 1, .int .u8 0] (g := w16.heap.size) (by simp)))
  clear hb hW
  refine (same_at w17 VMB _ CMB 8 [1, 2, 0, 2, 0, 1, 1, 0] [1, 2, 0, 2, 0, 1, 1, 0] _ _ 8 8 true (MB17.out.1.rd_of6.1) (Rd.of_blk8 Z17.out (bs := [1, 2, 0, 2, 0, 1, 1, 0]) rfl) (by simp [maxLen]) rfl rfl (by decide)).mono ?_
  rintro en w18 ⟨rfl, q, hq⟩
  have hb : Below w17.heap.size w17 w18 := by rw [hq]; exact below_drewN (Below.refl _ _) q
  clear hq
  have K18 := Lib.hid (K17.out.below hb K17.out.lt)
  have O18 := Lib.hid (O17.out.below hb O17.out.lt)
  have L18 := Lib.hid (L17.out.below hb L17.out.lt)
  have P18 := Lib.hid (P17.out.below hb P17.out.lt)
  have T18 := Lib.hid (T17.out.below hb T17.out.lt)
  have V18 := Lib.hid (V17.out.below hb V17.out.lt)
  have Z18 := Lib.hid (Z17.out.below hb Z17.out.lt)
  have MA18 := Lib.hid (MA17.out.below hb)
  have MB18 := Lib.hid (MB17.out.below hb)
  have WT18 := Lib.hid (own_below WT17.out hb)
  have WV18 := Lib.hid (own_below WV17.out hb)
  have D18 := Lib.hid (D17.out.below hb); have A18 := A17; have B18 := Lib.hid (B17.out.trans (hb.mono B17.out.size))
  have F18 := Lib.hid (F17.out.below hb); have AF18 := AF17; have X18 := X17
  clear hb
  obtain ⟨Ta, Tb, Tc, Td, Te, Tf⟩ := T18.out.six
  have Tl := T18.out.lt
  obtain ⟨Oa, Ob, Oc, Od, Oe, Of⟩ := O18.out.six
  have Ol := O18.out.lt
  go_wp2_with fail
  clear Ta Tb Tc Td Te Tf Tl
  clear Oa Ob Oc Od Oe Of Ol
  refine (TSame_any w18 1 1 0 0 0 1 1 0 0 0 [(⟨#[97]⟩, ⟨#[120]⟩, false)] [(⟨#[97]⟩, ⟨#[120]⟩, false)] _ _ 1 _ 1 _ (wr_of_own WT18.out B18.out.size) (wr_one (x := (⟨#[97]⟩, ⟨#[120]⟩, false)) K18.out rfl) rfl rfl (by omega) (by omega)).mono ?_
  rintro en w19 ⟨rfl, hb⟩
  have K19 := Lib.hid (K18.out.below hb K18.out.lt)
  have O19 := Lib.hid (O18.out.below hb O18.out.lt)
  have L19 := Lib.hid (L18.out.below hb L18.out.lt)
  have P19 := Lib.hid (P18.out.below hb P18.out.lt)
  have T19 := Lib.hid (T18.out.below hb T18.out.lt)
  have V19 := Lib.hid (V18.out.below hb V18.out.lt)
  have MA19 := Lib.hid (MA18.out.below hb)
  have MB19 := Lib.hid (MB18.out.below hb)
  have WT19 := Lib.hid (own_below WT18.out hb)
  have WV19 := Lib.hid (own_below WV18.out hb)
  have D19 := Lib.hid (D18.out.below hb); have A19 := A18; have B19 := Lib.hid (B18.out.trans (hb.mono B18.out.size))
  have F19 := Lib.hid (F18.out.below hb); have AF19 := AF18; have X19 := X18
  clear hb
  obtain ⟨Va, Vb, Vc, Vd, Ve, Vf⟩ := V19.out.six
  have Vl := V19.out.lt
  obtain ⟨Pa, Pb, Pc, Pd, Pe, Pf⟩ := P19.out.six
  have Pl := P19.out.lt
  go_wp2_with fail
  clear Va Vb Vc Vd Ve Vf Vl
  clear Pa Pb Pc Pd Pe Pf Pl
  refine (TSame_any w19 1 2 0 1 0 1 2 0 1 0 [(⟨#[97]⟩, ⟨#[]⟩, true)] [(⟨#[97]⟩, ⟨#[]⟩, true)] _ _ 1 _ 1 _ (wr_of_own WV19.out B19.out.size) (wr_one (x := (⟨#[97]⟩, ⟨#[]⟩, true)) L19.out rfl) rfl rfl (by omega) (by omega)).mono ?_
  rintro en w20 ⟨rfl, hb⟩
  have K20 := Lib.hid (K19.out.below hb K19.out.lt)
  have O20 := Lib.hid (O19.out.below hb O19.out.lt)
  have L20 := Lib.hid (L19.out.below hb L19.out.lt)
  have P20 := Lib.hid (P19.out.below hb P19.out.lt)
  have T20 := Lib.hid (T19.out.below hb T19.out.lt)
  have V20 := Lib.hid (V19.out.below hb V19.out.lt)
  have MA20 := Lib.hid (MA19.out.below hb)
  have MB20 := Lib.hid (MB19.out.below hb)
  have WT20 := Lib.hid (own_below WT19.out hb)
  have WV20 := Lib.hid (own_below WV19.out hb)
  have D20 := Lib.hid (D19.out.below hb); have A20 := A19; have B20 := Lib.hid (B19.out.trans (hb.mono B19.out.size))
  have F20 := Lib.hid (F19.out.below hb); have AF20 := AF19; have X20 := X19
  clear hb
  go_wp2_with fail
  refine (CClock_any w20 f _ _ _ _ F20.out).mono ?_
  rintro en w21 ⟨rfl, hb⟩
  have K21 := Lib.hid (K20.out.below hb K20.out.lt)
  have O21 := Lib.hid (O20.out.below hb O20.out.lt)
  have L21 := Lib.hid (L20.out.below hb L20.out.lt)
  have P21 := Lib.hid (P20.out.below hb P20.out.lt)
  have T21 := Lib.hid (T20.out.below hb T20.out.lt)
  have V21 := Lib.hid (V20.out.below hb V20.out.lt)
  have MA21 := Lib.hid (MA20.out.below hb)
  have MB21 := Lib.hid (MB20.out.below hb)
  have WT21 := Lib.hid (own_below WT20.out hb)
  have WV21 := Lib.hid (own_below WV20.out hb)
  have D21 := Lib.hid (D20.out.below hb); have A21 := A20; have B21 := Lib.hid (B20.out.trans (hb.mono B20.out.size))
  have F21 := Lib.hid (F20.out.below hb); have AF21 := AF20; have X21 := X20
  clear hb
  have qe : ∀ w, (Op.equalIn 10000 29 (.agg #[.int .i64 0, .int .i64 1, .int .i64 0]) (.agg #[.int .i64 0, .int .i64 1, .int .i64 0])).run Try.prog w = .ok true w := fun w => by rw [eqc_in]; rfl
  go_wp2_with fail
  refine (Check_any w21 0 2 0 0 0 [] none 0 0 (StR.nil _ _ _) rfl (by omega)).mono ?_
  rintro en w22 ⟨rfl, hb⟩
  have K22 := Lib.hid (K21.out.below hb K21.out.lt)
  have O22 := Lib.hid (O21.out.below hb O21.out.lt)
  have L22 := Lib.hid (L21.out.below hb L21.out.lt)
  have P22 := Lib.hid (P21.out.below hb P21.out.lt)
  have T22 := Lib.hid (T21.out.below hb T21.out.lt)
  have V22 := Lib.hid (V21.out.below hb V21.out.lt)
  have MA22 := Lib.hid (MA21.out.below hb)
  have MB22 := Lib.hid (MB21.out.below hb)
  have WT22 := Lib.hid (own_below WT21.out hb)
  have WV22 := Lib.hid (own_below WV21.out hb)
  have D22 := Lib.hid (D21.out.below hb); have A22 := A21; have B22 := Lib.hid (B21.out.trans (hb.mono B21.out.size))
  have F22 := Lib.hid (F21.out.below hb); have AF22 := AF21; have X22 := X21
  clear hb
  go_wp2_with fail
  refine (Check_any w22 0 0 0 0 0 [] none 0 0 (StR.nil _ _ _) rfl (by omega)).mono ?_
  rintro en w23 ⟨rfl, hb⟩
  have K23 := Lib.hid (K22.out.below hb K22.out.lt)
  have O23 := Lib.hid (O22.out.below hb O22.out.lt)
  have L23 := Lib.hid (L22.out.below hb L22.out.lt)
  have P23 := Lib.hid (P22.out.below hb P22.out.lt)
  have T23 := Lib.hid (T22.out.below hb T22.out.lt)
  have V23 := Lib.hid (V22.out.below hb V22.out.lt)
  have MA23 := Lib.hid (MA22.out.below hb)
  have MB23 := Lib.hid (MB22.out.below hb)
  have WT23 := Lib.hid (own_below WT22.out hb)
  have WV23 := Lib.hid (own_below WV22.out hb)
  have D23 := Lib.hid (D22.out.below hb); have A23 := A22; have B23 := Lib.hid (B22.out.trans (hb.mono B22.out.size))
  have F23 := Lib.hid (F22.out.below hb); have AF23 := AF22; have X23 := X22
  clear hb
  obtain ⟨Oa, Ob, Oc, Od, Oe, Of⟩ := O23.out.six
  have Ol := O23.out.lt
  obtain ⟨Pa, Pb, Pc, Pd, Pe, Pf⟩ := P23.out.six
  have Pl := P23.out.lt
  go_wp2_with fail
  clear Oa Ob Oc Od Oe Of Ol
  clear Pa Pb Pc Pd Pe Pf Pl
  refine (TSame_any w23 1 1 0 0 0 1 2 0 1 0 [(⟨#[97]⟩, ⟨#[120]⟩, false)] [(⟨#[97]⟩, ⟨#[]⟩, true)] _ _ 1 _ 1 _ (wr_one (x := (⟨#[97]⟩, ⟨#[120]⟩, false)) K23.out rfl) (wr_one (x := (⟨#[97]⟩, ⟨#[]⟩, true)) L23.out rfl) rfl rfl (by omega) (by omega)).mono ?_
  rintro en w24 ⟨rfl, hb⟩
  have K24 := Lib.hid (K23.out.below hb K23.out.lt)
  have O24 := Lib.hid (O23.out.below hb O23.out.lt)
  have L24 := Lib.hid (L23.out.below hb L23.out.lt)
  have P24 := Lib.hid (P23.out.below hb P23.out.lt)
  have T24 := Lib.hid (T23.out.below hb T23.out.lt)
  have V24 := Lib.hid (V23.out.below hb V23.out.lt)
  have MA24 := Lib.hid (MA23.out.below hb)
  have MB24 := Lib.hid (MB23.out.below hb)
  have WT24 := Lib.hid (own_below WT23.out hb)
  have WV24 := Lib.hid (own_below WV23.out hb)
  have D24 := Lib.hid (D23.out.below hb); have A24 := A23; have B24 := Lib.hid (B23.out.trans (hb.mono B23.out.size))
  have F24 := Lib.hid (F23.out.below hb); have AF24 := AF23; have X24 := X23
  clear hb
  have HP := Lib.hid (show TrueP w (.returned (.bool true)) w24 from ⟨rfl, B24.out⟩)
  go_wp2
  go_ret
  exact HP.out
end Go.Proofs.Ytgjkeccopjgjlaa
/- law 6's Large and large. -/
namespace Go.Proofs.Ytgjkeccopjgjlaa
open Go.ChangeShapes Go.WideShapes Go.ChangeAt Go.RowKit Go.Deep
set_option linter.unusedVariables false
set_option linter.unusedSimpArgs false

def FineT (t : Txn) : Prop := t.2.2.2.length ≤ 40 ∧ ∀ (j : Nat) (x : Wr), t.2.2.2[j]? = some x → x.1.size ≤ 9000 ∧ x.2.1.size ≤ 9000
def LgTPost (w : World) (t : Txn) (e : Ending) (w' : World) : Prop := (∃ b, e = .returned (.bool b) ∧ (b = false → FineT t)) ∧ Below w.heap.size w w'
theorem lgT_t {w w' : World} {t : Txn} (hb : Below w.heap.size w w') : LgTPost w t (.returned (.bool true)) w' := ⟨⟨true, rfl, fun h => by cases h⟩, hb⟩
set_option maxHeartbeats 4000000 in
set_option maxRecDepth 100000 in
theorem LargeT_any (w : World) (o s x y z : Int) (l : List Wr) (A : Option Addr) (n c : Nat) (hr : WrR w w.heap.size A l) (hn : l.length = n) (hl : n ≤ 9223372036854775807) :
    Calls Try.prog 39 #[.agg #[.int .i64 o, .int .i64 s, .int .i64 x, .int .i64 y, .int .i64 z, .slice A n c]] w (LgTPost w (o, s, (x, y, z), l)) := by
  have hB0 := (Below.refl w.heap.size w).alloc (Nat.le_refl _) (.cells #[.int .i64 o, .int .i64 s, .int .i64 x, .int .i64 y, .int .i64 z, .slice A n c] 38)
  have HB0 := Lib.hid hB0
  have HR := Lib.hid hr; have HN := Lib.hid hn
  by_cases h40 : 40 < n
  · have h40i : (40 : Int) < (n : Int) := by omega
    have HP := Lib.hid (lgT_t (t := (o, s, (x, y, z), l)) hB0)
    clear hr hn hB0
    go_enter Try.func39, Try.ntmps39
    go_wp2
    go_ret
    exact HP.out
  · have h40i : ¬ (40 : Int) < (n : Int) := by omega
    clear hr hn hB0
    go_enter Try.func39, Try.ntmps39
    go_wp2
    obtain ⟨W, hW⟩ : ∃ W, w.alloc (.cells #[.int .i64 o, .int .i64 s, .int .i64 x, .int .i64 y, .int .i64 z, .slice A n c] 38) = W := ⟨_, rfl⟩
    rw [hW] at HB0
    try rw [hW]
    clear hW
    go_loopw [12] (fun s12 wr => ∃ k : Nat, s12 = .int .i64 (k : Int) ∧ k ≤ n ∧ Hid (∀ (j : Nat) (x : Wr), j < k → l[j]? = some x → x.1.size ≤ 9000 ∧ x.2.1.size ≤ 9000) ∧ Below w.heap.size w wr) (fun s12 _ => n - (intOf s12).toNat)
    case atStart => exact ⟨0, rfl, by omega, Lib.hid (fun j p hj => absurd hj (by omega)), HB0.out⟩
    case round =>
      clear HB0
      obtain ⟨k, rfl, hk, hall, hbel⟩ := hrel
      have HB := Lib.hid hbel
      by_cases hlt : k < n
      · obtain ⟨g, o', ⟨q1, q2, q3⟩, rfl, hg, hp, d0, d1, d2⟩ := WrR.row (WrR.below HR.out hbel) (k := k) (by rw [HN.out]; exact hlt)
        simp only at d0 d1 d2
        have hgw : g < wr.heap.size := World.block_lt_of_cell? _ _ d0
        have hltI : (k : Int) < (n : Int) := by omega
        have HP := Lib.hid hp
        have HB1 := Lib.hid (hbel.alloc hbel.size (.cells #[.string q1, .string q2, .bool q3] 73))
        clear hp hbel
        by_cases h1 : 9000 < q1.size
        · have h1i : (9000 : Int) < (q1.size : Int) := by omega
          have HPP := Lib.hid (lgT_t (t := (o, s, (x, y, z), l)) HB1.out)
          clear hall
          go_wp2
          go_ret
          exact HPP.out
        · have h1i : ¬ (9000 : Int) < (q1.size : Int) := by omega
          by_cases h2 : 9000 < q2.size
          · have h2i : (9000 : Int) < (q2.size : Int) := by omega
            have HPP := Lib.hid (lgT_t (t := (o, s, (x, y, z), l)) HB1.out)
            clear hall
            go_wp2
            go_ret
            exact HPP.out
          · have h2i : ¬ (9000 : Int) < (q2.size : Int) := by omega
            have R : Hid (∀ (j : Nat) (x : Wr), j < k + 1 → l[j]? = some x → x.1.size ≤ 9000 ∧ x.2.1.size ≤ 9000) := Lib.hid (fun j q hj hq => by
              by_cases hjk : j = k
              · subst hjk; rw [HP.out] at hq; cases hq; simp only; omega
              · exact hall.out j q (by omega) hq)
            clear hall
            go_wp2
            go_roundw
            case rel => exact ⟨k + 1, by go_num, hlt, R, HB1.out⟩
            case measure => simp [intOf]; omega
      · obtain rfl : k = n := by omega
        have HPP := Lib.hid (show LgTPost w (o, s, (x, y, z), l) (.returned (.bool false)) wr from ⟨⟨false, rfl, fun _ => ⟨by simp only; rw [HN.out]; omega, fun j p hp => hall.out j p (by have := (List.getElem?_eq_some_iff.1 hp).1; simp only at this; rw [HN.out] at this; exact this) hp⟩⟩, HB.out⟩)
        clear hall hbel
        go_wp2
        go_ret
        exact HPP.out
def FineA (a : ActT) : Prop := FineT a.2.1 ∧ a.2.2.length ≤ 9000
def Lg6Post (w : World) (ys : List ActT) (e : Ending) (w' : World) : Prop := (∃ b, e = .returned (.bool b) ∧ (b = false → ys.length ≤ 30 ∧ ∀ (j : Nat) (a : ActT), ys[j]? = some a → FineA a)) ∧ Below w.heap.size w w'
theorem lg6_t {w w' : World} {ys : List ActT} (hb : Below w.heap.size w w') : Lg6Post w ys (.returned (.bool true)) w' := ⟨⟨true, rfl, fun h => by cases h⟩, hb⟩
abbrev acs (d o s x y z : Int) (A : Option Addr) (n c : Nat) (Ab : Option Addr) (nb cb : Nat) : Array Value := #[.int .i64 d, .int .i64 o, .int .i64 s, .int .i64 x, .int .i64 y, .int .i64 z, .slice A n c, .slice Ab nb cb]
theorem Acts6.row {w : World} {B : Nat} {A : Option Addr} {ys : List ActT} (h : Acts6 w B A ys) {k : Nat} (hk : k < ys.length) : ∃ g o' d o s x y z l bs At ct Ab cb, A = some ⟨g, o', none⟩ ∧ g < B ∧ ys[k]? = some (d, (o, s, (x, y, z), l), bs) ∧
    (w.cell? ⟨g, o' + k * 8, none⟩ = some (.int .i64 d) ∧ w.cell? ⟨g, o' + k * 8 + 1, none⟩ = some (.int .i64 o) ∧ w.cell? ⟨g, o' + k * 8 + 2, none⟩ = some (.int .i64 s) ∧ w.cell? ⟨g, o' + k * 8 + 3, none⟩ = some (.int .i64 x) ∧ w.cell? ⟨g, o' + k * 8 + 4, none⟩ = some (.int .i64 y) ∧ w.cell? ⟨g, o' + k * 8 + 5, none⟩ = some (.int .i64 z) ∧ w.cell? ⟨g, o' + k * 8 + 6, none⟩ = some (.slice At l.length ct) ∧ w.cell? ⟨g, o' + k * 8 + 7, none⟩ = some (.slice Ab bs.length cb)) ∧
    (WrR w B At l ∧ l.length ≤ ct ∧ ct ≤ maxLen ∧ (At = none → ct = 0) ∧ TxB (o, s, (x, y, z), l)) ∧ Rd w B Ab (u8s bs) ∧ bs.length ≤ cb ∧ cb ≤ maxLen ∧ (Ab = none → cb = 0) ∧ (∀ b ∈ bs, b < 256) ∧ I64 d := by
  obtain ⟨g, o', ⟨d, ⟨o, s, ⟨x, y, z⟩, l⟩, bs⟩, cs, e, hg, hk', hl, ⟨At, ct, Ab, cb, rfl, r1, r2⟩, hc⟩ := StR.row h hk
  exact ⟨g, o', d, o, s, x, y, z, l, bs, At, ct, Ab, cb, e, hg, hk', ⟨hc 0 _ rfl, hc 1 _ rfl, hc 2 _ rfl, hc 3 _ rfl, hc 4 _ rfl, hc 5 _ rfl, hc 6 _ rfl, hc 7 _ rfl⟩, r1, r2⟩
set_option maxHeartbeats 4000000 in
set_option maxRecDepth 100000 in
theorem large6_any (w : World) (A : Option Addr) (len cap : Nat) (ys : List ActT) (hr : Acts6 w w.heap.size A ys) (hn : ys.length = len) (hlc : len ≤ cap) (hcm : cap ≤ maxLen) :
    Calls Try.prog 10 #[.slice A len cap] w (Lg6Post w ys) := by
  have HR := Lib.hid hr; have HN := Lib.hid hn
  unfold maxLen at hcm
  have HB0 := Lib.hid (Below.refl w.heap.size w)
  by_cases h30 : 30 < len
  · have h30i : (30 : Int) < (len : Int) := by omega
    have HP := Lib.hid (lg6_t (ys := ys) HB0.out)
    clear hr hn
    go_enter Try.func10, Try.ntmps10
    go_wp2
    go_ret
    exact HP.out
  · have h30i : ¬ (30 : Int) < (len : Int) := by omega
    clear hr hn
    go_enter Try.func10, Try.ntmps10
    go_wp2
    go_loopw [10] (fun s10 wr => ∃ k : Nat, s10 = .int .i64 (k : Int) ∧ k ≤ len ∧ Hid (∀ (j : Nat) (a : ActT), j < k → ys[j]? = some a → FineA a) ∧ Below w.heap.size w wr) (fun s10 _ => len - (intOf s10).toNat)
    case atStart => exact ⟨0, rfl, by omega, Lib.hid (fun j p hj => absurd hj (by omega)), HB0.out⟩
    case round =>
      clear HB0
      obtain ⟨k, rfl, hk, hall, hbel⟩ := hrel
      have HB := Lib.hid hbel
      by_cases hlt : k < len
      · obtain ⟨g, o', d, o, s, x, y, z, l, bs, At, ct, Ab, cb, rfl, hg, hp, ⟨d0, d1, d2, d3, d4, d5, d6, d7⟩, ⟨hw, hlw, hctm, -, -⟩, hb, hbc, hbm, -, -, -⟩ := Acts6.row (Acts6.below HR.out hbel) (k := k) (by rw [HN.out]; exact hlt)
        have hgw : g < wr.heap.size := World.block_lt_of_cell? _ _ d0
        have hltI : (k : Int) < (len : Int) := by omega
        obtain ⟨nw, hnw⟩ : ∃ q, l.length = q := ⟨_, rfl⟩
        obtain ⟨nb, hnb⟩ : ∃ q, bs.length = q := ⟨_, rfl⟩
        rw [hnw] at d6 hlw; rw [hnb] at d7
        unfold maxLen at hctm
        have HP := Lib.hid hp; have HNB := Lib.hid hnb
        have hal : Below wr.heap.size wr (wr.alloc (.cells (acs d o s x y z At nw ct Ab nb cb) 41)) := (Below.refl _ _).alloc (Nat.le_refl _) _
        have HC := Lib.hid (LargeT_any (wr.alloc (.cells (acs d o s x y z At nw ct Ab nb cb) 41)) o s x y z l At nw ct (StR.more (WrR.below hw (hal.mono hbel.size)) (Nat.le_trans hbel.size hal.size)) hnw (by omega))
        have HB1 := Lib.hid (hbel.trans (hal.mono hbel.size))
        have Z := Lib.hid (Blk.new wr 41 (acs d o s x y z At nw ct Ab nb cb))
        clear hp hbel hw hb hal hnw hnb hbm hctm
        go_wp2_with fail
        refine HC.out.mono ?_
        rintro en w1 ⟨⟨b, rfl, hfi⟩, hb1⟩
        have HF := Lib.hid hfi
        have Z1 := Z.out.below hb1 Z.out.lt
        have f7 : w1.cell? ⟨wr.heap.size, 7, none⟩ = some (.slice Ab nb cb) := Z1.cell 7
        have HB2 := Lib.hid (HB1.out.trans (hb1.mono HB1.out.size))
        clear hb1 hfi Z1 d0 d1 d2 d3 d4 d5 d6 d7 HC
        cases b with
        | true =>
          have HPP := Lib.hid (lg6_t (ys := ys) HB2.out)
          clear hall
          go_wp2
          go_ret
          exact HPP.out
        | false =>
          by_cases h1 : 9000 < nb
          · have h1i : (9000 : Int) < (nb : Int) := by omega
            have HPP := Lib.hid (lg6_t (ys := ys) HB2.out)
            clear hall
            go_wp2
            go_ret
            exact HPP.out
          · have h1i : ¬ (9000 : Int) < (nb : Int) := by omega
            have R : Hid (∀ (j : Nat) (a : ActT), j < k + 1 → ys[j]? = some a → FineA a) := Lib.hid (fun j q hj hq => by
              by_cases hjk : j = k
              · subst hjk; rw [HP.out] at hq; cases hq; exact ⟨HF.out rfl, by simp only; rw [HNB.out]; omega⟩
              · exact hall.out j q (by omega) hq)
            clear hall
            go_wp2
            go_roundw
            case rel => exact ⟨k + 1, by go_num, hlt, R, HB2.out⟩
            case measure => simp [intOf]; omega
      · obtain rfl : k = len := by omega
        have HPP := Lib.hid (show Lg6Post w ys (.returned (.bool false)) wr from ⟨⟨false, rfl, fun _ => ⟨by rw [HN.out]; omega, fun j p hp => hall.out j p (by have := (List.getElem?_eq_some_iff.1 hp).1; rw [HN.out] at this; exact this) hp⟩⟩, HB.out⟩)
        clear hall hbel
        go_wp2
        go_ret
        exact HPP.out
end Go.Proofs.Ytgjkeccopjgjlaa

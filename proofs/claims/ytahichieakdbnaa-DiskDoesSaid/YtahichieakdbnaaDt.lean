/- disk: step. -/
import Derived.Test.YtahichieakdbnaaDs
namespace Go.Proofs.Ytahichieakdbnaa
open Go.ChangeShapes Go.WideShapes Go.ChangeAt Go.RowKit Go.Maps
set_option linter.unusedVariables false
set_option linter.unusedSimpArgs false

/-- what step lays ahead: the receiver, and the result -/
theorem two_new (w : World) (a : Value) (t t2 : TypeId) (u : Value) : Below w.heap.size w ((w.alloc (.cells #[a] t)).alloc (.cells #[u] t2)) ∧ ((w.alloc (.cells #[a] t)).alloc (.cells #[u] t2)).cell? ⟨w.heap.size, 0, none⟩ = some a ∧ ((w.alloc (.cells #[a] t)).alloc (.cells #[u] t2)).cell? ⟨w.heap.size + 1, 0, none⟩ = some u := by
  have k1 := Blk.new w t #[a]
  have k2 := k1.alloc (.cells #[u] t2)
  have k3 := Blk.new' (w.alloc (.cells #[a] t)) t2 #[u] (g := w.heap.size + 1) (by simp)
  refine ⟨((Below.refl _ w).alloc (Nat.le_refl _) _).alloc (by simp) _, by rw [k2.cell]; rfl, by rw [k3.cell]; rfl⟩
/-- without power, or with a fuse that is burnt -/
def offD (down fused : Bool) (fuse : Nat) : Bool := down || (fused && fuse == 0)
set_option maxHeartbeats 3000000 in
theorem DStep_off (w : World) (g room : Nat) (vs : List Value) (fs : List Fl) (down fused : Bool) (fuse : Nat) (F : Value) (h : DskM w g room vs fs down fused fuse) (hoff : offD down fused fuse = true) :
    Calls Try.prog 73 #[.pointer (some ⟨g, 0, none⟩), F] w (fun en w' => en = .returned (.int .i64 8) ∧ DskM w' g room vs fs true fused fuse ∧ Only (fun j => j = g) w w') := by
  have hmf : ∀ (fn : Fn) (first cap : Array Value) (w : World), (Instr.makeFunc fn first cap).run Try.prog w = .ok (.func fn first cap) w := fun _ _ _ _ => rfl
  obtain ⟨n1, n2, n3⟩ := two_new w (.pointer (some ⟨g, 0, none⟩)) 25 26 (.int .i64 8)
  have hk := h.below n1
  have gl := h.2.2.1.lt
  have a0 := h.down0
  have a1 := h.fused0
  have a2 := h.fuse0
  have hend := Lib.hid (hk.setDown true)
  have hon : Hid (Only (fun j => j = g) w ((((w.alloc (.cells #[.pointer (some ⟨g, 0, none⟩)] 25)).alloc (.cells #[.int .i64 8] 26))).setCell ⟨g, 129, none⟩ (.bool true))) := Lib.hid (Only.set (S := fun j => j = g) (Only.of_below n1) rfl _ _)
  have d129 := hk.down0
  have z129 := hk.2.2.1.frozen 129
  have n3' := n3
  have hne : (⟨g, 129, none⟩ : Addr) ≠ ⟨w.heap.size + 1, 0, none⟩ := by intro e; injection e with e1 e2; omega
  have n4 : ((((w.alloc (.cells #[.pointer (some ⟨g, 0, none⟩)] 25)).alloc (.cells #[.int .i64 8] 26))).setCell ⟨g, 129, none⟩ (.bool true)).cell? ⟨w.heap.size + 1, 0, none⟩ = some (.int .i64 8) := by
    rw [World.cell?_setCell_other _ _ _ _ hne]; exact n3
  have N2 := Lib.hid n2; have N3 := Lib.hid n3; have N4 := Lib.hid n4; have HD := Lib.hid d129; have HZ := Lib.hid z129
  clear h hk n1 n2 n3 n3' n4 d129 z129 hne
  unfold offD at hoff
  rcases down with _ | _
  · rcases fused with _ | _
    · simp at hoff
    · obtain rfl : fuse = 0 := by simpa using hoff
      clear hoff
      go_enter_defers Try.func73, Try.ntmps73
      go_wp2
      refine leaves_cons (f := 93) (args := #[.pointer (some ⟨w.heap.size + 1, 0, none⟩), .pointer (some ⟨w.heap.size, 0, none⟩)]) (by simp) (by simp [go_sem]) ?_
      refine (look_down _ (w.heap.size + 1) w.heap.size g .returning N3.out N2.out ⟨_, HD.out⟩ HZ.out).mono ?_
      rintro e u' w'' ⟨rfl, rfl, rfl⟩
      have N4' := N4.out
      exact ⟨.int .i64 8, by simp [results, Try.results73, go_sem, N4'], rfl, hend.out, hon.out⟩
  · clear hoff
    go_enter_defers Try.func73, Try.ntmps73
    go_wp2
    refine leaves_cons (f := 93) (args := #[.pointer (some ⟨w.heap.size + 1, 0, none⟩), .pointer (some ⟨w.heap.size, 0, none⟩)]) (by simp) (by simp [go_sem]) ?_
    refine (look_down _ (w.heap.size + 1) w.heap.size g .returning N3.out N2.out ⟨_, HD.out⟩ HZ.out).mono ?_
    rintro e u' w'' ⟨rfl, rfl, rfl⟩
    have N4' := N4.out
    exact ⟨.int .i64 8, by simp [results, Try.results73, go_sem, N4'], rfl, hend.out, hon.out⟩
theorem Only.setNew {S : Nat → Prop} {a b : World} (h : Only S a b) {g : Nat} (hg : a.heap.size ≤ g) (i : Nat) (u : Value) : Only S a (b.setCell ⟨g, i, none⟩ u) :=
  ⟨h.1, h.2.1, h.2.2.1, by simpa [World.setCell] using h.size, fun j hj hn => (Below.heap_setCell b ⟨g, i, none⟩ u j (by show j ≠ g; omega)).trans (h.2.2.2.2 j hj hn)⟩
/-- behind what step was handed: the new cells are as they were, and the result is laid -/
theorem step_mid {w w2 : World} {g room fuse : Nat} {vs vs2 : List Value} {fs fs2 : List Fl} {down fused : Bool} (h : DskM w g room vs fs down fused fuse) (n : Int)
    (hD2 : DskM w2 g room vs2 fs2 down fused fuse) (hT : Turned ((w.alloc (.cells #[.pointer (some ⟨g, 0, none⟩)] 25)).alloc (.cells #[.int .i64 0] 26)) (DS g vs) (DS g vs2) w2) :
    w2.cell? ⟨w.heap.size + 1, 0, none⟩ = some (.int .i64 0) ∧ w2.frozen? ⟨w.heap.size + 1, 0, none⟩ = false ∧
    ∃ W, W = w2.setCell ⟨w.heap.size + 1, 0, none⟩ (.int .i64 n) ∧ W.cell? ⟨w.heap.size + 1, 0, none⟩ = some (.int .i64 n) ∧ W.cell? ⟨w.heap.size, 0, none⟩ = some (.pointer (some ⟨g, 0, none⟩)) ∧ DskM W g room vs2 fs2 down fused fuse ∧ Turned w (DS g vs) (DS g vs2) W ∧
    ((W.setCell ⟨g, 131, none⟩ (.int .i64 ((fuse - 1 : Nat) : Int))).cell? ⟨w.heap.size + 1, 0, none⟩ = some (.int .i64 n)) ∧ Turned w (DS g vs) (DS g vs2) (W.setCell ⟨g, 131, none⟩ (.int .i64 ((fuse - 1 : Nat) : Int))) := by
  have hlt := h.lt
  have gl := h.2.2.1.lt
  obtain ⟨n1, n2, n3⟩ := two_new w (.pointer (some ⟨g, 0, none⟩)) 25 26 (.int .i64 0)
  have k1 := (Blk.new w 25 #[.pointer (some ⟨g, 0, none⟩)]).alloc (.cells #[.int .i64 0] 26)
  have k2 := Blk.new' (w.alloc (.cells #[.pointer (some ⟨g, 0, none⟩)] 25)) 26 #[.int .i64 0] (g := w.heap.size + 1) (by simp)
  have hN1 : ¬ DS g vs w.heap.size := fun e => by have := hlt _ e; omega
  have hN2 : ¬ DS g vs (w.heap.size + 1) := fun e => by have := hlt _ e; omega
  have m1 := hT.2.blk k1 hN1
  have m2 := hT.2.blk k2 hN2
  have hne : w.heap.size ≠ (⟨w.heap.size + 1, 0, none⟩ : Addr).block := by show w.heap.size ≠ w.heap.size + 1; omega
  have p1 := m1.far hne (.int .i64 n)
  have p2 := m2.set 0 (.int .i64 n)
  have hTW : Turned w (DS g vs) (DS g vs2) (w2.setCell ⟨w.heap.size + 1, 0, none⟩ (.int .i64 n)) := by
    refine ⟨fun j hj => ?_, ?_⟩
    · rcases hT.1 j hj with h1 | h1
      · exact .inl h1
      · have := n1.size; exact .inr (by omega)
    · exact (((Only.of_below (S := DS g vs) n1).trans hT.2 (Sub.refl _ _))).setNew (by omega) 0 _
  have hS2 : ∀ j, DS g vs2 j → ¬ (j = w.heap.size + 1) := by
    intro j hj e
    subst e
    rcases hT.1 _ hj with h1 | h1
    · exact hN2 h1
    · simp at h1; omega
  have hDW : DskM (w2.setCell ⟨w.heap.size + 1, 0, none⟩ (.int .i64 n)) g room vs2 fs2 down fused fuse := hD2.only (S := fun j => j = w.heap.size + 1) (Only.set (S := fun j => j = w.heap.size + 1) (Only.refl _ w2) rfl _ _) hS2
  have hg1 : w.heap.size + 1 ≠ (⟨g, 131, none⟩ : Addr).block := by show w.heap.size + 1 ≠ g; omega
  have p3 := p2.far hg1 (.int .i64 ((fuse - 1 : Nat) : Int))
  refine ⟨by rw [m2.cell]; rfl, m2.frozen 0, _, rfl, by rw [p2.cell]; rfl, by rw [p1.cell]; rfl, hDW, hTW, by rw [p3.cell]; rfl, hTW.1, hTW.2.set (.inl rfl) _ _⟩
set_option maxHeartbeats 3000000 in
theorem DStep_on (w : World) (g room : Nat) (vs : List Value) (fs : List Fl) (down fused : Bool) (fuse : Nat) (K : FuncId) (cap : Array Value) (h : DskM w g room vs fs down fused fuse) (hfu : fuse ≤ 9223372036854775807) (hoff : offD down fused fuse = false)
    (he : ∀ w, (callFunc K cap).run Try.prog w = .ok (.enter K cap) w) (R : Int → List Value → List Fl → Prop)
    (hdo : ∀ w1, Below w.heap.size w w1 → Calls Try.prog K cap w1 (fun en w2 => ∃ n, en = .returned (.int .i64 n) ∧ (n == 8) = false ∧ ∃ vs2 fs2, R n vs2 fs2 ∧ DskM w2 g room vs2 fs2 down fused fuse ∧ Turned w1 (DS g vs) (DS g vs2) w2)) :
    Calls Try.prog 73 #[.pointer (some ⟨g, 0, none⟩), .func (.func K) #[] cap] w (fun en w' => ∃ n, en = .returned (.int .i64 n) ∧ ∃ vs2 fs2, R n vs2 fs2 ∧ DskM w' g room vs2 fs2 down fused (if fused then fuse - 1 else fuse) ∧ Turned w (DS g vs) (DS g vs2) w') := by
  have hmf : ∀ (fn : Fn) (first cap : Array Value) (w : World), (Instr.makeFunc fn first cap).run Try.prog w = .ok (.func fn first cap) w := fun _ _ _ _ => rfl
  obtain ⟨n1, n2, n3⟩ := two_new w (.pointer (some ⟨g, 0, none⟩)) 25 26 (.int .i64 0)
  have gl := h.2.2.1.lt
  have a0 := h.down0
  have a1 := h.fused0
  have a2 := h.fuse0
  have H := Lib.hid h
  have HDO := Lib.hid hdo
  have N1 := Lib.hid n1; have N2 := Lib.hid n2; have N3 := Lib.hid n3
  clear h n1 n2 n3 hdo
  unfold offD at hoff
  obtain rfl : down = false := by rcases down with _ | _ <;> simp_all
  rcases fused with _ | _
  · clear hoff
    go_enter_defers Try.func73, Try.ntmps73
    go_wp2
    refine (HDO.out _ N1.out).mono ?_
    rintro en w2 ⟨n, rfl, hn8, vs2, fs2, hR, hD2, hT⟩
    obtain ⟨c1, z1, W, hW, q1, q2, q3, q4, _, _⟩ := step_mid H.out n hD2 hT
    have Q1 := Lib.hid q1; have Q3 := Lib.hid q3; have Q4 := Lib.hid q4; have HR := Lib.hid hR; have HW := Lib.hid hW
    clear hD2 hT q1 q3 q4 hR hW
    go_wp2
    rw [← HW.out]
    refine leaves_cons (f := 93) (args := #[.pointer (some ⟨w.heap.size + 1, 0, none⟩), .pointer (some ⟨w.heap.size, 0, none⟩)]) (by simp) (by simp [go_sem]) ?_
    refine (look_none W (w.heap.size + 1) w.heap.size g n hn8 .returning Q1.out q2 Q3.out.fused0).mono ?_
    rintro e u' w'' ⟨rfl, rfl, rfl⟩
    have Q1' := Q1.out
    exact ⟨.int .i64 n, by simp [results, Try.results73, go_sem, Q1'], n, rfl, vs2, fs2, HR.out, Q3.out, Q4.out⟩
  · have hf0 : ((fuse : Int) == 0) = false := by simp at hoff; simp; omega
    clear hoff
    go_enter_defers Try.func73, Try.ntmps73
    go_wp2
    refine (HDO.out _ N1.out).mono ?_
    rintro en w2 ⟨n, rfl, hn8, vs2, fs2, hR, hD2, hT⟩
    obtain ⟨c1, z1, W, hW, q1, q2, q3, q4, q5, q6⟩ := step_mid H.out n hD2 hT
    have Q1 := Lib.hid q1; have Q3 := Lib.hid q3; have Q5 := Lib.hid q5; have Q6 := Lib.hid q6; have HR := Lib.hid hR; have HW := Lib.hid hW
    have k0 : 0 < fuse := by simp at hf0; omega
    clear hD2 hT q1 q3 q4 q5 q6 hR hW
    go_wp2
    rw [← HW.out]
    refine leaves_cons (f := 93) (args := #[.pointer (some ⟨w.heap.size + 1, 0, none⟩), .pointer (some ⟨w.heap.size, 0, none⟩)]) (by simp) (by simp [go_sem]) ?_
    refine (look_burn W (w.heap.size + 1) w.heap.size g n hn8 fuse hfu k0 .returning Q1.out q2 Q3.out.fused0 Q3.out.fuse0 (Q3.out.2.2.1.frozen 131)).mono ?_
    rintro e u' w'' ⟨rfl, rfl, rfl⟩
    have Q5' := Q5.out
    exact ⟨.int .i64 n, by simp [results, Try.results73, go_sem, Q5'], n, rfl, vs2, fs2, HR.out, Q3.out.setFuse (fuse - 1), Q6.out⟩
end Go.Proofs.Ytahichieakdbnaa

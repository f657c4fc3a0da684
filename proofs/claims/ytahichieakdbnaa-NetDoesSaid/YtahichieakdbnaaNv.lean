/- net: slices of rows of three cells, copy; Send, Double, Take. -/
import Derived.Test.YtahichieakdbnaaNu
import Derived.Test.YtahichieakdbnaaSl3
namespace Go.Proofs.Ytahichieakdbnaa
open Go.ChangeShapes Go.WideShapes Go.ChangeAt Go.RowKit Go.Maps
set_option linter.unusedVariables false
set_option linter.unusedSimpArgs false

theorem addk (q k : Nat) : (⟨q, 0, none⟩ : Addr).add k = ⟨q, k, none⟩ := by
  rcases Nat.eq_zero_or_pos k with h | h
  · subst h; simp [Addr.add]
  · simp [Addr.add, Nat.ne_of_gt h]
theorem addk2 (q o k : Nat) : (⟨q, o, none⟩ : Addr).add k = ⟨q, o + k, none⟩ := by
  rcases Nat.eq_zero_or_pos k with h | h
  · subst h; simp [Addr.add]
  · simp [Addr.add, Nat.ne_of_gt h]
theorem sl_fromS {P : Program} (t e : TypeId) (sz : Nat) (ht : P.underlying t = some (.slice e)) (hs : ∀ w, (sizeOf e).run P w = .ok sz w) (q n c k : Nat) (hk : k ≤ n) (hc : n ≤ c) :
    ∃ o, (∀ w, (Instr.sliceAt t (.slice (some ⟨q, 0, none⟩) n c) (some (.int .i64 (k : Int))) none none).run P w = .ok (.slice (some ⟨q, o, none⟩) (n - k) (c - k)) w) ∧ (k < c → o = k * sz) := by
  have he : P.elem t = e := by simp [Program.elem, ht]
  by_cases h : c = k
  · refine ⟨0, fun w => ?_, fun h' => by omega⟩
    rw [run_sliceAt_slice w t _ _ _ _ (by rw [he]; exact ht), run_slice_l w t _ n c (by rw [he]; exact ht) .i64 (k : Int) (by omega) (by omega), he, hs]
    simp [sliced, h]
  · refine ⟨k * sz, fun w => ?_, fun _ => rfl⟩
    rw [run_sliceAt_slice w t _ _ _ _ (by rw [he]; exact ht), run_slice_l w t _ n c (by rw [he]; exact ht) .i64 (k : Int) (by omega) (by omega), he, hs]
    simp [sliced, h, addk]
theorem sl_hS {P : Program} (t e : TypeId) (sz : Nat) (ht : P.underlying t = some (.slice e)) (hs : ∀ w, (sizeOf e).run P w = .ok sz w) (q n c h : Nat) (hh : h ≤ c) :
    ∀ w, (Instr.sliceAt t (.slice (some ⟨q, 0, none⟩) n c) none (some (.int .i64 (h : Int))) none).run P w = .ok (.slice (some ⟨q, 0, none⟩) h c) w := fun w => by
  have he : P.elem t = e := by simp [Program.elem, ht]
  rw [run_sliceAt_slice w t _ _ _ _ (by rw [he]; exact ht), run_slice_h w t _ n c (by rw [he]; exact ht) .i64 (h : Int) (by omega) (by omega), he, hs]
  simp [sliced, Addr.add]
/-- copy of elements of more than one cell, as a step of a region that draws -/
theorem step_copyS {P : Program} {ops : Array Oper} {o : Oper} {a : Act} {w : World} {K : Act → World → Prop} {Q : Exit → Act → World → Prop} {E : Prop} (hgd : o.guard = none) (d s : Operand) (dT sT : TypeId)
    (ho : o.op = .call { callee := .builtin .copy, args := #[d, s], argTypes := #[dT, sT] }) (elem : TypeId) (sz : Nat) (hu : P.underlying dT = some (.slice elem)) (hsz : (P.info? elem).map (·.size) = some sz)
    (g off dLen dCap : Nat) (ad : Addr) (sLen sCap m : Nat) (hd : a.eval d = .slice (some ⟨g, off, none⟩) dLen dCap) (hs : a.eval s = .slice (some ad) sLen sCap)
    (cur : Array Value) (t : TypeId) (hg : w.heap[g]? = some (.cells cur t (0, 0))) (cs : List Value) (hm : Nat.min sLen dLen = m) (hn : cs.length = m * sz)
    (hsrc : ∀ j v, cs[j]? = some v → w.cell? (ad.add j) = some v) (hfit : off + cs.length ≤ cur.size) (h1 : ∀ v ∈ cs, v.oneCell' = true)
    (h : ∀ w', Blk w' g t (cur.toList.take off ++ cs ++ cur.toList.drop (off + cs.length)).toArray → Only (fun j => j = g) w w' → K (a.put o.dst (goInt m)) w') :
    if Region.wanted o (yielded ops a.tmps) = true then Oper.wp P o a w K Q else E := by
  have hw : Region.wanted o (yielded ops a.tmps) = true := by simp [Region.wanted, hgd]
  rw [if_pos hw]
  have hrun := run_copy_rowS (P := P) w dT sT o.type elem g off dLen dCap ad sLen sCap sz m cur t cs hu hsz hg hm hn hsrc hfit h1
  unfold Oper.wp
  simp [execOp, ho, resolve, invoke, builtin, hd, hs, hrun, Result.andThen]
  refine h _ ?_ ⟨rfl, rfl, rfl, by simp [World.setRow], fun j _ hj => setRow_other w g j _ hj⟩
  have := setRow_heap w g cur (cur.toList.take off ++ cs ++ cur.toList.drop (off + cs.length)).toArray t (0, 0) hg
  simpa [Blk] using this
theorem sizeSent : ∀ w, (sizeOf 141).run Try.prog w = .ok 3 w := fun w => by kernel_rfl
theorem infoSent1 : (Try.prog.info? 141).map (·.size) = some 3 := by kernel_rfl
set_option maxHeartbeats 2000000 in
set_option maxRecDepth 100000 in
theorem NSendQ_any (w : World) (g : Nat) (S : Nat → Prop) (Q : Value → Prop) (row : List Snt) (to : Int) (A : Option Addr) (n c : Nat) (bs : List Nat) (h : NetQ w g S Q row) (hQN : QNew w Q) (hr : Rd w w.heap.size A (u8s bs)) (h256 : ∀ b ∈ bs, b < 256) (hn : bs.length = n) (hl : n ≤ 1099511627776) (hc : n ≤ c) (hnone : A = none → c = 0) (hrl : row.length ≤ 64) :
    Calls Try.prog 54 #[.pointer (some ⟨g, 0, none⟩), .agg #[.int .i64 to, .slice A n c]] w (NResQ w g S Q (Nm.send row (to, bs))) := by
  have hB := (Below.refl w.heap.size w).alloc (Nat.le_refl _) (.cells #[.int .i64 to, .slice A n c] 98)
  have HB := Lib.hid hB
  have HM := Lib.hid h
  have HC := Lib.hid (nputQ_any (w.alloc (.cells #[.int .i64 to, .slice A n c] 98)) g S Q row to A n c bs false (h.below hB) (fun v hv => hQN v (fre_down hv hB.size)) ((hr.below hB).more hB.size) h256 hn hl hc hnone hrl)
  clear h hQN hr h256 hn hnone hB
  by_cases h1 : to < 0
  · have HP := Lib.hid (show NResQ w g S Q (Nm.send row (to, bs)) (.returned (.bool false)) (w.alloc (.cells #[.int .i64 to, .slice A n c] 98)) from by
      unfold Nm.send
      rw [if_pos (.inl h1)]
      exact ⟨rfl, S, HM.out.below HB.out, (Turned.refl w S).below HB.out⟩)
    go_enter Try.func54, Try.ntmps54
    go_wp2
    go_ret
    exact HP.out
  · by_cases h2 : 3 < to
    · have HP := Lib.hid (show NResQ w g S Q (Nm.send row (to, bs)) (.returned (.bool false)) (w.alloc (.cells #[.int .i64 to, .slice A n c] 98)) from by
        unfold Nm.send
        rw [if_pos (.inr h2)]
        exact ⟨rfl, S, HM.out.below HB.out, (Turned.refl w S).below HB.out⟩)
      go_enter Try.func54, Try.ntmps54
      go_wp2
      go_ret
      exact HP.out
    · go_enter Try.func54, Try.ntmps54
      go_wp2_with fail
      refine HC.out.mono ?_
      rintro en w1 ⟨rfl, S', hd, hT⟩
      have HP := Lib.hid (show NResQ w g S Q (Nm.send row (to, bs)) (.returned (.bool (Nm.put row ((to, bs), false)).1)) w1 from by
        unfold Nm.send
        rw [if_neg (by simp only; omega)]
        exact ⟨rfl, S', hd, ⟨fun j hj => by
          rcases hT.1 j hj with h | h
          · exact .inl h
          · exact .inr (by simp at h; omega), ((Only.refl S w).alloc _).trans hT.2 (Sub.refl _ _)⟩⟩)
      clear hd hT
      go_wp2
      go_ret
      exact HP.out
theorem NSend_any (w : World) (g : Nat) (S : Nat → Prop) (row : List Snt) (to : Int) (A : Option Addr) (n c : Nat) (bs : List Nat) (h : NetM w g S row) (hr : Rd w w.heap.size A (u8s bs)) (h256 : ∀ b ∈ bs, b < 256) (hn : bs.length = n) (hl : n ≤ 1099511627776) (hc : n ≤ c) (hnone : A = none → c = 0) (hrl : row.length ≤ 64) :
    Calls Try.prog 54 #[.pointer (some ⟨g, 0, none⟩), .agg #[.int .i64 to, .slice A n c]] w (NRes w g S (Nm.send row (to, bs))) :=
  (NSendQ_any w g S (fun _ => True) row to A n c bs h.toT (fun _ _ => trivial) hr h256 hn hl hc hnone hrl).mono (fun _ _ h => h.toM)
/-- an element of the row as it lies -/
theorem NetM.el {w : World} {g : Nat} {S : Nat → Prop} {row : List Snt} (h : NetM w g S row) {k : Nat} (hk : k < row.length) : ∃ q cp to A c bs sp, w.cell? ⟨g, 0, none⟩ = some (.slice (some ⟨q, 0, none⟩) row.length cp) ∧ row[k]? = some ((to, bs), sp) ∧ MadeO w S (.slice A bs.length c) bs bs.length ∧
    (w.cell? ⟨q, k * 3, none⟩ = some (.int .i64 to) ∧ w.cell? ⟨q, k * 3 + 1, none⟩ = some (.slice A bs.length c) ∧ w.cell? ⟨q, k * 3 + 2, none⟩ = some (.bool sp)) ∧ S q ∧ q ≠ g ∧ q < w.heap.size ∧ g < w.heap.size := by
  obtain ⟨v, ms, h1, h2, h3, h4⟩ := h
  obtain ⟨to, A, c, bs, sp, e1, e2, e3⟩ := h3.of_key hk
  obtain ⟨q, cp, rfl, _, hq⟩ := h2.form (by omega)
  have hc := fl3_get ms k _ e2
  have cs := fun j u hu => (addk q (k * 3 + j)) ▸ h2.cells (g := q) rfl (k * 3 + j) u (hc j u hu)
  refine ⟨q, cp, to, A, c, bs, sp, h1.cell 0, e1, e3, ⟨by simpa using cs 0 _ rfl, cs 1 _ rfl, cs 2 _ rfl⟩, (h4 q).2 (.inr rfl), own_ne_blk h2 h1 (by decide) q rfl, hq, h1.lt⟩
theorem Made.parts {w : World} {A : Option Addr} {n c : Nat} {bs : List Nat} {k : Nat} (h : Made w (.slice A n c) bs k) : Rd w w.heap.size A (u8s bs) ∧ n ≤ c ∧ c ≤ maxLen ∧ (A = none → c = 0) ∧ (∀ b ∈ bs, b < 256) := by
  obtain ⟨A', c', hv, hr, h1, h2, h3, h4, h5⟩ := h
  injection hv with e1 e2 e3
  subst e1 e2 e3
  exact ⟨hr, h2, h3, h5, h4⟩
set_option maxHeartbeats 2000000 in
set_option maxRecDepth 100000 in
theorem NDblQ_any (w : World) (g : Nat) (S : Nat → Prop) (Q : Value → Prop) (row : List Snt) (i : Int) (h : NetQ w g S Q row) (hQN : QNew w Q) (hi0 : -9223372036854775808 ≤ i) (hi1 : i ≤ 9223372036854775807) (hrl : row.length ≤ 64) (hbl : ∀ x ∈ row, x.1.2.length ≤ 1099511627776) :
    Calls Try.prog 60 #[.pointer (some ⟨g, 0, none⟩), .int .i64 i] w (NResQ w g S Q (Nm.dbl row i)) := by
  have HM := Lib.hid h
  have HC := Lib.hid (plc_any w g S row i h.toM hi0 hi1 hrl)
  unfold PlcPost at HC
  unfold Nm.dbl
  cases hp : Nm.plc row i with
  | none =>
    rw [hp] at HC
    simp only at HC
    clear h hQN hp
    go_enter Try.func60, Try.ntmps60
    go_wp2_with fail
    refine HC.out.mono ?_
    rintro en w1 ⟨rfl, rfl⟩
    go_wp2
    go_ret
    exact ⟨rfl, S, HM.out, Turned.refl w S⟩
  | some k =>
    rw [hp] at HC
    simp only at HC
    obtain ⟨hk, -, -⟩ := Nm.plc_lt hp
    obtain ⟨q, cp, to, A, c, bs, sp, a0, e1, e2, ⟨b0, b1, b2⟩, -, hqg, hql, hgl⟩ := h.toM.el hk
    obtain ⟨hr, hc, hcm, hno, h256⟩ := e2.1.parts
    have hbs : bs.length ≤ 1099511627776 := hbl ((to, bs), sp) (List.mem_of_getElem? e1)
    obtain ⟨n, hn⟩ : ∃ n, bs.length = n := ⟨_, rfl⟩
    have HCP := Lib.hid (nputQ_any w g S Q row to A n c bs sp h hQN hr h256 hn (by omega) (by omega) hno hrl)
    have hx : row[k]?.getD Nm.s0 = ((to, bs), sp) := by rw [e1]; rfl
    have HX := Lib.hid hx
    rw [hn] at b1
    have hkI : (k : Int) < (row.length : Int) := by omega
    clear h hQN hr h256 hn hno e1 e2 hp hx
    go_enter Try.func60, Try.ntmps60
    go_wp2_with fail
    refine HC.out.mono ?_
    rintro en w1 ⟨rfl, rfl⟩
    go_wp2_with fail
    refine HCP.out.mono ?_
    rintro en w1 ⟨rfl, S', hd, hT⟩
    have HP := Lib.hid (show NResQ w g S Q (Nm.put row (row[k]?.getD Nm.s0)) (.returned (.bool (Nm.put row ((to, bs), sp)).1)) w1 from by rw [HX.out]; exact ⟨rfl, S', hd, hT⟩)
    clear hd hT
    go_wp2
    go_ret
    exact HP.out
theorem NDbl_any (w : World) (g : Nat) (S : Nat → Prop) (row : List Snt) (i : Int) (h : NetM w g S row) (hi0 : -9223372036854775808 ≤ i) (hi1 : i ≤ 9223372036854775807) (hrl : row.length ≤ 64) (hbl : ∀ x ∈ row, x.1.2.length ≤ 1099511627776) :
    Calls Try.prog 60 #[.pointer (some ⟨g, 0, none⟩), .int .i64 i] w (NRes w g S (Nm.dbl row i)) :=
  (NDblQ_any w g S (fun _ => True) row i h.toT (fun _ _ => trivial) hi0 hi1 hrl hbl).mono (fun _ _ h => h.toM)
end Go.Proofs.Ytahichieakdbnaa

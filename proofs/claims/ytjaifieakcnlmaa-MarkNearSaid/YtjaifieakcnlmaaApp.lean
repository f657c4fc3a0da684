/- append onto an own row, as a step of a region that draws its order, from whatever can be read. -/
import Derived.Test.YtjaifieakcnlmaaBlk
import Derived.Deep.RegionLaw
import Derived.Deep.AppendLies
namespace Go.Proofs.Ytjaifieakcnlmaa
open Go.ChangeShapes Go.WideShapes Go.ChangeAt Go.RowKit
set_option linter.unusedVariables false

theorem wp_app_own {P : Program} {w : World} {o : Oper} {a : Act} {K : Act → World → Prop} {Q : Exit → Act → World → Prop} (s x : Operand) (t : TypeId)
    (ho : o.op = .call { callee := .builtin .append, args := #[s, x], argTypes := #[t, t] })
    (base : Nat) (e : TypeId) (i : TypeInfo) (z : Value) (bytes : Nat) (ht : P.underlying t = some (.slice e)) (hi : P.info? e = some i) (hz : i.zero = some z)
    (hsize : i.size = 1) (hby : i.bytes = bytes) (hzs : z.cells.size = 1)
    (v : Value) (n : Nat) (xs : List Value) (hs : a.eval s = v) (hown : w.ownsRow base e 1 v n xs)
    (B : Nat) (A : Option Addr) (m c : Nat) (news : List Value) (hx : a.eval x = .slice A m c) (hl : news.length = m) (hr : Rd w B A news) (hnone : A = none → c = 0) (h1 : ∀ u ∈ news, u.oneCell' = true)
    (h63 : n + m ≤ maxLen) (hbytes : (n + m) * bytes ≤ 140737488355328) (hbase : base ≤ w.heap.size)
    (h : ∀ v' w', w'.ownsRow base e 1 v' (n + m) (xs ++ news) → w.grownBy w' v.ownBlock → K (a.put o.dst v') w') : o.wp P a w K Q := by
  cases A with
  | none =>
    have hn : news = [] := by
      rcases Classical.em (news = []) with h0 | h0
      · exact h0
      · obtain ⟨g, o, he, _⟩ := hr h0; cases he
    subst hn
    have hm : m = 0 := by simpa using hl.symm
    have hc := hnone rfl
    subst hm hc
    have hrun := run_append_owned_none (P := P) (w := w) base t o.type e i 1 ht hi v n xs hown
    unfold Oper.wp execOp
    simp only [ho, resolve, invoke, builtin, Sem.run_bind, Sem.run_pure, Result.andThen_ok, List.map_toArray, List.map_cons, List.map_nil, hs, hx, hrun]
    exact h v w (by simpa using hown) (World.grownBy.refl w _)
  | some ad =>
    have hcell : ∀ j u, news[j]? = some u → w.cell? (ad.add j) = some u := by
      intro j u hu
      obtain ⟨g, o, he, _, hc⟩ := hr (by intro h0; simp [h0] at hu)
      injection he with he
      subst he
      have h5 := hc j u hu
      rcases Nat.eq_zero_or_pos j with h2 | h2
      · subst h2; simpa [Addr.add] using h5
      · simpa [Addr.add, Nat.ne_of_gt h2] using h5
    obtain ⟨v', w', hrun, h2, h3, _⟩ := run_append_own (P := P) w base t o.type e i z 1 bytes ht hi hz hsize hby hzs (by omega) v n xs hown ad m c news (by omega) hcell h1 h63 hbytes hbase
    unfold Oper.wp execOp
    simp only [ho, resolve, invoke, builtin, Sem.run_bind, Sem.run_pure, Result.andThen_ok, List.map_toArray, List.map_cons, List.map_nil, hs, hx, hrun]
    exact h v' w' h2 h3
theorem step_app_own {P : Program} {w : World} {ops : Array Oper} {o : Oper} {a : Act} {K : Act → World → Prop} {Q : Exit → Act → World → Prop} {E : Prop} (hgd : o.guard = none) (s x : Operand) (t : TypeId)
    (ho : o.op = .call { callee := .builtin .append, args := #[s, x], argTypes := #[t, t] })
    (base : Nat) (e : TypeId) (i : TypeInfo) (z : Value) (bytes : Nat) (ht : P.underlying t = some (.slice e)) (hi : P.info? e = some i) (hz : i.zero = some z)
    (hsize : i.size = 1) (hby : i.bytes = bytes) (hzs : z.cells.size = 1)
    (v : Value) (n : Nat) (xs : List Value) (hs : a.eval s = v) (hown : w.ownsRow base e 1 v n xs)
    (B : Nat) (A : Option Addr) (m c : Nat) (news : List Value) (hx : a.eval x = .slice A m c) (hl : news.length = m) (hr : Rd w B A news) (hnone : A = none → c = 0) (h1 : ∀ u ∈ news, u.oneCell' = true)
    (h63 : n + m ≤ maxLen) (hbytes : (n + m) * bytes ≤ 140737488355328) (hbase : base ≤ w.heap.size)
    (h : ∀ v' w', w'.ownsRow base e 1 v' (n + m) (xs ++ news) → w.grownBy w' v.ownBlock → K (a.put o.dst v') w') :
    if Region.wanted o (yielded ops a.tmps) = true then Oper.wp P o a w K Q else E := by
  have hw : Region.wanted o (yielded ops a.tmps) = true := by simp [Region.wanted, hgd]
  rw [if_pos hw]
  exact wp_app_own s x t ho base e i z bytes ht hi hz hsize hby hzs v n xs hs hown B A m c news hx hl hr hnone h1 h63 hbytes hbase h
/-- bytes and a clock lie in different blocks -/
theorem rd_ne {w : World} {B g o g7 : Nat} {t : TypeId} {bs : List Nat} {cs : Array Value} (hr : Rd w B (some ⟨g, o, none⟩) (u8s bs)) (hne : bs ≠ []) (hb : Blk w g7 t cs) (h64 : ∀ v, v ∈ cs → ∃ n, v = .int .i64 n) : g ≠ g7 := by
  rintro rfl
  obtain ⟨g', o', he, _, hc⟩ := hr (by intro h; apply hne; simpa [u8s] using h)
  injection he with he
  injection he with h1 h2
  subst h1 h2
  cases bs with
  | nil => exact hne rfl
  | cons b r =>
    have h := hc 0 (.int .u8 (b : Int)) (by simp [u8s])
    rw [Nat.add_zero, hb.cell] at h
    obtain ⟨n, hn⟩ := h64 _ (Array.mem_of_getElem? h)
    injection hn with hk
    cases hk
theorem rd_far {w : World} {B : Nat} {A : Option Addr} {xs : List Value} (hr : Rd w B A xs) {p : Addr} (hne : ∀ g o, A = some ⟨g, o, none⟩ → g ≠ p.block) (u : Value) : Rd (w.setCell p u) B A xs := fun hn => by
  obtain ⟨g, o, e, hb, hc⟩ := hr hn
  exact ⟨g, o, e, hb, fun j v hv => (World.cell?_setCell_other w p ⟨g, o + j, none⟩ u (fun h => hne g o e (by rw [h]))).trans (hc j v hv)⟩
end Go.Proofs.Ytjaifieakcnlmaa

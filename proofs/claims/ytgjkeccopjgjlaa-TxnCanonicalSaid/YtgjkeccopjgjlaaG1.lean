/- txn.Coder.Reset. -/
import Derived.Test.YtgjkeccopjgjlaaCod
import Derived.Test.YtgjkeccopjgjlaaTtx
import Derived.Test.YtgjkeccopjgjlaaTchk
import Derived.Test.YtgjkeccopjgjlaaBk4m
import Derived.Test.YtgjkeccopjgjlaaTck
import Derived.Handy
import Derived.Laws.IdiomArrays
import Derived.JoinedOf
import Derived.JoinedAt
import Derived.RowKit3
import Derived.Test.YtgjkeccopjgjlaaTtw
import Derived.Test.YtgjkeccopjgjlaaDcp
import Derived.Test.YtgjkeccopjgjlaaInvL
import Derived.Test.YtgjkeccopjgjlaaTpw
namespace Go.Proofs.Ytgjkeccopjgjlaa
open Go.ChangeShapes Go.WideShapes Go.ChangeAt Go.RowKit Go.Maps
set_option linter.unusedVariables false
set_option linter.unusedSimpArgs false

def CResetPost (w : World) (g : Nat) (S : Nat → Prop) (en : Ending) (w' : World) : Prop := en = .returned (.tuple #[]) ∧ ∃ S', CodM w' g S' [] 0 (0, 0, 0) ∧ Turned w S S' w'
set_option maxHeartbeats 2000000 in
set_option maxRecDepth 100000 in
theorem CReset_any (w : World) (g : Nat) (S : Nat → Prop) (ks : List ByteArray) (e : Nat) (c : Tri3) (h : CodM w g S ks e c) :
    Calls Try.prog 20 #[.pointer (some ⟨g, 0, none⟩)] w (CResetPost w g S) := by
  have hgl := h.lt g h.self
  have hgS := h.self
  obtain ⟨d, T, h1, h2, h3, h4, h5⟩ := h
  have HG := Lib.hid hgS
  have H1 := Lib.hid h1
  clear h1 h2 h3 h4 h5 hgS
  go_enter Try.func20, Try.ntmps20
  go_wp2_with fail
  refine (CNew_any w).mono ?_
  rintro e1 w1 ⟨g1, S1, rfl, ⟨d1, T1, k1, k2, k3, k4, k5⟩, hS1, hb⟩
  have hne : g ≠ g1 := fun hh => by have := hS1 g1 ((k5 g1).2 (.inl rfl)); omega
  have hne2 : g1 ≠ g := fun hh => hne hh.symm
  have K := H1.out.below hb H1.out.lt
  have c0 := K.cell 0
  have c1 := K.cell 1
  have c2 := K.cell 2
  have c3 := K.cell 3
  have q0 := K.frozen 0
  have q1 := K.frozen 1
  have q2 := K.frozen 2
  have q3 := K.frozen 3
  have a0 : w1.cell? ⟨g1, 0, none⟩ = some (.pointer (some ⟨d1, 0, none⟩)) := k1.cell 0
  have a1 : w1.cell? ⟨g1, 1, none⟩ = some (.int .i64 0) := k1.cell 1
  have a2 : w1.cell? ⟨g1, 2, none⟩ = some (.int .i64 0) := k1.cell 2
  have a3 : w1.cell? ⟨g1, 3, none⟩ = some (.int .i64 0) := k1.cell 3
  simp only [ccs] at c0 c1 c2 c3
  have hO := ((((Only.refl (fun j => j = g) w1).set (g := g) rfl 0 (.pointer (some ⟨d1, 0, none⟩))).set (g := g) rfl 1 (.int .i64 0)).set (g := g) rfl 2 (.int .i64 0)).set (g := g) rfl 3 (.int .i64 0)
  have hkk := (((K.set 0 (.pointer (some ⟨d1, 0, none⟩))).set 1 (.int .i64 0)).set 2 (.int .i64 0)).set 3 (.int .i64 0)
  have hT1g : ¬ T1 g := fun hh => by have := hS1 g ((k5 g).2 (.inr hh)); omega
  have HP := Lib.hid (show CResetPost w g S (.returned (.tuple #[])) ((((w1.setCell ⟨g, 0, none⟩ (.pointer (some ⟨d1, 0, none⟩))).setCell ⟨g, 1, none⟩ (.int .i64 0)).setCell ⟨g, 2, none⟩ (.int .i64 0)).setCell ⟨g, 3, none⟩ (.int .i64 0)) from
    ⟨rfl, fun j => j = g ∨ T1 j, ⟨d1, T1, hkk, k2.only hO (fun j hj ht => hT1g (hj ▸ ht)), hT1g, k4, fun j => Iff.rfl⟩, fun j hj => by
      rcases hj with rfl | hj
      · exact .inl HG.out
      · exact .inr (hS1 j ((k5 j).2 (.inr hj))), (Only.of_below (S := S) hb).trans hO (fun j hj => .inl (by rw [hj]; exact HG.out))⟩)
  clear K k1 k2 k3 k4 k5 hS1 hb hO hkk
  go_wp2
  go_end0
  exact HP.out
end Go.Proofs.Ytgjkeccopjgjlaa
/- txn.Coder.Take: what it answers, in plain words; rows of writes as own rows. -/
namespace Go.Proofs.Ytgjkeccopjgjlaa
open Go.ChangeShapes Go.WideShapes Go.ChangeAt Go.RowKit Go.Maps
set_option linter.unusedVariables false
set_option linter.unusedSimpArgs false

namespace Tm
def errT (r : (Txn × Nat) × WsSt) : Nat := if r.1.2 ≠ 0 then r.1.2 else check r.1.1
/-- what Take answers: the transaction, how many bytes, the error; and what the coder is then -/
def takeT (ks : List ByteArray) (e : Nat) (c : Tri3) (b : List Nat) : (Txn × Nat × Nat) × (List ByteArray × Nat × Tri3) :=
  if errT (readT c ks e b) ≠ 0 then ((T0, 0, errT (readT c ks e b)), (ks, e, c))
  else (((readT c ks e b).1.1, b.length - (readT c ks e b).2.2.2.length, 0), ((readT c ks e b).2.1, (readT c ks e b).2.2.1, (readT c ks e b).1.1.2.2.1))
theorem takeWs_len : ∀ (n : Nat) (ks : List ByteArray) (e : Nat) (b : List Nat), (takeWs n ks e b).1.1.length ≤ n
  | 0, ks, e, b => Nat.le_refl _
  | n + 1, ks, e, b => by
    have h2 : takeWs (n + 1) ks e b = if (takeW ks e b).1.2 ≠ 0 then (([], (takeW ks e b).1.2), (takeW ks e b).2) else comb [(takeW ks e b).1.1] (takeWs n (takeW ks e b).2.1 (takeW ks e b).2.2.1 (takeW ks e b).2.2.2) := rfl
    have ih := takeWs_len n (takeW ks e b).2.1 (takeW ks e b).2.2.1 (takeW ks e b).2.2.2
    rw [h2]
    split
    · exact Nat.zero_le _
    · unfold comb
      simp only
      split
      · exact Nat.zero_le _
      · simp only [List.length_append, List.length_cons, List.length_nil]; omega
theorem readWs_len (ks : List ByteArray) (e : Nat) (b : List Nat) : (readWs ks e b).1.1.length ≤ 16 := by
  unfold readWs
  split
  · exact Nat.zero_le _
  · exact Nat.le_trans (takeWs_len _ _ _ _) (upT_le 16 4 b)
theorem upT_rest (m o : Nat) (b : List Nat) : (upT m o b).2.2.length ≤ b.length := by
  unfold upT
  split
  · exact Nat.le_refl _
  split
  · exact Nat.le_refl _
  · simp
theorem takeV_rest (k : ByteArray) (r : Nat × Nat × List Nat) : (takeV k r).2.length ≤ r.2.2.length := by
  unfold takeV
  split
  · exact Nat.le_refl _
  split
  · exact Nat.le_refl _
  split
  · exact Nat.le_refl _
  · simp
theorem takeW_rest (ks : List ByteArray) (e : Nat) (b : List Nat) : (takeW ks e b).2.2.2.length ≤ b.length := by
  unfold takeW
  split
  · exact Nat.le_refl _
  · refine Nat.le_trans (takeV_rest _ _) (Nat.le_trans (upT_rest _ _ _) ?_)
    simp
theorem takeWs_rest : ∀ (n : Nat) (ks : List ByteArray) (e : Nat) (b : List Nat), (takeWs n ks e b).2.2.2.length ≤ b.length
  | 0, ks, e, b => Nat.le_refl _
  | n + 1, ks, e, b => by
    have h2 : takeWs (n + 1) ks e b = if (takeW ks e b).1.2 ≠ 0 then (([], (takeW ks e b).1.2), (takeW ks e b).2) else comb [(takeW ks e b).1.1] (takeWs n (takeW ks e b).2.1 (takeW ks e b).2.2.1 (takeW ks e b).2.2.2) := rfl
    have ih := takeWs_rest n (takeW ks e b).2.1 (takeW ks e b).2.2.1 (takeW ks e b).2.2.2
    rw [h2]
    split
    · exact takeW_rest ks e b
    · exact Nat.le_trans ih (takeW_rest ks e b)
theorem readT_rest0 (c : Tri3) (ks : List ByteArray) (e : Nat) (b : List Nat) : (readT c ks e b).2.2.2.length ≤ b.length := by
  have h1 := upT_rest 4611686018427387903 1 b
  have h2 := upT_rest 4611686018427387903 1 (upT 4611686018427387903 1 b).2.2
  unfold readT
  split
  · exact h1
  split
  · exact Nat.le_trans h2 h1
  split
  · exact Nat.le_trans h2 h1
  · refine Nat.le_trans ?_ (Nat.le_trans h2 h1)
    unfold readWs
    split
    · refine Nat.le_trans (upT_rest _ _ _) ?_
      simp
    · refine Nat.le_trans (takeWs_rest _ _ _ _) (Nat.le_trans (upT_rest _ _ _) ?_)
      simp
theorem readT_rest {c : Tri3} {ks : List ByteArray} {e n n' : Nat} {b b' : List Nat} {x : Txn × Nat} {ks' : List ByteArray} {e' : Nat} (h : readT c ks e b = (x, (ks', e', b'))) (hn : b.length = n) (hn' : b'.length = n') : n' ≤ n := by
  have := readT_rest0 c ks e b
  rw [h] at this
  rw [← hn, ← hn']
  exact this
theorem readT_len (c : Tri3) (ks : List ByteArray) (e : Nat) (b : List Nat) : (readT c ks e b).1.1.2.2.2.length ≤ 16 := by
  unfold readT
  split
  · exact Nat.zero_le _
  split
  · exact Nat.zero_le _
  split
  · exact Nat.zero_le _
  · exact readWs_len _ _ _
end Tm
theorem wflat_length (l : List Wr) : (wflat l).length = l.length * 3 := by
  induction l with
  | nil => rfl
  | cons x l ih =>
    have : wflat (x :: l) = [.string x.1, .string x.2.1, .bool x.2.2] ++ wflat l := rfl
    rw [this, List.length_append, ih, List.length_cons]
    simp
    omega
theorem wflat_get : ∀ (l : List Wr) (k : Nat) (x : Wr), l[k]? = some x → ∀ (j : Nat) (u : Value), [Value.string x.1, .string x.2.1, .bool x.2.2][j]? = some u → (wflat l)[k * 3 + j]? = some u
  | [], k, x, h, j, u, hu => by simp at h
  | y :: l, 0, x, h, j, u, hu => by
    simp at h
    subst h
    have : wflat (y :: l) = [.string y.1, .string y.2.1, .bool y.2.2] ++ wflat l := rfl
    rw [this, Nat.zero_mul, Nat.zero_add, List.getElem?_append_left (by have := (List.getElem?_eq_some_iff.1 hu).1; exact this)]
    exact hu
  | y :: l, k + 1, x, h, j, u, hu => by
    have : wflat (y :: l) = [.string y.1, .string y.2.1, .bool y.2.2] ++ wflat l := rfl
    rw [this, List.getElem?_append_right (by simp; omega)]
    have e : (k + 1) * 3 + j - [Value.string y.1, .string y.2.1, .bool y.2.2].length = k * 3 + j := by simp; omega
    rw [e]
    exact wflat_get l k x (by simpa using h) j u hu
/-- an own row of writes can be read -/
theorem wr_of_own {w : World} {base n : Nat} {A : Option Addr} {c : Nat} {l : List Wr} (h : w.ownsRow base 73 3 (.slice A n c) n (wflat l)) (hB : base ≤ w.heap.size) : WrR w w.heap.size A l := fun hn => by
  rcases h.2 with ⟨h1, h2⟩ | ⟨g, cap, cur, hv, hb, hh, hnc, hcm, hs, ht⟩
  · subst h2
    have := h.1
    rw [wflat_length] at this
    exact absurd (List.eq_nil_of_length_eq_zero (by omega)) hn
  · injection hv with hA _ _
    refine ⟨g, 0, hA, own_lt h g (by rw [hA]; rfl), fun k a hk => ⟨_, rfl, rfl, fun j u hu => ?_⟩⟩
    have hc := h.cells (g := g) (by rw [hA]; rfl) (k * 3 + j) u (wflat_get l k a hk j u hu)
    rw [Addr.add_lit] at hc
    simpa [Nat.add_assoc] using hc
end Go.Proofs.Ytgjkeccopjgjlaa
/- Transactions put and taken back, and told again, in plain words. -/
namespace Go.Proofs.Ytgjkeccopjgjlaa
set_option linter.unusedVariables false
set_option linter.unusedSimpArgs false

theorem ba_empty {x : ByteArray} (h : x.size = 0) : x = ⟨#[]⟩ := by
  cases x with
  | mk d =>
    have h2 : d.size = 0 := h
    rw [Array.size_eq_zero_iff] at h2
    rw [h2]
namespace Dm
theorem back_take {ks : List ByteArray} {e : Nat} {b : List Nat} (h : Ok ks e) (h256 : ∀ x ∈ b, x < 256) (h0 : (takeD ks e b).2.2.1 = 0) :
    1 ≤ (takeD ks e b).2.1 ∧ (takeD ks e b).2.1 ≤ b.length ∧ (takeD ks e b).1.size ≤ 64 ∧ putD ks e (takeD ks e b).1 = (b.take (takeD ks e b).2.1, 0, (takeD ks e b).2.2.2.1, (takeD ks e b).2.2.2.2) := by
  revert h0
  obtain ⟨⟨z, s, f⟩, ht⟩ : ∃ r, Vm.take b = r := ⟨_, rfl⟩
  unfold takeD
  rw [ht]
  simp only
  split
  · next hf => intro hh; exact absurd hh hf
  · next hf =>
    simp at hf
    subst hf
    obtain ⟨h1, h2, h3, h4⟩ := Vm.take_ok ht h256
    split
    · intro hh; cases hh
    · next hz =>
      split
      · next hz0 =>
        intro _
        have hlt : z - 1 < ks.length := by omega
        have hk : ks[z - 1]? = some ks[z - 1] := List.getElem?_eq_getElem hlt
        rw [hk]
        simp only [Option.getD_some]
        have h64 : ks[z - 1].size ≤ 64 := h.2.2.2.1 _ (List.getElem_mem hlt)
        refine ⟨h1, h2, h64, ?_⟩
        unfold putD
        rw [if_neg (by omega), plc_at h.1 hk]
        simp only
        rw [show z - 1 + 1 = z by omega, h4]
      · next hz0 =>
        have hz1 : z = 0 := by omega
        subst hz1
        split
        · next hn => intro hh; exact absurd hh hn
        · next hn =>
          intro _
          simp at hn
          have e0 : Vm.enc 0 = [0] := rfl
          have hs1 : s = 1 := by
            have := congrArg List.length h4
            rw [e0, List.length_take] at this
            simp at this
            omega
          subst hs1
          obtain ⟨hp, h64⟩ := newD_ok hn
          obtain ⟨⟨z2, s2, f2⟩, ht2⟩ : ∃ r, Vm.take (b.drop 1) = r := ⟨_, rfl⟩
          have hdb : ∀ x ∈ b.drop 1, x < 256 := fun x hx => h256 x (List.mem_of_mem_drop hx)
          revert hn hp h64
          unfold newD
          rw [ht2]
          simp only
          split
          · next hf2 => intro hn _ _; exact absurd hn hf2
          · next hf2 =>
            simp at hf2
            subst hf2
            obtain ⟨g1, g2, g3, g4⟩ := Vm.take_ok ht2 hdb
            split
            · intro hn; cases hn
            · next hz2 =>
              split
              · intro hn; cases hn
              · next hl2 =>
                cases hpp : plc ks (str (((b.drop 1).drop s2).take z2)) with
                | some i => intro hn; cases hn
                | none =>
                  simp only
                  intro _ hp h64
                  have hkl : (str (((b.drop 1).drop s2).take z2)).size = z2 := by
                    rw [str_size, List.length_take, List.length_drop]
                    omega
                  have hll : (b.drop 1).length = b.length - 1 := List.length_drop ..
                  refine ⟨by omega, by omega, h64, ?_⟩
                  unfold putD
                  rw [if_neg (by omega), hpp]
                  simp only
                  rw [hkl, g4, h4, sb_str (fun x hx => hdb x (List.mem_of_mem_drop (List.mem_of_mem_take hx)))]
                  rw [← List.take_add, ← List.take_add]
end Dm
namespace Tm
theorem upT_enc {most over n : Nat} (h : n ≤ most) (hm : most ≤ 18446744073709551615) (r : List Nat) : upT most over (Vm.enc n ++ r) = (n, 0, r) := by
  unfold upT
  rw [Vm.take_enc (by omega)]
  simp only
  rw [if_neg (by simp), if_neg (by omega), List.drop_left]
theorem upT_back {most over z : Nat} {b b' : List Nat} (h : upT most over b = (z, 0, b')) (ho : over ≠ 0) (h256 : ∀ x ∈ b, x < 256) : ∃ s, 1 ≤ s ∧ s ≤ b.length ∧ b' = b.drop s ∧ Vm.enc z = b.take s ∧ z ≤ most := by
  obtain ⟨⟨u, s, f⟩, ht⟩ : ∃ r, Vm.take b = r := ⟨_, rfl⟩
  unfold upT at h
  rw [ht] at h
  simp only at h
  split at h
  · next hf => simp at h; exact absurd h.2.1 hf
  · next hf =>
    simp at hf
    subst hf
    split at h
    · simp at h; exact absurd h.2.1 ho
    · next hm =>
      simp at h
      obtain ⟨rfl, rfl⟩ := h
      obtain ⟨h1, h2, h3, h4⟩ := Vm.take_ok ht h256
      exact ⟨s, h1, h2, rfl, h4, by omega⟩
theorem takeV_put {k : ByteArray} (x : Wr) (h256 : x.2.1.size ≤ 256) (hg : x.2.2 = true → x.2.1.size = 0) (hk : x.1 = k) (r : List Nat) : takeV k (upT 257 4 (valB x ++ r)) = ((x, 0), r) := by
  obtain ⟨k0, v, g⟩ := x
  simp only at hk h256 hg
  subst hk
  unfold valB
  cases g with
  | true =>
    simp only [if_true]
    rw [upT_enc (by omega) (by omega)]
    unfold takeV
    simp only
    rw [if_neg (by simp), if_pos trivial, ba_empty (hg rfl)]
  | false =>
    simp only [Bool.false_eq_true, if_false]
    rw [List.append_assoc, upT_enc (by omega) (by omega)]
    unfold takeV
    have hs := sb_length v
    simp only
    rw [if_neg (by simp), if_neg (by omega), if_neg (by rw [List.length_append]; omega)]
    rw [show v.size + 1 - 1 = (sb v).length by omega, List.take_left, List.drop_left, str_sb]
theorem takeW_put {ks : List ByteArray} {e : Nat} (hk : Dm.Ok ks e) (x : Wr) (h64 : x.1.size ≤ 64) (h256 : x.2.1.size ≤ 256) (hg : x.2.2 = true → x.2.1.size = 0) (r : List Nat) :
    takeW ks e ((Dm.putD ks e x.1).1 ++ valB x ++ r) = ((x, 0), ((Dm.putD ks e x.1).2.2.1, (Dm.putD ks e x.1).2.2.2, r)) := by
  have h := Dm.back_put hk (putD_fine (ks := ks) (e := e) h64) (valB x ++ r)
  unfold takeW
  rw [List.append_assoc, h]
  simp only
  rw [if_neg (by simp), List.drop_left, takeV_put x h256 hg rfl]
theorem takeWs_put : ∀ (l : List Wr) (ks : List ByteArray) (e : Nat), Dm.Ok ks e → (∀ x ∈ l, x.1.size ≤ 64 ∧ x.2.1.size ≤ 256) → (∀ x ∈ l, x.2.2 = true → x.2.1.size = 0) → ∀ r, takeWs l.length ks e ((putWs ks e l).1 ++ r) = ((l, 0), ((putWs ks e l).2.1, (putWs ks e l).2.2, r))
  | [], ks, e, hk, h1, h2, r => rfl
  | x :: l, ks, e, hk, h1, h2, r => by
    have ih := takeWs_put l _ _ (hk.put x.1) (fun y hy => h1 y (List.mem_cons_of_mem _ hy)) (fun y hy => h2 y (List.mem_cons_of_mem _ hy)) r
    have h3 := takeW_put hk x (h1 x (List.mem_cons_self ..)).1 (h1 x (List.mem_cons_self ..)).2 (h2 x (List.mem_cons_self ..)) ((putWs (Dm.putD ks e x.1).2.2.1 (Dm.putD ks e x.1).2.2.2 l).1 ++ r)
    have h4 : putWs ks e (x :: l) = ((Dm.putD ks e x.1).1 ++ valB x ++ (putWs (Dm.putD ks e x.1).2.2.1 (Dm.putD ks e x.1).2.2.2 l).1, (putWs (Dm.putD ks e x.1).2.2.1 (Dm.putD ks e x.1).2.2.2 l).2) := rfl
    have h5 : ∀ b, takeWs (x :: l).length ks e b = if (takeW ks e b).1.2 ≠ 0 then (([], (takeW ks e b).1.2), (takeW ks e b).2) else comb [(takeW ks e b).1.1] (takeWs l.length (takeW ks e b).2.1 (takeW ks e b).2.2.1 (takeW ks e b).2.2.2) := fun b => rfl
    rw [h5, h4]
    simp only [List.append_assoc] at h3 ih ⊢
    rw [h3]
    simp only
    rw [if_neg (by simp), ih]
    rfl
theorem readWs_put {l : List Wr} {ks : List ByteArray} {e : Nat} (hk : Dm.Ok ks e) (hl : l.length ≤ 16) (h1 : ∀ x ∈ l, x.1.size ≤ 64 ∧ x.2.1.size ≤ 256) (h2 : ∀ x ∈ l, x.2.2 = true → x.2.1.size = 0) (r : List Nat) :
    readWs ks e (Vm.enc l.length ++ ((putWs ks e l).1 ++ r)) = ((l, 0), ((putWs ks e l).2.1, (putWs ks e l).2.2, r)) := by
  unfold readWs
  rw [upT_enc hl (by omega)]
  simp only
  rw [if_neg (by simp), takeWs_put l ks e hk h1 h2]
theorem takeT_put {ks : List ByteArray} {e : Nat} {c : Tri3} {t : Txn} (hk : Dm.Ok ks e) (hc : rightT c) (h : check t = 0) (r : List Nat) :
    takeT ks e c ((put ks e c t).1.1 ++ r) = ((t, (put ks e c t).1.1.length, 0), (put ks e c t).2) := by
  have h0 := h
  obtain ⟨o, s, ⟨x, y, z⟩, l⟩ := t
  obtain ⟨c0, c1, c2⟩ := c
  obtain ⟨h1, h2, h3, h4, h5, h6, h7, h8, h9⟩ := check_ok h
  simp only at h1 h2 h3 h4 h5 h6 h7 h8 h9
  have hpu : put ks e (c0, c1, c2) (o, s, (x, y, z), l) = ((head (o, s, (x, y, z), l) (c0, c1, c2) ++ (putWs ks e l).1, 0), ((putWs ks e l).2.1, (putWs ks e l).2.2, (x, y, z))) := by
    unfold put
    rw [if_neg (by rw [h0]; simp)]
  rw [hpu]
  simp only
  have hh : head (o, s, (x, y, z), l) (c0, c1, c2) ++ (putWs ks e l).1 ++ r = Vm.enc o.toNat ++ (Vm.enc s.toNat ++ (putC (c0, c1, c2) (x, y, z) ++ (Vm.enc l.length ++ ((putWs ks e l).1 ++ r)))) := by
    unfold head Vm.encs
    simp [List.append_assoc]
  have r1 : upT 4611686018427387903 1 (Vm.enc o.toNat ++ (Vm.enc s.toNat ++ (putC (c0, c1, c2) (x, y, z) ++ (Vm.enc l.length ++ ((putWs ks e l).1 ++ r))))) = (o.toNat, 0, Vm.enc s.toNat ++ (putC (c0, c1, c2) (x, y, z) ++ (Vm.enc l.length ++ ((putWs ks e l).1 ++ r)))) := upT_enc (by omega) (by omega) _
  have r2 : upT 4611686018427387903 1 (Vm.enc s.toNat ++ (putC (c0, c1, c2) (x, y, z) ++ (Vm.enc l.length ++ ((putWs ks e l).1 ++ r)))) = (s.toNat, 0, putC (c0, c1, c2) (x, y, z) ++ (Vm.enc l.length ++ ((putWs ks e l).1 ++ r))) := upT_enc (by omega) (by omega) _
  have r3 := takeC_put (Vm.enc l.length ++ ((putWs ks e l).1 ++ r)) hc h5
  have r4 := readT_4 (ks := ks) (e := e) r1 r2 r3
  rw [List.drop_left, readWs_put hk h7 h8 h9 r] at r4
  simp only at r4
  rw [show ((o.toNat : Nat) : Int) = o by omega, show ((s.toNat : Nat) : Int) = s by omega, ← hh] at r4
  have he : errT (((o, s, (x, y, z), l), 0), (putWs ks e l).2.1, (putWs ks e l).2.2, r) = 0 := by
    unfold errT
    simp only
    rw [if_neg (by simp)]
    exact h0
  unfold takeT
  rw [r4, he, if_neg (by simp)]
  simp
  omega
/-- told again it is the bytes that were read -/
theorem takeV_back {k : ByteArray} {z : Nat} {b b' : List Nat} {x : Wr} (h : takeV k (z, 0, b) = ((x, 0), b')) (h256 : ∀ q ∈ b, q < 256) (hz : z ≤ 257) : ∃ s, s ≤ b.length ∧ b' = b.drop s ∧ x.1 = k ∧ valB x = Vm.enc z ++ b.take s := by
  unfold takeV at h
  simp only at h
  rw [if_neg (by simp)] at h
  split at h
  · next h0 =>
    simp at h
    obtain ⟨rfl, rfl⟩ := h
    subst h0
    exact ⟨0, Nat.zero_le _, rfl, rfl, by simp [valB]⟩
  · next h0 =>
    split at h
    · simp at h
    · next h1 =>
      simp at h
      obtain ⟨rfl, rfl⟩ := h
      refine ⟨z - 1, by omega, rfl, rfl, ?_⟩
      unfold valB
      simp only [Bool.false_eq_true, if_false]
      rw [str_size, List.length_take, sb_str (fun q hq => h256 q (List.mem_of_mem_take hq)), show min (z - 1) b.length + 1 = z by omega]
theorem takeW_back {ks : List ByteArray} {e : Nat} {b : List Nat} {x : Wr} {st : WsSt} (h : takeW ks e b = ((x, 0), st)) (hk : Dm.Ok ks e) (h256 : ∀ q ∈ b, q < 256) :
    ∃ s, s ≤ b.length ∧ st.2.2 = b.drop s ∧ (Dm.putD ks e x.1).1 ++ valB x = b.take s ∧ (Dm.putD ks e x.1).2 = (0, st.1, st.2.1) := by
  unfold takeW at h
  split at h
  · next h0 => simp at h; exact absurd h.1.2 h0
  · next h0 =>
    simp at h0
    obtain ⟨p1, p2, p3, p4⟩ := Dm.back_take hk h256 h0
    obtain ⟨⟨k, n, f, ks', e'⟩, hd⟩ : ∃ r, Dm.takeD ks e b = r := ⟨_, rfl⟩
    rw [hd] at h p1 p2 p3 p4
    simp only at h p1 p2 p3 p4
    obtain ⟨⟨z, g, b1⟩, hu⟩ : ∃ r, upT 257 4 (b.drop n) = r := ⟨_, rfl⟩
    rw [hu] at h
    by_cases hg : g = 0
    · subst hg
      obtain ⟨s1, q1, q2, q3, q4, q5⟩ := upT_back hu (by decide) (fun x hx => h256 x (List.mem_of_mem_drop hx))
      obtain ⟨⟨⟨x2, f2⟩, b2⟩, hv⟩ : ∃ r, takeV k (z, 0, b1) = r := ⟨_, rfl⟩
      rw [hv] at h
      simp only [Prod.mk.injEq] at h
      obtain ⟨⟨rfl, rfl⟩, rfl⟩ := h
      have hb1 : ∀ q ∈ b1, q < 256 := fun q hq => h256 q (List.mem_of_mem_drop (List.mem_of_mem_drop (by rw [q3] at hq; exact hq)))
      obtain ⟨s2, w1, w2, w3, w4⟩ := takeV_back hv hb1 q5
      have hdl : (b.drop n).length = b.length - n := List.length_drop ..
      have hbl : b1.length = b.length - n - s1 := by rw [q3, List.length_drop, hdl]
      refine ⟨n + s1 + s2, by omega, ?_, ?_, ?_⟩
      · simp only
        rw [w2, q3, List.drop_drop, List.drop_drop, Nat.add_assoc]
      · rw [w3, p4, w4, q4]
        simp only
        rw [q3, List.drop_drop, List.take_add, List.take_add, List.append_assoc]
      · rw [w3, p4]
    · unfold takeV at h
      simp only at h
      rw [if_pos hg] at h
      simp at h
      exact absurd h.1.2 hg
theorem takeWs_back : ∀ (n : Nat) (ks : List ByteArray) (e : Nat) (b : List Nat) (l : List Wr) (st : WsSt), takeWs n ks e b = ((l, 0), st) → Dm.Ok ks e → (∀ q ∈ b, q < 256) →
    ∃ s, s ≤ b.length ∧ st.2.2 = b.drop s ∧ putWs ks e l = (b.take s, st.1, st.2.1) ∧ l.length = n
  | 0, ks, e, b, l, st, h, hk, h256 => by
    have h2 : takeWs 0 ks e b = (([], 0), (ks, e, b)) := rfl
    rw [h2] at h
    simp only [Prod.mk.injEq] at h
    obtain ⟨⟨rfl, -⟩, rfl⟩ := h
    exact ⟨0, Nat.zero_le _, rfl, rfl, rfl⟩
  | n + 1, ks, e, b, l, st, h, hk, h256 => by
    have h2 : takeWs (n + 1) ks e b = if (takeW ks e b).1.2 ≠ 0 then (([], (takeW ks e b).1.2), (takeW ks e b).2) else comb [(takeW ks e b).1.1] (takeWs n (takeW ks e b).2.1 (takeW ks e b).2.2.1 (takeW ks e b).2.2.2) := rfl
    rw [h2] at h
    obtain ⟨⟨⟨x, f⟩, ⟨ks1, e1, b1⟩⟩, hw⟩ : ∃ r, takeW ks e b = r := ⟨_, rfl⟩
    rw [hw] at h
    simp only at h
    by_cases hf : f = 0
    · subst hf
      rw [if_neg (by simp)] at h
      obtain ⟨s1, p1, p2, p3, p4⟩ := takeW_back hw hk h256
      simp only at p2 p4
      have hk1 : Dm.Ok ks1 e1 := by
        have h5 := hk.put x.1
        rw [p4] at h5
        exact h5
      have h256' : ∀ q ∈ b1, q < 256 := fun q hq => h256 q (List.mem_of_mem_drop (by rw [p2] at hq; exact hq))
      obtain ⟨⟨⟨l2, f2⟩, st2⟩, hr⟩ : ∃ r, takeWs n ks1 e1 b1 = r := ⟨_, rfl⟩
      rw [hr] at h
      unfold comb at h
      simp only [Prod.mk.injEq] at h
      obtain ⟨⟨hl, rfl⟩, rfl⟩ := h
      rw [if_neg (by simp)] at hl
      subst hl
      obtain ⟨s2, q1, q2, q3, q4⟩ := takeWs_back n ks1 e1 b1 l2 st2 hr hk1 h256'
      have hb1 : b1.length = b.length - s1 := by rw [p2, List.length_drop]
      refine ⟨s1 + s2, by omega, by rw [q2, p2, List.drop_drop], ?_, by simp [q4]⟩
      have h4 : putWs ks e (x :: l2) = ((Dm.putD ks e x.1).1 ++ valB x ++ (putWs (Dm.putD ks e x.1).2.2.1 (Dm.putD ks e x.1).2.2.2 l2).1, (putWs (Dm.putD ks e x.1).2.2.1 (Dm.putD ks e x.1).2.2.2 l2).2) := rfl
      rw [List.singleton_append, h4, p4, p3]
      simp only
      rw [q3, p2, List.take_add]
    · rw [if_pos hf] at h
      simp at h
      exact absurd h.1.2 hf
theorem readWs_back {ks : List ByteArray} {e : Nat} {b : List Nat} {l : List Wr} {st : WsSt} (h : readWs ks e b = ((l, 0), st)) (hk : Dm.Ok ks e) (h256 : ∀ q ∈ b, q < 256) :
    ∃ s, s ≤ b.length ∧ st.2.2 = b.drop s ∧ Vm.enc l.length ++ (putWs ks e l).1 = b.take s ∧ (putWs ks e l).2 = (st.1, st.2.1) := by
  unfold readWs at h
  obtain ⟨⟨z, f, b1⟩, hu⟩ : ∃ r, upT 16 4 b = r := ⟨_, rfl⟩
  rw [hu] at h
  simp only at h
  by_cases hf : f = 0
  · subst hf
    rw [if_neg (by simp)] at h
    obtain ⟨s1, p1, p2, p3, p4, p5⟩ := upT_back hu (by decide) h256
    have h256' : ∀ q ∈ b1, q < 256 := fun q hq => h256 q (List.mem_of_mem_drop (by rw [p3] at hq; exact hq))
    obtain ⟨s2, q1, q2, q3, q4⟩ := takeWs_back z ks e b1 l st h hk h256'
    have hb1 : b1.length = b.length - s1 := by rw [p3, List.length_drop]
    refine ⟨s1 + s2, by omega, by rw [q2, p3, List.drop_drop], ?_, by rw [q3]⟩
    rw [q4, q3, p4, p3, List.take_add]
  · rw [if_pos hf] at h
    simp at h
    exact absurd h.1.2 hf
theorem readT_back {ks : List ByteArray} {e : Nat} {c : Tri3} {b : List Nat} {t : Txn} {st : WsSt} (h : readT c ks e b = ((t, 0), st)) (hk : Dm.Ok ks e) (h256 : ∀ q ∈ b, q < 256) :
    ∃ s, 1 ≤ s ∧ s ≤ b.length ∧ st.2.2 = b.drop s ∧ head t c ++ (putWs ks e t.2.2.2).1 = b.take s ∧ (putWs ks e t.2.2.2).2 = (st.1, st.2.1) := by
  obtain ⟨⟨n1, d1, b1⟩, h1⟩ : ∃ r, upT 4611686018427387903 1 b = r := ⟨_, rfl⟩
  by_cases e1 : d1 = 0
  · subst e1
    obtain ⟨⟨n2, d2, b2⟩, h2⟩ : ∃ r, upT 4611686018427387903 1 b1 = r := ⟨_, rfl⟩
    by_cases e2 : d2 = 0
    · subst e2
      obtain ⟨c0, c1, c2⟩ := c
      obtain ⟨⟨⟨x, y, z⟩, sz, d3⟩, h3⟩ : ∃ r, takeC (c0, c1, c2) b2 = r := ⟨_, rfl⟩
      by_cases e3 : d3 = 0
      · subst e3
        rw [readT_4 h1 h2 h3] at h
        obtain ⟨⟨⟨l, f⟩, st2⟩, hr⟩ : ∃ r, readWs ks e (b2.drop sz) = r := ⟨_, rfl⟩
        rw [hr] at h
        simp only [Prod.mk.injEq] at h
        obtain ⟨⟨rfl, rfl⟩, rfl⟩ := h
        obtain ⟨s1, p1, p2, p3, p4, p5⟩ := upT_back h1 (by decide) h256
        have g1 : ∀ q ∈ b1, q < 256 := fun q hq => h256 q (List.mem_of_mem_drop (by rw [p3] at hq; exact hq))
        obtain ⟨s2, q1, q2, q3, q4, q5⟩ := upT_back h2 (by decide) g1
        have g2 : ∀ q ∈ b2, q < 256 := fun q hq => g1 q (List.mem_of_mem_drop (by rw [q3] at hq; exact hq))
        obtain ⟨u1, u2, u3, u4, u5⟩ := takeC_back h3 g2
        obtain ⟨s3, w1, w2, w3, w4⟩ := readWs_back hr hk (fun q hq => g2 q (List.mem_of_mem_drop hq))
        have l1 : b1.length = b.length - s1 := by rw [p3, List.length_drop]
        have l2 : b2.length = b1.length - s2 := by rw [q3, List.length_drop]
        rw [List.length_drop] at w1
        refine ⟨s1 + s2 + sz + s3, by omega, by omega, ?_, ?_, w4⟩
        · rw [w2, q3, p3]
          simp only [List.drop_drop]
        · have hh : head ((n1 : Int), (n2 : Int), (x, y, z), l) (c0, c1, c2) ++ (putWs ks e l).1 = Vm.enc n1 ++ (Vm.enc n2 ++ (putC (c0, c1, c2) (x, y, z) ++ (Vm.enc l.length ++ (putWs ks e l).1))) := by
            unfold head Vm.encs
            simp [List.append_assoc]
          simp only
          rw [hh, w3, u5, q4, p4, List.take_add, List.take_add, List.take_add, q3, p3]
          simp only [List.drop_drop, List.append_assoc]
      · rw [readT_3 h1 h2 h3 e3] at h
        simp at h
        exact absurd h.1.2 e3
    · rw [readT_2 h1 h2 e2] at h
      simp at h
      exact absurd h.1.2 e2
  · rw [readT_1 h1 e1] at h
    simp at h
    exact absurd h.1.2 e1
theorem takeT_back {ks : List ByteArray} {e : Nat} {c : Tri3} {b : List Nat} {t : Txn} {n : Nat} {st : List ByteArray × Nat × Tri3} (h : takeT ks e c b = ((t, n, 0), st)) (hk : Dm.Ok ks e) (h256 : ∀ q ∈ b, q < 256) :
    check t = 0 ∧ 1 ≤ n ∧ n ≤ b.length ∧ put ks e c t = ((b.take n, 0), st) := by
  unfold takeT at h
  obtain ⟨⟨⟨t1, f⟩, st1⟩, hr⟩ : ∃ r, readT c ks e b = r := ⟨_, rfl⟩
  rw [hr] at h
  split at h
  · next h0 => simp at h; exact absurd h.1.2.2 h0
  · next h0 =>
    simp only [Prod.mk.injEq] at h
    obtain ⟨⟨rfl, rfl, -⟩, rfl⟩ := h
    unfold errT at h0
    simp only at h0
    by_cases hf : f = 0
    · subst hf
      rw [if_neg (by simp)] at h0
      have hc : check t1 = 0 := by omega
      obtain ⟨s, p1, p2, p3, p4, p5⟩ := readT_back hr hk h256
      have hl : b.length - st1.2.2.length = s := by rw [p3, List.length_drop]; omega
      refine ⟨hc, by omega, by omega, ?_⟩
      unfold put
      rw [if_neg (by rw [hc]; simp), p4, hl, p5]
    · rw [if_pos hf] at h0
      exact absurd hf h0
theorem takeT_err {ks : List ByteArray} {e : Nat} {c : Tri3} {b : List Nat} {t : Txn} {n f : Nat} {st : List ByteArray × Nat × Tri3} (h : takeT ks e c b = ((t, n, f), st)) (hf : f ≠ 0) : t = T0 ∧ n = 0 ∧ st = (ks, e, c) := by
  unfold takeT at h
  split at h
  · simp only [Prod.mk.injEq] at h
    obtain ⟨⟨rfl, rfl, -⟩, rfl⟩ := h
    exact ⟨rfl, rfl, rfl⟩
  · simp only [Prod.mk.injEq] at h
    exact absurd h.1.2.2.symm hf
/-- what Put leaves may be -/
theorem put_ok {ks : List ByteArray} {e : Nat} {c : Tri3} (t : Txn) (hk : Dm.Ok ks e) (hc : rightT c) : Dm.Ok (put ks e c t).2.1 (put ks e c t).2.2.1 ∧ rightT (put ks e c t).2.2.2 ∧ (∀ b ∈ (put ks e c t).1.1, b < 256) ∧ (put ks e c t).1.1.length ≤ 6000 := by
  unfold put
  split
  · exact ⟨hk, hc, fun b hb => by simp at hb, by simp⟩
  · next h0 =>
    have h0' : check t = 0 := by omega
    obtain ⟨o, s, ⟨x, y, z⟩, l⟩ := t
    obtain ⟨c0, c1, c2⟩ := c
    obtain ⟨h1, h2, h3, h4, h5, h6, h7, h8, h9⟩ := check_ok h0'
    simp only at h1 h2 h3 h4 h5 h6 h7 h8 h9
    obtain ⟨p1, p2, p3⟩ := putWs_ok l ks e hk (fun q hq => (h8 q hq).2)
    obtain ⟨⟨a0, a1⟩, ⟨b0, b1⟩, ⟨d0, d1⟩⟩ := right_le hc
    obtain ⟨⟨e0, e1⟩, ⟨f0, f1⟩, ⟨g0, g1⟩⟩ := right_le h5
    have q1 := Vm.enc_le o.toNat
    have q2 := Vm.enc_le s.toNat
    have q3 := Vm.enc_le l.length
    have q4 := put1_le c0 x
    have q5 := put1_le c1 y
    have q6 := put1_le c2 z
    have hh : head (o, s, (x, y, z), l) (c0, c1, c2) = Vm.enc o.toNat ++ (Vm.enc s.toNat ++ (put1 c0 x ++ (put1 c1 y ++ (put1 c2 z ++ Vm.enc l.length)))) := by
      unfold head Vm.encs putC
      simp [List.append_assoc]
    refine ⟨p3, h5, fun b hb => ?_, ?_⟩
    · simp only [hh, List.mem_append] at hb
      rcases hb with (hb | hb | hb | hb | hb | hb) | hb
      · exact Vm.enc_byte (by omega) b hb
      · exact Vm.enc_byte (by omega) b hb
      · exact put1_byte a0 a1 e0 e1 b hb
      · exact put1_byte b0 b1 f0 f1 b hb
      · exact put1_byte d0 d1 g0 g1 b hb
      · exact Vm.enc_byte (by omega) b hb
      · exact p2 b hb
    · simp only [hh, List.length_append]
      omega
theorem takeT_ok {ks : List ByteArray} {e : Nat} {c : Tri3} {b : List Nat} (hk : Dm.Ok ks e) (hc : rightT c) (h256 : ∀ q ∈ b, q < 256) : Dm.Ok (takeT ks e c b).2.1 (takeT ks e c b).2.2.1 ∧ rightT (takeT ks e c b).2.2.2 := by
  obtain ⟨⟨⟨t, n, f⟩, st⟩, hr⟩ : ∃ r, takeT ks e c b = r := ⟨_, rfl⟩
  rw [hr]
  by_cases hf : f = 0
  · subst hf
    obtain ⟨h1, h2, h3, h4⟩ := takeT_back hr hk h256
    have := put_ok t hk hc
    rw [h4] at this
    exact ⟨this.1, this.2.1⟩
  · obtain ⟨-, -, rfl⟩ := takeT_err hr hf
    exact ⟨hk, hc⟩
end Tm
end Go.Proofs.Ytgjkeccopjgjlaa
/- Transactions, and acts of layer 6, that come in, opened. -/
namespace Go.Proofs.Ytgjkeccopjgjlaa
open Go.ChangeShapes Go.WideShapes Go.ChangeAt Go.RowKit Go.Deep
set_option linter.unusedVariables false
set_option linter.unusedSimpArgs false

/-- a slice of structs that comes in, as one cell -/
theorem open_strC {α H : Type} {enc : TypeId × Value → H} {P : Program} {W : World} {b : Nat} {spare : Nat → Bool} {held : Bool} {t e : TypeId} {sz fuel : Nat} {cs : List Value} {x : DataW H × List MemPlace} (ht : P.underlying t = some (.slice e)) (hsz : P.cellsOf e = sz) (hpos : 0 < sz)
    (R : List Value → α → Prop) (hR : ∀ fuel cs x, cs.length = sz → DataW.trod enc P W b spare held fuel e cs = some x → ∃ a, R cs a) (h : DataW.trod enc P W b spare held fuel t cs = some x) :
    ∃ (A : Option Addr) (cap : Nat) (ys : List α), cs = [.slice A ys.length cap] ∧ ys.length ≤ cap ∧ cap ≤ maxLen ∧ (A = none → cap = 0) ∧ StR sz R W W.heap.size A ys := by
  rcases open_slice ht h with ⟨hcs, _⟩ | ⟨a, len, cap, m, n, D, Pl, hcs, hb, hl, hm, hmm, _, hx⟩
  · exact ⟨none, 0, [], hcs, Nat.le_refl _, Nat.zero_le _, fun _ => rfl, StR.nil _ _ _⟩
  · have hlm : len ≤ m := by rw [hmm]; split <;> omega
    obtain ⟨ys, hla, ha⟩ := list_of (n := len) (p := fun i (a' : α) => ∃ cs, cs.length = sz ∧ R cs a' ∧ ∀ j u, cs[j]? = some u → W.cell? ((a.add (i * sz)).add j) = some u) (fun i hi => by
      obtain ⟨cs', h1, h2⟩ := hx i (by omega)
      rw [hsz] at h1
      obtain ⟨_, hlen, hc⟩ := World.cells?_some h1
      obtain ⟨a', ha'⟩ := hR _ _ _ hlen h2
      exact ⟨a', cs', hlen, ha', fun j u hu => (hc j (by have := (List.getElem?_eq_some_iff.1 hu).1; omega)).trans hu⟩)
    refine ⟨some a, cap, ys, by rw [hla]; exact hcs, by omega, hm, (fun h => by cases h), fun hne => ?_⟩
    have hp0 : 0 < ys.length := List.length_pos_iff.2 hne
    obtain ⟨cs0, k1, _, k3⟩ := ha 0 _ (List.getElem?_eq_getElem hp0)
    have c0 := k3 0 _ (List.getElem?_eq_getElem (by omega))
    have s0 := add2_shape c0
    have hsp : a.spot = none := by
      have h1 := World.cell?_spot c0
      rw [Nat.zero_mul] at h1
      simpa [Addr.add] using h1
    obtain ⟨g, o, s⟩ := a
    simp only at hsp
    subst hsp
    have hg : g < W.heap.size := by
      rw [s0] at c0
      exact World.block_lt_of_cell? _ _ c0
    refine ⟨g, o, rfl, hg, fun k a' hk => ?_⟩
    obtain ⟨cs, q1, q2, q3⟩ := ha k a' hk
    refine ⟨cs, q1, q2, fun j u hu => ?_⟩
    have c1 := q3 j u hu
    rw [add2_shape c1] at c1
    exact c1
def I64 (x : Int) : Prop := -9223372036854775808 ≤ x ∧ x ≤ 9223372036854775807
theorem I64.of_wf {n : Int} (h : (Lit.int .i64 n).wf = true) : I64 n := by
  simpa [I64, Lit.wf, IntKind.min, IntKind.max, IntKind.signed, IntKind.bits] using h
/-- what a transaction that comes in may be -/
def TxB (t : Txn) : Prop := I64 t.1 ∧ I64 t.2.1 ∧ (I64 t.2.2.1.1 ∧ I64 t.2.2.1.2.1 ∧ I64 t.2.2.1.2.2) ∧ ∀ x ∈ t.2.2.2, x.1.size ≤ maxLen ∧ x.2.1.size ≤ maxLen
/-- six cells that are a transaction -/
def RTxn (w : World) (B : Nat) (cs : List Value) (t : Txn) : Prop := ∃ A c, cs = [.int .i64 t.1, .int .i64 t.2.1, .int .i64 t.2.2.1.1, .int .i64 t.2.2.1.2.1, .int .i64 t.2.2.1.2.2, .slice A t.2.2.2.length c] ∧ WrR w B A t.2.2.2 ∧ t.2.2.2.length ≤ c ∧ c ≤ maxLen ∧ (A = none → c = 0) ∧ TxB t
theorem RTxn.below {w w' : World} {B : Nat} (hb : Below B w w') : ∀ cs t, RTxn w B cs t → RTxn w' B cs t := fun cs t ⟨A, c, h1, h2, h3⟩ => ⟨A, c, h1, h2.below hb, h3⟩
theorem RTxn.more {w : World} {B B' : Nat} (hb : B ≤ B') : ∀ cs t, RTxn w B cs t → RTxn w B' cs t := fun cs t ⟨A, c, h1, h2, h3⟩ => ⟨A, c, h1, StR.more h2 hb, h3⟩
theorem list3c {α : Type} (l : List α) (h : l.length = 3) : ∃ a b c, l = [a, b, c] := by
  match l, h with
  | [a, b, c], _ => exact ⟨a, b, c, rfl⟩
theorem list6c {α : Type} (l : List α) (h : l.length = 6) : ∃ a b c d e f, l = [a, b, c, d, e, f] := by
  match l, h with
  | [a, b, c, d, e, f], _ => exact ⟨a, b, c, d, e, f, rfl⟩
theorem list8c {α : Type} (l : List α) (h : l.length = 8) : ∃ a b c d e f g i, l = [a, b, c, d, e, f, g, i] := by
  match l, h with
  | [a, b, c, d, e, f, g, i], _ => exact ⟨a, b, c, d, e, f, g, i, rfl⟩
theorem czWr : Try.prog.cellsOf 73 = 3 := by kernel_rfl
theorem czS : Try.prog.cellsOf 9 = 1 := by kernel_rfl
theorem czBo : Try.prog.cellsOf 4 = 1 := by kernel_rfl
theorem czI : Try.prog.cellsOf 3 = 1 := by kernel_rfl
theorem czI64 : Try.prog.cellsOf 2 = 1 := by kernel_rfl
theorem czClk : Try.prog.cellsOf 29 = 3 := by kernel_rfl
theorem czWrs : Try.prog.cellsOf 36 = 1 := by kernel_rfl
theorem czTxn : Try.prog.cellsOf 38 = 6 := by kernel_rfl
theorem czB : Try.prog.cellsOf 39 = 1 := by kernel_rfl
theorem czU : Try.prog.cellsOf 5 = 1 := by kernel_rfl
set_option maxRecDepth 100000 in
theorem open_wr {H : Type} {enc : TypeId × Value → H} {W : World} {b : Nat} {spare : Nat → Bool} {held : Bool} {fuel : Nat} {cs : List Value} {x : DataW H × List MemPlace} (hl : cs.length = 3)
    (h : DataW.trod enc Try.prog W b spare held fuel 73 cs = some x) : ∃ q : Wr, RWr cs q ∧ q.1.size ≤ maxLen ∧ q.2.1.size ≤ maxLen := by
  obtain ⟨c0, c1, c2, rfl⟩ := list3c cs hl
  obtain ⟨y0, n0, h0⟩ := trod_field Try.underlying73 h 0 9 0 1 rfl czS
  obtain ⟨y1, n1, h1⟩ := trod_field Try.underlying73 h 1 9 1 1 rfl czS
  obtain ⟨y2, n2, h2⟩ := trod_field Try.underlying73 h 2 4 2 1 rfl czBo
  obtain ⟨x0, e0, -, w0⟩ := DataW.trod_string Try.underlying9 h0
  obtain ⟨x1, e1, -, w1⟩ := DataW.trod_string Try.underlying9 h1
  obtain ⟨x2, e2, -⟩ := DataW.trod_bool Try.underlying4 h2
  simp at e0 e1 e2
  subst e0 e1 e2
  exact ⟨(x0, x1, x2), rfl, w0, w1⟩
set_option maxRecDepth 100000 in
theorem open_txn {H : Type} {enc : TypeId × Value → H} {W : World} {b : Nat} {spare : Nat → Bool} {held : Bool} {fuel : Nat} {cs : List Value} {x : DataW H × List MemPlace} (hl : cs.length = 6)
    (h : DataW.trod enc Try.prog W b spare held fuel 38 cs = some x) : ∃ t : Txn, RTxn W W.heap.size cs t := by
  obtain ⟨c0, c1, c2, c3, c4, c5, rfl⟩ := list6c cs hl
  obtain ⟨y0, n0, h0⟩ := trod_field Try.underlying38 h 0 3 0 1 rfl czI
  obtain ⟨y1, n1, h1⟩ := trod_field Try.underlying38 h 1 2 1 1 rfl czI64
  obtain ⟨y2, n2, h2⟩ := trod_field Try.underlying38 h 2 29 2 3 rfl czClk
  obtain ⟨y3, n3, h3⟩ := trod_field Try.underlying38 h 3 36 5 1 rfl czWrs
  obtain ⟨x0, e0, -, w0⟩ := DataW.trod_int Try.underlying3 h0
  obtain ⟨x1, e1, -, w1⟩ := DataW.trod_int Try.underlying2 h1
  obtain ⟨z0, z1, z2, m, hx, hy0, hy1, hy2⟩ := trod_array3 Try.underlying29 czI64 h2
  obtain ⟨d0, g0, -, u0⟩ := DataW.trod_int Try.underlying2 hy0
  obtain ⟨d1, g1, -, u1⟩ := DataW.trod_int Try.underlying2 hy1
  obtain ⟨d2, g2, -, u2⟩ := DataW.trod_int Try.underlying2 hy2
  obtain ⟨A, cap, ys, e3, k1, k2, k3, k4⟩ := open_strC (α := Wr) Try.underlying36 czWr (by omega) (fun cs q => RWr cs q ∧ q.1.size ≤ maxLen ∧ q.2.1.size ≤ maxLen) (fun fuel cs x hl h => open_wr hl h) h3
  simp at e0 e1 g0 g1 g2 e3
  subst e0 e1 g0 g1 g2 e3
  refine ⟨(x0, x1, (d0, d1, d2), ys), A, cap, rfl, k4.keep (fun _ _ => rfl) (fun _ _ hq => hq.1), k1, k2, k3, I64.of_wf w0, I64.of_wf w1, ⟨I64.of_wf u0, I64.of_wf u1, I64.of_wf u2⟩, fun q hq => ?_⟩
  obtain ⟨i, hi⟩ := List.getElem?_of_mem hq
  obtain ⟨g, o, e, hg, hc⟩ := k4 (by rintro rfl; simp at hq)
  obtain ⟨cs, q1, q2, q3⟩ := hc i q hi
  exact q2.2
/-- an act of layer 6 -/
abbrev ActT := Int × Txn × List Nat
/-- eight cells that are an act -/
def RAct6 (w : World) (B : Nat) (cs : List Value) (a : ActT) : Prop := ∃ A c Ab cb, cs = [.int .i64 a.1, .int .i64 a.2.1.1, .int .i64 a.2.1.2.1, .int .i64 a.2.1.2.2.1.1, .int .i64 a.2.1.2.2.1.2.1, .int .i64 a.2.1.2.2.1.2.2, .slice A a.2.1.2.2.2.length c, .slice Ab a.2.2.length cb] ∧
  (WrR w B A a.2.1.2.2.2 ∧ a.2.1.2.2.2.length ≤ c ∧ c ≤ maxLen ∧ (A = none → c = 0) ∧ TxB a.2.1) ∧ Rd w B Ab (u8s a.2.2) ∧ a.2.2.length ≤ cb ∧ cb ≤ maxLen ∧ (Ab = none → cb = 0) ∧ (∀ b ∈ a.2.2, b < 256) ∧ I64 a.1
theorem RAct6.below {w w' : World} {B : Nat} (hb : Below B w w') : ∀ cs a, RAct6 w B cs a → RAct6 w' B cs a := fun cs a ⟨A, c, Ab, cb, h1, h2, h3, h4⟩ => ⟨A, c, Ab, cb, h1, ⟨h2.1.below hb, h2.2⟩, h3.below hb, h4⟩
theorem RAct6.more {w : World} {B B' : Nat} (hb : B ≤ B') : ∀ cs a, RAct6 w B cs a → RAct6 w B' cs a := fun cs a ⟨A, c, Ab, cb, h1, h2, h3, h4⟩ => ⟨A, c, Ab, cb, h1, ⟨StR.more h2.1 hb, h2.2⟩, h3.more hb, h4⟩
abbrev Acts6 (w : World) (B : Nat) (A : Option Addr) (ys : List ActT) : Prop := StR 8 (RAct6 w B) w B A ys
theorem Acts6.below {w w' : World} {B : Nat} {A : Option Addr} {ys : List ActT} (h : Acts6 w B A ys) (hb : Below B w w') : Acts6 w' B A ys := StR.below h hb (RAct6.below hb)
theorem Acts6.step {w w' : World} {A : Option Addr} {ys : List ActT} (h : Acts6 w w.heap.size A ys) (hb : Below w.heap.size w w') : Acts6 w' w'.heap.size A ys :=
  StR.more (StR.below h hb (fun cs a hr => RAct6.more hb.size cs a (RAct6.below hb cs a hr))) hb.size
theorem czAct6 : Try.prog.cellsOf 41 = 8 := by kernel_rfl
set_option maxRecDepth 100000 in
theorem open_acts6 {H : Type} {enc : TypeId × Value → H} {W : World} {b : Nat} {spare : Nat → Bool} {held : Bool} {A : Option Addr} {len cap : Nat} {d : DataW H} {p : List MemPlace}
    (h : DataW.Trod enc Try.prog W b spare held 22 (.slice A len cap) d p) :
    ∃ ys : List ActT, ys.length = len ∧ len ≤ cap ∧ cap ≤ maxLen ∧ Acts6 W W.heap.size A ys := by
  refine open_str Try.underlying22 czAct6 (by omega) _ (fun fuel cs x hl h => ?_) h
  obtain ⟨c0, c1, c2, c3, c4, c5, c6, c7, rfl⟩ := list8c cs hl
  obtain ⟨y0, n0, h0⟩ := trod_field Try.underlying41 h 0 3 0 1 rfl czI
  obtain ⟨y1, n1, h1⟩ := trod_field Try.underlying41 h 1 38 1 6 rfl czTxn
  obtain ⟨y2, n2, h2⟩ := trod_field Try.underlying41 h 2 39 7 1 rfl czB
  obtain ⟨x0, e0, -, w0⟩ := DataW.trod_int Try.underlying3 h0
  obtain ⟨t, A2, c, e1, r1⟩ := open_txn rfl h1
  obtain ⟨Ab, cb, bs, e2, r2⟩ := open_bytes8 Try.underlying39 Try.underlying5 czU h2
  simp at e0 e1 e2
  obtain ⟨rfl, rfl, rfl, rfl, rfl, rfl⟩ := e1
  subst e0 e2
  exact ⟨(x0, t, bs), A2, c, Ab, cb, rfl, r1, r2.1, r2.2.1, r2.2.2.1, r2.2.2.2.1, r2.2.2.2.2, I64.of_wf w0⟩
theorem open_b8 {H : Type} {enc : TypeId × Value → H} {W : World} {b : Nat} {spare : Nat → Bool} {held : Bool} {A : Option Addr} {len cap : Nat} {d : DataW H} {p : List MemPlace}
    (h : DataW.Trod enc Try.prog W b spare held 39 (.slice A len cap) d p) :
    ∃ bs : List Nat, bs.length = len ∧ len ≤ cap ∧ cap ≤ maxLen ∧ (A = none → cap = 0) ∧ Rd W W.heap.size A (u8s bs) ∧ ∀ b ∈ bs, b < 256 := by
  obtain ⟨fuel, hf⟩ := h
  obtain ⟨A', c, bs, hcs, h1, h2, h3, h4, h5⟩ := open_bytes8 Try.underlying39 Try.underlying5 czU hf
  simp [Value.cells] at hcs
  obtain ⟨rfl, rfl, rfl⟩ := hcs
  exact ⟨bs, rfl, h2, h3, h4, h1, h5⟩
end Go.Proofs.Ytgjkeccopjgjlaa
/- txn.Coder.Take: the walk. -/
namespace Go.Proofs.Ytgjkeccopjgjlaa
open Go.ChangeShapes Go.WideShapes Go.ChangeAt Go.RowKit Go.Maps
set_option linter.unusedVariables false
set_option linter.unusedSimpArgs false

def CTakePost (w : World) (g : Nat) (S : Nat → Prop) (r : (Txn × Nat × Nat) × (List ByteArray × Nat × Tri3)) (en : Ending) (w' : World) : Prop :=
  ∃ v S', en = .returned (.tuple #[.agg #[.int .i64 r.1.1.1, .int .i64 r.1.1.2.1, .int .i64 r.1.1.2.2.1.1, .int .i64 r.1.1.2.2.1.2.1, .int .i64 r.1.1.2.2.1.2.2, v], .int .i64 (r.1.2.1 : Int), .int .i64 (r.1.2.2 : Int)]) ∧
    w'.ownsRow w.heap.size 73 3 v r.1.1.2.2.2.length (wflat r.1.1.2.2.2) ∧ CodM w' g S' r.2.1 r.2.2.1 r.2.2.2 ∧ Turned w S S' w'
/-- the values of the region in which the coder is set -/
def R7F (g q d1 t : Nat) (x y z : Int) (i : Nat) (_L : Nat → Bool) (v : Value) (_w : World) : Prop := v = match i with
  | 0 => .pointer (some ⟨g, 0, none⟩)
  | 1 => .pointer (some ⟨g, 0, none⟩)
  | 2 => .pointer (some ⟨q, 0, none⟩)
  | 3 => .pointer (some ⟨q, 0, none⟩)
  | 4 => .pointer (some ⟨q, 1, none⟩)
  | 5 => .pointer (some ⟨d1, 0, none⟩)
  | 6 => .pointer (some ⟨t, 2, none⟩)
  | 7 => .agg #[.int .i64 x, .int .i64 y, .int .i64 z]
  | 8 => .pointer (some ⟨g, 0, none⟩)
  | 9 => .pointer (some ⟨g, 0, none⟩)
  | 11 => .pointer (some ⟨g, 0, none⟩)
  | 12 => .pointer (some ⟨g, 1, none⟩)
  | _ => undef
def R7C (W : World) (g q d d1 t : Nat) (c0 c1 c2 x y z : Int) (qs ts : Array Value) (L : Nat → Bool) (w : World) : Prop :=
  Only (fun j => j = g) W w ∧ Blk w q 90 qs ∧ Blk w t 38 ts ∧ Blk w g 78 #[.pointer (some ⟨if L 10 then d1 else d, 0, none⟩), .int .i64 (if L 13 then x else c0), .int .i64 (if L 13 then y else c1), .int .i64 (if L 13 then z else c2)]
theorem R7C.keep {W w w' : World} {g q d d1 t : Nat} {c0 c1 c2 x y z : Int} {qs ts : Array Value} {L : Nat → Bool} (h : R7C W g q d d1 t c0 c1 c2 x y z qs ts L w) (i : Nat) (h0 : i ≠ 10) (h1 : i ≠ 13) (hb : Below w.heap.size w w') : R7C W g q d d1 t c0 c1 c2 x y z qs ts (Inv.upd L i) w' := by
  have e0 : Inv.upd L i 10 = L 10 := by unfold Inv.upd; rw [if_neg (fun h => h0 h.symm)]
  have e1 : Inv.upd L i 13 = L 13 := by unfold Inv.upd; rw [if_neg (fun h => h1 h.symm)]
  refine ⟨h.1.trans (Only.of_below (S := fun j => j = g) hb) (Sub.refl _ _), h.2.1.below hb h.2.1.lt, h.2.2.1.below hb h.2.2.1.lt, ?_⟩
  rw [e0, e1]
  exact h.2.2.2.below hb h.2.2.2.lt
theorem R7C.one {W w : World} {g q d d1 t : Nat} {c0 c1 c2 x y z : Int} {qs ts : Array Value} {L : Nat → Bool} (h : R7C W g q d d1 t c0 c1 c2 x y z qs ts L w) (hq : q ≠ g) (ht : t ≠ g) : R7C W g q d d1 t c0 c1 c2 x y z qs ts (Inv.upd L 10) (w.setCell ⟨g, 0, none⟩ (.pointer (some ⟨d1, 0, none⟩))) := by
  have e0 : Inv.upd L 10 10 = true := by simp [Inv.upd]
  have e1 : Inv.upd L 10 13 = L 13 := by simp [Inv.upd]
  refine ⟨h.1.set rfl 0 _, h.2.1.far (fun e => hq e) _, h.2.2.1.far (fun e => ht e) _, ?_⟩
  rw [e0, e1]
  exact h.2.2.2.set 0 _
theorem R7C.two {W w : World} {g q d d1 t : Nat} {c0 c1 c2 x y z : Int} {qs ts : Array Value} {L : Nat → Bool} (h : R7C W g q d d1 t c0 c1 c2 x y z qs ts L w) (hq : q ≠ g) (ht : t ≠ g) : R7C W g q d d1 t c0 c1 c2 x y z qs ts (Inv.upd L 13) (((w.setCell ⟨g, 1, none⟩ (.int .i64 x)).setCell ⟨g, 2, none⟩ (.int .i64 y)).setCell ⟨g, 3, none⟩ (.int .i64 z)) := by
  have e0 : Inv.upd L 13 10 = L 10 := by simp [Inv.upd]
  have e1 : Inv.upd L 13 13 = true := by simp [Inv.upd]
  refine ⟨((h.1.set rfl 1 _).set rfl 2 _).set rfl 3 _, ((h.2.1.far (fun e => hq e) _).far (fun e => hq e) _).far (fun e => hq e) _, ((h.2.2.1.far (fun e => ht e) _).far (fun e => ht e) _).far (fun e => ht e) _, ?_⟩
  rw [e0, e1]
  exact ((h.2.2.2.set 1 _).set 2 _).set 3 _
set_option maxHeartbeats 4000000 in
set_option maxRecDepth 100000 in
theorem CTake_any (w : World) (g : Nat) (S : Nat → Prop) (ks : List ByteArray) (e : Nat) (c0 c1 c2 : Int) (A : Option Addr) (n cp : Nat) (b : List Nat) (h : CodM w g S ks e (c0, c1, c2)) (hr : Rd w w.heap.size A (u8s b)) (h256 : ∀ x ∈ b, x < 256) (hn : b.length = n) (hl : n ≤ 1000000000) (hc : n ≤ cp) (hcm : cp ≤ maxLen) (hnone : A = none → cp = 0) :
    Calls Try.prog 17 #[.pointer (some ⟨g, 0, none⟩), .slice A n cp] w (CTakePost w g S (Tm.takeT ks e (c0, c1, c2) b)) := by
  have HM := Lib.hid h
  have hB0 := (Below.refl w.heap.size w).alloc (Nat.le_refl _) (.cells tz 38)
  obtain ⟨d, T, h1, h2, h3, h4, h5⟩ := h.below hB0
  have hF0 := Blk.new w 38 tz
  have HR := Lib.hid hr; have H256 := Lib.hid h256; have HN := Lib.hid hn; have HNO := Lib.hid hnone; have HB0 := Lib.hid hB0
  obtain ⟨W, hW⟩ : ∃ W, w.alloc (.cells tz 38) = W := ⟨_, rfl⟩
  rw [hW] at h1 h2 hF0 HB0
  have hWs : W.heap.size = w.heap.size + 1 := by rw [← hW]; simp
  have a0 : W.cell? ⟨g, 0, none⟩ = some (.pointer (some ⟨d, 0, none⟩)) := h1.cell 0
  have HC := Lib.hid (DCopy_any W d T ks e h2)
  have H1 := Lib.hid h1; have H2 := Lib.hid h2; have HF0 := Lib.hid hF0; have HWS := Lib.hid hWs
  have hgl := h1.lt
  clear h h1 h2 h3 h4 h5 hr h256 hn hnone hB0 hF0 hWs
  go_enter Try.func17, Try.ntmps17
  go_wp2_with fail
  refine HC.out.mono ?_
  rintro en1 w1 ⟨d1, T1, rfl, hd1, hT1, hb1⟩
  have K1 := Lib.hid (H1.out.below hb1 hgl)
  have F1 := Lib.hid (HF0.out.below hb1 HF0.out.lt)
  have a1 : w1.cell? ⟨g, 1, none⟩ = some (.int .i64 c0) := K1.out.cell 1
  have a2 : w1.cell? ⟨g, 2, none⟩ = some (.int .i64 c1) := K1.out.cell 2
  have a3 : w1.cell? ⟨g, 3, none⟩ = some (.int .i64 c2) := K1.out.cell 3
  have hgl1 := K1.out.lt
  have hgne : g ≠ w1.heap.size := by omega
  have hRS : RdS (w1.alloc (.cells #[.slice A n cp, .pointer (some ⟨d1, 0, none⟩)] 90)) w.heap.size w1.heap.size d1 (fun j => j = w1.heap.size ∨ T1 j) ks e b := by
    have hs := hb1.size
    have hw := HWS.out
    have hb2 := (HB0.out.trans (hb1.mono (by omega))).alloc (by omega) (.cells #[.slice A n cp, .pointer (some ⟨d1, 0, none⟩)] 90)
    refine ⟨A, n, cp, T1, Blk.new w1 _ _, hd1.below ((Below.refl _ _).alloc (Nat.le_refl _) _), HR.out.below hb2, HN.out, ⟨HNO.out, hl⟩, hc, hcm, H256.out, fun j => Iff.rfl, fun j hj => ?_, by simp; omega⟩
    rcases hj with rfl | hj
    · omega
    · have := hT1 j hj; omega
  obtain ⟨⟨⟨⟨o, s, ⟨x, y, z⟩, l⟩, de⟩, ks', e', b'⟩, hrt⟩ : ∃ r, Tm.readT (c0, c1, c2) ks e b = r := ⟨_, rfl⟩
  have HRT := Lib.hid hrt
  have hnS : ¬ (w.heap.size = w1.heap.size ∨ T1 w.heap.size) := fun hh => by
    have hs := hb1.size
    have hw := HWS.out
    rcases hh with hh | hh
    · omega
    · have := hT1 _ hh; omega
  have hSB : ∀ j, (j = w1.heap.size ∨ T1 j) → w.heap.size ≤ j := fun j hh => by
    have hs := hb1.size
    have hw := HWS.out
    rcases hh with rfl | hh
    · omega
    · have := hT1 _ hh; omega
  have hB1 := HB0.out.trans (hb1.mono (by have := HWS.out; omega))
  have hB2 := hB1.alloc hB1.size (.cells #[.slice A n cp, .pointer (some ⟨d1, 0, none⟩)] 90)
  have HB2 := Lib.hid hB2; have HNS := Lib.hid hnS; have HSB := Lib.hid hSB
  have HX := Lib.hid (rtxn_any _ w.heap.size w1.heap.size d1 _ ks e b c0 c1 c2 hRS)
  rw [hrt] at HX
  have HT1 := Lib.hid hT1; have HBB := Lib.hid hb1; have HD1 := Lib.hid hd1
  clear hRS hd1 hT1 hb1 a0 hrt hB1 hB2 hnS hSB
  go_wp2_with fail
  refine HX.out.mono ?_
  rintro en2 w3 ⟨v, S3, rfl, ho3, hr3, ht3⟩
  try simp only at ho3 hr3
  obtain ⟨A3, c3, rfl⟩ := own_slice ho3
  have F3 := blk_turn (F1.out.alloc (.cells #[.slice A n cp, .pointer (some ⟨d1, 0, none⟩)] 90)) HNS.out ht3
  have B3 := HB2.out.trans (ht3.2.to_below HB2.out.size HSB.out)
  have hfl := F3.1.lt
  have HERR : Hid (∀ (n : Nat) (w5 : World), n ≠ 0 → Tm.errT (((o, s, (x, y, z), l), de), (ks', e', b')) = n → Below w.heap.size w w5 → CTakePost w g S (Tm.takeT ks e (c0, c1, c2) b) (.returned (.tuple #[.agg #[.int .i64 0, .int .i64 0, .int .i64 0, .int .i64 0, .int .i64 0, .slice none 0 0], .int .i64 0, .int .i64 (n : Int)])) w5) := Lib.hid (fun n w5 h0 he hb => by
    unfold Tm.takeT
    rw [HRT.out, he, if_pos h0]
    exact ⟨_, S, rfl, World.ownsRow_nil _ _ _ _, HM.out.below hb, (Turned.refl w S).below hb⟩)
  by_cases hde : de = 0
  · subst hde
    have hll : l.length ≤ 16 := by have := Tm.readT_len (c0, c1, c2) ks e b; rw [HRT.out] at this; exact this
    have hs23 := ht3.2.size
    have hwr := wr_of_own ho3 hs23
    have F4 := F3.1.alloc (.cells #[.int .i64 o, .int .i64 s, .int .i64 x, .int .i64 y, .int .i64 z, .slice A3 l.length c3] 38)
    have B4 := Lib.hid (B3.alloc B3.size (.cells #[.int .i64 o, .int .i64 s, .int .i64 x, .int .i64 y, .int .i64 z, .slice A3 l.length c3] 38))
    have Z4 := Blk.new w3 38 #[.int .i64 o, .int .i64 s, .int .i64 x, .int .i64 y, .int .i64 z, .slice A3 l.length c3]
    have HB4 := (Below.refl w3.heap.size w3).alloc (Nat.le_refl _) (.cells #[.int .i64 o, .int .i64 s, .int .i64 x, .int .i64 y, .int .i64 z, .slice A3 l.length c3] 38)
    have hwr4 := WrR.step hwr HB4
    obtain ⟨nl, hnl⟩ : ∃ x, l.length = x := ⟨_, rfl⟩
    rw [hnl] at F4 B4 Z4 HB4 hwr4 hll
    obtain ⟨w4, hw4⟩ : ∃ q, w3.alloc (.cells #[.int .i64 o, .int .i64 s, .int .i64 x, .int .i64 y, .int .i64 z, .slice A3 nl c3] 38) = q := ⟨_, rfl⟩
    rw [hw4] at F4 B4 Z4 HB4 hwr4
    have HCK := Lib.hid (Check_any w4 o s x y z l A3 nl c3 hwr4 hnl (by omega))
    obtain ⟨ck, hck⟩ : ∃ m, Tm.check (o, s, (x, y, z), l) = m := ⟨_, rfl⟩
    unfold CkP at HCK
    rw [hck] at HCK
    have HCKE := Lib.hid hck
    have e0 : w4.cell? ⟨w3.heap.size, 0, none⟩ = some (.int .i64 o) := Z4.cell 0
    have e1 : w4.cell? ⟨w3.heap.size, 1, none⟩ = some (.int .i64 s) := Z4.cell 1
    have e2 : w4.cell? ⟨w3.heap.size, 2, none⟩ = some (.int .i64 x) := Z4.cell 2
    have e3 : w4.cell? ⟨w3.heap.size, 3, none⟩ = some (.int .i64 y) := Z4.cell 3
    have e4 : w4.cell? ⟨w3.heap.size, 4, none⟩ = some (.int .i64 z) := Z4.cell 4
    have e5 : w4.cell? ⟨w3.heap.size, 5, none⟩ = some (.slice A3 nl c3) := Z4.cell 5
    have FF4 := Lib.hid F4; have ZZ4 := Lib.hid Z4; have HO3 := Lib.hid ho3; have HR3 := Lib.hid hr3; have HT3 := Lib.hid ht3; have HBB4 := Lib.hid HB4; have HNL := Lib.hid hnl
    try rw [hnl]
    clear hnl ho3 hr3 ht3 hwr hwr4 F4 Z4 HB4 hck F3 B3 hs23
    go_wp2_with fail
    refine HCK.out.mono ?_
    rintro en5 w5 ⟨rfl, hb5⟩
    by_cases hck0 : ck = 0
    · subst hck0
      have hgw : g < w.heap.size := HM.out.lt g HM.out.self
      have hs45 := hb5.size
      have hs34 := HBB4.out.size
      have hz4 := ZZ4.out.lt
      have hq1 := F1.out.lt
      have hs23' := HT3.out.2.size
      simp only [World.size_alloc] at hs23'
      have hgnS : ¬ (g = w1.heap.size ∨ T1 g) := fun hh => by have := HSB.out g hh; omega
      obtain ⟨K3, hgn3⟩ := blk_turn (K1.out.alloc (.cells #[.slice A n cp, .pointer (some ⟨d1, 0, none⟩)] 90)) hgnS HT3.out
      have K5 := Lib.hid ((K3.below HBB4.out K3.lt).below hb5 (by have := HBB4.out.size; have := K3.lt; omega))
      have R5 := (HR3.out.below HBB4.out).below hb5
      obtain ⟨A', n', c', T', r1, r2, r3, r4, r5, r6, r7, r8, r9, r10, r11⟩ := R5
      have Z5 := Lib.hid (ZZ4.out.below hb5 hz4)
      have F5 := Lib.hid (FF4.out.below hb5 FF4.out.lt)
      have hqg : w1.heap.size ≠ g := by omega
      have htg : w3.heap.size ≠ g := by omega
      have htq : w3.heap.size ≠ w1.heap.size := by omega
      have R1 := Lib.hid r1; have R2 := Lib.hid r2; have R9 := Lib.hid r9; have R10 := Lib.hid r10; have HN' := Lib.hid r4
      have HO5 := Lib.hid (own_below (own_below HO3.out HBB4.out) hb5)
      have hn'' : n' ≤ n := Tm.readT_rest HRT.out HN.out r4
      have hnl := r5.2
      have HW5 := Lib.hid (B4.out.trans (hb5.mono B4.out.size))
      have hn9 : n ≤ 1000000000 := hl
      have hWS := HWS.out
      clear hb5 r1 r2 r3 r4 r5 r6 r7 r8 r9 r10 r11 K3 hgn3 a1 a2 a3
      go_wp2
      refine Inv.region_genL (R7F g w1.heap.size d1 w3.heap.size x y z) (R7C w5 g w1.heap.size d d1 w3.heap.size c0 c1 c2 x y z #[.slice A' n' c', .pointer (some ⟨d1, 0, none⟩)] #[.int .i64 o, .int .i64 s, .int .i64 x, .int .i64 y, .int .i64 z, .slice A3 nl c3]) 56 [35, 36, 37, 38, 39, 40, 41, 42, 43, 44, 45, 46] (by kernel_rfl) rfl (by kernel_rfl) (by kernel_rfl) ?_ ?_ ?_
      · exact ⟨(Only.refl _ _).drew, R1.out.drew, Z5.out.drew, K5.out.drew⟩
      · refine ⟨?_, ?_, ?_, ?_, ?_, ?_, ?_, ?_, ?_, ?_, ?_, ?_, ?_, ?_, trivial⟩
        · intro act wa L hC hd hLi hLa hLb HF O K hK
          clear hd
          have h0 := O 0 (by kernel_rfl)
          try have g0 := Array.getD_eq_getD_getElem?.symm.trans h0
          go_simp
          exact hK _ _ (hC.keep 0 (by decide) (by decide) (Below.refl wa.heap.size wa)) (fun j d _ _ _ h => h) (fun _ => rfl)
        · intro act wa L hC hd hLi hLa hLb HF O K hK
          clear hd
          have h0 := O 0 (by kernel_rfl)
          try have g0 := Array.getD_eq_getD_getElem?.symm.trans h0
          go_simp
          exact hK _ _ (hC.keep 1 (by decide) (by decide) (Below.refl wa.heap.size wa)) (fun j d _ _ _ h => h) (fun _ => rfl)
        · intro act wa L hC hd hLi hLa hLb HF O K hK
          clear hd
          have h7 := O 7 (by kernel_rfl)
          try have g7 := Array.getD_eq_getD_getElem?.symm.trans h7
          go_simp
          exact hK _ _ (hC.keep 2 (by decide) (by decide) (Below.refl wa.heap.size wa)) (fun j d _ _ _ h => h) (fun _ => rfl)
        · intro act wa L hC hd hLi hLa hLb HF O K hK
          clear hd
          have h37 := HF 2 37 (hLa 1 2 (by kernel_rfl)) rfl
          dsimp only [R7F] at h37
          try have g37 := Array.getD_eq_getD_getElem?.symm.trans h37
          go_simp
          exact hK _ _ (hC.keep 3 (by decide) (by decide) (Below.refl wa.heap.size wa)) (fun j d _ _ _ h => h) (fun _ => rfl)
        · intro act wa L hC hd hLi hLa hLb HF O K hK
          clear hd
          have h38 := HF 3 38 (hLa 1 3 (by kernel_rfl)) rfl
          dsimp only [R7F] at h38
          try have g38 := Array.getD_eq_getD_getElem?.symm.trans h38
          go_simp
          exact hK _ _ (hC.keep 4 (by decide) (by decide) (Below.refl wa.heap.size wa)) (fun j d _ _ _ h => h) (fun _ => rfl)
        · intro act wa L hC hd hLi hLa hLb HF O K hK
          clear hd
          have h39 := HF 4 39 (hLa 1 4 (by kernel_rfl)) rfl
          dsimp only [R7F] at h39
          try have g39 := Array.getD_eq_getD_getElem?.symm.trans h39
          have y1 := hC.2.1.cell 1
          simp at y1
          go_simp
          exact hK _ _ (hC.keep 5 (by decide) (by decide) (Below.refl wa.heap.size wa)) (fun j d _ _ _ h => h) (fun _ => rfl)
        · intro act wa L hC hd hLi hLa hLb HF O K hK
          clear hd
          have h8 := O 8 (by kernel_rfl)
          try have g8 := Array.getD_eq_getD_getElem?.symm.trans h8
          go_simp
          exact hK _ _ (hC.keep 6 (by decide) (by decide) (Below.refl wa.heap.size wa)) (fun j d _ _ _ h => h) (fun _ => rfl)
        · intro act wa L hC hd hLi hLa hLb HF O K hK
          clear hd
          have h41 := HF 6 41 (hLa 1 6 (by kernel_rfl)) rfl
          dsimp only [R7F] at h41
          try have g41 := Array.getD_eq_getD_getElem?.symm.trans h41
          have y2 := hC.2.2.1.cell 2
          have y3 := hC.2.2.1.cell 3
          have y4 := hC.2.2.1.cell 4
          simp at y2 y3 y4
          go_simp
          exact hK _ _ (hC.keep 7 (by decide) (by decide) (Below.refl wa.heap.size wa)) (fun j d _ _ _ h => h) (fun _ => rfl)
        · intro act wa L hC hd hLi hLa hLb HF O K hK
          clear hd
          have h35 := HF 0 35 (hLa 1 0 (by kernel_rfl)) rfl
          dsimp only [R7F] at h35
          try have g35 := Array.getD_eq_getD_getElem?.symm.trans h35
          go_simp
          exact hK _ _ (hC.keep 8 (by decide) (by decide) (Below.refl wa.heap.size wa)) (fun j d _ _ _ h => h) (fun _ => rfl)
        · intro act wa L hC hd hLi hLa hLb HF O K hK
          clear hd
          have h43 := HF 8 43 (hLa 1 8 (by kernel_rfl)) rfl
          dsimp only [R7F] at h43
          try have g43 := Array.getD_eq_getD_getElem?.symm.trans h43
          go_simp
          exact hK _ _ (hC.keep 9 (by decide) (by decide) (Below.refl wa.heap.size wa)) (fun j d _ _ _ h => h) (fun _ => rfl)
        · intro act wa L hC hd hLi hLa hLb HF O K hK
          clear hd
          have h44 := HF 9 44 (hLa 1 9 (by kernel_rfl)) rfl
          dsimp only [R7F] at h44
          try have g44 := Array.getD_eq_getD_getElem?.symm.trans h44
          have h40 := HF 5 40 (hLa 1 5 (by kernel_rfl)) rfl
          dsimp only [R7F] at h40
          try have g40 := Array.getD_eq_getD_getElem?.symm.trans h40
          have y0 := hC.2.2.2.cell 0
          have z0 := hC.2.2.2.frozen 0
          simp at y0
          go_simp
          exact hK undef _ (hC.one hqg htg) (fun j d _ _ _ h => h) (fun hne => absurd rfl hne)
        · intro act wa L hC hd hLi hLa hLb HF O K hK
          clear hd
          have h36 := HF 1 36 (hLa 1 1 (by kernel_rfl)) rfl
          dsimp only [R7F] at h36
          try have g36 := Array.getD_eq_getD_getElem?.symm.trans h36
          go_simp
          exact hK _ _ (hC.keep 11 (by decide) (by decide) (Below.refl wa.heap.size wa)) (fun j d _ _ _ h => h) (fun _ => rfl)
        · intro act wa L hC hd hLi hLa hLb HF O K hK
          clear hd
          have h45 := HF 11 45 (hLa 1 11 (by kernel_rfl)) rfl
          dsimp only [R7F] at h45
          try have g45 := Array.getD_eq_getD_getElem?.symm.trans h45
          go_simp
          exact hK _ _ (hC.keep 12 (by decide) (by decide) (Below.refl wa.heap.size wa)) (fun j d _ _ _ h => h) (fun _ => rfl)
        · intro act wa L hC hd hLi hLa hLb HF O K hK
          clear hd
          have h46 := HF 12 46 (hLa 1 12 (by kernel_rfl)) rfl
          dsimp only [R7F] at h46
          try have g46 := Array.getD_eq_getD_getElem?.symm.trans h46
          have h42 := HF 7 42 (hLa 1 7 (by kernel_rfl)) rfl
          dsimp only [R7F] at h42
          try have g42 := Array.getD_eq_getD_getElem?.symm.trans h42
          have y1 := hC.2.2.2.cell 1
          have y2 := hC.2.2.2.cell 2
          have y3 := hC.2.2.2.cell 3
          have z1 := hC.2.2.2.frozen 1
          have z2 := hC.2.2.2.frozen 2
          have z3 := hC.2.2.2.frozen 3
          simp at y1 y2 y3
          go_simp
          exact hK undef _ (hC.two hqg htg) (fun j d _ _ _ h => h) (fun hne => absurd rfl hne)
      · intro us w' hC HF
        clear HF
        simp only [List.foldl]
        go_simp
        obtain ⟨LL, hLL, hO6, hQ6, hT6, hG6⟩ := hC
        simp only [hLL 10 (by decide), hLL 13 (by decide), if_true] at hG6
        clear hLL
        have hF6 := hO6.blk F5.out (fun h => by omega)
        have t0 := hT6.cell 0
        have t1 := hT6.cell 1
        have t2 := hT6.cell 2
        have t3 := hT6.cell 3
        have t4 := hT6.cell 4
        have t5 := hT6.cell 5
        have q0 := hQ6.cell 0
        have f0 := hF6.cell 0
        have f1 := hF6.cell 1
        have f2 := hF6.cell 2
        have f3 := hF6.cell 3
        have f4 := hF6.cell 4
        have f5 := hF6.cell 5
        have g0 := hF6.frozen 0
        have g1 := hF6.frozen 1
        have g2 := hF6.frozen 2
        have g3 := hF6.frozen 3
        have g4 := hF6.frozen 4
        have g5 := hF6.frozen 5
        simp at t0 t1 t2 t3 t4 t5 q0 f0 f1 f2 f3 f4 f5
        have hsub : IntKind.i64.wrap ((n : Int) - (n' : Int)) = ((n - n' : Nat) : Int) := by rw [IntWalk.i64_in _ ⟨by omega, by omega⟩]; omega
        have hP := (show CTakePost w g S (Tm.takeT ks e (c0, c1, c2) b) (.returned (.tuple #[.agg #[.int .i64 o, .int .i64 s, .int .i64 x, .int .i64 y, .int .i64 z, .slice A3 nl c3], .int .i64 ((n - n' : Nat) : Int), .int .i64 0])) (set6 w' w.heap.size (.int .i64 o) (.int .i64 s) (.int .i64 x) (.int .i64 y) (.int .i64 z) (.slice A3 nl c3)).drew from by
          have hnT : ¬ T' g := fun h => by have := R10.out g ((R9.out g).2 (.inr h)); omega
          have hnW : ¬ T' w.heap.size := fun h => by
            have h6 := (hO6.blk R1.out (fun h => hqg h))
            exact DictM.not_blk R2.out F5.out (by decide) (by decide) h
          have hO7 := (only6 w' w.heap.size (.int .i64 o) (.int .i64 s) (.int .i64 x) (.int .i64 y) (.int .i64 z) (.slice A3 nl c3)).drew
          unfold Tm.takeT
          rw [HRT.out]
          have he : Tm.errT (((o, s, (x, y, z), l), 0), (ks', e', b')) = 0 := by
            unfold Tm.errT
            simp only
            rw [if_neg (by simp)]
            exact HCKE.out
          rw [he, if_neg (by simp)]
          have hown6 := hO6.own HO5.out (fun j hj hjg => own_ne_blk HO5.out K5.out (by decide) _ hj hjg)
          refine ⟨.slice A3 nl c3, fun j => j = g ∨ T' j, ?_, ?_, ⟨d1, T', ?_, ?_, hnT, ?_, fun j => Iff.rfl⟩, ?_, ?_⟩
          · simp only [HN.out, HN'.out]; rfl
          · simp only [HNL.out] at hown6 ⊢
            exact hO7.own (own_base (B' := w.heap.size) hown6 (by simp; omega)) (fun j hj hjg => own_ne_blk hown6 hF6 (by decide) _ hj hjg)
          · exact hO7.blk hG6 (fun h => by omega)
          · exact (R2.out.only hO6 (fun j hj ht => hnT (hj ▸ ht))).only hO7 (fun j hj ht => hnW (hj ▸ ht))
          · exact (Tm.check_ok HCKE.out).2.2.2.2.1
          · intro j hj
            rcases hj with rfl | hj
            · exact .inl HM.out.self
            · exact .inr (R10.out j ((R9.out j).2 (.inr hj)))
          · exact ((Only.of_below (S := S) HW5.out).trans hO6 (fun j hj => .inl (by rw [hj]; exact HM.out.self))).trans hO7 (fun j hj => .inr (by rw [hj]; exact Nat.le_refl _)))
        unfold set6 at hP
        have HPP := Lib.hid hP
        clear hP hF6 hT6 hQ6 hG6 hO6
        go_wp2
        go_region
        all_goals (
          go_wp2
          try simp only [Exit.inBlock, Exit.then]
          refine bodyPost_ret (v := .tuple #[.agg #[.int .i64 o, .int .i64 s, .int .i64 x, .int .i64 y, .int .i64 z, .slice A3 nl c3], .int .i64 ((n - n' : Nat) : Int), .int .i64 0]) (by simp [results, Try.results17, go_sem, *]) rfl HPP.out)
    · have hcI : (ck : Int) ≠ 0 := by omega
      have F5 := FF4.out.below hb5 FF4.out.lt
      have B5 := Lib.hid (B4.out.trans (hb5.mono B4.out.size))
      have f0 : w5.cell? ⟨w.heap.size, 0, none⟩ = some (.int .i64 0) := F5.cell 0
      have f1 : w5.cell? ⟨w.heap.size, 1, none⟩ = some (.int .i64 0) := F5.cell 1
      have f2 : w5.cell? ⟨w.heap.size, 2, none⟩ = some (.int .i64 0) := F5.cell 2
      have f3 : w5.cell? ⟨w.heap.size, 3, none⟩ = some (.int .i64 0) := F5.cell 3
      have f4 : w5.cell? ⟨w.heap.size, 4, none⟩ = some (.int .i64 0) := F5.cell 4
      have f5 : w5.cell? ⟨w.heap.size, 5, none⟩ = some (.slice none 0 0) := F5.cell 5
      have g0 := F5.frozen 0
      have g1 := F5.frozen 1
      have g2 := F5.frozen 2
      have g3 := F5.frozen 3
      have g4 := F5.frozen 4
      have g5 := F5.frozen 5
      have hfl5 := F5.lt
      clear F5 hb5 a1 a2 a3
      go_wp2
      try simp only [Exit.inBlock, Exit.then]
      refine bodyPost_ret (v := .tuple #[.agg #[.int .i64 0, .int .i64 0, .int .i64 0, .int .i64 0, .int .i64 0, .slice none 0 0], .int .i64 0, .int .i64 (ck : Int)]) (by simp [results, Try.results17, go_sem, *]) rfl (HERR.out _ _ hck0 (by unfold Tm.errT; simp only; rw [if_neg (by simp)]; exact HCKE.out) (B5.out.trans ((only6 _ _ _ _ _ _ _ _).to_below (by have := B5.out.size; omega) (fun j hj => by rw [hj]; exact Nat.le_refl _))))
  · have hdI : (de : Int) ≠ 0 := by omega
    have hdb : ((de : Int) == 0) = false := by simp; omega
    have F4 := F3.1.alloc (.cells #[.int .i64 o, .int .i64 s, .int .i64 x, .int .i64 y, .int .i64 z, .slice A3 l.length c3] 38)
    have B4 := Lib.hid (B3.alloc B3.size (.cells #[.int .i64 o, .int .i64 s, .int .i64 x, .int .i64 y, .int .i64 z, .slice A3 l.length c3] 38))
    obtain ⟨nl, hnl⟩ : ∃ x, l.length = x := ⟨_, rfl⟩
    rw [hnl] at F4 B4
    obtain ⟨w4, hw4⟩ : ∃ q, w3.alloc (.cells #[.int .i64 o, .int .i64 s, .int .i64 x, .int .i64 y, .int .i64 z, .slice A3 nl c3] 38) = q := ⟨_, rfl⟩
    rw [hw4] at F4 B4
    try rw [hnl]
    clear hnl
    have f0 : w4.cell? ⟨w.heap.size, 0, none⟩ = some (.int .i64 0) := F4.cell 0
    have f1 : w4.cell? ⟨w.heap.size, 1, none⟩ = some (.int .i64 0) := F4.cell 1
    have f2 : w4.cell? ⟨w.heap.size, 2, none⟩ = some (.int .i64 0) := F4.cell 2
    have f3 : w4.cell? ⟨w.heap.size, 3, none⟩ = some (.int .i64 0) := F4.cell 3
    have f4 : w4.cell? ⟨w.heap.size, 4, none⟩ = some (.int .i64 0) := F4.cell 4
    have f5 : w4.cell? ⟨w.heap.size, 5, none⟩ = some (.slice none 0 0) := F4.cell 5
    have g0 := F4.frozen 0
    have g1 := F4.frozen 1
    have g2 := F4.frozen 2
    have g3 := F4.frozen 3
    have g4 := F4.frozen 4
    have g5 := F4.frozen 5
    have HP := HERR.out de
    have HPP := Lib.hid HP
    clear HP ho3 hr3 ht3 F3 B3 F4 a1 a2 a3
    go_wp2
    try simp only [Exit.inBlock, Exit.then]
    refine bodyPost_ret (v := .tuple #[.agg #[.int .i64 0, .int .i64 0, .int .i64 0, .int .i64 0, .int .i64 0, .slice none 0 0], .int .i64 0, .int .i64 (de : Int)]) (by simp [results, Try.results17, go_sem, *]) rfl (HPP.out _ hde (by unfold Tm.errT; simp only; rw [if_pos hde]) (B4.out.trans ((only6 _ _ _ _ _ _ _ _).to_below (by have := B4.out.size; omega) (fun j hj => by rw [hj]; exact Nat.le_refl _))))
end Go.Proofs.Ytgjkeccopjgjlaa
/- txn.Coder as callers meet it: Put, Take, New; what is none of a coder's blocks. -/
namespace Go.Proofs.Ytgjkeccopjgjlaa
open Go.ChangeShapes Go.WideShapes Go.ChangeAt Go.RowKit Go.Maps
set_option linter.unusedVariables false
set_option linter.unusedSimpArgs false

theorem CodM.not_blk {w : World} {g : Nat} {S : Nat → Prop} {ks : List ByteArray} {e : Nat} {c : Tri3} (h : CodM w g S ks e c) {q : Nat} {t : TypeId} {cs : Array Value} (hb : Blk w q t cs) (h0 : t ≠ 78) (h1 : t ≠ 106) (h2 : t ≠ 9) : ¬ S q := by
  obtain ⟨d, T, k1, k2, k3, k4, k5⟩ := h
  intro hs
  rcases (k5 q).1 hs with rfl | ht
  · exact h0 (blk_type hb k1)
  · exact k2.not_blk hb h1 h2 ht
theorem CodM.not_own {w : World} {g : Nat} {S : Nat → Prop} {ks : List ByteArray} {e : Nat} {c : Tri3} (h : CodM w g S ks e c) {b n sz : Nat} {t : TypeId} {v : Value} {xs : List Value} (ho : w.ownsRow b t sz v n xs) (h0 : t ≠ 78) (h1 : t ≠ 106) (h2 : t ≠ 9) : ∀ j, v.ownBlock = some j → ¬ S j := by
  obtain ⟨d, T, k1, k2, k3, k4, k5⟩ := h
  obtain ⟨v1, m, D, g1, g2, g3, g4, g5, g6⟩ := k2
  intro j hj hs
  rcases (k5 j).1 hs with rfl | ht
  · exact own_ne_blk ho k1 h0 _ hj rfl
  · rcases (g6 j).1 ht with rfl | rfl | h7
    · exact own_ne_blk ho g1 h1 _ hj rfl
    · exact map_own g3 ho hj
    · exact own_own ho g2 h2 j hj h7
theorem CodM.ok {w : World} {g : Nat} {S : Nat → Prop} {ks : List ByteArray} {e : Nat} {c : Tri3} (h : CodM w g S ks e c) : Dm.Ok ks e ∧ rightT c := by
  obtain ⟨d, T, k1, k2, k3, k4, k5⟩ := h
  exact ⟨k2.ok, k4⟩
theorem CPut_at (w : World) (g : Nat) (S : Nat → Prop) (ks : List ByteArray) (e : Nat) (c : Tri3) (o s d0 d1 d2 : Int) (ws : List Wr) (A : Option Addr) (len cap : Nat) (h : CodM w g S ks e c) (hr : WrR w w.heap.size A ws) (hap : ∀ g' o', A = some ⟨g', o', none⟩ → ws ≠ [] → ¬ S g') (hn : ws.length = len) (hl : len ≤ 1099511627776)
    (bs : List Nat) (d n : Nat) (ks' : List ByteArray) (e' : Nat) (c' : Tri3) (hp : Tm.put ks e c (o, s, (d0, d1, d2), ws) = ((bs, d), (ks', e', c'))) (hbn : bs.length = n) :
    Calls Try.prog 14 #[.pointer (some ⟨g, 0, none⟩), .agg #[.int .i64 o, .int .i64 s, .int .i64 d0, .int .i64 d1, .int .i64 d2, .slice A len cap]] w fun en w' => ∃ v S', en = .returned (.tuple #[v, .int .i64 (d : Int)]) ∧ Made w' v bs n ∧ Fre w S' v ∧ CodM w' g S' ks' e' c' ∧ Turned w S S' w' := by
  have h1 := CPut_any w g S ks e c o s d0 d1 d2 ws A len cap h hr hap hn hl
  rw [hp] at h1
  subst hbn
  exact h1
theorem CTake_at (w : World) (g : Nat) (S : Nat → Prop) (ks : List ByteArray) (e : Nat) (c : Tri3) (A : Option Addr) (n cp : Nat) (b : List Nat) (h : CodM w g S ks e c) (hr : Rd w w.heap.size A (u8s b)) (h256 : ∀ x ∈ b, x < 256) (hn : b.length = n) (hl : n ≤ 1000000000) (hc : n ≤ cp) (hcm : cp ≤ maxLen) (hnone : A = none → cp = 0)
    (o s x y z : Int) (l : List Wr) (m f nl : Nat) (ks' : List ByteArray) (e' : Nat) (c' : Tri3) (ht : Tm.takeT ks e c b = (((o, s, (x, y, z), l), m, f), (ks', e', c'))) (hnl : l.length = nl) :
    Calls Try.prog 17 #[.pointer (some ⟨g, 0, none⟩), .slice A n cp] w fun en w' => ∃ At ct S', en = .returned (.tuple #[.agg #[.int .i64 o, .int .i64 s, .int .i64 x, .int .i64 y, .int .i64 z, .slice At nl ct], .int .i64 (m : Int), .int .i64 (f : Int)]) ∧
      w'.ownsRow w.heap.size 73 3 (.slice At nl ct) nl (wflat l) ∧ CodM w' g S' ks' e' c' ∧ Turned w S S' w' := by
  obtain ⟨c0, c1, c2⟩ := c
  have h1 := CTake_any w g S ks e c0 c1 c2 A n cp b h hr h256 hn hl hc hcm hnone
  rw [ht] at h1
  refine h1.mono ?_
  rintro en w' ⟨v, S', rfl, ho, hd, hT⟩
  simp only [hnl] at ho
  obtain ⟨At, ct, rfl⟩ := own_slice ho
  exact ⟨At, ct, S', rfl, ho, hd, hT⟩
end Go.Proofs.Ytgjkeccopjgjlaa

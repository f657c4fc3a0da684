/- txn.reader: writes. -/
import Derived.Test.YtgjkeccopjgjlaaTww
import Derived.Laws.AppendOwn
namespace Go.Proofs.Ytgjkeccopjgjlaa
open Go.ChangeShapes Go.WideShapes Go.ChangeAt Go.RowKit Go.Maps
set_option linter.unusedVariables false
set_option linter.unusedSimpArgs false

theorem infoWr : (Try.prog.info? 73).map (fun i => (i.zero, i.size, i.bytes)) = some (some (.agg #[.string ⟨#[]⟩, .string ⟨#[]⟩, .bool false]), 3, 40) := by kernel_rfl
abbrev WsSt := List ByteArray × Nat × List Nat
namespace Tm
def comb (l : List Wr) (r : (List Wr × Nat) × WsSt) : (List Wr × Nat) × WsSt := ((if r.1.2 ≠ 0 then [] else l ++ r.1.1, r.1.2), r.2)
/-- so many writes: they, the error; the state then -/
def takeWs : Nat → List ByteArray → Nat → List Nat → (List Wr × Nat) × WsSt
  | 0, ks, e, b => (([], 0), (ks, e, b))
  | n + 1, ks, e, b => if (takeW ks e b).1.2 ≠ 0 then (([], (takeW ks e b).1.2), (takeW ks e b).2) else comb [(takeW ks e b).1.1] (takeWs n (takeW ks e b).2.1 (takeW ks e b).2.2.1 (takeW ks e b).2.2.2)
/-- their number, and they -/
def readWs (ks : List ByteArray) (e : Nat) (b : List Nat) : (List Wr × Nat) × WsSt :=
  if (upT 16 4 b).2.1 ≠ 0 then (([], (upT 16 4 b).2.1), (ks, e, (upT 16 4 b).2.2)) else takeWs (upT 16 4 b).1 ks e (upT 16 4 b).2.2
theorem comb_comb (l m : List Wr) (r : (List Wr × Nat) × WsSt) : comb l (comb m r) = comb (l ++ m) r := by
  unfold comb
  simp only
  by_cases h : r.1.2 = 0
  · simp [h]
  · simp [h]
theorem takeWs_step {m : Nat} {l : List Wr} {ks ks2 : List ByteArray} {e e2 : Nat} {b b2 : List Nat} {x : Wr} {r : (List Wr × Nat) × WsSt} (h : r = comb l (takeWs (m + 1) ks e b)) (ht : takeW ks e b = ((x, 0), (ks2, e2, b2))) : r = comb (l ++ [x]) (takeWs m ks2 e2 b2) := by
  have h2 : takeWs (m + 1) ks e b = if (takeW ks e b).1.2 ≠ 0 then (([], (takeW ks e b).1.2), (takeW ks e b).2) else comb [(takeW ks e b).1.1] (takeWs m (takeW ks e b).2.1 (takeW ks e b).2.2.1 (takeW ks e b).2.2.2) := rfl
  rw [h, h2, ht]
  simp only
  rw [if_neg (by simp), comb_comb]
theorem takeWs_nil : ∀ (n : Nat) (ks : List ByteArray) (e : Nat) (b : List Nat), comb [] (takeWs n ks e b) = takeWs n ks e b
  | 0, ks, e, b => rfl
  | n + 1, ks, e, b => by
    have h2 : takeWs (n + 1) ks e b = if (takeW ks e b).1.2 ≠ 0 then (([], (takeW ks e b).1.2), (takeW ks e b).2) else comb [(takeW ks e b).1.1] (takeWs n (takeW ks e b).2.1 (takeW ks e b).2.2.1 (takeW ks e b).2.2.2) := rfl
    rw [h2]
    split
    · next h => unfold comb; simp only; rw [if_pos h]
    · rw [comb_comb]; rfl
theorem takeWs_err {m n : Nat} {l : List Wr} {ks : List ByteArray} {e : Nat} {b : List Nat} {x : Wr} {st : WsSt} {r : (List Wr × Nat) × WsSt} (h : r = comb l (takeWs (m + 1) ks e b)) (ht : takeW ks e b = ((x, n), st)) (hn : n ≠ 0) : r = (([], n), st) := by
  rw [h]
  unfold takeWs
  rw [ht]
  simp only
  rw [if_pos hn]
  unfold comb
  simp only
  rw [if_pos hn]
theorem takeWs_done {l : List Wr} {ks : List ByteArray} {e : Nat} {b : List Nat} {r : (List Wr × Nat) × WsSt} (h : r = comb l (takeWs 0 ks e b)) : r = ((l, 0), (ks, e, b)) := by
  rw [h]
  unfold takeWs comb
  simp
end Tm
def wflat (l : List Wr) : List Value := l.flatMap fun x => [.string x.1, .string x.2.1, .bool x.2.2]
theorem wflat_snoc (l : List Wr) (x : Wr) : wflat (l ++ [x]) = wflat l ++ [.string x.1, .string x.2.1, .bool x.2.2] := by simp [wflat]
theorem news3 (w : World) (t : TypeId) (x y z : Value) : ∀ (j : Nat) (u : Value), [x, y, z][j]? = some u → (w.alloc (.cells #[x, y, z] t)).cell? ((⟨w.heap.size, 0, none⟩ : Addr).add j) = some u := by
  intro j u hj
  have h := (Blk.new w t #[x, y, z]).cell j
  have e : (⟨w.heap.size, 0, none⟩ : Addr).add j = ⟨w.heap.size, j, none⟩ := by
    rcases Nat.eq_zero_or_pos j with rfl | h0
    · rfl
    · simp [Addr.add, Nat.ne_of_gt h0]
  rw [e, h]
  simpa using hj
theorem RdS.not_own {w : World} {B q d : Nat} {S : Nat → Prop} {ks : List ByteArray} {e : Nat} {b : List Nat} (h : RdS w B q d S ks e b) {b1 n : Nat} {v : Value} {xs : List Value} (ho : w.ownsRow b1 73 3 v n xs) : ∀ j, v.ownBlock = some j → ¬ S j := by
  obtain ⟨A, m, c, T, h1, h2, h3, h4, ⟨h5n, h5⟩, h6, h7, h8, h9, h10, h11⟩ := h
  obtain ⟨v1, m1, D, g1, g2, g3, g4, g5, g6⟩ := h2
  intro j hj hs
  rcases (h9 j).1 hs with rfl | ht
  · exact own_ne_blk ho h1 (by decide) _ hj rfl
  · rcases (g6 j).1 ht with rfl | rfl | h7
    · exact own_ne_blk ho g1 (by decide) _ hj rfl
    · exact map_own g3 ho hj
    · exact own_own ho g2 (by decide) j hj h7
def WsPost (w : World) (B q d : Nat) (S : Nat → Prop) (r : (List Wr × Nat) × WsSt) (en : Ending) (w' : World) : Prop :=
  ∃ v S', en = .returned (.tuple #[v, .int .i64 (r.1.2 : Int)]) ∧ w'.ownsRow w.heap.size 73 3 v r.1.1.length (wflat r.1.1) ∧ RdS w' B q d S' r.2.1 r.2.2.1 r.2.2.2 ∧ Turned w S S' w'
def WsRel (w : World) (B q d : Nat) (S : Nat → Prop) (N : Nat) (r : (List Wr × Nat) × WsSt) (s6 s18 : Value) (wr : World) : Prop :=
  ∃ (k : Nat) (l : List Wr) (ks' : List ByteArray) (e' : Nat) (b' : List Nat) (S' : Nat → Prop), s18 = .int .i64 (k : Int) ∧ k ≤ N ∧ l.length = k ∧ Hid (r = Tm.comb l (Tm.takeWs (N - k) ks' e' b')) ∧ wr.ownsRow w.heap.size 73 3 s6 k (wflat l) ∧ RdS wr B q d S' ks' e' b' ∧ Turned w S S' wr
set_option maxHeartbeats 2000000 in
set_option maxRecDepth 100000 in
theorem writes_any (w : World) (B q d : Nat) (S : Nat → Prop) (ks : List ByteArray) (e : Nat) (b : List Nat) (h : RdS w B q d S ks e b) :
    Calls Try.prog 72 #[.pointer (some ⟨q, 0, none⟩)] w (WsPost w B q d S (Tm.readWs ks e b)) := by
  obtain ⟨i0, hi, hz0, hz1, hz2⟩ := info_parts infoWr
  have HU := Lib.hid (upTo_any w B q d S ks e b 16 4 h (by decide))
  have HRW := Lib.hid h
  have hup := upT_le 16 4 b
  obtain ⟨⟨N, d2, b1⟩, hupe⟩ : ∃ r, Tm.upT 16 4 b = r := ⟨_, rfl⟩
  rw [hupe] at HU hup
  simp only at hup
  obtain ⟨r, hr⟩ : ∃ r, Tm.readWs ks e b = r := ⟨_, rfl⟩
  have hr2 : r = if d2 ≠ 0 then (([], d2), (ks, e, b1)) else Tm.takeWs N ks e b1 := by rw [← hr]; unfold Tm.readWs; rw [hupe]
  rw [hr]
  clear hr hupe h
  by_cases hd2 : d2 = 0
  · subst hd2
    rw [if_neg (by simp)] at hr2
    have HR := Lib.hid hr2
    clear hr2
    go_enter Try.func72, Try.ntmps72
    go_wp2_with fail
    refine HU.out.mono ?_
    rintro en1 w1 ⟨rfl, hr1, ht1⟩
    have START := Lib.hid (show WsRel w B q d S N r (.slice none 0 0) (.int .i64 0) w1 from ⟨0, [], ks, e, b1, S, rfl, Nat.zero_le _, rfl, Lib.hid (by rw [HR.out, Nat.sub_zero, Tm.takeWs_nil]), World.ownsRow_nil _ _ _ _, hr1, ht1⟩)
    clear hr1 ht1 HU
    go_wp2
    go_loopw [6, 18] (fun s6 s18 wr => WsRel w B q d S N r s6 s18 wr) (fun _ s18 _ => N - (intOf s18).toNat)
    case atStart => exact START.out
    case round =>
      clear START HR
      obtain ⟨k, l, ks', e', b', S', rfl, hk, hlk, hc, hown, hrd, htn⟩ := hrel
      have HO := Lib.hid hown; have HRD := Lib.hid hrd; have HTN := Lib.hid htn; have HLK := Lib.hid hlk
      by_cases hlt : k < N
      · have hltI : (k : Int) < (N : Int) := by omega
        obtain ⟨m, hm⟩ : ∃ m, N - k = m + 1 := ⟨N - k - 1, by omega⟩
        have hm2 : N - (k + 1) = m := by omega
        have hc2 := hc.out
        rw [hm] at hc2
        have HW := Lib.hid (write_any wr B q d S' ks' e' b' hrd)
        obtain ⟨⟨⟨⟨xk, xv, xb⟩, n⟩, ks2, e2, b2⟩, htw⟩ : ∃ r, Tm.takeW ks' e' b' = r := ⟨_, rfl⟩
        rw [htw] at HW
        by_cases hn : n = 0
        · subst hn
          have HC := Lib.hid (Tm.takeWs_step hc2 htw)
          clear hc hc2 htw hm hown hrd htn hlk
          go_wp2_with fail
          refine HW.out.mono ?_
          rintro en2 w2 ⟨rfl, S2, hr2, ht2⟩
          simp only [aggW]
          have HO2 := Lib.hid (ht2.2.own HO.out (HRD.out.not_own HO.out))
          have HR2 := Lib.hid hr2
          have HT2 := Lib.hid (HTN.out.trans ht2)
          have hsz := HT2.out.2.size
          clear hr2 ht2
          have hB1 := (Below.refl w2.heap.size w2).alloc (Nat.le_refl _) (.cells #[.string xk, .string xv, .bool xb] 73)
          have hB2 := (Below.refl (w2.alloc (.cells #[.string xk, .string xv, .bool xb] 73)).heap.size _).alloc (Nat.le_refl _) (.cells #[.string xk, .string xv, .bool xb] 73)
          obtain ⟨W1, hW1⟩ : ∃ x, w2.alloc (.cells #[.string xk, .string xv, .bool xb] 73) = x := ⟨_, rfl⟩
          rw [hW1] at hB1 hB2
          have HO3 := Lib.hid (own_below (own_below HO2.out hB1) hB2)
          have HR3 := Lib.hid ((HR2.out.below hB1).below hB2)
          have HT3 := Lib.hid ((HT2.out.below hB1).below hB2)
          have HNW := Lib.hid (news3 W1 73 (.string xk) (.string xv) (.bool xb))
          have hsW : W1.heap.size = w2.heap.size + 1 := by rw [← hW1]; simp
          have hs3 := HT3.out.2.size
          rw [hsW] at HNW
          subst hW1
          clear hB1 hB2 hsW HO2 HR2 HT2
          go_wp2_with (at_builtin; go_must (refine wpList_append_own _ rfl (.tmp 28) (.tmp 30) 36 rfl w.heap.size 73 i0 (.agg #[.string ⟨#[]⟩, .string ⟨#[]⟩, .bool false]) 3 40 Try.underlying36 hi hz0 hz1 hz2 rfl (by decide) _ k (wflat l) rfl HO3.out ⟨w2.heap.size + 1, 0, none⟩ 1 1 [.string xk, .string xv, .bool xb] rfl rfl HNW.out (by intro u hu; simp at hu; rcases hu with rfl | rfl | rfl <;> rfl) (by unfold maxLen; omega) (by omega) hs3 ?_; intro v4 w4 ho4 hg4 hne4; have HO4 := Lib.hid ho4; have HG4 := Lib.hid hg4; clear ho4 hg4 hne4))
          go_roundw
          case rel =>
            have hO := Only.of_grown (S := fun j => u6.ownBlock = some j) HG4.out (fun j h => h)
            refine ⟨k + 1, l ++ [(xk, xv, xb)], ks2, e2, b2, S2, by go_num, by omega, by simp [HLK.out], Lib.hid (by rw [hm2]; exact HC.out), by rw [wflat_snoc]; exact HO4.out, HR3.out.only hO (fun j hj hs => HR3.out.not_own HO3.out j hj hs) (fun j hj => ?_), HT3.out.1, HT3.out.2.trans hO (fun j hj => .inr (HO3.out.lt j hj).1)⟩
            have h1 := (HO3.out.lt j hj).1
            obtain ⟨_, _, _, _, _, _, _, _, _, _, _, _, _, _, hh⟩ := HRW.out
            omega
          case measure => simp [intOf]; omega
        · have hnI : (n : Int) ≠ 0 := by omega
          have HC := Lib.hid (Tm.takeWs_err hc2 htw hn)
          clear hc hc2 htw hm hown hrd htn hlk
          go_wp2_with fail
          refine HW.out.mono ?_
          rintro en2 w2 ⟨rfl, S2, hr2, ht2⟩
          simp only [aggW]
          have HP := Lib.hid (show WsPost w B q d S r (.returned (.tuple #[.slice none 0 0, .int .i64 (n : Int)])) (w2.alloc (.cells #[.string xk, .string xv, .bool xb] 73)) from by
            rw [HC.out]
            exact ⟨_, S2, rfl, World.ownsRow_nil _ _ _ _, hr2.below ((Below.refl _ _).alloc (Nat.le_refl _) _), (HTN.out.trans ht2).below ((Below.refl _ _).alloc (Nat.le_refl _) _)⟩)
          clear hr2 ht2
          go_wp2
          go_ret2
          exact HP.out
      · obtain rfl : k = N := by omega
        have hc2 := hc.out
        rw [Nat.sub_self] at hc2
        have hc3 := Tm.takeWs_done hc2
        have HP := Lib.hid (show WsPost w B q d S r (.returned (.tuple #[u6, .int .i64 0])) wr from by
          rw [hc3]
          exact ⟨_, S', rfl, by simp only [hlk]; exact hown, hrd, htn⟩)
        clear hc hc2 hc3 hown hrd htn hlk
        go_wp2
        go_ret2
        exact HP.out
  · have hdI : (d2 : Int) ≠ 0 := by omega
    rw [if_pos hd2] at hr2
    have HR := Lib.hid hr2
    clear hr2
    go_enter Try.func72, Try.ntmps72
    go_wp2_with fail
    refine HU.out.mono ?_
    rintro en1 w1 ⟨rfl, hr1, ht1⟩
    have HP := Lib.hid (show WsPost w B q d S r (.returned (.tuple #[.slice none 0 0, .int .i64 (d2 : Int)])) w1 from by
      rw [HR.out]
      exact ⟨_, S, rfl, World.ownsRow_nil _ _ _ _, hr1, ht1⟩)
    clear hr1 ht1
    go_wp2
    go_ret2
    exact HP.out
end Go.Proofs.Ytgjkeccopjgjlaa

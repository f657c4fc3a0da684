/- Rows of letters; net: All; law 21's own. -/
import Derived.Test.YtahichieakdbnaaNx
namespace Go.Proofs.Ytahichieakdbnaa
open Go.ChangeShapes Go.WideShapes Go.ChangeAt Go.RowKit Go.Maps
set_option linter.unusedVariables false
set_option linter.unusedSimpArgs false

/-- two cells that are a letter -/
def RLet (w : World) (B : Nat) (cs : List Value) (l : Let) : Prop := ∃ A c, cs = [.int .i64 l.1, .slice A l.2.length c] ∧ Rd w B A (u8s l.2) ∧ l.2.length ≤ c ∧ c ≤ maxLen ∧ (A = none → c = 0) ∧ ∀ b ∈ l.2, b < 256
theorem RLet.below {w w' : World} {B : Nat} (hb : Below B w w') : ∀ cs l, RLet w B cs l → RLet w' B cs l := fun cs l ⟨A, c, h1, h2, h3⟩ => ⟨A, c, h1, h2.below hb, h3⟩
theorem RLet.more {w : World} {B B' : Nat} (hb : B ≤ B') : ∀ cs l, RLet w B cs l → RLet w B' cs l := fun cs l ⟨A, c, h1, h2, h3⟩ => ⟨A, c, h1, h2.more hb, h3⟩
/-- from A on there lie letters -/
abbrev LetR (w : World) (B : Nat) (A : Option Addr) (ls : List Let) : Prop := StR 2 (RLet w B) w B A ls
theorem LetR.below {w w' : World} {B : Nat} {A : Option Addr} {ls : List Let} (h : LetR w B A ls) (hb : Below B w w') : LetR w' B A ls := StR.below h hb (RLet.below hb)
theorem LetR.step {w w' : World} {A : Option Addr} {ls : List Let} (h : LetR w w.heap.size A ls) (hb : Below w.heap.size w w') : LetR w' w'.heap.size A ls :=
  StR.more (StR.below h hb (fun cs l hr => RLet.more hb.size cs l (RLet.below hb cs l hr))) hb.size
theorem LetR.row {w : World} {B : Nat} {A : Option Addr} {ls : List Let} (h : LetR w B A ls) {k : Nat} (hk : k < ls.length) : ∃ g o to bs Ab cb, A = some ⟨g, o, none⟩ ∧ g < B ∧ ls[k]? = some (to, bs) ∧ w.cell? ⟨g, o + k * 2, none⟩ = some (.int .i64 to) ∧ w.cell? ⟨g, o + k * 2 + 1, none⟩ = some (.slice Ab bs.length cb) ∧ Rd w B Ab (u8s bs) ∧ bs.length ≤ cb ∧ cb ≤ maxLen ∧ (Ab = none → cb = 0) ∧ (∀ b ∈ bs, b < 256) := by
  obtain ⟨g, o, ⟨to, bs⟩, cs, e, hg, hk', hl, ⟨Ab, cb, rfl, r⟩, hc⟩ := StR.row h hk
  exact ⟨g, o, to, bs, Ab, cb, e, hg, hk', hc 0 _ rfl, hc 1 _ rfl, r⟩
/-- a row of letters as it lies -/
abbrev Mlet := List (Int × Value)
def fl2 (ms : Mlet) : List Value := ms.flatMap fun m => [.int .i64 m.1, m.2]
theorem fl2_cons (m : Int × Value) (ms : Mlet) : fl2 (m :: ms) = [.int .i64 m.1, m.2] ++ fl2 ms := rfl
theorem fl2_snoc (a : Mlet) (m : Int × Value) : fl2 (a ++ [m]) = fl2 a ++ [.int .i64 m.1, m.2] := by simp [fl2]
theorem fl2_length (ms : Mlet) : (fl2 ms).length = ms.length * 2 := by
  induction ms with
  | nil => rfl
  | cons m ms ih => rw [fl2_cons, List.length_append, ih, List.length_cons]; simp; omega
theorem fl2_get : ∀ (ms : Mlet) (k : Nat) (m : Int × Value), ms[k]? = some m → ∀ (j : Nat) (u : Value), [Value.int .i64 m.1, m.2][j]? = some u → (fl2 ms)[k * 2 + j]? = some u
  | [], k, x, h, j, u, hu => by simp at h
  | y :: l, 0, x, h, j, u, hu => by
    simp at h
    subst h
    rw [fl2_cons, Nat.zero_mul, Nat.zero_add, List.getElem?_append_left (by have := (List.getElem?_eq_some_iff.1 hu).1; exact this)]
    exact hu
  | y :: l, k + 1, x, h, j, u, hu => by
    rw [fl2_cons, List.getElem?_append_right (by simp; omega)]
    have e : (k + 1) * 2 + j - [Value.int .i64 y.1, y.2].length = k * 2 + j := by simp; omega
    rw [e]
    exact fl2_get l k x (by simpa using h) j u hu
/-- an own row of letters, of type t; the bodies lie elsewhere -/
def LRow (t : TypeId) (w : World) (base : Nat) (v : Value) (ls : List Let) : Prop :=
  ∃ ms : Mlet, ms.length = ls.length ∧ w.ownsRow base t 2 v ls.length (fl2 ms) ∧ ∀ (j : Nat) (m : Int × Value) (x : Let), ms[j]? = some m → ls[j]? = some x → m.1 = x.1 ∧ MadeO w (fun j => v.ownBlock = some j) m.2 x.2 x.2.length
namespace LRow
variable {t : TypeId} {w w' w2 w3 : World} {base : Nat} {v v' : Value} {ls : List Let}
theorem nil (t : TypeId) (w : World) (base : Nat) : LRow t w base (.slice none 0 0) [] := ⟨[], rfl, World.ownsRow_nil _ _ _ _, fun j m x h => by simp at h⟩
theorem lit (t : TypeId) (w : World) (base : Nat) (hb : base ≤ w.heap.size) : LRow t (w.alloc (.cells #[] t)) base (.slice (some ⟨w.heap.size, 0, none⟩) 0 0) [] := ⟨[], rfl, World.ownsRow_made w #[] 0 hb (Nat.zero_le _) rfl, fun j m x h => by simp at h⟩
theorem below (h : LRow t w base v ls) (hb : Below w.heap.size w w') : LRow t w' base v ls := by
  obtain ⟨ms, h1, h2, h3⟩ := h
  exact ⟨ms, h1, own_below h2 hb, fun j m x hm hx => ⟨(h3 j m x hm hx).1, (h3 j m x hm hx).2.below hb⟩⟩
/-- one more -/
theorem push {ms : Mlet} {to : Int} {bv : Value} {bs : List Nat} (h1 : ms.length = ls.length) (h2 : w2.ownsRow base t 2 v ls.length (fl2 ms))
    (h3 : ∀ (j : Nat) (m : Int × Value) (x : Let), ms[j]? = some m → ls[j]? = some x → m.1 = x.1 ∧ MadeO w2 (fun j => v.ownBlock = some j) m.2 x.2 x.2.length)
    (ho : w3.ownsRow base t 2 v' (ls.length + 1) (fl2 ms ++ [.int .i64 to, bv])) (hg : w2.grownBy w3 v.ownBlock) (hat : v'.ownBlock = v.ownBlock ∨ v'.ownBlock = some w2.heap.size)
    (hm : MadeO w2 (fun j => v.ownBlock = some j) bv bs bs.length) : LRow t w3 base v' (ls ++ [(to, bs)]) := by
  have hT : Turned w2 (fun j => v.ownBlock = some j) (fun j => v'.ownBlock = some j) w3 := ⟨fun j hj => by
    rcases hat with h | h
    · left; rw [← h]; exact hj
    · right
      rw [h] at hj
      injection hj with hj
      omega, Only.of_grown hg (fun j hj => hj)⟩
  refine ⟨ms ++ [(to, bv)], by simp [h1], by rw [fl2_snoc, List.length_append]; exact ho, fun j m x hm' hx => ?_⟩
  by_cases hj : j < ms.length
  · rw [List.getElem?_append_left hj] at hm'
    rw [List.getElem?_append_left (by rw [← h1]; exact hj)] at hx
    exact ⟨(h3 j m x hm' hx).1, (h3 j m x hm' hx).2.turn hT⟩
  · have hj2 : j = ms.length := by
      have := (List.getElem?_eq_some_iff.1 hm').1
      simp at this
      omega
    subst hj2
    rw [List.getElem?_append_right (Nat.le_refl _)] at hm'
    rw [List.getElem?_append_right (by rw [h1]; exact Nat.le_refl _)] at hx
    simp [h1] at hm' hx
    subst hm' hx
    exact ⟨rfl, hm.turn hT⟩
theorem letR (h : LRow t w base v ls) (hB : base ≤ w.heap.size) : ∃ A c, v = .slice A ls.length c ∧ LetR w w.heap.size A ls ∧ ls.length ≤ c ∧ c ≤ maxLen := by
  obtain ⟨ms, h1, h2, h3⟩ := h
  obtain ⟨A, c, rfl⟩ := own_sl h2
  have hcc : ls.length ≤ c ∧ c ≤ maxLen := by
    rcases h2.2 with ⟨h, hz⟩ | ⟨g, cap, cur, hv, hb, hh, hnc, hcm, hs, ht⟩
    · injection h with _ h5 h6
      exact ⟨by omega, by rw [h6]; exact Nat.zero_le _⟩
    · injection hv with _ _ hc
      exact ⟨by omega, by omega⟩
  refine ⟨A, c, rfl, fun hne => ?_, hcc⟩
  have hpos := List.length_pos_iff.2 hne
  obtain ⟨g, cap, hv, _, hlt⟩ := h2.form hpos
  injection hv with hA _ _
  subst hA
  refine ⟨g, 0, rfl, hlt, fun k a hk => ?_⟩
  have hl := (List.getElem?_eq_some_iff.1 hk).1
  have hm : ms[k]? = some (ms[k]'(by rw [h1]; exact hl)) := List.getElem?_eq_getElem _
  obtain ⟨e1, e2⟩ := h3 k _ a hm hk
  obtain ⟨A5, c5, hv5, -⟩ := id e2.1
  have hp := e2.1
  rw [hv5] at hp
  obtain ⟨p1, p2, p3, p4, p5⟩ := hp.parts
  refine ⟨[.int .i64 a.1, .slice A5 a.2.length c5], rfl, ⟨A5, c5, rfl, p1, p2, p3, p4, p5⟩, fun j u hu => ?_⟩
  have hc := h2.cells (g := g) rfl (k * 2 + j) u (fl2_get ms k _ hm j u (by rw [e1, hv5]; exact hu))
  rw [addk] at hc
  simpa [Nat.add_assoc] using hc
end LRow
/-- an own row of letters whose bodies lie in none of X either -/
def LRowX (t : TypeId) (w : World) (base : Nat) (X : Nat → Prop) (v : Value) (ls : List Let) : Prop :=
  ∃ ms : Mlet, ms.length = ls.length ∧ w.ownsRow base t 2 v ls.length (fl2 ms) ∧ ∀ (j : Nat) (m : Int × Value) (x : Let), ms[j]? = some m → ls[j]? = some x → m.1 = x.1 ∧ MadeO w (fun j => X j ∨ v.ownBlock = some j) m.2 x.2 x.2.length
namespace LRowX
variable {t : TypeId} {w w' w2 w3 : World} {base : Nat} {X : Nat → Prop} {v v' : Value} {ls : List Let}
theorem lit (t : TypeId) (w : World) (base : Nat) (X : Nat → Prop) (hb : base ≤ w.heap.size) : LRowX t (w.alloc (.cells #[] t)) base X (.slice (some ⟨w.heap.size, 0, none⟩) 0 0) [] := ⟨[], rfl, World.ownsRow_made w #[] 0 hb (Nat.zero_le _) rfl, fun j m x h => by simp at h⟩
theorem nil (t : TypeId) (w : World) (base : Nat) (X : Nat → Prop) : LRowX t w base X (.slice none 0 0) [] := ⟨[], rfl, World.ownsRow_nil _ _ _ _, fun j m x h => by simp at h⟩
theorem only (h : LRowX t w base X v ls) (hO : Only X w w') (hv : ∀ j, v.ownBlock = some j → ¬ X j) : LRowX t w' base X v ls := by
  obtain ⟨ms, h1, h2, h3⟩ := h
  exact ⟨ms, h1, hO.own h2 hv, fun j m x hm hx => ⟨(h3 j m x hm hx).1, (h3 j m x hm hx).2.other hO (fun g o n c hv' hn hs => (h3 j m x hm hx).2.2 g o n c hv' hn (.inl hs))⟩⟩
theorem toL (h : LRowX t w base X v ls) : LRow t w base v ls := by
  obtain ⟨ms, h1, h2, h3⟩ := h
  exact ⟨ms, h1, h2, fun j m x hm hx => ⟨(h3 j m x hm hx).1, (h3 j m x hm hx).2.1, fun g o n c hv hn hs => (h3 j m x hm hx).2.2 g o n c hv hn (.inr hs)⟩⟩
theorem below (h : LRowX t w base X v ls) (hb : Below w.heap.size w w') : LRowX t w' base X v ls := by
  obtain ⟨ms, h1, h2, h3⟩ := h
  exact ⟨ms, h1, own_below h2 hb, fun j m x hm hx => ⟨(h3 j m x hm hx).1, (h3 j m x hm hx).2.below hb⟩⟩
theorem turn (h : LRowX t w base X v ls) (hT : Turned w X X w') (hv : ∀ j, v.ownBlock = some j → ¬ X j) : LRowX t w' base X v ls := by
  obtain ⟨ms, h1, h2, h3⟩ := h
  exact ⟨ms, h1, hT.2.own h2 hv, fun j m x hm hx => ⟨(h3 j m x hm hx).1, (h3 j m x hm hx).2.turn hT.left⟩⟩
theorem push {ms : Mlet} {to : Int} {bv : Value} {bs : List Nat} (h1 : ms.length = ls.length) (h2 : w2.ownsRow base t 2 v ls.length (fl2 ms))
    (h3 : ∀ (j : Nat) (m : Int × Value) (x : Let), ms[j]? = some m → ls[j]? = some x → m.1 = x.1 ∧ MadeO w2 (fun j => X j ∨ v.ownBlock = some j) m.2 x.2 x.2.length)
    (ho : w3.ownsRow base t 2 v' (ls.length + 1) (fl2 ms ++ [.int .i64 to, bv])) (hg : w2.grownBy w3 v.ownBlock) (hat : v'.ownBlock = v.ownBlock ∨ v'.ownBlock = some w2.heap.size)
    (hm : MadeO w2 (fun j => X j ∨ v.ownBlock = some j) bv bs bs.length) : LRowX t w3 base X v' (ls ++ [(to, bs)]) := by
  have hT : Turned w2 (fun j => X j ∨ v.ownBlock = some j) (fun j => X j ∨ v'.ownBlock = some j) w3 := ⟨fun j hj => by
    rcases hj with hj | hj
    · exact .inl (.inl hj)
    · rcases hat with h | h
      · left; right; rw [← h]; exact hj
      · right
        rw [h] at hj
        injection hj with hj
        omega, Only.of_grown hg (fun j hj => .inr hj)⟩
  refine ⟨ms ++ [(to, bv)], by simp [h1], by rw [fl2_snoc, List.length_append]; exact ho, fun j m x hm' hx => ?_⟩
  by_cases hj : j < ms.length
  · rw [List.getElem?_append_left hj] at hm'
    rw [List.getElem?_append_left (by rw [← h1]; exact hj)] at hx
    exact ⟨(h3 j m x hm' hx).1, (h3 j m x hm' hx).2.turn hT⟩
  · have hj2 : j = ms.length := by
      have := (List.getElem?_eq_some_iff.1 hm').1
      simp at this
      omega
    subst hj2
    rw [List.getElem?_append_right (Nat.le_refl _)] at hm'
    rw [List.getElem?_append_right (by rw [h1]; exact Nat.le_refl _)] at hx
    simp [h1] at hm' hx
    subst hm' hx
    exact ⟨rfl, hm.turn hT⟩
end LRowX
theorem nw2 (w : World) (t : TypeId) (x y : Value) : ∀ (j : Nat) (u : Value), [x, y][j]? = some u → (w.alloc (.cells #[x, y] t)).cell? ((⟨w.heap.size, 0, none⟩ : Addr).add j) = some u := by
  intro j u hj
  rw [addk, (Blk.new w t #[x, y]).cell j]
  simpa using hj
theorem infoLet : (Try.prog.info? 98).map (fun i => (i.zero, i.size, i.bytes)) = some (some (.agg #[.int .i64 0, .slice none 0 0]), 2, 32) := by kernel_rfl
theorem infoRLet : (Try.prog.info? 103).map (fun i => (i.zero, i.size, i.bytes)) = some (some (.agg #[.int .i64 0, .slice none 0 0]), 2, 32) := by kernel_rfl
def NAllPost (w : World) (S : Nat → Prop) (row : List Snt) (en : Ending) (w' : World) : Prop := ∃ v, en = .returned v ∧ LRowX 98 w' w.heap.size S v (row.map (·.1)) ∧ Below w.heap.size w w'
set_option maxHeartbeats 3000000 in
set_option maxRecDepth 100000 in
theorem NAll_any (w : World) (g : Nat) (S : Nat → Prop) (row : List Snt) (h : NetM w g S row) (hrl : row.length ≤ 64) (hbl : ∀ x ∈ row, x.1.2.length ≤ 1099511627776) :
    Calls Try.prog 65 #[.pointer (some ⟨g, 0, none⟩)] w (NAllPost w S row) := by
  obtain ⟨i0, hi, hz0, hz1, hz2⟩ := info_parts infoLet
  have HM := Lib.hid h
  obtain ⟨v, ms0, h1, h2, -, -⟩ := h
  obtain ⟨A, cp, rfl⟩ := own_sl h2
  have a0 : w.cell? ⟨g, 0, none⟩ = some (.slice A row.length cp) := h1.cell 0
  have H1 := Lib.hid h1
  obtain ⟨n, hn⟩ : ∃ n, row.length = n := ⟨_, rfl⟩
  have HN := Lib.hid hn
  rw [hn] at a0 hrl
  clear h1 h2 hn
  go_enter Try.func65, Try.ntmps65
  go_wp2
  go_loopw [3, 11] (fun s3 s11 wr => ∃ k : Nat, s11 = .int .i64 (k : Int) ∧ k ≤ n ∧ LRowX 98 wr w.heap.size S s3 ((row.map (·.1)).take k) ∧ Below w.heap.size w wr) (fun _ s11 _ => n - (intOf s11).toNat)
  case atStart => exact ⟨0, rfl, Nat.zero_le _, LRowX.nil _ _ _ _, Below.refl _ _⟩
  case round =>
    obtain ⟨k, rfl, hk, hL, hbel⟩ := hrel
    have HB := Lib.hid hbel
    by_cases hlt : k < n
    · have hltI : (k : Int) < (n : Int) := by omega
      have HMr := HM.out.below hbel
      obtain ⟨q, cp', to, Ab, c, bs, sp, b0, e1, e2, ⟨d0, d1, d2⟩, -, -, hql, -⟩ := HMr.el (k := k) (by rw [HN.out]; exact hlt)
      have b0' := (H1.out.below hbel H1.out.lt).cell 0
      simp only [HN.out] at b0 b0'
      rw [b0] at b0'
      simp at b0'
      obtain ⟨rfl, rfl⟩ := b0'
      obtain ⟨hr, hc, hcm, hno, h256⟩ := e2.1.parts
      have hbs : bs.length ≤ 1099511627776 := hbl ((to, bs), sp) (List.mem_of_getElem? e1)
      obtain ⟨nb, hnb⟩ : ∃ n, bs.length = n := ⟨_, rfl⟩
      rw [hnb] at d1
      obtain ⟨ms, m1, m2, m3⟩ := hL
      have hlk : ((row.map (·.1)).take k).length = k := by rw [List.length_take, List.length_map, HN.out]; omega
      obtain ⟨A3, c3, rfl⟩ := own_sl m2
      have hb1 : Below wr.heap.size wr (wr.alloc (.cells #[.int .i64 to, .slice Ab nb c, .bool sp] 141)) := (Below.refl _ wr).alloc (Nat.le_refl _) _
      have HB1 := Lib.hid hb1
      have HCO := Lib.hid (nown_any (wr.alloc (.cells #[.int .i64 to, .slice Ab nb c, .bool sp] 141)) to Ab nb c bs ((hr.below hb1).more hb1.size) h256 hnb (by omega) (by omega) hno)
      have M1 := Lib.hid m1; have M2 := Lib.hid m2; have M3 := Lib.hid m3; have HLK := Lib.hid hlk; have HE1 := Lib.hid e1; have HNB := Lib.hid hnb
      simp only [hlk] at m2 ⊢
      have hss := hbel.size
      clear HMr hbel hr h256 hno hnb m1 m2 m3 hlk e1 e2 hb1 hc hcm hbs
      go_wp2_with fail
      refine HCO.out.mono ?_
      rintro en w1 ⟨A2, c2, rfl, hm, hf, hb⟩
      have hs2 := hb.size
      simp only [World.size_alloc] at hs2
      have HBB := Lib.hid (HB1.out.trans (hb.mono HB1.out.size))
      have HF := Lib.hid hf
      have HMD := Lib.hid hm
      rw [HNB.out] at hm
      simp only [HNB.out]
      have m2' := own_below (own_below M2.out HBB.out) ((Below.refl _ w1).alloc (Nat.le_refl _) (.cells #[.int .i64 to, .slice A2 nb c2] 98))
      simp only [HLK.out] at m2'
      have M2' := Lib.hid m2'
      have HW2 : Hid (w.heap.size ≤ (w1.alloc (.cells #[.int .i64 to, .slice A2 nb c2] 98)).heap.size) := Lib.hid (by have := HB.out.size; simp; omega)
      clear hm hf hb m2' d0 d1 d2 b0
      go_wp2_with (at_builtin; go_must (refine wpList_append_own_at _ rfl (.tmp 15) (.tmp 19) 110 rfl w.heap.size 98 i0 (.agg #[.int .i64 0, .slice none 0 0]) 2 32 Try.underlying110 hi hz0 hz1 hz2 rfl (by decide) _ k (fl2 ms) rfl M2'.out ⟨w1.heap.size, 0, none⟩ 1 1 [.int .i64 to, .slice A2 nb c2] rfl rfl (nw2 w1 _ _ _) (by intro u hu; simp at hu; rcases hu with rfl | rfl <;> rfl) (by unfold maxLen; omega) (by omega) HW2.out ?_; intro v3 w3 ho3 hg3 hn3 hat3; have HO3 := Lib.hid ho3; have HG3 := Lib.hid hg3; have HAT := Lib.hid hat3; clear ho3 hg3 hn3 hat3))
      go_roundw
      case rel =>
        refine ⟨k + 1, by go_num, by omega, ?_, ?_⟩
        · have htk : (row.map (·.1)).take (k + 1) = (row.map (·.1)).take k ++ [(to, bs)] := by
            rw [List.take_add_one, List.getElem?_map, HE1.out]; rfl
          rw [htk]
          have hbx := HBB.out.trans ((Below.refl w1.heap.size w1).alloc (Nat.le_refl _) (.cells #[.int .i64 to, .slice A2 nb c2] 98) |>.mono (by omega))
          refine LRowX.push (ms := ms) (v := .slice A3 ((row.map (·.1)).take k).length c3) (w2 := w1.alloc (.cells #[.int .i64 to, .slice A2 nb c2] 98)) M1.out (own_below M2.out hbx) (fun j m x hm hx => ⟨(M3.out j m x hm hx).1, (M3.out j m x hm hx).2.below hbx⟩) (by rw [HLK.out]; exact HO3.out) (by rw [HLK.out]; exact HG3.out) (by rw [HLK.out]; exact HAT.out) ?_
          refine MadeO.below ⟨?_, fun b o n' c' hv _ hj => ?_⟩ ((Below.refl _ w1).alloc (Nat.le_refl _) _)
          · have := HMD.out; rw [HNB.out] at this ⊢; exact this
          · have h5 := (HF.out b o n' c' (by rw [HNB.out]; exact hv)).1
            have h6 := HB.out.size
            simp at h5
            rcases hj with hj | hj
            · have := HM.out.lt b hj; omega
            · have := own_lt M2.out b hj; omega
        · have hb3 := HB.out.trans (HBB.out.mono HB.out.size)
          refine (hb3.trans ((Below.refl w1.heap.size w1).alloc (Nat.le_refl _) (.cells #[.int .i64 to, .slice A2 nb c2] 98) |>.mono hb3.size)).trans ?_
          exact ⟨HG3.out.os, HG3.out.tape, HG3.out.output, HG3.out.size, fun j hj => HG3.out.block j (by have := HW2.out; omega) (fun h => by have := (M2'.out.lt j h.symm).1; omega)⟩
      case measure => simp [intOf]; omega
    · obtain rfl : k = n := by omega
      have hP : NAllPost w S row (.returned u3) wr := ⟨u3, rfl, by
        have : (row.map (·.1)).take k = row.map (·.1) := List.take_of_length_le (by rw [List.length_map, HN.out]; exact Nat.le_refl _)
        rw [this] at hL; exact hL, hbel⟩
      have HP := Lib.hid hP
      clear hP hL hbel
      go_wp2
      go_ret
      exact HP.out
end Go.Proofs.Ytahichieakdbnaa

/- law 21's NetSpoilt: what is known, in plain words; two own rows beside a net. -/
import Derived.Test.YtahichieakdbnaaNe
import Derived.Test.YtahichieakdbnaaRf2
namespace Go.Proofs.Ytahichieakdbnaa
open Go.ChangeShapes Go.WideShapes Go.ChangeAt Go.RowKit Go.Maps
set_option linter.unusedVariables false
set_option linter.unusedSimpArgs false

/-- a letter with bits turned -/
def trl (p : Int) (mask : Nat) (y : Let) : Let := (y.1, Cm.turn y.2 p mask)
/-- what is known of those on their way, of what was sent, of what could be -/
def FacS (row : List Snt) (sl cl : List Let) : Prop := row.length ≤ 64 ∧ Nm.Fine 300 row ∧ (∀ x ∈ row, x.2 = false → x.1 ∈ sl) ∧ (∀ x ∈ row, x.2 = true → x.1 ∈ cl)
theorem FacS.send {row : List Snt} {sl cl : List Let} {l : Let} (h : FacS row sl cl) (h64 : row.length < 64) (h1 : l.2.length ≤ 300) (h2 : ∀ b ∈ l.2, b < 256) : FacS (row ++ [(l, false)]) (sl ++ [l]) cl := by
  obtain ⟨a, b, c, d⟩ := h
  refine ⟨by simp; omega, fun x hx => ?_, fun x hx hf => ?_, fun x hx hf => ?_⟩
  · rcases List.mem_append.1 hx with hx | hx
    · exact b x hx
    · simp at hx; subst hx; exact ⟨h1, h2⟩
  · rcases List.mem_append.1 hx with hx | hx
    · exact List.mem_append_left _ (c x hx hf)
    · simp at hx; subst hx; simp
  · rcases List.mem_append.1 hx with hx | hx
    · exact d x hx hf
    · simp at hx; subst hx; cases hf
theorem FacS.take {row : List Snt} {sl cl : List Let} {k : Nat} {i : Int} (h : FacS row sl cl) (hp : Nm.plc row i = some k) : FacS (row.eraseIdx k) sl cl := by
  obtain ⟨a, b, c, d⟩ := h
  have hk := (Nm.plc_lt hp).1
  exact ⟨by rw [List.length_eraseIdx]; split <;> omega, fun x hx => b x (List.mem_of_mem_eraseIdx hx), fun x hx => c x (List.mem_of_mem_eraseIdx hx), fun x hx => d x (List.mem_of_mem_eraseIdx hx)⟩
/-- what is taken was sent, or could be -/
theorem FacS.took {row : List Snt} {sl cl : List Let} {i : Int} (h : FacS row sl cl) : FacS (Nm.take row i).2 sl cl ∧ ((Nm.take row i).1.2 = false ∨ (Nm.take row i).1.1 ∈ sl ++ cl) := by
  rcases take_cases row i with e | ⟨kk, x, hp, hx, e⟩
  · rw [e]; exact ⟨h, .inl rfl⟩
  · rw [e]
    refine ⟨h.take hp, .inr ?_⟩
    cases hs : x.2 with
    | false => exact List.mem_append_left _ (h.2.2.1 x hx hs)
    | true => exact List.mem_append_right _ (h.2.2.2 x hx hs)
theorem FacS.dbl {row : List Snt} {sl cl : List Let} (i : Int) (h : FacS row sl cl) : FacS (Nm.dbl row i).2 sl cl := by
  have h0 := h
  obtain ⟨a, b, c, d⟩ := h0
  refine ⟨Nm.dbl_len a, Nm.Fine.dbl b, fun x hx => ?_, fun x hx => ?_⟩
  all_goals (
    unfold Nm.dbl at hx
    cases hp : Nm.plc row i with
    | none => rw [hp] at hx; first | exact c x hx | exact d x hx
    | some k =>
      rw [hp] at hx
      simp only at hx
      unfold Nm.put at hx
      split at hx
      · first | exact c x hx | exact d x hx
      · rcases List.mem_append.1 hx with hx | hx
        · first | exact c x hx | exact d x hx
        · simp at hx; subst hx
          first | exact c _ (Nm.at_mem (Nm.plc_lt hp).1) | exact d _ (Nm.at_mem (Nm.plc_lt hp).1))
theorem FacS.trn {row : List Snt} {sl cl : List Let} (i p : Int) (mask : Nat) (h : FacS row sl cl) : ((Nm.trn row i p mask).1 = false → FacS (Nm.trn row i p mask).2 sl cl) ∧ FacS (Nm.trn row i p mask).2 sl (cl ++ sl.map (trl p mask)) := by
  have h0 := h
  obtain ⟨a, b, c, d⟩ := h0
  have hmore : FacS row sl (cl ++ sl.map (trl p mask)) := ⟨a, b, c, fun x hx hs => List.mem_append_left _ (d x hx hs)⟩
  have hF := Nm.Fine.trn (i := i) (p := p) (mask := mask) b
  have hL := Nm.trn_len (i := i) (p := p) (mask := mask) a
  unfold Nm.trn at hF hL ⊢
  cases hp : Nm.plc row i with
  | none => exact ⟨fun _ => h, hmore⟩
  | some k =>
    rw [hp] at hF hL
    simp only at hF hL ⊢
    by_cases hs : (row[k]?.getD Nm.s0).2 = true
    · rw [if_pos hs]
      exact ⟨fun _ => h, hmore⟩
    · rw [if_neg hs] at hF hL ⊢
      refine ⟨fun hh => (by cases hh), hL, hF, fun x hx hf => ?_, fun x hx hf => ?_⟩
      · rcases List.mem_or_eq_of_mem_set hx with hx | hx
        · exact c x hx hf
        · subst hx
          simp only at hf ⊢
          have e : Cm.turn (row[k]?.getD Nm.s0).1.2 p mask = (row[k]?.getD Nm.s0).1.2 := by simpa using hf
          rw [e]
          exact c _ (Nm.at_mem (Nm.plc_lt hp).1) (by simpa using hs)
      · rcases List.mem_or_eq_of_mem_set hx with hx | hx
        · exact List.mem_append_left _ (d x hx hf)
        · subst hx
          exact List.mem_append_right _ (List.mem_map.2 ⟨(row[k]?.getD Nm.s0).1, c _ (Nm.at_mem (Nm.plc_lt hp).1) (by simpa using hs), rfl⟩)
/-- a slice in none of T's blocks, or empty -/
def OffT (T : Nat → Prop) (x : Value) : Prop := ∀ b o n c, x = .slice (some ⟨b, o, none⟩) n c → 0 < n → ¬ T b
theorem OffT.new {w : World} {T : Nat → Prop} (hT : ∀ j, T j → j < w.heap.size) {w' : World} (hs : w.heap.size ≤ w'.heap.size) : QNew w' (OffT T) := fun x hx b o n c e _ ht => by
  have h1 := hT b ht
  have h2 := (hx b o n c e).1
  omega
theorem NetQ.turnT {w w' : World} {g : Nat} {S T T' : Nat → Prop} {row : List Snt} (h : NetQ w g S (OffT T) row) (hT : Turned w T T' w') (hd : ∀ j, T j → ¬ S j) : NetQ w' g S (OffT T') row := by
  obtain ⟨u, ms, h1, h2, h3, h4, h5⟩ := h
  have hlen : ∀ (j : Nat) (m : Int × Value × Bool), ms[j]? = some m → ∃ x, row[j]? = some x := fun j m hm => ⟨_, List.getElem?_eq_getElem (by rw [← h3.1]; exact (List.getElem?_eq_some_iff.1 hm).1)⟩
  refine ⟨u, ms, hT.2.blk h1 (fun ht => hd _ ht ((h4 g).2 (.inl rfl))), hT.2.own h2 (fun j hj ht => hd j ht ((h4 j).2 (.inr hj))), ⟨h3.1, fun j m x hm hx => ⟨(h3.2 j m x hm hx).1, (h3.2 j m x hm hx).2.1, (h3.2 j m x hm hx).2.2.other hT.2 (fun b o n c hv hn ht => ?_)⟩⟩, h4, fun j m hm b o n c hv hn ht => ?_⟩
  · have h6 := (h3.2 j m x hm hx).2.2.1
    obtain ⟨A', c', e, -, he, -⟩ := id h6
    rw [hv] at e
    injection e with e1 e2 e3
    exact h5 j m hm b o n c hv (by rw [e2]; exact List.length_pos_iff.2 hn) ht
  · obtain ⟨x, hx⟩ := hlen j m hm
    have h6 := (h3.2 j m x hm hx).2.2
    obtain ⟨A', c', e, -, he, -⟩ := id h6.1
    rw [hv] at e
    injection e with e1 e2 e3
    have h7 := MadeO.lt h6 hv (by intro h0; rw [h0] at e2; simp at e2; omega)
    rcases hT.1 b ht with h | h
    · exact h5 j m hm b o n c hv hn h
    · omega
theorem grow_turned {w w' : World} {v v' : Value} (hg : w.grownBy w' v.ownBlock) (hat : v'.ownBlock = v.ownBlock ∨ v'.ownBlock = some w.heap.size) : Turned w (fun j => v.ownBlock = some j) (fun j => v'.ownBlock = some j) w' :=
  ⟨fun j hj => by
    rcases hat with h | h
    · left; rw [← h]; exact hj
    · right
      rw [h] at hj
      injection hj with hj
      omega, Only.of_grown hg (fun j hj => hj)⟩
theorem own_apart {w : World} {b1 b2 : Nat} {e1 e2 : TypeId} {s1 s2 : Nat} {v1 v2 : Value} {n1 n2 : Nat} {x1 x2 : List Value} (h1 : w.ownsRow b1 e1 s1 v1 n1 x1) (h2 : w.ownsRow b2 e2 s2 v2 n2 x2) (he : e1 ≠ e2) : ∀ j, v1.ownBlock = some j → v2.ownBlock ≠ some j := by
  intro j hj hj2
  rcases h1.2 with ⟨rfl, -⟩ | ⟨g, cap, cur, rfl, -, hh, -⟩
  · cases hj
  rcases h2.2 with ⟨rfl, -⟩ | ⟨g2, cap2, cur2, rfl, -, hh2, -⟩
  · cases hj2
  simp [Value.ownBlock] at hj hj2
  subst hj hj2
  rw [hh] at hh2
  injection hh2 with hh2
  injection hh2 with _ hh2 _
  exact he hh2
/-- a net and two own rows: what could be (vc), what was sent (vs) -/
def NS (w : World) (g base : Nat) (S : Nat → Prop) (vc vs : Value) (cl sl : List Let) (row : List Snt) : Prop :=
  LRowX 103 w base (fun j => S j ∨ vs.ownBlock = some j) vc cl ∧ LRowX 98 w base (fun j => S j ∨ vc.ownBlock = some j) vs sl ∧ NetQ w g S (OffT (fun j => vc.ownBlock = some j ∨ vs.ownBlock = some j)) row ∧ (∀ j, vc.ownBlock = some j → ¬ S j) ∧ (∀ j, vs.ownBlock = some j → ¬ S j) ∧ (∀ j, S j → base ≤ j)
namespace NS
variable {w w' : World} {g base : Nat} {S S' : Nat → Prop} {vc vc' vs vs' : Value} {cl cl' sl sl' : List Let} {row row' : List Snt}
theorem below (h : NS w g base S vc vs cl sl row) (hb : Below w.heap.size w w') : NS w' g base S vc vs cl sl row := by
  obtain ⟨h1, h2, h3, h4⟩ := h
  exact ⟨h1.below hb, h2.below hb, h3.below hb, h4⟩
theorem apart (h : NS w g base S vc vs cl sl row) : ∀ j, vc.ownBlock = some j → vs.ownBlock ≠ some j := by
  obtain ⟨⟨ms1, a1, a2, a3⟩, ⟨ms2, b1, b2, b3⟩, -⟩ := h
  exact own_apart a2 b2 (by decide)
theorem clt (h : NS w g base S vc vs cl sl row) : ∀ j, vc.ownBlock = some j → base ≤ j ∧ j < w.heap.size := fun j hj => by
  obtain ⟨⟨ms1, a1, a2, a3⟩, -⟩ := h
  exact ⟨(a2.lt j hj).1, own_lt a2 j hj⟩
theorem slt (h : NS w g base S vc vs cl sl row) : ∀ j, vs.ownBlock = some j → base ≤ j ∧ j < w.heap.size := fun j hj => by
  obtain ⟨-, ⟨ms1, a1, a2, a3⟩, -⟩ := h
  exact ⟨(a2.lt j hj).1, own_lt a2 j hj⟩
theorem lt (h : NS w g base S vc vs cl sl row) : ∀ j, S j → j < w.heap.size := h.2.2.1.toM.lt
theorem qnew (h : NS w g base S vc vs cl sl row) {w2 : World} (hs : w.heap.size ≤ w2.heap.size) : QNew w2 (OffT (fun j => vc.ownBlock = some j ∨ vs.ownBlock = some j)) :=
  OffT.new (w := w) (fun j hj => by
    rcases hj with hj | hj
    · exact (h.clt j hj).2
    · exact (h.slt j hj).2) hs
/-- the net turned -/
theorem net (h : NS w g base S vc vs cl sl row) (hB : base ≤ w.heap.size) (hT : Turned w S S' w') (hN : NetQ w' g S' (OffT (fun j => vc.ownBlock = some j ∨ vs.ownBlock = some j)) row') : NS w' g base S' vc vs cl sl row' := by
  have ha := h.apart
  have hc := h.clt
  have hs := h.slt
  obtain ⟨h1, h2, h3, h4, h5, h6⟩ := h
  have t1 := LRowX.turnS h1 (hT.left (T := fun j => vs.ownBlock = some j)) (fun j hj hs => by
    rcases hs with hs | hs
    · exact h4 j hj hs
    · exact ha j hj hs)
  have t2 := LRowX.turnS h2 (hT.left (T := fun j => vc.ownBlock = some j)) (fun j hj hs => by
    rcases hs with hs | hs
    · exact h5 j hj hs
    · exact ha j hs hj)
  exact ⟨t1.1, t2.1, hN, fun j hj hs => t1.2 j hj (.inl hs), fun j hj hs => t2.2 j hj (.inl hs), hT.1.above hB h6⟩
/-- what could be grows -/
theorem growC (h : NS w g base S vc vs cl sl row) (hT : Turned w (fun j => vc.ownBlock = some j) (fun j => vc'.ownBlock = some j) w') (hL : LRowX 103 w' base (fun j => S j ∨ vs.ownBlock = some j) vc' cl') : NS w' g base S vc' vs cl' sl row := by
  have ha := h.apart
  have hl := h.lt
  obtain ⟨h1, h2, h3, h4, h5, h6⟩ := h
  have t2 := LRowX.turnS h2 (hT.right (T := S)) (fun j hj hs => by
    rcases hs with hs | hs
    · exact h5 j hj hs
    · exact ha j hs hj)
  exact ⟨hL, t2.1, h3.turnT hT.left (fun j hj => by
    rcases hj with hj | hj
    · exact h4 j hj
    · exact h5 j hj), fun j hj hs => by
    rcases hT.1 j hj with h | h
    · exact h4 j h hs
    · have := hl j hs; omega, h5, h6⟩
/-- what was sent grows -/
theorem growS (h : NS w g base S vc vs cl sl row) (hT : Turned w (fun j => vs.ownBlock = some j) (fun j => vs'.ownBlock = some j) w') (hL : LRowX 98 w' base (fun j => S j ∨ vc.ownBlock = some j) vs' sl') : NS w' g base S vc vs' cl sl' row := by
  have ha := h.apart
  have hl := h.lt
  obtain ⟨h1, h2, h3, h4, h5, h6⟩ := h
  have t1 := LRowX.turnS h1 (hT.right (T := S)) (fun j hj hs => by
    rcases hs with hs | hs
    · exact h4 j hj hs
    · exact ha j hj hs)
  exact ⟨t1.1, hL, h3.turnT hT.right (fun j hj => by
    rcases hj with hj | hj
    · exact h4 j hj
    · exact h5 j hj), h4, fun j hj hs => by
    rcases hT.1 j hj with h | h
    · exact h5 j h hs
    · have := hl j hs; omega, h6⟩
end NS
namespace NS
variable {w w2 w3 : World} {g base : Nat} {S : Nat → Prop} {vc vc' vs vs' : Value} {cl sl : List Let} {row : List Snt}
/-- one more that could be -/
theorem pushC {ms : Mlet} {to : Int} {bv : Value} {bs : List Nat} (h : NS w2 g base S vc vs cl sl row) (h1 : ms.length = cl.length) (h2 : w2.ownsRow base 103 2 vc cl.length (fl2 ms))
    (h3 : ∀ (j : Nat) (m : Int × Value) (x : Let), ms[j]? = some m → cl[j]? = some x → m.1 = x.1 ∧ MadeO w2 (fun j => (S j ∨ vs.ownBlock = some j) ∨ vc.ownBlock = some j) m.2 x.2 x.2.length)
    (ho : w3.ownsRow base 103 2 vc' (cl.length + 1) (fl2 ms ++ [.int .i64 to, bv])) (hg : w2.grownBy w3 vc.ownBlock) (hat : vc'.ownBlock = vc.ownBlock ∨ vc'.ownBlock = some w2.heap.size)
    (hm : MadeO w2 (fun j => (S j ∨ vs.ownBlock = some j) ∨ vc.ownBlock = some j) bv bs bs.length) : NS w3 g base S vc' vs (cl ++ [(to, bs)]) sl row :=
  h.growC (grow_turned hg hat) (LRowX.push h1 h2 h3 ho hg hat hm)
/-- one more that was sent -/
theorem pushS {ms : Mlet} {to : Int} {bv : Value} {bs : List Nat} (h : NS w2 g base S vc vs cl sl row) (h1 : ms.length = sl.length) (h2 : w2.ownsRow base 98 2 vs sl.length (fl2 ms))
    (h3 : ∀ (j : Nat) (m : Int × Value) (x : Let), ms[j]? = some m → sl[j]? = some x → m.1 = x.1 ∧ MadeO w2 (fun j => (S j ∨ vc.ownBlock = some j) ∨ vs.ownBlock = some j) m.2 x.2 x.2.length)
    (ho : w3.ownsRow base 98 2 vs' (sl.length + 1) (fl2 ms ++ [.int .i64 to, bv])) (hg : w2.grownBy w3 vs.ownBlock) (hat : vs'.ownBlock = vs.ownBlock ∨ vs'.ownBlock = some w2.heap.size)
    (hm : MadeO w2 (fun j => (S j ∨ vc.ownBlock = some j) ∨ vs.ownBlock = some j) bv bs bs.length) : NS w3 g base S vc vs' cl (sl ++ [(to, bs)]) row :=
  h.growS (grow_turned hg hat) (LRowX.push h1 h2 h3 ho hg hat hm)
/-- new bytes lie in none of its blocks -/
theorem fresh {w1 : World} {bv : Value} {bs : List Nat} (h : NS w g base S vc vs cl sl row) (hm : Made w1 bv bs bs.length) (hf : Fre w (fun _ => False) bv) : MadeO w1 (fun j => (S j ∨ vs.ownBlock = some j) ∨ vc.ownBlock = some j) bv bs bs.length := ⟨hm, fun b o n c hv hn hs => by
  have h1 := (hf b o n c hv).1
  rcases hs with (hs | hs) | hs
  · have := h.lt b hs; omega
  · have := (h.slt b hs).2; omega
  · have := (h.clt b hs).2; omega⟩
end NS
theorem NS.start {w : World} {g base : Nat} {S : Nat → Prop} (h : NetM w g S []) (hB : base ≤ w.heap.size) (hS : ∀ j, S j → base ≤ j) :
    NS ((w.alloc (.cells #[] 103)).alloc (.cells #[] 98)) g base S (.slice (some ⟨w.heap.size, 0, none⟩) 0 0) (.slice (some ⟨w.heap.size + 1, 0, none⟩) 0 0) [] [] [] := by
  have hb1 : Below w.heap.size w (w.alloc (.cells #[] 103)) := (Below.refl _ w).alloc (Nat.le_refl _) _
  have hb2 : Below (w.alloc (.cells #[] 103)).heap.size (w.alloc (.cells #[] 103)) ((w.alloc (.cells #[] 103)).alloc (.cells #[] 98)) := (Below.refl _ _).alloc (Nat.le_refl _) _
  refine ⟨(LRowX.lit _ w base _ hB).below hb2, ?_, ((NetM.empty h).below hb1).below hb2, fun j hj hs => ?_, fun j hj hs => ?_, hS⟩
  · have h2 := LRowX.lit 98 (w.alloc (.cells #[] 103)) base (fun j => S j ∨ (Value.slice (some ⟨w.heap.size, 0, none⟩) 0 0).ownBlock = some j) (by simp; omega)
    simpa using h2
  · have := h.lt j hs; simp [Value.ownBlock] at hj; omega
  · have := h.lt j hs; simp [Value.ownBlock] at hj; omega
theorem own_someS {w : World} {base sz : Nat} {e : TypeId} {v : Value} {n : Nat} {xs : List Value} (h : w.ownsRow base e sz v n xs) (hne : v ≠ .slice none 0 0) : ∃ g c, v = .slice (some ⟨g, 0, none⟩) n c ∧ g < w.heap.size := by
  rcases h.2 with ⟨h1, _⟩ | ⟨g, cap, cur, hv, hb, hh, hnc, hm, hs, ht⟩
  · exact absurd h1 hne
  · exact ⟨g, cap, hv, (Array.getElem?_eq_some_iff.1 hh).1⟩
theorem th_grow {ls : List Let} {x : Let} {j : Nat} {b : Bool} (hn : (b || decide (x ∈ ls.take j)) = true) : (b || decide (x ∈ ls.take (j + 1))) = true := by
  cases b with
  | true => rfl
  | false =>
    simp only [Bool.false_or] at hn ⊢
    exact mem_take_grow (of_decide_eq_true hn)
theorem th_next {ls : List Let} {x y : Let} {j : Nat} {b : Bool} (hy : ls[j]? = some y) (hn : ¬ (b || decide (x ∈ ls.take j)) = true) : (b || decide (x ∈ ls.take (j + 1))) = decide ([x] = [y]) := by
  cases b with
  | true => exact absurd rfl hn
  | false =>
    simp only [Bool.false_or] at hn ⊢
    exact mem_take_succ hy (fun h => hn (decide_eq_true h))
theorem th_all {ls : List Let} {x : Let} {b : Bool} (h : b = false ∨ x ∈ ls) {n : Nat} (hn : ls.length = n) : (!b || decide (x ∈ ls.take n)) = true := by
  rcases h with rfl | h
  · rfl
  · rw [List.take_of_length_le (by omega), decide_eq_true h, Bool.or_true]
theorem fl2_append (a b : Mlet) : fl2 (a ++ b) = fl2 a ++ fl2 b := by simp [fl2]
/-- an own row of letters, and behind it letters of another row -/
theorem LRow.app {t : TypeId} {w2 w3 : World} {base : Nat} {v v' : Value} {l1 l2 : List Let} {m1 m2 : Mlet} (h1 : m1.length = l1.length)
    (h3 : ∀ (j : Nat) (m : Int × Value) (x : Let), m1[j]? = some m → l1[j]? = some x → m.1 = x.1 ∧ MadeO w2 (fun j => v.ownBlock = some j) m.2 x.2 x.2.length)
    (k1 : m2.length = l2.length) (k3 : ∀ (j : Nat) (m : Int × Value) (x : Let), m2[j]? = some m → l2[j]? = some x → m.1 = x.1 ∧ MadeO w2 (fun j => v.ownBlock = some j) m.2 x.2 x.2.length)
    (ho : w3.ownsRow base t 2 v' (l1.length + l2.length) (fl2 m1 ++ fl2 m2)) (hT : Turned w2 (fun j => v.ownBlock = some j) (fun j => v'.ownBlock = some j) w3) : LRow t w3 base v' (l1 ++ l2) := by
  refine ⟨m1 ++ m2, by simp [h1, k1], by rw [fl2_append, List.length_append]; exact ho, fun j m x hm hx => ?_⟩
  by_cases hj : j < m1.length
  · rw [List.getElem?_append_left hj] at hm
    rw [List.getElem?_append_left (by rw [← h1]; exact hj)] at hx
    exact ⟨(h3 j m x hm hx).1, (h3 j m x hm hx).2.turn hT⟩
  · rw [List.getElem?_append_right (by omega)] at hm
    rw [List.getElem?_append_right (by omega), ← h1] at hx
    exact ⟨(k3 _ m x hm hx).1, (k3 _ m x hm hx).2.turn hT⟩
theorem fl2_one {w : World} {X : Nat → Prop} {ms : Mlet} {ls : List Let} (h1 : ms.length = ls.length) (h3 : ∀ (j : Nat) (m : Int × Value) (x : Let), ms[j]? = some m → ls[j]? = some x → m.1 = x.1 ∧ MadeO w X m.2 x.2 x.2.length) : ∀ u ∈ fl2 ms, u.oneCell' = true := by
  intro u hu
  unfold fl2 at hu
  obtain ⟨m, hm, h⟩ := List.mem_flatMap.1 hu
  simp at h
  rcases h with rfl | rfl
  · rfl
  · obtain ⟨j, hj⟩ := List.getElem?_of_mem hm
    have hjl := (List.getElem?_eq_some_iff.1 hj).1
    obtain ⟨A5, c5, e5, -⟩ := (h3 j m _ hj (List.getElem?_eq_getElem (by rw [← h1]; exact hjl))).2.1
    rw [e5]
    rfl
theorem MadeO.snd {w : World} {S T : Nat → Prop} {v : Value} {bs : List Nat} {k : Nat} (h : MadeO w (fun j => S j ∨ T j) v bs k) : MadeO w T v bs k := ⟨h.1, fun g o n c hv hn hs => h.2 g o n c hv hn (.inr hs)⟩
end Go.Proofs.Ytahichieakdbnaa

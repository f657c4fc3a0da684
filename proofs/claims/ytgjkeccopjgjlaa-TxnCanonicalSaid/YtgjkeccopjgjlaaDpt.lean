/- dict: Put, Reset, Copy. -/
import Derived.Test.YtgjkeccopjgjlaaDcm
import Derived.Test.YtgjkeccopjgjlaaStr
import Derived.Test.YtgjkeccopjgjlaaAt
import Derived.Shelf.SlMaps.Clone
namespace Go.Proofs.Ytgjkeccopjgjlaa
open Go.ChangeShapes Go.WideShapes Go.ChangeAt Go.RowKit Go.Maps
set_option linter.unusedVariables false
set_option linter.unusedSimpArgs false

theorem infoU8 : (Try.prog.info? 5).map (fun i => (i.zero, i.size, i.bytes)) = some (some (.int .u8 0), 1, 1) := by kernel_rfl
theorem made_none (w : World) : Made w (.slice none 0 0) [] 0 := ⟨none, 0, rfl, Rd.nil _ _ _, rfl, Nat.le_refl _, Nat.zero_le _, by simp, fun _ => rfl⟩
theorem Turned.below {w w1 w2 : World} {S S' : Nat → Prop} (h : Turned w S S' w1) (hb : Below w1.heap.size w1 w2) : Turned w S S' w2 := ⟨h.1, h.2.trans (Only.of_below (S := fun _ => False) hb) (fun j hj => hj.elim)⟩
theorem Turned.refl (w : World) (S : Nat → Prop) : Turned w S S w := ⟨Sub.refl _ _, Only.refl _ _⟩
theorem Turned.trans {a b c : World} {S T U : Nat → Prop} (h : Turned a S T b) (k : Turned b T U c) : Turned a S U c := ⟨h.1.trans k.1 h.2.size, h.2.trans k.2 h.1⟩
theorem below_own {w w' : World} {base B n : Nat} {e : TypeId} {s : Nat} {v : Value} {xs : List Value} (ho : w.ownsRow base e s v n xs) (hg : w.grownBy w' v.ownBlock) (hB : B ≤ base) (hB2 : B ≤ w.heap.size) : Below B w w' :=
  ⟨hg.os, hg.tape, hg.output, hg.size, fun j hj => hg.block j (by omega) (fun h => by have := (ho.lt j h.symm).1; omega)⟩
/-- a slice in a block that was not there, and is none of S -/
def Fre (w : World) (S : Nat → Prop) (v : Value) : Prop := ∀ g o n c, v = .slice (some ⟨g, o, none⟩) n c → w.heap.size ≤ g ∧ ¬ S g
theorem Fre.nil (w : World) (S : Nat → Prop) : Fre w S (.slice none 0 0) := fun g o n c h => by cases h
/-- bytes in a block that is none of S -/
def MadeO (w : World) (S : Nat → Prop) (v : Value) (bs : List Nat) (k : Nat) : Prop := Made w v bs k ∧ ∀ g o n c, v = .slice (some ⟨g, o, none⟩) n c → bs ≠ [] → ¬ S g
theorem MadeO.other {w w' : World} {S T : Nat → Prop} {v : Value} {bs : List Nat} {k : Nat} (h : MadeO w S v bs k) (ho : Only T w w') (hT : ∀ g o n c, v = .slice (some ⟨g, o, none⟩) n c → bs ≠ [] → ¬ T g) : MadeO w' S v bs k := by
  obtain ⟨⟨A, c, rfl, hr, h1, h2, h3, h4, h5⟩, h6⟩ := h
  exact ⟨⟨A, c, rfl, (ho.rd hr (Nat.le_refl _) (fun g o hA hn => hT g o _ _ (by rw [hA]) (fun h => hn (by rw [h]; rfl)))).more ho.size, h1, h2, h3, h4, h5⟩, h6⟩
theorem MadeO.lt {w : World} {S : Nat → Prop} {v : Value} {bs : List Nat} {k : Nat} (h : MadeO w S v bs k) {g o n c : Nat} (hv : v = .slice (some ⟨g, o, none⟩) n c) (hb : bs ≠ []) : g < w.heap.size := by
  obtain ⟨⟨A, c', rfl, hr, _⟩, _⟩ := h
  injection hv with hA _ _
  obtain ⟨g', o', hA', hlt, _⟩ := hr (by simpa [u8s] using hb)
  rw [hA] at hA'
  injection hA' with hA'
  injection hA' with e1 _
  omega
theorem MadeO.turn {w w' : World} {S S' : Nat → Prop} {v : Value} {bs : List Nat} {k : Nat} (h : MadeO w S v bs k) (t : Turned w S S' w') : MadeO w' S' v bs k := by
  refine ⟨(h.other t.2 h.2).1, fun g o n c hv hb hs => ?_⟩
  rcases t.1 g hs with h1 | h1
  · exact h.2 g o n c hv hb h1
  · have := h.lt hv hb; omega
theorem MadeO.below {w w' : World} {S : Nat → Prop} {v : Value} {bs : List Nat} {k : Nat} (h : MadeO w S v bs k) (hb : Below w.heap.size w w') : MadeO w' S v bs k := h.other (Only.of_below (S := fun _ => False) hb) (fun _ _ _ _ _ _ h => h)
theorem MadeO.of_fre {w w' : World} {S : Nat → Prop} {v : Value} {bs : List Nat} {k : Nat} (h : Made w' v bs k) (hf : Fre w S v) : MadeO w' S v bs k := ⟨h, fun g o n c hv _ => (hf g o n c hv).2⟩
/-- and none of T, whose blocks were there -/
theorem MadeO.also {w w' : World} {S T : Nat → Prop} {v : Value} {bs : List Nat} {k : Nat} (h : Made w' v bs k) (hf : Fre w S v) (hT : ∀ j, T j → j < w.heap.size) : MadeO w' (fun j => S j ∨ T j) v bs k := ⟨h, fun g o n c hv _ hs => by
  rcases hs with hs | hs
  · exact (hf g o n c hv).2 hs
  · have := hT g hs; have := (hf g o n c hv).1; omega⟩
/-- .. whose blocks are new -/
theorem MadeO.more {w w' : World} {S T : Nat → Prop} {v : Value} {bs : List Nat} {k : Nat} (h : MadeO w S v bs k) (hb : Below w.heap.size w w') (hT : ∀ j, T j → w.heap.size ≤ j) : MadeO w' (fun j => S j ∨ T j) v bs k := ⟨(h.below hb).1, fun g o n c hv hn hs => by
  rcases hs with hs | hs
  · exact h.2 g o n c hv hn hs
  · have := hT g hs; have := h.lt hv hn; omega⟩
theorem Turned.left {w w' : World} {S S' T : Nat → Prop} (h : Turned w S S' w') : Turned w (fun j => S j ∨ T j) (fun j => S' j ∨ T j) w' := ⟨fun j hj => by
  rcases hj with hj | hj
  · rcases h.1 j hj with h1 | h1
    · exact .inl (.inl h1)
    · exact .inr h1
  · exact .inl (.inr hj), h.2.mono (fun j _ hj => .inl hj)⟩
theorem Turned.right {w w' : World} {S S' T : Nat → Prop} (h : Turned w S S' w') : Turned w (fun j => T j ∨ S j) (fun j => T j ∨ S' j) w' := ⟨fun j hj => by
  rcases hj with hj | hj
  · exact .inl (.inl hj)
  · rcases h.1 j hj with h1 | h1
    · exact .inl (.inr h1)
    · exact .inr h1, h.2.mono (fun j _ hj => .inr hj)⟩
/-- two that share no block -/
def Apart (S T : Nat → Prop) : Prop := ∀ j, S j → T j → False
theorem Apart.symm {S T : Nat → Prop} (h : Apart S T) : Apart T S := fun j a b => h j b a
theorem Apart.turn {w w' : World} {S S' T : Nat → Prop} (h : Apart S T) (t : Turned w S S' w') (hT : ∀ j, T j → j < w.heap.size) : Apart S' T := fun j hj ht => by
  rcases t.1 j hj with h1 | h1
  · exact h j h1 ht
  · have := hT j ht; omega
def DPutPost (w : World) (g : Nat) (S : Nat → Prop) (r : List Nat × Nat × List ByteArray × Nat) (en : Ending) (w' : World) : Prop :=
  ∃ v S', en = .returned (.tuple #[v, .int .i64 (r.2.1 : Int)]) ∧ Made w' v r.1 r.1.length ∧ Fre w S' v ∧ DictM w' g S' r.2.2.1 r.2.2.2 ∧ Turned w S S' w'
theorem u64s_two (a b : Nat) : u64s [a, b] = [.int .u64 (a : Int), .int .u64 (b : Int)] := rfl
set_option maxHeartbeats 2000000 in
set_option maxRecDepth 100000 in
theorem DPut_any (w : World) (g : Nat) (S : Nat → Prop) (ks : List ByteArray) (e : Nat) (k : ByteArray) (hkm : k.size ≤ maxLen) (h : DictM w g S ks e) :
    Calls Try.prog 49 #[.pointer (some ⟨g, 0, none⟩), .string k] w (DPutPost w g S (Dm.putD ks e k)) := by
  by_cases h64 : 64 < k.size
  · have HP := Lib.hid (show DPutPost w g S (Dm.putD ks e k) (.returned (.tuple #[.slice none 0 0, .int .i64 4])) w by
      unfold Dm.putD; rw [if_pos h64]; exact ⟨_, S, rfl, made_none _, Fre.nil _ _, h, Turned.refl _ _⟩)
    have h64i : (64 : Int) < (k.size : Int) := by omega
    clear h
    go_enter Try.func49, Try.ntmps49
    go_wp2
    go_ret2
    exact HP.out
  · have h64i : ¬ (64 : Int) < (k.size : Int) := by omega
    have hM := Lib.hid h
    obtain ⟨v, m, D, h1, h2, h3, h4, h5, h6⟩ := h
    obtain ⟨c0, c1, c2, -⟩ := Blk.three h1
    cases hp : Dm.plc ks k with
    | some i =>
      have hl := look_has h3 h4 hkm hp
      have hil := Dm.plc_lt hp
      have hi8 := h5.2.1
      have hi1 : (i : Int) ≤ 8 := by omega
      obtain ⟨bs, hbs⟩ : ∃ bs, Vm.enc (i + 1) = bs := ⟨_, rfl⟩
      have HP : Hid (∀ v w', w'.ownsRow w.heap.size 5 1 v bs.length (u8s bs) → Below w.heap.size w w' → DPutPost w g S (Dm.putD ks e k) (.returned (.tuple #[v, .int .i64 0])) w') := Lib.hid (fun v w' hm hb => by
        unfold Dm.putD; rw [if_neg h64, hp]; simp only; rw [hbs]; exact ⟨v, S, rfl, made_of_own hm rfl (by rw [← hbs]; exact Vm.enc_byte (by omega)), fun g o n c hv => ⟨(hm.lt g (by rw [hv]; rfl)).1, fun hs => by have := hM.out.lt g hs; have := (hm.lt g (by rw [hv]; rfl)).1; omega⟩, hM.out.below hb, (Turned.refl _ _).below hb⟩)
      have cP := Lib.hid (Put_any w (i + 1) (by omega))
      rw [show (((i + 1 : Nat) : Int)) = (i : Int) + 1 by omega] at cP
      have HBS := Lib.hid hbs
      clear h1 h2 h3 h4 h5 h6 hp hbs hil hi8
      go_enter Try.func49, Try.ntmps49
      go_wp2_with fail
      refine cP.out.mono ?_
      rintro e1 w1 ⟨v1, rfl, hmd, hb, -⟩
      rw [HBS.out, Nat.zero_add, List.nil_append] at hmd
      have HPP := Lib.hid (HP.out v1 w1 hmd hb)
      clear hmd hb
      go_wp2
      go_ret2
      exact HPP.out
    | none =>
      obtain ⟨c, hl⟩ := look_no h3 h4 hkm hp
      obtain ⟨i0, hi, hz0, hz1, hz2⟩ := info_parts infoU8
      have cC := Lib.hid (come_any w g S ks e k hM.out hp (by omega))
      have HP0 : Hid (Dm.putD ks e k = (Vm.enc 0 ++ (Vm.enc k.size ++ sb k), 0, Dm.comeD ks e k)) := Lib.hid (by unfold Dm.putD; rw [if_neg h64, hp])
      obtain ⟨cd, hcd⟩ : ∃ cd, Dm.comeD ks e k = cd := ⟨_, rfl⟩
      rw [hcd] at cC HP0
      rw [HP0.out]
      obtain ⟨en, hen⟩ : ∃ en, Vm.encs [0, k.size] = en := ⟨_, rfl⟩
      have hen2 : en = Vm.enc 0 ++ Vm.enc k.size := by rw [← hen]; simp [Vm.encs]
      have hel : en.length ≤ 20 := by rw [hen2, List.length_append]; have := Vm.enc_le 0; have := Vm.enc_le k.size; omega
      have h256 : ∀ b ∈ Vm.enc 0 ++ (Vm.enc k.size ++ sb k), b < 256 := by
        intro b hb
        rcases List.mem_append.1 hb with hb | hb
        · exact Vm.enc_byte (by omega) b hb
        · rcases List.mem_append.1 hb with hb | hb
          · exact Vm.enc_byte (by omega) b hb
          · exact sb_byte k b hb
      have HEN := Lib.hid hen; have HEN2 := Lib.hid hen2; have H256 := Lib.hid h256
      clear h1 h2 h3 h4 h5 h6 hp hcd hen hen2 h256 HP0 hM
      go_enter Try.func49, Try.ntmps49
      go_wp2_with fail
      refine cC.out.mono ?_
      rintro e1 w1 ⟨rfl, S1, hD1, hT1⟩
      have HD1 := Lib.hid hD1; have HT1 := Lib.hid hT1
      clear hD1 hT1 cC
      have cA := Lib.hid (All_any (w1.alloc (.cells #[.int .u64 0, .int .u64 (k.size : Int)] 83)) (some ⟨w1.heap.size, 0, none⟩) 2 [0, k.size] _ (Rd.new64 w1 83 [0, k.size] #[.int .u64 0, .int .u64 (k.size : Int)] rfl) (by simp) (by intro b hb; simp at hb; rcases hb with rfl | rfl <;> omega) (by simp))
      go_wp2_with fail
      refine cA.out.mono ?_
      rintro e1 w2 ⟨v2, rfl, ho, hb⟩
      rw [HEN.out] at ho
      have HO := Lib.hid ho
      have HB1 := Lib.hid hb
      obtain ⟨A2, c2', rfl, -, -, -, -, -⟩ := own_form ho
      clear ho hb
      go_wp2_with (at_builtin; go_must (refine Lib.wpList_append_own_string _ rfl (.tmp 32) (.tmp 33) 39 9 rfl (w1.alloc (.cells #[.int .u64 0, .int .u64 (k.size : Int)] 83)).heap.size 5 i0 Try.underlying39 Try.underlying9 hi hz0 hz1 hz2 _ en.length (u8s en) rfl HO.out k rfl (by unfold maxLen; omega) (by omega) HB1.out.size ?_; intro v3 w3 ho3 hg3 hn3; have HO3 := Lib.hid ho3; have HG3 := Lib.hid hg3; clear ho3 hg3 hn3))
      go_ret2
      have hB1 : Below w1.heap.size w1 w2 := ((Below.refl _ w1).alloc (Nat.le_refl _) _).trans (HB1.out.mono (by simp))
      have hB2 : Below w1.heap.size w2 w3 := below_own HO.out HG3.out (by simp) hB1.size
      have hB := hB1.trans hB2
      have ho3 := HO3.out
      rw [strCells_sb, ← u8s_append, HEN2.out, List.append_assoc] at ho3
      exact ⟨v3, S1, rfl, made_of_own ho3 rfl H256.out, fun g o n c hv => (by
        have h1 := (HO3.out.lt g (by rw [hv]; rfl)).1
        simp at h1
        have h2 := HT1.out.2.size
        exact ⟨by omega, fun hs => by have := HD1.out.lt g hs; omega⟩), HD1.out.below hB, HT1.out.below hB⟩
end Go.Proofs.Ytgjkeccopjgjlaa

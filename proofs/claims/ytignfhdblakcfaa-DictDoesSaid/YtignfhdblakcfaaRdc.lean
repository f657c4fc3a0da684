/- packetboatref05.Dict: comes. -/
import Derived.Test.YtignfhdblakcfaaDpt
import Derived.Test.YtignfhdblakcfaaRdm
import Derived.Test.YtignfhdblakcfaaInvL
import Derived.Test.YtignfhdblakcfaaApp
import Derived.Deep.Cut
namespace Go.Proofs.Ytignfhdblakcfaa
open Go.ChangeShapes Go.WideShapes Go.ChangeAt Go.RowKit Go.Maps
set_option linter.unusedVariables false
set_option linter.unusedSimpArgs false

def i64s (l : List Nat) : List Value := l.map fun (n : Nat) => Value.int .i64 (n : Int)
theorem i64s_length (l : List Nat) : (i64s l).length = l.length := by simp [i64s]
theorem i64s_one (l : List Nat) : ∀ u ∈ i64s l, u.oneCell' = true := by
  intro u hu
  simp only [i64s, List.mem_map] at hu
  obtain ⟨b, _, rfl⟩ := hu
  rfl
theorem strs_one (l : List ByteArray) : ∀ u ∈ l.map Value.string, u.oneCell' = true := by
  intro u hu
  simp only [List.mem_map] at hu
  obtain ⟨b, _, rfl⟩ := hu
  rfl
theorem infoI64 : (Try.prog.info? 3).map (fun i => (i.zero, i.size, i.bytes)) = some (some (.int .i64 0), 1, 8) := by kernel_rfl
/-- block g is the document's dictionary: keys, when each came, how many came, in the blocks of U -/
def RDM (w : World) (g : Nat) (U : Nat → Prop) (ks : List ByteArray) (ws : List Nat) (now : Nat) : Prop :=
  ∃ A c A2 c2, Blk w g 50 #[.slice A ks.length c, .slice A2 ws.length c2, .int .i64 (now : Int)] ∧ w.ownsRow 0 9 1 (.slice A ks.length c) ks.length (ks.map .string) ∧ w.ownsRow 0 3 1 (.slice A2 ws.length c2) ws.length (i64s ws) ∧
    ∀ j, U j ↔ (j = g ∨ (Value.slice A ks.length c).ownBlock = some j ∨ (Value.slice A2 ws.length c2).ownBlock = some j)
theorem RDM.only {w w' : World} {g : Nat} {U T : Nat → Prop} {ks : List ByteArray} {ws : List Nat} {now : Nat} (h : RDM w g U ks ws now) (ho : Only T w w') (hT : ∀ j, T j → U j → False) : RDM w' g U ks ws now := by
  obtain ⟨A, c, A2, c2, h1, h2, h3, h4⟩ := h
  exact ⟨A, c, A2, c2, ho.blk h1 (fun ht => hT _ ht ((h4 g).2 (.inl rfl))), ho.own h2 (fun j hj ht => hT _ ht ((h4 j).2 (.inr (.inl hj)))), ho.own h3 (fun j hj ht => hT _ ht ((h4 j).2 (.inr (.inr hj)))), h4⟩
theorem RDM.below {w w' : World} {g : Nat} {U : Nat → Prop} {ks : List ByteArray} {ws : List Nat} {now : Nat} (h : RDM w g U ks ws now) (hb : Below w.heap.size w w') : RDM w' g U ks ws now := h.only (Only.of_below (S := fun _ => False) hb) (fun _ h _ => h)
theorem RDM.lt {w : World} {g : Nat} {U : Nat → Prop} {ks : List ByteArray} {ws : List Nat} {now : Nat} (h : RDM w g U ks ws now) : ∀ j, U j → j < w.heap.size := by
  obtain ⟨A, c, A2, c2, h1, h2, h3, h4⟩ := h
  intro j hj
  rcases (h4 j).1 hj with rfl | hj | hj
  · exact h1.lt
  · exact own_lt h2 j hj
  · exact own_lt h3 j hj
theorem RDM.self {w : World} {g : Nat} {U : Nat → Prop} {ks : List ByteArray} {ws : List Nat} {now : Nat} (h : RDM w g U ks ws now) : U g := by
  obtain ⟨A, c, A2, c2, h1, h2, h3, h4⟩ := h
  exact (h4 g).2 (.inl rfl)

/-! 'd.When = append(append([]int{}, d.When...), d.Now)': a region that draws its order. -/
def RC (w0 : World) (g n : Nat) (A2 : Option Addr) (c2 : Nat) (xs : List Value) (nv vk : Value) (L : Nat → Bool) (w : World) : Prop :=
  Only (fun j => j = g) w0 w ∧ (L 15 = false → Blk w g 50 #[vk, .slice A2 n c2, nv]) ∧ (L 15 = true → ∃ A c, Blk w g 50 #[vk, .slice A (n + 1) c, nv] ∧ w.ownsRow w0.heap.size 3 1 (.slice A (n + 1) c) (n + 1) (xs ++ [nv]))
def RF (B g n : Nat) (A2 : Option Addr) (c2 : Nat) (xs : List Value) (nv : Value) : Nat → (Nat → Bool) → Value → World → Prop
  | 0, _, v, _ => v = .pointer (some ⟨g, 0, none⟩)
  | 1, L, v, w => ∃ b, v = .slice (some ⟨b, 0, none⟩) 0 0 ∧ (L 6 = false → B ≤ b ∧ Blk w b 3 #[])
  | 2, _, v, _ => v = .pointer (some ⟨g, 0, none⟩)
  | 3, _, v, _ => v = .pointer (some ⟨g, 0, none⟩)
  | 4, _, v, _ => v = .pointer (some ⟨g, 1, none⟩)
  | 5, _, v, _ => v = .slice A2 n c2
  | 6, L, v, w => L 12 = false → w.ownsRow B 3 1 v n xs
  | 7, _, v, _ => v = .pointer (some ⟨g, 0, none⟩)
  | 8, _, v, _ => v = .pointer (some ⟨g, 0, none⟩)
  | 9, _, v, _ => v = .pointer (some ⟨g, 2, none⟩)
  | 10, _, v, _ => v = nv
  | 11, L, v, w => ∃ b, v = .slice (some ⟨b, 0, none⟩) 1 1 ∧ (L 12 = false → B ≤ b ∧ Blk w b 3 #[nv])
  | 12, L, v, w => ∃ A c, v = .slice A (n + 1) c ∧ (L 15 = false → w.ownsRow B 3 1 (.slice A (n + 1) c) (n + 1) (xs ++ [nv]))
  | 13, _, v, _ => v = .pointer (some ⟨g, 0, none⟩)
  | 14, _, v, _ => v = .pointer (some ⟨g, 1, none⟩)
  | _, _, _, _ => True
section
variable {w0 : World} {B g n : Nat} {A2 : Option Addr} {c2 : Nat} {xs : List Value} {nv vk : Value}
theorem RC.keep {L : Nat → Bool} {w w' : World} (h : RC w0 g n A2 c2 xs nv vk L w) (i : Nat) (hi : 15 ≠ i) (hb : Below w.heap.size w w') : RC w0 g n A2 c2 xs nv vk (Inv.upd L i) w' :=
  ⟨h.1.trans (Only.of_below (S := fun _ => False) hb) (fun j hj => hj.elim), fun hl => by have k := h.2.1 (Inv.upd_f hl); exact k.below hb k.lt, fun hl => by
    obtain ⟨A, c, k1, k2⟩ := h.2.2 (Inv.upd_t hi hl)
    exact ⟨A, c, k1.below hb k1.lt, own_below k2 hb⟩⟩
theorem RF.st {w w' : World} (hb : Below w.heap.size w w') (L : Nat → Bool) (i : Nat) : ∀ j u, RF B g n A2 c2 xs nv j L u w → RF B g n A2 c2 xs nv j (Inv.upd L i) u w' := by
  intro j u h
  match j, h with
  | 0, h => exact h
  | 1, ⟨b, h1, h2⟩ => exact ⟨b, h1, fun hl => ⟨(h2 (Inv.upd_f hl)).1, (h2 (Inv.upd_f hl)).2.below hb (h2 (Inv.upd_f hl)).2.lt⟩⟩
  | 2, h => exact h
  | 3, h => exact h
  | 4, h => exact h
  | 5, h => exact h
  | 6, h => exact fun hl => own_below (h (Inv.upd_f hl)) hb
  | 7, h => exact h
  | 8, h => exact h
  | 9, h => exact h
  | 10, h => exact h
  | 11, ⟨b, h1, h2⟩ => exact ⟨b, h1, fun hl => ⟨(h2 (Inv.upd_f hl)).1, (h2 (Inv.upd_f hl)).2.below hb (h2 (Inv.upd_f hl)).2.lt⟩⟩
  | 12, ⟨A, c, h1, h2⟩ => exact ⟨A, c, h1, fun hl => own_below (h2 (Inv.upd_f hl)) hb⟩
  | 13, h => exact h
  | 14, h => exact h
  | k + 15, h => trivial
/-- behind the first append -/
theorem RF.app1 {w w' : World} {b : Nat} (hg : w.grownBy w' (some b)) (hk : Blk w b 3 #[]) {L : Nat → Bool} (h12 : L 12 = false) : ∀ j u, j ≠ 6 → L j = true → RF B g n A2 c2 xs nv j L u w → RF B g n A2 c2 xs nv j (Inv.upd L 6) u w' := by
  intro j u hj hLj h
  match j, h with
  | 0, h => exact h
  | 1, ⟨b, h1, h2⟩ => exact ⟨b, h1, fun hl => by rw [Inv.upd_same] at hl; cases hl⟩
  | 2, h => exact h
  | 3, h => exact h
  | 4, h => exact h
  | 5, h => exact h
  | 6, h => exact absurd rfl hj
  | 7, h => exact h
  | 8, h => exact h
  | 9, h => exact h
  | 10, h => exact h
  | 11, ⟨b', h1, h2⟩ =>
    obtain ⟨q1, q2⟩ := h2 h12
    refine ⟨b', h1, fun _ => ⟨q1, q2.grown hg (fun h => ?_)⟩⟩
    injection h with h
    subst h
    unfold Blk at hk q2
    rw [hk] at q2
    cases q2
  | 12, _ => rw [h12] at hLj; cases hLj
  | 13, h => exact h
  | 14, h => exact h
  | k + 15, h => trivial
/-- behind the second one -/
theorem RF.app2 {w w' : World} {L : Nat → Bool} (h6 : L 6 = true) : ∀ j u, j ≠ 12 → RF B g n A2 c2 xs nv j L u w → RF B g n A2 c2 xs nv j (Inv.upd L 12) u w' := by
  intro j u hj h
  match j, h with
  | 0, h => exact h
  | 1, ⟨b, h1, h2⟩ => exact ⟨b, h1, fun hl => by rw [Inv.upd_f hl] at h6; cases h6⟩
  | 2, h => exact h
  | 3, h => exact h
  | 4, h => exact h
  | 5, h => exact h
  | 6, h => exact fun hl => by rw [Inv.upd_same] at hl; cases hl
  | 7, h => exact h
  | 8, h => exact h
  | 9, h => exact h
  | 10, h => exact h
  | 11, ⟨b, h1, h2⟩ => exact ⟨b, h1, fun hl => by rw [Inv.upd_same] at hl; cases hl⟩
  | 12, _ => exact absurd rfl hj
  | 13, h => exact h
  | 14, h => exact h
  | k + 15, h => trivial
/-- behind the store -/
theorem RF.sto {w w' : World} {L : Nat → Bool} (h6 : L 6 = true) (h12 : L 12 = true) : ∀ j u, RF B g n A2 c2 xs nv j L u w → RF B g n A2 c2 xs nv j (Inv.upd L 15) u w' := by
  intro j u h
  match j, h with
  | 0, h => exact h
  | 1, ⟨b, h1, h2⟩ => exact ⟨b, h1, fun hl => by rw [Inv.upd_f hl] at h6; cases h6⟩
  | 2, h => exact h
  | 3, h => exact h
  | 4, h => exact h
  | 5, h => exact h
  | 6, h => exact fun hl => by rw [Inv.upd_f hl] at h12; cases h12
  | 7, h => exact h
  | 8, h => exact h
  | 9, h => exact h
  | 10, h => exact h
  | 11, ⟨b, h1, h2⟩ => exact ⟨b, h1, fun hl => by rw [Inv.upd_f hl] at h12; cases h12⟩
  | 12, ⟨A, c, h1, h2⟩ => exact ⟨A, c, h1, fun hl => by rw [Inv.upd_same] at hl; cases hl⟩
  | 13, h => exact h
  | 14, h => exact h
  | k + 15, h => trivial
end
theorem own_emptyI {w : World} {B b : Nat} (hB : B ≤ b) (h : Blk w b 3 #[]) : w.ownsRow B 3 1 (.slice (some ⟨b, 0, none⟩) 0 0) 0 [] := ⟨rfl, .inr ⟨b, 0, #[], rfl, hB, h, Nat.le_refl _, Nat.zero_le _, rfl, rfl⟩⟩
theorem rd_of_blk {w : World} {b : Nat} {t : TypeId} {x : Value} (h : Blk w b t #[x]) : Rd w w.heap.size (some ⟨b, 0, none⟩) [x] := fun _ => ⟨b, 0, rfl, h.lt, fun j u hu => by
  rw [h.cell]
  have : j = 0 := by have := (List.getElem?_eq_some_iff.1 hu).1; simp at this; exact this
  subst this
  simpa using hu⟩
def RComePost (w : World) (g : Nat) (U : Nat → Prop) (ks : List ByteArray) (ws : List Nat) (now : Nat) (en : Ending) (w' : World) : Prop := en = .returned (.tuple #[]) ∧ ∃ U', RDM w' g U' ks ws now ∧ Turned w U U' w'
theorem rcome_push {w W1 w3 W4 W5 : World} {g n now : Nat} {U : Nat → Prop} {A A2 A3 A5 : Option Addr} {c c2 c3 c5 : Nat} {ks : List ByteArray} {ws : List Nat} {k : ByteArray} (hn : ks.length = n) (hn2 : ws.length = n)
    (hU : ∀ j, U j ↔ (j = g ∨ (Value.slice A n c).ownBlock = some j ∨ (Value.slice A2 n c2).ownBlock = some j)) (hW1 : Only (fun j => j = g) w W1) (hb3 : Below W1.heap.size W1 w3) (ho3 : w3.ownsRow W1.heap.size 9 1 (.slice A3 (n + 1) c3) (n + 1) (ks.map .string ++ [.string k])) (hg : g < W1.heap.size)
    (hW4 : w3.setCell ⟨g, 0, none⟩ (.slice A3 (n + 1) c3) = W4) (hW5 : Only (fun j => j = g) W4 W5) (hk5 : Blk W5 g 50 #[.slice A3 (n + 1) c3, .slice A5 (n + 1) c5, .int .i64 ((now : Int) + 1)]) (ho5 : W5.ownsRow W4.heap.size 3 1 (.slice A5 (n + 1) c5) (n + 1) (i64s ws ++ [.int .i64 ((now : Int) + 1)])) :
    RComePost w g U (ks ++ [k]) (ws ++ [now + 1]) (now + 1) (.returned (.tuple #[])) W5 := by
  have hs4 : W4.heap.size = w3.heap.size := by rw [← hW4]; simp [World.setCell]
  have ho4 : W4.ownsRow W1.heap.size 9 1 (.slice A3 (n + 1) c3) (n + 1) (ks.map .string ++ [.string k]) := by
    rw [← hW4]
    exact ((Only.refl (fun j => j = g) w3).set rfl 0 _).own ho3 (fun j hj hjg => by have := (ho3.lt j hj).1; omega)
  have hO1 : Only (fun j => j = g) w W4 := by
    rw [← hW4]
    exact (hW1.trans (Only.of_below (S := fun j => j = g) hb3) (Sub.refl _ _)).set rfl 0 _
  refine ⟨rfl, fun j => j = g ∨ (Value.slice A3 (n + 1) c3).ownBlock = some j ∨ (Value.slice A5 (n + 1) c5).ownBlock = some j, ⟨A3, c3, A5, c5, ?_, ?_, ?_, fun j => ?_⟩, ?_, ?_⟩
  · rw [List.length_append, List.length_append, hn, hn2]; exact hk5
  · rw [List.length_append, hn, List.map_append]
    exact own_base (hW5.own ho4 (fun j hj hjg => by have := (ho4.lt j hj).1; omega)) (Nat.zero_le _)
  · rw [List.length_append, hn2]
    unfold i64s at ho5 ⊢
    rw [List.map_append]
    exact own_base ho5 (Nat.zero_le _)
  · rw [List.length_append, List.length_append, hn, hn2]; exact Iff.rfl
  · rintro j (rfl | hj | hj)
    · exact .inl ((hU _).2 (.inl rfl))
    · have := (ho4.lt j hj).1; have := hW1.size; exact .inr (by omega)
    · have := (ho5.lt j hj).1; have := hW1.size; have := hb3.size; exact .inr (by omega)
  · exact (hO1.trans hW5 (Sub.refl _ _)).mono (fun j _ hj => (hU j).2 (.inl hj))
set_option maxRecDepth 100000 in
set_option maxHeartbeats 8000000 in
theorem rcome_lt (w : World) (g : Nat) (U : Nat → Prop) (ks : List ByteArray) (ws : List Nat) (now : Nat) (k : ByteArray) (h : RDM w g U ks ws now) (hl : ks.length < 8) (hw : ws.length = ks.length) (hnow : now ≤ 1000000) :
    Calls Try.prog 66 #[.pointer (some ⟨g, 0, none⟩), .string k] w (RComePost w g U (ks ++ [k]) (ws ++ [now + 1]) (now + 1)) := by
  obtain ⟨i0, hi, hz0, hz1, hz2⟩ := info_parts infoStr
  obtain ⟨j0, hj, hy0, hy1, hy2⟩ := info_parts infoI64
  obtain ⟨A, c, A2, c2, h1, h2, h3, h4⟩ := h
  obtain ⟨n, hn⟩ : ∃ n, ks.length = n := ⟨_, rfl⟩
  rw [hw, hn] at h1 h3 h4
  rw [hn] at h2
  have HN := Lib.hid hn; have HN2 := Lib.hid (hw.trans hn); have H4 := Lib.hid h4
  rw [hn] at hl
  have hlI : (n : Int) < 8 := by omega
  obtain ⟨c0, c1, c2', cf⟩ := Blk.three h1
  have H1 := Lib.hid h1; have H2 := Lib.hid h2; have H3 := Lib.hid h3
  clear h1 h2 h3 h4 hn hw
  go_enter Try.func66, Try.ntmps66
  go_upto_region 1 with fail
  generalize hW1 : w.setCell ⟨g, 2, none⟩ (.int .i64 ((now : Int) + 1)) = W1
  have hO1 : Only (fun j => j = g) w W1 := by rw [← hW1]; exact (Only.refl (fun j => j = g) w).set rfl 2 _
  have hk1 : Blk W1 g 50 #[.slice A n c, .slice A2 n c2, .int .i64 ((now : Int) + 1)] := by rw [← hW1]; exact H1.out.set 2 _
  have OW := Lib.hid hO1; have K1 := Lib.hid hk1; have HG := Lib.hid hk1.lt
  have hgl : g < W1.heap.size := hk1.lt
  clear hW1 hO1 hk1 c0 c1 c2' cf
  obtain ⟨d0, d1, d2, df⟩ := Blk.three K1.out
  have ho1 := own_lit0 W1 9 W1.heap.size (Nat.le_refl _)
  obtain ⟨A', c', hv, -, -, -, hr, hno⟩ := own_form H2.out
  injection hv with e1 _ e2
  subst e1 e2
  have RK := Lib.hid ((OW.out.rd hr (Nat.le_refl _) (fun b o hA hne hb => own_ne_blk H2.out H1.out (by decide) b (by rw [hA]; rfl) hb)).more OW.out.size)
  have O3 := Lib.hid (OW.out.own H3.out (fun b hb hbg => own_ne_blk H3.out H1.out (by decide) b hb hbg))
  have HNO := Lib.hid hno
  have HLN : Hid ((ks.map Value.string).length = n) := Lib.hid (by rw [List.length_map, HN.out])
  clear hr hno
  have tok1 : True := trivial
  go_wp2_with (first
    | (at_builtin; have _t := tok1; go_must (refine app_own rfl (.tmp 20) (.tmp 24) 47 rfl W1.heap.size 9 i0 (.string ⟨#[]⟩) 16 Try.underlying47 hi hz0 hz1 hz2 rfl (.slice (some ⟨W1.heap.size, 0, none⟩) 0 0) 0 [] rfl ho1 _ A n c (ks.map Value.string) rfl HLN.out (RK.out.alloc _) HNO.out (strs_one _) (by unfold maxLen; omega) (by omega) (by simp) ?_; intro v2 w2 ho2 hg2 _hne2; have HO2 := Lib.hid ho2; have HB2 := Lib.hid (below_own (B := W1.heap.size) ho1 hg2 (Nat.le_refl _) (by simp)); have hk2 := (K1.out.alloc (.cells #[] 9)).below HB2.out HG.out; obtain ⟨e0, e1, e2, ef⟩ := Blk.three hk2; have HK2 := Lib.hid hk2; have hgl2 : g < w2.heap.size := hk2.lt; clear ho2 hg2 ho1 tok1 _t _hne2 hk2))
    | (at_builtin; go_must (refine app_own rfl (.tmp 25) (.tmp 27) 47 rfl W1.heap.size 9 i0 (.string ⟨#[]⟩) 16 Try.underlying47 hi hz0 hz1 hz2 rfl v2 n (ks.map Value.string) rfl (own_below (by have := HO2.out; rwa [Nat.zero_add, List.nil_append] at this) ((Below.refl _ w2).alloc (Nat.le_refl _) _)) _ (some ⟨w2.heap.size, 0, none⟩) 1 1 [.string k] rfl rfl (Rd.new w2 #[.string k] 9) (fun h => by cases h) (one_cell rfl) (by unfold maxLen; omega) (by omega) (by have := HB2.out.size; simp at this ⊢; omega) ?_; intro v3 w3 ho3 hg3 _hne3; obtain ⟨A3, c3, rfl, -, -, -, -, -⟩ := own_form ho3; have HO3 := Lib.hid ho3; have HB3 := Lib.hid (below_own (B := W1.heap.size) (own_below HO2.out ((Below.refl _ w2).alloc (Nat.le_refl _) (.cells #[.string k] 9))) hg3 (Nat.le_refl _) (by have := HB2.out.size; simp at this ⊢; omega)); have hk3 := (HK2.out.alloc (.cells #[.string k] 9)).below HB3.out HG.out; obtain ⟨f0, f1, f2, ff⟩ := Blk.three hk3; have HK3 := Lib.hid hk3; clear ho3 hg3 _hne3 hk3)))
  have hB3 : Below W1.heap.size W1 w3 := (((Below.refl _ W1).alloc (Nat.le_refl _) _).trans HB2.out).trans (((Below.refl _ w2).alloc (by have := HB2.out.size; simp at this; omega) _).trans HB3.out)
  generalize hW4 : w3.setCell ⟨g, 0, none⟩ (.slice A3 (n + 1) c3) = W4
  have hk4 : Blk W4 g 50 #[.slice A3 (n + 1) c3, .slice A2 n c2, .int .i64 ((now : Int) + 1)] := by rw [← hW4]; exact HK3.out.set 0 _
  have O4 : Hid (W4.ownsRow 0 3 1 (.slice A2 n c2) n (i64s ws)) := Lib.hid (by
    rw [← hW4]
    exact ((Only.refl (fun j => j = g) w3).set rfl 0 _).own (own_below O3.out hB3) (fun b hb hbg => own_ne_blk H3.out H1.out (by decide) b hb hbg))
  have HB := Lib.hid hB3; have K4 := Lib.hid hk4; have HW4 := Lib.hid hW4
  have HG4 : Hid (g < W4.heap.size) := Lib.hid hk4.lt
  have HLW : Hid ((i64s ws).length = n) := Lib.hid (by rw [i64s_length, HN2.out])
  obtain ⟨A'', c'', hv, -, -, -, hr, hno⟩ := own_form O4.out
  injection hv with e1' _ e2'
  subst e1' e2'
  have R4 := Lib.hid hr; have HNO4 := Lib.hid hno
  clear hB3 hW4 hk4 hr hno d0 d1 d2 df e0 e1 e2 ef f0 f1 f2 ff HB2 HB3 HO2 HK2 HK3
  refine Inv.region_genL (RF W4.heap.size g n A2 c2 (i64s ws) (.int .i64 ((now : Int) + 1))) (RC W4 g n A2 c2 (i64s ws) (.int .i64 ((now : Int) + 1)) (.slice A3 (n + 1) c3)) 101 [31, 32, 33, 34, 35, 36, 37, 38, 39, 40, 41, 42, 43, 44, 45] (by kernel_rfl) rfl (by kernel_rfl) (by kernel_rfl) ?_ ?_ ?_
  · exact ⟨(Only.refl _ W4).drew, fun _ => K4.out.drew, fun h => by cases h⟩
  · refine ⟨?_, ?_, ?_, ?_, ?_, ?_, ?_, ?_, ?_, ?_, ?_, ?_, ?_, ?_, ?_, ?_, trivial⟩
    · intro act wa L hC hd hLi hLa hLb HF O K hK
      clear hd
      have h0 := O 0 (by kernel_rfl)
      try have g0 := Array.getD_eq_getD_getElem?.symm.trans h0
      go_simp
      exact hK _ _ (hC.keep 0 (by decide) (Below.refl wa.heap.size wa)) (fun j d _ _ _ h => RF.st (Below.refl wa.heap.size wa) L 0 j _ h) (fun _ => rfl)
    · intro act wa L hC hd hLi hLa hLb HF O K hK
      clear hd
      go_simp
      exact hK _ _ (hC.keep 1 (by decide) ((Below.refl wa.heap.size wa).alloc (Nat.le_refl _) _)) (fun j d _ _ _ h => RF.st ((Below.refl wa.heap.size wa).alloc (Nat.le_refl _) _) L 1 j _ h) (fun _ => ⟨wa.heap.size, rfl, fun _ => ⟨hC.1.size, Blk.new wa _ _⟩⟩)
    · intro act wa L hC hd hLi hLa hLb HF O K hK
      clear hd
      have h0 := O 0 (by kernel_rfl)
      try have g0 := Array.getD_eq_getD_getElem?.symm.trans h0
      go_simp
      exact hK _ _ (hC.keep 2 (by decide) (Below.refl wa.heap.size wa)) (fun j d _ _ _ h => RF.st (Below.refl wa.heap.size wa) L 2 j _ h) (fun _ => rfl)
    · intro act wa L hC hd hLi hLa hLb HF O K hK
      clear hd
      have h33 := HF 2 33 (hLa 1 2 (by kernel_rfl)) rfl
      dsimp only [RF] at h33
      try have g33 := Array.getD_eq_getD_getElem?.symm.trans h33
      go_simp
      exact hK _ _ (hC.keep 3 (by decide) (Below.refl wa.heap.size wa)) (fun j d _ _ _ h => RF.st (Below.refl wa.heap.size wa) L 3 j _ h) (fun _ => rfl)
    · intro act wa L hC hd hLi hLa hLb HF O K hK
      clear hd
      have h34 := HF 3 34 (hLa 1 3 (by kernel_rfl)) rfl
      dsimp only [RF] at h34
      try have g34 := Array.getD_eq_getD_getElem?.symm.trans h34
      go_simp
      exact hK _ _ (hC.keep 4 (by decide) (Below.refl wa.heap.size wa)) (fun j d _ _ _ h => RF.st (Below.refl wa.heap.size wa) L 4 j _ h) (fun _ => rfl)
    · intro act wa L hC hd hLi hLa hLb HF O K hK
      clear hd
      have h35 := HF 4 35 (hLa 1 4 (by kernel_rfl)) rfl
      dsimp only [RF] at h35
      try have g35 := Array.getD_eq_getD_getElem?.symm.trans h35
      obtain ⟨q0, q1, q2, qf⟩ := Blk.three (hC.2.1 (hLb 5 15 (by kernel_rfl)))
      go_simp
      exact hK _ _ (hC.keep 5 (by decide) (Below.refl wa.heap.size wa)) (fun j d _ _ _ h => RF.st (Below.refl wa.heap.size wa) L 5 j _ h) (fun _ => rfl)
    · intro act wa L hC hd hLi hLa hLb HF O K hK
      clear hd
      have h32 := HF 1 32 (hLa 1 1 (by kernel_rfl)) rfl
      dsimp only [RF] at h32
      try have g32 := Array.getD_eq_getD_getElem?.symm.trans h32
      have h36 := HF 5 36 (hLa 1 5 (by kernel_rfl)) rfl
      dsimp only [RF] at h36
      try have g36 := Array.getD_eq_getD_getElem?.symm.trans h36
      obtain ⟨b, hv, hg⟩ := h32
      obtain ⟨hBb, hblk⟩ := hg hLi
      have hS := hC.1.size
      have hr9 := (hC.1.rd R4.out (Nat.le_refl _) (fun b' o hA hne hb => own_ne_blk O4.out K4.out (by decide) b' (by rw [hA]; rfl) hb)).more hS
      refine step_app_own (w := wa) rfl (.tmp 32) (.tmp 36) _ rfl W4.heap.size 3 j0 (.int .i64 0) 8 Try.underlying48 hj hy0 hy1 hy2 rfl _ 0 [] hv (own_emptyI hBb hblk) _ A2 n c2 (i64s ws) h36 HLW.out hr9 HNO4.out (i64s_one _) (by unfold maxLen; omega) (by omega) hS ?_
      intro v' w' ho hgr
      exact hK _ _ ⟨hC.1.trans (b := wa) (Only.of_grown (S := fun j => j = b) hgr (fun k hk => by simp [Value.ownBlock] at hk; omega)) (fun j hj => .inr (by omega)), fun hl => ((hC.2.1 (Inv.upd_f hl)).grown hgr (by simp [Value.ownBlock]; have := HG4.out; omega)), fun hl => by have := hLb 9 15 (by kernel_rfl); rw [Inv.upd_t (by decide) hl] at this; cases this⟩ (fun j d hj hLj _ h => RF.app1 hgr hblk (hLb 3 12 (by kernel_rfl)) j _ hj hLj h) (fun _ _ => by simpa using ho)
    · intro act wa L hC hd hLi hLa hLb HF O K hK
      clear hd
      have h0 := O 0 (by kernel_rfl)
      try have g0 := Array.getD_eq_getD_getElem?.symm.trans h0
      go_simp
      exact hK _ _ (hC.keep 7 (by decide) (Below.refl wa.heap.size wa)) (fun j d _ _ _ h => RF.st (Below.refl wa.heap.size wa) L 7 j _ h) (fun _ => rfl)
    · intro act wa L hC hd hLi hLa hLb HF O K hK
      clear hd
      have h38 := HF 7 38 (hLa 1 7 (by kernel_rfl)) rfl
      dsimp only [RF] at h38
      try have g38 := Array.getD_eq_getD_getElem?.symm.trans h38
      go_simp
      exact hK _ _ (hC.keep 8 (by decide) (Below.refl wa.heap.size wa)) (fun j d _ _ _ h => RF.st (Below.refl wa.heap.size wa) L 8 j _ h) (fun _ => rfl)
    · intro act wa L hC hd hLi hLa hLb HF O K hK
      clear hd
      have h39 := HF 8 39 (hLa 1 8 (by kernel_rfl)) rfl
      dsimp only [RF] at h39
      try have g39 := Array.getD_eq_getD_getElem?.symm.trans h39
      go_simp
      exact hK _ _ (hC.keep 9 (by decide) (Below.refl wa.heap.size wa)) (fun j d _ _ _ h => RF.st (Below.refl wa.heap.size wa) L 9 j _ h) (fun _ => rfl)
    · intro act wa L hC hd hLi hLa hLb HF O K hK
      clear hd
      have h40 := HF 9 40 (hLa 1 9 (by kernel_rfl)) rfl
      dsimp only [RF] at h40
      try have g40 := Array.getD_eq_getD_getElem?.symm.trans h40
      obtain ⟨q0, q1, q2, qf⟩ := Blk.three (hC.2.1 (hLb 9 15 (by kernel_rfl)))
      go_simp
      exact hK _ _ (hC.keep 10 (by decide) (Below.refl wa.heap.size wa)) (fun j d _ _ _ h => RF.st (Below.refl wa.heap.size wa) L 10 j _ h) (fun _ => rfl)
    · intro act wa L hC hd hLi hLa hLb HF O K hK
      clear hd
      have h41 := HF 10 41 (hLa 1 10 (by kernel_rfl)) rfl
      dsimp only [RF] at h41
      try have g41 := Array.getD_eq_getD_getElem?.symm.trans h41
      go_simp
      exact hK _ _ (hC.keep 11 (by decide) ((Below.refl wa.heap.size wa).alloc (Nat.le_refl _) _)) (fun j d _ _ _ h => RF.st ((Below.refl wa.heap.size wa).alloc (Nat.le_refl _) _) L 11 j _ h) (fun _ => ⟨wa.heap.size, rfl, fun _ => ⟨hC.1.size, Blk.new wa _ _⟩⟩)
    · intro act wa L hC hd hLi hLa hLb HF O K hK
      clear hd
      have h37 := HF 6 37 (hLa 1 6 (by kernel_rfl)) rfl
      dsimp only [RF] at h37
      try have g37 := Array.getD_eq_getD_getElem?.symm.trans h37
      have h42 := HF 11 42 (hLa 1 11 (by kernel_rfl)) rfl
      dsimp only [RF] at h42
      try have g42 := Array.getD_eq_getD_getElem?.symm.trans h42
      obtain ⟨b, hv, hg⟩ := h42
      obtain ⟨hBb, hblk⟩ := hg hLi
      have hown := h37 hLi
      have hS := hC.1.size
      refine step_app_own (w := wa) rfl (.tmp 37) (.tmp 42) _ rfl W4.heap.size 3 j0 (.int .i64 0) 8 Try.underlying48 hj hy0 hy1 hy2 rfl _ n (i64s ws) rfl hown _ (some ⟨b, 0, none⟩) 1 1 [.int .i64 ((now : Int) + 1)] hv rfl (rd_of_blk hblk) (fun h => by cases h) (one_cell rfl) (by unfold maxLen; omega) (by omega) hS ?_
      intro v' w' ho hgr
      obtain ⟨A5, c5, rfl, -, -, -, -, -⟩ := own_form ho
      exact hK _ _ ⟨hC.1.trans (b := wa) (Only.of_grown (S := fun j => W4.heap.size ≤ j) hgr (fun k hk => (hown.lt k hk).1)) (fun j hj => .inr hj), fun hl => ((hC.2.1 (Inv.upd_f hl)).grown hgr (fun hk => by have := (hown.lt g hk.symm).1; have := HG4.out; omega)), fun hl => by have := hLb 3 15 (by kernel_rfl); rw [Inv.upd_t (by decide) hl] at this; cases this⟩ (fun j d hj hLj _ h => RF.app2 (hLa 1 6 (by kernel_rfl)) j _ hj h) (fun _ => ⟨A5, c5, rfl, fun _ => ho⟩)
    · intro act wa L hC hd hLi hLa hLb HF O K hK
      clear hd
      have h31 := HF 0 31 (hLa 1 0 (by kernel_rfl)) rfl
      dsimp only [RF] at h31
      try have g31 := Array.getD_eq_getD_getElem?.symm.trans h31
      go_simp
      exact hK _ _ (hC.keep 13 (by decide) (Below.refl wa.heap.size wa)) (fun j d _ _ _ h => RF.st (Below.refl wa.heap.size wa) L 13 j _ h) (fun _ => rfl)
    · intro act wa L hC hd hLi hLa hLb HF O K hK
      clear hd
      have h44 := HF 13 44 (hLa 1 13 (by kernel_rfl)) rfl
      dsimp only [RF] at h44
      try have g44 := Array.getD_eq_getD_getElem?.symm.trans h44
      go_simp
      exact hK _ _ (hC.keep 14 (by decide) (Below.refl wa.heap.size wa)) (fun j d _ _ _ h => RF.st (Below.refl wa.heap.size wa) L 14 j _ h) (fun _ => rfl)
    · intro act wa L hC hd hLi hLa hLb HF O K hK
      clear hd
      have h45 := HF 14 45 (hLa 1 14 (by kernel_rfl)) rfl
      dsimp only [RF] at h45
      try have g45 := Array.getD_eq_getD_getElem?.symm.trans h45
      have h43 := HF 12 43 (hLa 1 12 (by kernel_rfl)) rfl
      dsimp only [RF] at h43
      try have g43 := Array.getD_eq_getD_getElem?.symm.trans h43
      obtain ⟨A5, c5, hv, ho⟩ := h43
      have hblk := hC.2.1 hLi
      have hown := ho hLi
      obtain ⟨q0, q1, q2, qf⟩ := Blk.three hblk
      have g43 := Array.getD_eq_getD_getElem?.symm.trans hv
      go_simp
      exact hK undef _ ⟨hC.1.set rfl 1 _, fun hl => (by rw [Inv.upd_same] at hl; cases hl), fun _ => ⟨A5, c5, hblk.set 1 _, ((Only.refl (fun j => j = g) wa).set rfl 1 _).own hown (fun j hj hjg => by have := (hown.lt j hj).1; have := HG4.out; omega)⟩⟩ (fun j d _ _ _ h => RF.sto (hLa 2 6 (by kernel_rfl)) (hLa 1 12 (by kernel_rfl)) j _ h) (fun hne => absurd rfl hne)
  · intro us w' hC HF
    clear HF
    simp only [List.foldl]
    go_simp
    obtain ⟨LL, hLL, hCC⟩ := hC
    obtain ⟨A5, c5, hk5, ho5⟩ := hCC.2.2 (hLL 15 (by decide))
    have HP := Lib.hid (rcome_push HN.out HN2.out H4.out OW.out HB.out HO3.out HG.out HW4.out hCC.1 hk5 ho5)
    clear hCC hk5 ho5 hLL
    go_wp2
    go_end0
    exact HP.out
end Go.Proofs.Ytignfhdblakcfaa

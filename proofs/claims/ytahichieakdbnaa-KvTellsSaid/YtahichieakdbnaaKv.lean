/- kv: a store in memory; New, Get, Apply, Copy, Fold. -/
import Derived.Test.YtahichieakdbnaaKm
import Derived.Test.YtahichieakdbnaaOp6
import Derived.Test.YtahichieakdbnaaOnl
import Derived.Test.YtahichieakdbnaaMo
import Derived.Test.YtahichieakdbnaaStr
import Derived.Test.YtahichieakdbnaaShelf
import Derived.Maps.StringElems
import Derived.Maps.OwnSet
import Derived.Maps.RangeWalk
import Derived.StillTailTactics
import Derived.StringKeys
namespace Go.Proofs.Ytahichieakdbnaa
open Go.ChangeShapes Go.WideShapes Go.ChangeAt Go.RowKit Go.Maps
set_option linter.unusedVariables false
set_option linter.unusedSimpArgs false

theorem KSt : Keyed Try.prog 9 := string_keyed Try.underlying9
theorem keyK {k : ByteArray} (hk : k.size ≤ maxLen) : keyOf Try.prog 9 (.string k) = some (Lit.string k.data.toList) := WideMaps.keyOf_string_mk Try.underlying9 hk
theorem zeroK (w : World) : (zeroValue 9).run Try.prog w = .ok (.string ⟨#[]⟩) w := by kernel_rfl

/-- block g is a store: of these keys and values; in the blocks of S -/
def StoreM (w : World) (g : Nat) (S : Nat → Prop) (n : Nat) (st : St) : Prop :=
  ∃ m D, Blk w g 130 #[.map (some m)] ∧ w.ownsMap Try.prog 9 (plainElem Try.prog 9) m n D ∧ Km.KI D st ∧ ∀ j, S j ↔ (j = g ∨ j = m)
namespace StoreM
variable {w w' : World} {g n : Nat} {S T : Nat → Prop} {st : St}
theorem only (h : StoreM w g S n st) (ho : Only T w w') (hT : ∀ j, T j → S j → False) : StoreM w' g S n st := by
  obtain ⟨m, D, h1, h2, h3, h4⟩ := h
  exact ⟨m, D, ho.blk h1 (fun ht => hT _ ht ((h4 g).2 (.inl rfl))), ho.map h2 (fun ht => hT _ ht ((h4 m).2 (.inr rfl))), h3, h4⟩
theorem below (h : StoreM w g S n st) (hb : Below w.heap.size w w') : StoreM w' g S n st := h.only (Only.of_below (S := fun _ => False) hb) (fun _ h _ => h)
theorem lt (h : StoreM w g S n st) : ∀ j, S j → j < w.heap.size := by
  obtain ⟨m, D, h1, h2, h3, h4⟩ := h
  intro j hj
  rcases (h4 j).1 hj with rfl | rfl
  · exact h1.lt
  · exact h2.lt
theorem mono (h : StoreM w g S n st) {n' : Nat} (hn : n ≤ n') : StoreM w g S n' st := by
  obtain ⟨m, D, h1, h2, h3, h4⟩ := h
  exact ⟨m, D, h1, h2.mono hn, h3, h4⟩
theorem srt (h : StoreM w g S n st) : Km.Srt st := by
  obtain ⟨m, D, h1, h2, h3, h4⟩ := h
  exact h3.2.1
end StoreM
def KNewPost (w : World) (e : Ending) (w' : World) : Prop := ∃ g S, e = .returned (.pointer (some ⟨g, 0, none⟩)) ∧ StoreM w' g S 0 [] ∧ (∀ j, S j → w.heap.size ≤ j) ∧ Below w.heap.size w w'
theorem knew_post (w : World) : KNewPost w (.returned (.pointer (some ⟨w.heap.size + 1, 0, none⟩))) ((w.alloc (.map #[] 0)).alloc (.cells #[.map (some w.heap.size)] 130)) :=
  ⟨w.heap.size + 1, fun j => j = w.heap.size + 1 ∨ j = w.heap.size, rfl, ⟨w.heap.size, .map [], Blk.new' _ _ _ (by simp), (World.ownsMap_made w Try.prog 9 (plainElem Try.prog 9)).alloc _, Km.KI.nil, fun j => Iff.rfl⟩, fun j hj => by omega, ((Below.refl _ _).alloc (Nat.le_refl _) _).alloc (by simp) _⟩
set_option maxHeartbeats 1000000 in
theorem KNew_any (w : World) : Calls Try.prog 75 #[] w (KNewPost w) := by
  have HP := Lib.hid (knew_post w)
  have hmm := @run_makeMap Try.prog
  go_enter Try.func75, Try.ntmps75
  go_wp2
  go_ret
  exact HP.out
/-- a key's value, and whether there is one -/
theorem look_kv {w : World} {m n : Nat} {D : Dm.DU} {st : St} (h : w.ownsMap Try.prog 9 (plainElem Try.prog 9) m n D) (hK : Km.KI D st) (k : ByteArray) (hk : k.size ≤ maxLen) :
    (Instr.lookup 128 (.map (some m)) (.string k) true).run Try.prog w = .ok (.tuple #[.string (Km.ba ((Km.get st k.data.toList).getD [])), .bool (Km.get st k.data.toList).isSome]) w ∧
    (Instr.lookup 128 (.map (some m)) (.string k) false).run Try.prog w = .ok (.string (Km.ba ((Km.get st k.data.toList).getD []))) w ∧ ((Km.get st k.data.toList).getD []).length ≤ maxLen := by
  have hz : plainElem (H := Unit) Try.prog 9 (.string ⟨#[]⟩) = some (.lit (.string []), []) := plainElem_string Try.underlying9 (s := ⟨#[]⟩) (by decide)
  have hat : D.atKey (.string k.data.toList) (.lit (.string [])) = .lit (.string ((Km.get st k.data.toList).getD [])) := by
    cases hg : Km.get st k.data.toList with
    | none => exact atKey_of_not_has ((hK.2.2 _).1 hg) _
    | some v => exact (hK.2.2 _).2 v hg _
  obtain ⟨v, ps, hrun, hv⟩ := h.look_ok KSt Try.underlying128 (zeroK w) hz (keyK hk)
  obtain ⟨v2, ps2, hrun2, hv2⟩ := h.lookup KSt Try.underlying128 (zeroK w) hz (keyK hk)
  rw [hat] at hv hv2
  obtain ⟨s, rfl, hs, hl⟩ := plainElem_string_inv Try.underlying9 hv
  obtain ⟨s2, rfl, hs2, hl2⟩ := plainElem_string_inv Try.underlying9 hv2
  simp only [Prod.mk.injEq, DataW.lit.injEq, Lit.string.injEq] at hs hs2
  rw [hK.has] at hrun
  rw [hs.1, Km.ba_data]
  refine ⟨hrun, ?_, by rw [Array.length_toList]; exact hl⟩
  have e : s2 = s := by rw [← Km.ba_data s2, ← Km.ba_data s, ← hs.1, ← hs2.1]
  rw [hrun2, e]
def KGetPost (w : World) (st : St) (k : ByteArray) (en : Ending) (w' : World) : Prop := en = .returned (.tuple #[.string (Km.ba ((Km.get st k.data.toList).getD [])), .bool (Km.get st k.data.toList).isSome]) ∧ w = w'
set_option maxHeartbeats 1000000 in
theorem KGet_any (w : World) (g : Nat) (S : Nat → Prop) (n : Nat) (st : St) (k : ByteArray) (h : StoreM w g S n st) (hk : k.size ≤ maxLen) : Calls Try.prog 43 #[.pointer (some ⟨g, 0, none⟩), .string k] w (KGetPost w st k) := by
  obtain ⟨m, D, h1, h2, h3, h4⟩ := h
  have hl := (look_kv h2 h3 k hk).1
  have a0 := h1.cell 0
  simp at a0
  unfold KGetPost
  obtain ⟨x, hx⟩ : ∃ x, Km.ba ((Km.get st k.data.toList).getD []) = x := ⟨_, rfl⟩
  obtain ⟨b, hb⟩ : ∃ b, (Km.get st k.data.toList).isSome = b := ⟨_, rfl⟩
  rw [hx, hb] at hl ⊢
  clear h1 h2 h3 h4 hx hb
  go_enter Try.func43, Try.ntmps43
  go_wp2
  go_ret2
  exact ⟨rfl, rfl⟩
/-- writes that lie apart, behind a turn -/
theorem WrR.only {w w' : World} {B : Nat} {A : Option Addr} {ws : List Wr} {S : Nat → Prop} (h : WrR w B A ws) (hB : B ≤ w.heap.size) (hO : Only S w w') (hap : ∀ g o, A = some ⟨g, o, none⟩ → ws ≠ [] → ¬ S g) : WrR w' B A ws := fun hne => by
  obtain ⟨g, o, e, hg, hc⟩ := h hne
  refine ⟨g, o, e, hg, fun k a hk => ?_⟩
  obtain ⟨cs, h1, h2, h3⟩ := hc k a hk
  refine ⟨cs, h1, h2, fun j u hu => ?_⟩
  have hh := hO.2.2.2.2 g (by omega) (hap g o e hne)
  have h4 := h3 j u hu
  unfold World.cell? at h4 ⊢
  simp only at h4 ⊢
  rw [hh]
  exact h4
def KApPost (w : World) (g : Nat) (S : Nat → Prop) (n : Nat) (st : St) (en : Ending) (w' : World) : Prop := en = .returned (.tuple #[]) ∧ StoreM w' g S n st ∧ Only S w w'
theorem appl_snoc (st : St) (l : List Wr) (x : Wr) : Km.appl st (l ++ [x]) = if x.2.2 = true then Km.del (Km.appl st l) x.1.data.toList else Km.put (Km.appl st l) x.1.data.toList x.2.1.data.toList := by
  unfold Km.appl
  rw [List.foldl_append]
  rfl
set_option maxHeartbeats 3000000 in
set_option maxRecDepth 100000 in
theorem KApply_any (w : World) (g : Nat) (S : Nat → Prop) (n : Nat) (st : St) (ws : List Wr) (A : Option Addr) (len cap : Nat) (h : StoreM w g S n st) (hr : WrR w w.heap.size A ws) (hap : ∀ g' o', A = some ⟨g', o', none⟩ → ws ≠ [] → ¬ S g') (hn : ws.length = len) (hz : ∀ x ∈ ws, x.1.size ≤ maxLen ∧ x.2.1.size ≤ maxLen) (hl : n + len < maxLen) :
    Calls Try.prog 50 #[.pointer (some ⟨g, 0, none⟩), .slice A len cap] w (KApPost w g S (n + len) (Km.appl st ws)) := by
  have H0 := Lib.hid h; have HR := Lib.hid hr; have HAP := Lib.hid hap; have HN := Lib.hid hn; have HZ := Lib.hid hz
  have HLT := Lib.hid h.lt
  have hl64 : len < 9223372036854775807 := by unfold maxLen at hl; omega
  clear h hr hap hn hz
  go_enter Try.func50, Try.ntmps50
  go_wp2
  go_loopw [8] (fun s8 wr => ∃ k : Nat, s8 = .int .i64 (k : Int) ∧ k ≤ len ∧ StoreM wr g S (n + k) (Km.appl st (ws.take k)) ∧ Only S w wr) (fun s8 _ => len - (intOf s8).toNat)
  case atStart => exact ⟨0, rfl, Nat.zero_le _, by simpa [Km.appl] using H0.out, Only.refl _ _⟩
  case round =>
    obtain ⟨k, rfl, hk, hS, hO⟩ := hrel
    have HO := Lib.hid hO; have HS := Lib.hid hS
    by_cases hlt : k < len
    · have hltI : (k : Int) < (len : Int) := by omega
      obtain ⟨q, o, ⟨key, val, gone⟩, rfl, hq, hx, y0, y1, y2⟩ := WrR.row (WrR.only HR.out (Nat.le_refl _) hO HAP.out) (k := k) (by rw [HN.out]; exact hlt)
      have hqw : q < wr.heap.size := Nat.lt_of_lt_of_le hq hO.size
      obtain ⟨hz1, hz2⟩ := HZ.out _ (List.mem_of_getElem? hx)
      simp only at hz1 hz2 y0 y1 y2
      have htk : ws.take (k + 1) = ws.take k ++ [(key, val, gone)] := by rw [List.take_add_one, hx]; rfl
      have HTK := Lib.hid htk
      have hb1 : Below wr.heap.size wr (wr.alloc (.cells #[.string key, .string val, .bool gone] 82)) := (Below.refl _ wr).alloc (Nat.le_refl _) _
      have HK1 := Lib.hid (hS.below hb1)
      have HO1 := Lib.hid (hO.alloc (.cells #[.string key, .string val, .bool gone] 82))
      have Z1 := Lib.hid (Blk.new wr 82 #[.string key, .string val, .bool gone])
      clear hS hO hx htk hb1 HS HO
      cases gone with
      | true =>
        go_wp2
        obtain ⟨w1, hw1⟩ : ∃ w1, wr.alloc (.cells #[.string key, .string val, .bool true] 82) = w1 := ⟨_, rfl⟩
        rw [hw1] at HK1 HO1 Z1 ⊢
        obtain ⟨zb, hzb⟩ : ∃ q, wr.heap.size = q := ⟨_, rfl⟩
        rw [hzb] at Z1
        try rw [hzb]
        obtain ⟨m, D, k1, k2, k3, k4⟩ := HK1.out
        have K1 := Lib.hid k1; have K2 := Lib.hid k2; have K3 := Lib.hid k3; have K4 := Lib.hid k4
        have c0 := k1.cell 0
        have cl := k1.lt
        have z0 := Z1.out.cell 0
        have zl := Z1.out.lt
        simp at c0 z0
        clear k1 k2 k3 k4 hw1 hzb
        go_still_tail 6, (by kernel_rfl)
        change wpList _ _ _ _ _ w1.drew
        go_wp2_with (at_delete; refine wpList_delete_own _ rfl (.tmp 17) (.tmp 19) 128 9 rfl 9 KSt Try.underlying128 (plainElem Try.prog 9) m (n + k) D rfl K2.out.drew (.string key) _ rfl (keyK hz1) ?_; intro w2 hm2 hturn2; have HM2 := Lib.hid hm2; have HT2 := Lib.hid hturn2.grown; clear hm2 hturn2)
        have hmg : m ≠ g := map_blk K2.out K1.out
        have hO2 := Only.of_grown (S := S) HT2.out (fun j hj => by injection hj with hj; exact (K4.out j).2 (.inr hj.symm))
        have R := Lib.hid (show ∃ k' : Nat, (Value.int .i64 ((k : Int) + 1)) = .int .i64 (k' : Int) ∧ k' ≤ len ∧ StoreM w2 g S (n + k') (Km.appl st (ws.take k')) ∧ Only S w w2 from
          ⟨k + 1, by go_num, hlt, by
            rw [HTK.out, appl_snoc, if_pos rfl]
            exact ⟨m, _, (K1.out.drew).grown HT2.out (by intro h; injection h with h; exact hmg h.symm), HM2.out.mono (by omega), K3.out.del _, K4.out⟩, (HO1.out.drew).trans hO2 (Sub.refl _ _)⟩)
        clear hO2 c0 z0
        go_wp2
        go_roundw
        case rel => exact R.out
        case measure => simp [intOf]; omega
      | false =>
        go_wp2
        obtain ⟨w1, hw1⟩ : ∃ w1, wr.alloc (.cells #[.string key, .string val, .bool false] 82) = w1 := ⟨_, rfl⟩
        rw [hw1] at HK1 HO1 Z1 ⊢
        obtain ⟨zb, hzb⟩ : ∃ q, wr.heap.size = q := ⟨_, rfl⟩
        rw [hzb] at Z1
        try rw [hzb]
        obtain ⟨m, D, k1, k2, k3, k4⟩ := HK1.out
        have K1 := Lib.hid k1; have K2 := Lib.hid k2; have K3 := Lib.hid k3; have K4 := Lib.hid k4
        have c0 := k1.cell 0
        have cl := k1.lt
        have z0 := Z1.out.cell 0
        have z1 := Z1.out.cell 1
        have zl := Z1.out.lt
        simp at c0 z0 z1
        clear k1 k2 k3 k4 hw1 hzb
        go_still_tail 8, (by kernel_rfl)
        change wpList _ _ _ _ _ w1.drew
        go_wp2_with (at_mapUpdate; refine wpList_mapUpdate_own _ rfl (.tmp 23) (.tmp 25) (.tmp 27) 128 rfl 9 9 KSt Try.underlying128 (plainElem Try.prog 9) m (n + k) D rfl K2.out.drew (by omega) (.string key) (.string val) _ rfl rfl (keyK hz1) _ [] (plainElem_string Try.underlying9 hz2) ?_; intro w2 hm2 hg2; have HM2 := Lib.hid hm2; have HT2 := Lib.hid hg2; clear hm2 hg2)
        have hmg : m ≠ g := map_blk K2.out K1.out
        have hO2 := Only.of_grown (S := S) HT2.out (fun j hj => by injection hj with hj; exact (K4.out j).2 (.inr hj.symm))
        have R := Lib.hid (show ∃ k' : Nat, (Value.int .i64 ((k : Int) + 1)) = .int .i64 (k' : Int) ∧ k' ≤ len ∧ StoreM w2 g S (n + k') (Km.appl st (ws.take k')) ∧ Only S w w2 from
          ⟨k + 1, by go_num, hlt, by
            rw [HTK.out, appl_snoc, if_neg (by simp)]
            exact ⟨m, _, (K1.out.drew).grown HT2.out (by intro h; injection h with h; exact hmg h.symm), HM2.out.mono (by omega), K3.out.put _ _, K4.out⟩, (HO1.out.drew).trans hO2 (Sub.refl _ _)⟩)
        clear hO2 c0 z0 z1
        go_wp2
        go_roundw
        case rel => exact R.out
        case measure => simp [intOf]; omega
    · obtain rfl : k = len := by omega
      have HP := Lib.hid (show KApPost w g S (n + k) (Km.appl st ws) (.returned (.tuple #[])) wr from ⟨rfl, by have h := HS.out; rw [List.take_of_length_le (by rw [HN.out]; exact Nat.le_refl _)] at h; exact h, HO.out⟩)
      clear hS hO
      go_wp2
      go_end0
      exact HP.out
def KCpPost (w : World) (g : Nat) (S : Nat → Prop) (n : Nat) (st : St) (en : Ending) (w' : World) : Prop := ∃ g' S', en = .returned (.pointer (some ⟨g', 0, none⟩)) ∧ StoreM w' g' S' n st ∧ (∀ j, S' j → w.heap.size ≤ j) ∧ Below w.heap.size w w'
end Go.Proofs.Ytahichieakdbnaa

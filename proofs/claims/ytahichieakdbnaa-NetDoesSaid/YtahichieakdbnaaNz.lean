/- law 21: own, large, acts that come in; packetboatref21.Same. -/
import Derived.Test.YtahichieakdbnaaNy
import Derived.BigQuiet
import Derived.Test.YtahichieakdbnaaInv
import Derived.Laws.IdiomArrays
import Derived.JoinedOf
import Derived.JoinedAt
import Derived.RowKit3
namespace Go.Proofs.Ytahichieakdbnaa
open Go.ChangeShapes Go.WideShapes Go.ChangeAt Go.RowKit Go.Maps Go.Deep
set_option linter.unusedVariables false
set_option linter.unusedSimpArgs false

def BoolN (w : World) (b : Bool) (e : Ending) (w' : World) : Prop := e = .returned (.bool b) ∧ Below w.heap.size w w'
def OwnNPost (w : World) (ls : List Let) (en : Ending) (w' : World) : Prop := ∃ v, en = .returned v ∧ LRow 103 w' w.heap.size v ls ∧ Below w.heap.size w w'
set_option maxHeartbeats 3000000 in
set_option maxRecDepth 100000 in
theorem Lown_any (w : World) (A : Option Addr) (n c : Nat) (ls : List Let) (h : LetR w w.heap.size A ls) (hn : ls.length = n) (hl : n ≤ 1000) :
    Calls Try.prog 59 #[.slice A n c] w (OwnNPost w ls) := by
  obtain ⟨i0, hi, hz0, hz1, hz2⟩ := info_parts infoRLet
  have HM := Lib.hid h; have HN := Lib.hid hn
  clear h hn
  have START := Lib.hid (LRow.lit 103 w w.heap.size (Nat.le_refl _))
  have HB0 := Lib.hid ((Below.refl w.heap.size w).alloc (Nat.le_refl _) (.cells #[] 103))
  go_enter Try.func59, Try.ntmps59
  go_wp2
  go_loopw [3, 9] (fun s3 s9 wr => ∃ k : Nat, s9 = .int .i64 (k : Int) ∧ k ≤ n ∧ LRow 103 wr w.heap.size s3 (ls.take k) ∧ Below w.heap.size w wr) (fun _ s9 _ => n - (intOf s9).toNat)
  case atStart => exact ⟨0, rfl, Nat.zero_le _, START.out, HB0.out⟩
  case round =>
    clear START HB0
    obtain ⟨k, rfl, hk, hL, hbel⟩ := hrel
    have HB := Lib.hid hbel
    by_cases hlt : k < n
    · have hltI : (k : Int) < (n : Int) := by omega
      obtain ⟨g, o, to, bs, Ab, cb, rfl, hg, e1, d0, d1, hr, hc, hcm, hno, h256⟩ := (LetR.below HM.out hbel).row (k := k) (by rw [HN.out]; exact hlt)
      have hgw : g < wr.heap.size := World.block_lt_of_cell? _ _ d0
      obtain ⟨nb, hnb⟩ : ∃ n, bs.length = n := ⟨_, rfl⟩
      rw [hnb] at d1
      obtain ⟨ms, m1, m2, m3⟩ := hL
      have hlk : (ls.take k).length = k := by rw [List.length_take, HN.out]; omega
      obtain ⟨A3, c3, rfl⟩ := own_sl m2
      have HNB := Lib.hid hnb; have HE1 := Lib.hid e1; have M1 := Lib.hid m1; have M2 := Lib.hid m2; have M3 := Lib.hid m3; have HLK := Lib.hid hlk
      have HMD : Hid (Made wr (.slice Ab nb cb) bs nb) := Lib.hid ⟨Ab, cb, rfl, hr.more hbel.size, hnb, by omega, hcm, h256, hno⟩
      have HFRB : Hid (∀ b o n' c', Value.slice Ab nb cb = .slice (some ⟨b, o, none⟩) n' c' → bs ≠ [] → b < w.heap.size) := Lib.hid (fun b o n' c' hv hne => by
        obtain ⟨g', o', hA, hlt', _⟩ := hr (by simpa [u8s] using hne)
        injection hv with hA2 _ _
        rw [hA2] at hA
        injection hA with hA
        injection hA with hA _
        omega)
      have hbx := ((Below.refl wr.heap.size wr).alloc (Nat.le_refl _) (.cells #[.int .i64 to, .slice Ab nb cb] 98))
      have hbx2 := hbx.alloc (by simp) (.cells #[.int .i64 to, .slice Ab nb cb] 103)
      have HBX := Lib.hid hbx2
      have m2' := own_below m2 hbx2
      simp only [hlk] at m2' ⊢
      have M2' := Lib.hid m2'
      have HW : Hid ((wr.alloc (.cells #[.int .i64 to, .slice Ab nb cb] 98)).heap.size = wr.heap.size + 1) := Lib.hid (by simp)
      have hss := hbel.size
      have HNW := Lib.hid (nw2 (wr.alloc (.cells #[.int .i64 to, .slice Ab nb cb] 98)) 103 (.int .i64 to) (.slice Ab nb cb))
      rw [HW.out] at HNW
      have HW2 : Hid (w.heap.size ≤ ((wr.alloc (.cells #[.int .i64 to, .slice Ab nb cb] 98)).alloc (.cells #[.int .i64 to, .slice Ab nb cb] 103)).heap.size) := Lib.hid (by simp; omega)
      clear hbel hr h256 hno hnb e1 m1 m2 m3 hlk hbx hbx2 m2' hc hcm
      go_wp2_with (at_builtin; go_must (refine wpList_append_own_at _ rfl (.tmp 13) (.tmp 15) 92 rfl w.heap.size 103 i0 (.agg #[.int .i64 0, .slice none 0 0]) 2 32 Try.underlying92 hi hz0 hz1 hz2 rfl (by decide) _ k (fl2 ms) rfl M2'.out ⟨wr.heap.size + 1, 0, none⟩ 1 1 [.int .i64 to, .slice Ab nb cb] rfl rfl HNW.out (by intro u hu; simp at hu; rcases hu with rfl | rfl <;> rfl) (by unfold maxLen; omega) (by omega) HW2.out ?_; intro v3 w3 ho3 hg3 hn3 hat3; have HO3 := Lib.hid ho3; have HG3 := Lib.hid hg3; have HAT := Lib.hid hat3; clear ho3 hg3 hn3 hat3))
      go_roundw
      case rel =>
        refine ⟨k + 1, by go_num, by omega, ?_, ?_⟩
        · have htk : ls.take (k + 1) = ls.take k ++ [(to, bs)] := by rw [List.take_add_one, HE1.out]; rfl
          rw [htk]
          refine LRow.push (ms := ms) (v := .slice A3 (ls.take k).length c3) (w2 := (wr.alloc (.cells #[.int .i64 to, .slice Ab nb cb] 98)).alloc (.cells #[.int .i64 to, .slice Ab nb cb] 103)) M1.out (own_below M2.out HBX.out) (fun j m x hm hx => ⟨(M3.out j m x hm hx).1, (M3.out j m x hm hx).2.below HBX.out⟩) (by rw [HLK.out]; exact HO3.out) (by rw [HLK.out]; exact HG3.out) (by rw [HLK.out]; exact HAT.out) ?_
          refine MadeO.below ⟨?_, fun b o n' c' hv hne hj => ?_⟩ HBX.out
          · rw [HNB.out]; exact HMD.out
          · have h5 := HFRB.out b o n' c' hv hne
            have h6 := (M2.out.lt b hj).1
            omega
        · have hb3 := HB.out.trans (HBX.out.mono HB.out.size)
          exact hb3.trans ⟨HG3.out.os, HG3.out.tape, HG3.out.output, HG3.out.size, fun j hj => HG3.out.block j (by have := HW2.out; omega) (fun h => by have := (M2'.out.lt j h.symm).1; omega)⟩
      case measure => simp [intOf]; omega
    · obtain rfl : k = n := by omega
      have hP : OwnNPost w ls (.returned u3) wr := ⟨u3, rfl, by
        rw [List.take_of_length_le (by rw [HN.out]; exact Nat.le_refl _)] at hL; exact hL, hbel⟩
      have HP := Lib.hid hP
      clear hP hL hbel
      go_wp2
      go_ret
      exact HP.out
theorem let_take {l1 l2 : List Let} {k : Nat} {x y : Let} (h : l1.take k = l2.take k) (h1 : l1[k]? = some x) (h2 : l2[k]? = some y) (e : x = y) : l1.take (k + 1) = l2.take (k + 1) := by
  rw [List.take_add_one, List.take_add_one, h, h1, h2, e]
set_option maxHeartbeats 3000000 in
set_option maxRecDepth 100000 in
theorem LSame_any (w : World) (A1 A2 : Option Addr) (n1 n2 c1 c2 : Nat) (l1 l2 : List Let) (h1 : LetR w w.heap.size A1 l1) (h2 : LetR w w.heap.size A2 l2) (hn1 : l1.length = n1) (hn2 : l2.length = n2) (hl1 : n1 ≤ 1000) (hl2 : n2 ≤ 1000) :
    Calls Try.prog 58 #[.slice A1 n1 c1, .slice A2 n2 c2] w (BoolN w (decide (l1 = l2))) := by
  have HB0 := Lib.hid (Below.refl w.heap.size w)
  by_cases hne : n1 = n2
  · subst hne
    have H1 := Lib.hid h1; have H2 := Lib.hid h2; have HN1 := Lib.hid hn1; have HN2 := Lib.hid hn2
    clear h1 h2 hn1 hn2
    go_enter Try.func58, Try.ntmps58
    go_wp2
    go_loopw [5] (fun s5 wr => ∃ k : Nat, s5 = .int .i64 (k : Int) ∧ k ≤ n1 ∧ Hid (l1.take k = l2.take k) ∧ Below w.heap.size w wr) (fun s5 _ => n1 - (intOf s5).toNat)
    case atStart => exact ⟨0, rfl, by omega, Lib.hid rfl, HB0.out⟩
    case round =>
      clear HB0
      obtain ⟨k, rfl, hk, ht, hbel⟩ := hrel
      have HB := Lib.hid hbel
      by_cases hlt : k < n1
      · obtain ⟨ga, o1, to1, b1, Ab1, cb1, rfl, hg1, hx, a0, a1, hr1, -, -, -, h256a⟩ := LetR.row (LetR.below H1.out hbel) (k := k) (by rw [HN1.out]; exact hlt)
        obtain ⟨gb, o2, to2, b2, Ab2, cb2, rfl, hg2, hy, c0, c1', hr2, -, -, -, h256b⟩ := LetR.row (LetR.below H2.out hbel) (k := k) (by rw [HN2.out]; exact hlt)
        have hg1w : ga < wr.heap.size := World.block_lt_of_cell? _ _ a0
        have hg2w : gb < wr.heap.size := World.block_lt_of_cell? _ _ c0
        have hlI : (k : Int) < (n1 : Int) := by omega
        obtain ⟨m1, hm1⟩ : ∃ n, b1.length = n := ⟨_, rfl⟩
        obtain ⟨m2, hm2⟩ : ∃ n, b2.length = n := ⟨_, rfl⟩
        rw [hm1] at a1; rw [hm2] at c1'
        obtain ⟨x1, hx1⟩ : ∃ x, str b1 = x := ⟨_, rfl⟩
        obtain ⟨x2, hx2⟩ : ∃ x, str b2 = x := ⟨_, rfl⟩
        have s1 : ∀ W : World, Below wr.heap.size wr W → (convert 32 9 (.slice Ab1 m1 cb1)).run Try.prog W = .ok (.string x1) W := fun W hW => by
          rw [← hx1]
          exact run_str (P := Try.prog) W Try.underlying32 Try.underlying5 Try.underlying9 (hr1.below (hW.mono hbel.size)) hm1
        have s2 : ∀ W : World, Below wr.heap.size wr W → (convert 32 9 (.slice Ab2 m2 cb2)).run Try.prog W = .ok (.string x2) W := fun W hW => by
          rw [← hx2]
          exact run_str (P := Try.prog) W Try.underlying32 Try.underlying5 Try.underlying9 (hr2.below (hW.mono hbel.size)) hm2
        clear hr1 hr2 hbel
        by_cases hto : to1 = to2
        · subst hto
          by_cases hbb : b1 = b2
          · subst hbb
            obtain rfl : m1 = m2 := by omega
            obtain rfl : x1 = x2 := by rw [← hx1, ← hx2]
            have R := Lib.hid (let_take ht.out hx hy rfl)
            clear hx hy ht hx1 hx2 hm1 hm2 h256a h256b
            go_wp2
            refine Inv.region_below (fun i v w' => match i with
                | 0 => v = .slice (some ⟨ga, o1, none⟩) n1 c1
                | 1 => v = .int .i64 (k : Int)
                | 2 => v = .pointer (some ⟨ga, o1 + k * 2, none⟩)
                | 3 => v = .pointer (some ⟨ga, o1 + k * 2, none⟩)
                | 4 => v = .int .i64 to1
                | 5 => v = .slice (some ⟨gb, o2, none⟩) n1 c2
                | 6 => v = .int .i64 (k : Int)
                | 7 => v = .pointer (some ⟨gb, o2 + k * 2, none⟩)
                | 8 => v = .pointer (some ⟨gb, o2 + k * 2, none⟩)
                | 9 => v = .int .i64 to1
                | 10 => v = .bool false
                | 11 => v = .bool false
                | 12 => v = .slice (some ⟨ga, o1, none⟩) n1 c1
                | 13 => v = .int .i64 (k : Int)
                | 14 => v = .pointer (some ⟨ga, o1 + k * 2, none⟩)
                | 15 => v = .pointer (some ⟨ga, o1 + k * 2 + 1, none⟩)
                | 16 => v = .slice Ab1 m1 cb1
                | 17 => v = .string x1
                | 18 => v = .slice (some ⟨gb, o2, none⟩) n1 c2
                | 19 => v = .int .i64 (k : Int)
                | 20 => v = .pointer (some ⟨gb, o2 + k * 2, none⟩)
                | 21 => v = .pointer (some ⟨gb, o2 + k * 2 + 1, none⟩)
                | 22 => v = .slice Ab2 m1 cb2
                | 23 => v = .string x1
                | 24 => v = .bool false
                | 25 => v = .bool false
                | _ => True)
              (fun w' => Below wr.heap.size wr w' ∧ True) 43 [17, 18, 19, 20, 21, 22, 23, 24, 25, 26, 27, 28, 29, 30, 31, 32, 33, 34, 35, 36, 37, 38, 39, 40, 41, 42] (by kernel_rfl) rfl (by kernel_rfl) (by kernel_rfl) ?_ ?_ ?_ ?_
            · intro v v' hC hb
              obtain ⟨hB, -⟩ := hC
              exact ⟨hB.trans (hb.mono hB.size), trivial⟩
            · exact ⟨(Below.refl _ _).drew, trivial⟩
            · refine ⟨⟨fun _ _ _ h _ => h, ?_⟩, ⟨fun _ _ _ h _ => h, ?_⟩, ⟨fun _ _ _ h _ => h, ?_⟩, ⟨fun _ _ _ h _ => h, ?_⟩, ⟨fun _ _ _ h _ => h, ?_⟩, ⟨fun _ _ _ h _ => h, ?_⟩, ⟨fun _ _ _ h _ => h, ?_⟩, ⟨fun _ _ _ h _ => h, ?_⟩, ⟨fun _ _ _ h _ => h, ?_⟩, ⟨fun _ _ _ h _ => h, ?_⟩, ⟨fun _ _ _ h _ => h, ?_⟩, ⟨fun _ _ _ h _ => h, ?_⟩, ⟨fun _ _ _ h _ => h, ?_⟩, ⟨fun _ _ _ h _ => h, ?_⟩, ⟨fun _ _ _ h _ => h, ?_⟩, ⟨fun _ _ _ h _ => h, ?_⟩, ⟨fun _ _ _ h _ => h, ?_⟩, ⟨fun _ _ _ h _ => h, ?_⟩, ⟨fun _ _ _ h _ => h, ?_⟩, ⟨fun _ _ _ h _ => h, ?_⟩, ⟨fun _ _ _ h _ => h, ?_⟩, ⟨fun _ _ _ h _ => h, ?_⟩, ⟨fun _ _ _ h _ => h, ?_⟩, ⟨fun _ _ _ h _ => h, ?_⟩, ⟨fun _ _ _ h _ => h, ?_⟩, ⟨fun _ _ _ h _ => h, ?_⟩, trivial⟩
              · intro act wa hC hd H O K hK
                clear hd
                obtain ⟨hB, -⟩ := hC
                have h0 := O 0 (by kernel_rfl)
                have g0 := Array.getD_eq_getD_getElem?.symm.trans h0
                clear H O
                have ya := (hB.cell (p := ⟨ga, o1 + k * 2, none⟩) hg1w).trans a0
                have yb := (hB.cell (p := ⟨ga, o1 + k * 2 + 1, none⟩) hg1w).trans a1
                have yc := (hB.cell (p := ⟨gb, o2 + k * 2, none⟩) hg2w).trans c0
                have yd := (hB.cell (p := ⟨gb, o2 + k * 2 + 1, none⟩) hg2w).trans c1'
                go_simp
                exact hK _ _ (Below.refl _ _) (fun _ => rfl)
              · intro act wa hC hd H O K hK
                clear hd
                obtain ⟨hB, -⟩ := hC
                have h5 := O 5 (by kernel_rfl)
                have g5 := Array.getD_eq_getD_getElem?.symm.trans h5
                clear H O
                have ya := (hB.cell (p := ⟨ga, o1 + k * 2, none⟩) hg1w).trans a0
                have yb := (hB.cell (p := ⟨ga, o1 + k * 2 + 1, none⟩) hg1w).trans a1
                have yc := (hB.cell (p := ⟨gb, o2 + k * 2, none⟩) hg2w).trans c0
                have yd := (hB.cell (p := ⟨gb, o2 + k * 2 + 1, none⟩) hg2w).trans c1'
                go_simp
                exact hK _ _ (Below.refl _ _) (fun _ => rfl)
              · intro act wa hC hd H O K hK
                clear hd
                obtain ⟨hB, -⟩ := hC
                have h17 : act.tmps.getD 17 undef = .slice (some ⟨ga, o1, none⟩) n1 c1 := H 1 0 17 (by kernel_rfl) rfl
                have g17 := Array.getD_eq_getD_getElem?.symm.trans h17
                have h18 : act.tmps.getD 18 undef = .int .i64 (k : Int) := H 1 1 18 (by kernel_rfl) rfl
                have g18 := Array.getD_eq_getD_getElem?.symm.trans h18
                clear H O
                have ya := (hB.cell (p := ⟨ga, o1 + k * 2, none⟩) hg1w).trans a0
                have yb := (hB.cell (p := ⟨ga, o1 + k * 2 + 1, none⟩) hg1w).trans a1
                have yc := (hB.cell (p := ⟨gb, o2 + k * 2, none⟩) hg2w).trans c0
                have yd := (hB.cell (p := ⟨gb, o2 + k * 2 + 1, none⟩) hg2w).trans c1'
                go_simp
                exact hK _ _ (Below.refl _ _) (fun _ => rfl)
              · intro act wa hC hd H O K hK
                clear hd
                obtain ⟨hB, -⟩ := hC
                have h19 : act.tmps.getD 19 undef = .pointer (some ⟨ga, o1 + k * 2, none⟩) := H 1 2 19 (by kernel_rfl) rfl
                have g19 := Array.getD_eq_getD_getElem?.symm.trans h19
                clear H O
                have ya := (hB.cell (p := ⟨ga, o1 + k * 2, none⟩) hg1w).trans a0
                have yb := (hB.cell (p := ⟨ga, o1 + k * 2 + 1, none⟩) hg1w).trans a1
                have yc := (hB.cell (p := ⟨gb, o2 + k * 2, none⟩) hg2w).trans c0
                have yd := (hB.cell (p := ⟨gb, o2 + k * 2 + 1, none⟩) hg2w).trans c1'
                go_simp
                exact hK _ _ (Below.refl _ _) (fun _ => rfl)
              · intro act wa hC hd H O K hK
                clear hd
                obtain ⟨hB, -⟩ := hC
                have h20 : act.tmps.getD 20 undef = .pointer (some ⟨ga, o1 + k * 2, none⟩) := H 1 3 20 (by kernel_rfl) rfl
                have g20 := Array.getD_eq_getD_getElem?.symm.trans h20
                clear H O
                have ya := (hB.cell (p := ⟨ga, o1 + k * 2, none⟩) hg1w).trans a0
                have yb := (hB.cell (p := ⟨ga, o1 + k * 2 + 1, none⟩) hg1w).trans a1
                have yc := (hB.cell (p := ⟨gb, o2 + k * 2, none⟩) hg2w).trans c0
                have yd := (hB.cell (p := ⟨gb, o2 + k * 2 + 1, none⟩) hg2w).trans c1'
                go_simp
                exact hK _ _ (Below.refl _ _) (fun _ => rfl)
              · intro act wa hC hd H O K hK
                clear hd
                obtain ⟨hB, -⟩ := hC
                have h1 := O 1 (by kernel_rfl)
                have g1 := Array.getD_eq_getD_getElem?.symm.trans h1
                clear H O
                have ya := (hB.cell (p := ⟨ga, o1 + k * 2, none⟩) hg1w).trans a0
                have yb := (hB.cell (p := ⟨ga, o1 + k * 2 + 1, none⟩) hg1w).trans a1
                have yc := (hB.cell (p := ⟨gb, o2 + k * 2, none⟩) hg2w).trans c0
                have yd := (hB.cell (p := ⟨gb, o2 + k * 2 + 1, none⟩) hg2w).trans c1'
                go_simp
                exact hK _ _ (Below.refl _ _) (fun _ => rfl)
              · intro act wa hC hd H O K hK
                clear hd
                obtain ⟨hB, -⟩ := hC
                have h5 := O 5 (by kernel_rfl)
                have g5 := Array.getD_eq_getD_getElem?.symm.trans h5
                clear H O
                have ya := (hB.cell (p := ⟨ga, o1 + k * 2, none⟩) hg1w).trans a0
                have yb := (hB.cell (p := ⟨ga, o1 + k * 2 + 1, none⟩) hg1w).trans a1
                have yc := (hB.cell (p := ⟨gb, o2 + k * 2, none⟩) hg2w).trans c0
                have yd := (hB.cell (p := ⟨gb, o2 + k * 2 + 1, none⟩) hg2w).trans c1'
                go_simp
                exact hK _ _ (Below.refl _ _) (fun _ => rfl)
              · intro act wa hC hd H O K hK
                clear hd
                obtain ⟨hB, -⟩ := hC
                have h22 : act.tmps.getD 22 undef = .slice (some ⟨gb, o2, none⟩) n1 c2 := H 1 5 22 (by kernel_rfl) rfl
                have g22 := Array.getD_eq_getD_getElem?.symm.trans h22
                have h23 : act.tmps.getD 23 undef = .int .i64 (k : Int) := H 1 6 23 (by kernel_rfl) rfl
                have g23 := Array.getD_eq_getD_getElem?.symm.trans h23
                clear H O
                have ya := (hB.cell (p := ⟨ga, o1 + k * 2, none⟩) hg1w).trans a0
                have yb := (hB.cell (p := ⟨ga, o1 + k * 2 + 1, none⟩) hg1w).trans a1
                have yc := (hB.cell (p := ⟨gb, o2 + k * 2, none⟩) hg2w).trans c0
                have yd := (hB.cell (p := ⟨gb, o2 + k * 2 + 1, none⟩) hg2w).trans c1'
                go_simp
                exact hK _ _ (Below.refl _ _) (fun _ => rfl)
              · intro act wa hC hd H O K hK
                clear hd
                obtain ⟨hB, -⟩ := hC
                have h24 : act.tmps.getD 24 undef = .pointer (some ⟨gb, o2 + k * 2, none⟩) := H 1 7 24 (by kernel_rfl) rfl
                have g24 := Array.getD_eq_getD_getElem?.symm.trans h24
                clear H O
                have ya := (hB.cell (p := ⟨ga, o1 + k * 2, none⟩) hg1w).trans a0
                have yb := (hB.cell (p := ⟨ga, o1 + k * 2 + 1, none⟩) hg1w).trans a1
                have yc := (hB.cell (p := ⟨gb, o2 + k * 2, none⟩) hg2w).trans c0
                have yd := (hB.cell (p := ⟨gb, o2 + k * 2 + 1, none⟩) hg2w).trans c1'
                go_simp
                exact hK _ _ (Below.refl _ _) (fun _ => rfl)
              · intro act wa hC hd H O K hK
                clear hd
                obtain ⟨hB, -⟩ := hC
                have h25 : act.tmps.getD 25 undef = .pointer (some ⟨gb, o2 + k * 2, none⟩) := H 1 8 25 (by kernel_rfl) rfl
                have g25 := Array.getD_eq_getD_getElem?.symm.trans h25
                clear H O
                have ya := (hB.cell (p := ⟨ga, o1 + k * 2, none⟩) hg1w).trans a0
                have yb := (hB.cell (p := ⟨ga, o1 + k * 2 + 1, none⟩) hg1w).trans a1
                have yc := (hB.cell (p := ⟨gb, o2 + k * 2, none⟩) hg2w).trans c0
                have yd := (hB.cell (p := ⟨gb, o2 + k * 2 + 1, none⟩) hg2w).trans c1'
                go_simp
                exact hK _ _ (Below.refl _ _) (fun _ => rfl)
              · intro act wa hC hd H O K hK
                clear hd
                obtain ⟨hB, -⟩ := hC
                have h21 : act.tmps.getD 21 undef = .int .i64 to1 := H 1 4 21 (by kernel_rfl) rfl
                have g21 := Array.getD_eq_getD_getElem?.symm.trans h21
                have h26 : act.tmps.getD 26 undef = .int .i64 to1 := H 1 9 26 (by kernel_rfl) rfl
                have g26 := Array.getD_eq_getD_getElem?.symm.trans h26
                clear H O
                have ya := (hB.cell (p := ⟨ga, o1 + k * 2, none⟩) hg1w).trans a0
                have yb := (hB.cell (p := ⟨ga, o1 + k * 2 + 1, none⟩) hg1w).trans a1
                have yc := (hB.cell (p := ⟨gb, o2 + k * 2, none⟩) hg2w).trans c0
                have yd := (hB.cell (p := ⟨gb, o2 + k * 2 + 1, none⟩) hg2w).trans c1'
                go_simp
                exact hK _ _ (Below.refl _ _) (fun _ => rfl)
              · intro act wa hC hd H O K hK
                clear hd
                obtain ⟨hB, -⟩ := hC
                have h27 : act.tmps.getD 27 undef = .bool false := H 1 10 27 (by kernel_rfl) rfl
                have g27 := Array.getD_eq_getD_getElem?.symm.trans h27
                clear H O
                have ya := (hB.cell (p := ⟨ga, o1 + k * 2, none⟩) hg1w).trans a0
                have yb := (hB.cell (p := ⟨ga, o1 + k * 2 + 1, none⟩) hg1w).trans a1
                have yc := (hB.cell (p := ⟨gb, o2 + k * 2, none⟩) hg2w).trans c0
                have yd := (hB.cell (p := ⟨gb, o2 + k * 2 + 1, none⟩) hg2w).trans c1'
                go_simp
                exact hK _ _ (Below.refl _ _) (fun _ => rfl)
              · intro act wa hC hd H O K hK
                clear hd
                obtain ⟨hB, -⟩ := hC
                have h0 := O 0 (by kernel_rfl)
                have g0 := Array.getD_eq_getD_getElem?.symm.trans h0
                have h28 : act.tmps.getD 28 undef = .bool false := H 1 11 28 (by kernel_rfl) rfl
                have g28 := Array.getD_eq_getD_getElem?.symm.trans h28
                have k28 := Inv.some_bool g28
                clear H O
                have ya := (hB.cell (p := ⟨ga, o1 + k * 2, none⟩) hg1w).trans a0
                have yb := (hB.cell (p := ⟨ga, o1 + k * 2 + 1, none⟩) hg1w).trans a1
                have yc := (hB.cell (p := ⟨gb, o2 + k * 2, none⟩) hg2w).trans c0
                have yd := (hB.cell (p := ⟨gb, o2 + k * 2 + 1, none⟩) hg2w).trans c1'
                go_simp
                exact hK _ _ (Below.refl _ _) (fun _ => rfl)
              · intro act wa hC hd H O K hK
                clear hd
                obtain ⟨hB, -⟩ := hC
                have h5 := O 5 (by kernel_rfl)
                have g5 := Array.getD_eq_getD_getElem?.symm.trans h5
                have h28 : act.tmps.getD 28 undef = .bool false := H 1 11 28 (by kernel_rfl) rfl
                have g28 := Array.getD_eq_getD_getElem?.symm.trans h28
                have k28 := Inv.some_bool g28
                clear H O
                have ya := (hB.cell (p := ⟨ga, o1 + k * 2, none⟩) hg1w).trans a0
                have yb := (hB.cell (p := ⟨ga, o1 + k * 2 + 1, none⟩) hg1w).trans a1
                have yc := (hB.cell (p := ⟨gb, o2 + k * 2, none⟩) hg2w).trans c0
                have yd := (hB.cell (p := ⟨gb, o2 + k * 2 + 1, none⟩) hg2w).trans c1'
                go_simp
                exact hK _ _ (Below.refl _ _) (fun _ => rfl)
              · intro act wa hC hd H O K hK
                clear hd
                obtain ⟨hB, -⟩ := hC
                have h29 : act.tmps.getD 29 undef = .slice (some ⟨ga, o1, none⟩) n1 c1 := H 1 12 29 (by kernel_rfl) rfl
                have g29 := Array.getD_eq_getD_getElem?.symm.trans h29
                have h30 : act.tmps.getD 30 undef = .int .i64 (k : Int) := H 1 13 30 (by kernel_rfl) rfl
                have g30 := Array.getD_eq_getD_getElem?.symm.trans h30
                have h28 : act.tmps.getD 28 undef = .bool false := H 1 11 28 (by kernel_rfl) rfl
                have g28 := Array.getD_eq_getD_getElem?.symm.trans h28
                have k28 := Inv.some_bool g28
                clear H O
                have ya := (hB.cell (p := ⟨ga, o1 + k * 2, none⟩) hg1w).trans a0
                have yb := (hB.cell (p := ⟨ga, o1 + k * 2 + 1, none⟩) hg1w).trans a1
                have yc := (hB.cell (p := ⟨gb, o2 + k * 2, none⟩) hg2w).trans c0
                have yd := (hB.cell (p := ⟨gb, o2 + k * 2 + 1, none⟩) hg2w).trans c1'
                go_simp
                exact hK _ _ (Below.refl _ _) (fun _ => rfl)
              · intro act wa hC hd H O K hK
                clear hd
                obtain ⟨hB, -⟩ := hC
                have h31 : act.tmps.getD 31 undef = .pointer (some ⟨ga, o1 + k * 2, none⟩) := H 1 14 31 (by kernel_rfl) rfl
                have g31 := Array.getD_eq_getD_getElem?.symm.trans h31
                have h28 : act.tmps.getD 28 undef = .bool false := H 1 11 28 (by kernel_rfl) rfl
                have g28 := Array.getD_eq_getD_getElem?.symm.trans h28
                have k28 := Inv.some_bool g28
                clear H O
                have ya := (hB.cell (p := ⟨ga, o1 + k * 2, none⟩) hg1w).trans a0
                have yb := (hB.cell (p := ⟨ga, o1 + k * 2 + 1, none⟩) hg1w).trans a1
                have yc := (hB.cell (p := ⟨gb, o2 + k * 2, none⟩) hg2w).trans c0
                have yd := (hB.cell (p := ⟨gb, o2 + k * 2 + 1, none⟩) hg2w).trans c1'
                go_simp
                exact hK _ _ (Below.refl _ _) (fun _ => rfl)
              · intro act wa hC hd H O K hK
                clear hd
                obtain ⟨hB, -⟩ := hC
                have h32 : act.tmps.getD 32 undef = .pointer (some ⟨ga, o1 + k * 2 + 1, none⟩) := H 1 15 32 (by kernel_rfl) rfl
                have g32 := Array.getD_eq_getD_getElem?.symm.trans h32
                have h28 : act.tmps.getD 28 undef = .bool false := H 1 11 28 (by kernel_rfl) rfl
                have g28 := Array.getD_eq_getD_getElem?.symm.trans h28
                have k28 := Inv.some_bool g28
                clear H O
                have ya := (hB.cell (p := ⟨ga, o1 + k * 2, none⟩) hg1w).trans a0
                have yb := (hB.cell (p := ⟨ga, o1 + k * 2 + 1, none⟩) hg1w).trans a1
                have yc := (hB.cell (p := ⟨gb, o2 + k * 2, none⟩) hg2w).trans c0
                have yd := (hB.cell (p := ⟨gb, o2 + k * 2 + 1, none⟩) hg2w).trans c1'
                go_simp
                exact hK _ _ (Below.refl _ _) (fun _ => rfl)
              · intro act wa hC hd H O K hK
                clear hd
                obtain ⟨hB, -⟩ := hC
                have h33 : act.tmps.getD 33 undef = .slice Ab1 m1 cb1 := H 1 16 33 (by kernel_rfl) rfl
                have g33 := Array.getD_eq_getD_getElem?.symm.trans h33
                have h28 : act.tmps.getD 28 undef = .bool false := H 1 11 28 (by kernel_rfl) rfl
                have g28 := Array.getD_eq_getD_getElem?.symm.trans h28
                have k28 := Inv.some_bool g28
                clear H O
                have ya := (hB.cell (p := ⟨ga, o1 + k * 2, none⟩) hg1w).trans a0
                have yb := (hB.cell (p := ⟨ga, o1 + k * 2 + 1, none⟩) hg1w).trans a1
                have yc := (hB.cell (p := ⟨gb, o2 + k * 2, none⟩) hg2w).trans c0
                have yd := (hB.cell (p := ⟨gb, o2 + k * 2 + 1, none⟩) hg2w).trans c1'
                have s := s1 wa hB
                go_simp
                exact hK _ _ (Below.refl _ _) (fun _ => rfl)
              · intro act wa hC hd H O K hK
                clear hd
                obtain ⟨hB, -⟩ := hC
                have h1 := O 1 (by kernel_rfl)
                have g1 := Array.getD_eq_getD_getElem?.symm.trans h1
                have h28 : act.tmps.getD 28 undef = .bool false := H 1 11 28 (by kernel_rfl) rfl
                have g28 := Array.getD_eq_getD_getElem?.symm.trans h28
                have k28 := Inv.some_bool g28
                clear H O
                have ya := (hB.cell (p := ⟨ga, o1 + k * 2, none⟩) hg1w).trans a0
                have yb := (hB.cell (p := ⟨ga, o1 + k * 2 + 1, none⟩) hg1w).trans a1
                have yc := (hB.cell (p := ⟨gb, o2 + k * 2, none⟩) hg2w).trans c0
                have yd := (hB.cell (p := ⟨gb, o2 + k * 2 + 1, none⟩) hg2w).trans c1'
                go_simp
                exact hK _ _ (Below.refl _ _) (fun _ => rfl)
              · intro act wa hC hd H O K hK
                clear hd
                obtain ⟨hB, -⟩ := hC
                have h5 := O 5 (by kernel_rfl)
                have g5 := Array.getD_eq_getD_getElem?.symm.trans h5
                have h28 : act.tmps.getD 28 undef = .bool false := H 1 11 28 (by kernel_rfl) rfl
                have g28 := Array.getD_eq_getD_getElem?.symm.trans h28
                have k28 := Inv.some_bool g28
                clear H O
                have ya := (hB.cell (p := ⟨ga, o1 + k * 2, none⟩) hg1w).trans a0
                have yb := (hB.cell (p := ⟨ga, o1 + k * 2 + 1, none⟩) hg1w).trans a1
                have yc := (hB.cell (p := ⟨gb, o2 + k * 2, none⟩) hg2w).trans c0
                have yd := (hB.cell (p := ⟨gb, o2 + k * 2 + 1, none⟩) hg2w).trans c1'
                go_simp
                exact hK _ _ (Below.refl _ _) (fun _ => rfl)
              · intro act wa hC hd H O K hK
                clear hd
                obtain ⟨hB, -⟩ := hC
                have h35 : act.tmps.getD 35 undef = .slice (some ⟨gb, o2, none⟩) n1 c2 := H 1 18 35 (by kernel_rfl) rfl
                have g35 := Array.getD_eq_getD_getElem?.symm.trans h35
                have h36 : act.tmps.getD 36 undef = .int .i64 (k : Int) := H 1 19 36 (by kernel_rfl) rfl
                have g36 := Array.getD_eq_getD_getElem?.symm.trans h36
                have h28 : act.tmps.getD 28 undef = .bool false := H 1 11 28 (by kernel_rfl) rfl
                have g28 := Array.getD_eq_getD_getElem?.symm.trans h28
                have k28 := Inv.some_bool g28
                clear H O
                have ya := (hB.cell (p := ⟨ga, o1 + k * 2, none⟩) hg1w).trans a0
                have yb := (hB.cell (p := ⟨ga, o1 + k * 2 + 1, none⟩) hg1w).trans a1
                have yc := (hB.cell (p := ⟨gb, o2 + k * 2, none⟩) hg2w).trans c0
                have yd := (hB.cell (p := ⟨gb, o2 + k * 2 + 1, none⟩) hg2w).trans c1'
                go_simp
                exact hK _ _ (Below.refl _ _) (fun _ => rfl)
              · intro act wa hC hd H O K hK
                clear hd
                obtain ⟨hB, -⟩ := hC
                have h37 : act.tmps.getD 37 undef = .pointer (some ⟨gb, o2 + k * 2, none⟩) := H 1 20 37 (by kernel_rfl) rfl
                have g37 := Array.getD_eq_getD_getElem?.symm.trans h37
                have h28 : act.tmps.getD 28 undef = .bool false := H 1 11 28 (by kernel_rfl) rfl
                have g28 := Array.getD_eq_getD_getElem?.symm.trans h28
                have k28 := Inv.some_bool g28
                clear H O
                have ya := (hB.cell (p := ⟨ga, o1 + k * 2, none⟩) hg1w).trans a0
                have yb := (hB.cell (p := ⟨ga, o1 + k * 2 + 1, none⟩) hg1w).trans a1
                have yc := (hB.cell (p := ⟨gb, o2 + k * 2, none⟩) hg2w).trans c0
                have yd := (hB.cell (p := ⟨gb, o2 + k * 2 + 1, none⟩) hg2w).trans c1'
                go_simp
                exact hK _ _ (Below.refl _ _) (fun _ => rfl)
              · intro act wa hC hd H O K hK
                clear hd
                obtain ⟨hB, -⟩ := hC
                have h38 : act.tmps.getD 38 undef = .pointer (some ⟨gb, o2 + k * 2 + 1, none⟩) := H 1 21 38 (by kernel_rfl) rfl
                have g38 := Array.getD_eq_getD_getElem?.symm.trans h38
                have h28 : act.tmps.getD 28 undef = .bool false := H 1 11 28 (by kernel_rfl) rfl
                have g28 := Array.getD_eq_getD_getElem?.symm.trans h28
                have k28 := Inv.some_bool g28
                clear H O
                have ya := (hB.cell (p := ⟨ga, o1 + k * 2, none⟩) hg1w).trans a0
                have yb := (hB.cell (p := ⟨ga, o1 + k * 2 + 1, none⟩) hg1w).trans a1
                have yc := (hB.cell (p := ⟨gb, o2 + k * 2, none⟩) hg2w).trans c0
                have yd := (hB.cell (p := ⟨gb, o2 + k * 2 + 1, none⟩) hg2w).trans c1'
                go_simp
                exact hK _ _ (Below.refl _ _) (fun _ => rfl)
              · intro act wa hC hd H O K hK
                clear hd
                obtain ⟨hB, -⟩ := hC
                have h39 : act.tmps.getD 39 undef = .slice Ab2 m1 cb2 := H 1 22 39 (by kernel_rfl) rfl
                have g39 := Array.getD_eq_getD_getElem?.symm.trans h39
                have h28 : act.tmps.getD 28 undef = .bool false := H 1 11 28 (by kernel_rfl) rfl
                have g28 := Array.getD_eq_getD_getElem?.symm.trans h28
                have k28 := Inv.some_bool g28
                clear H O
                have ya := (hB.cell (p := ⟨ga, o1 + k * 2, none⟩) hg1w).trans a0
                have yb := (hB.cell (p := ⟨ga, o1 + k * 2 + 1, none⟩) hg1w).trans a1
                have yc := (hB.cell (p := ⟨gb, o2 + k * 2, none⟩) hg2w).trans c0
                have yd := (hB.cell (p := ⟨gb, o2 + k * 2 + 1, none⟩) hg2w).trans c1'
                have s := s2 wa hB
                go_simp
                exact hK _ _ (Below.refl _ _) (fun _ => rfl)
              · intro act wa hC hd H O K hK
                clear hd
                obtain ⟨hB, -⟩ := hC
                have h34 : act.tmps.getD 34 undef = .string x1 := H 1 17 34 (by kernel_rfl) rfl
                have g34 := Array.getD_eq_getD_getElem?.symm.trans h34
                have h40 : act.tmps.getD 40 undef = .string x1 := H 1 23 40 (by kernel_rfl) rfl
                have g40 := Array.getD_eq_getD_getElem?.symm.trans h40
                have h28 : act.tmps.getD 28 undef = .bool false := H 1 11 28 (by kernel_rfl) rfl
                have g28 := Array.getD_eq_getD_getElem?.symm.trans h28
                have k28 := Inv.some_bool g28
                clear H O
                have ya := (hB.cell (p := ⟨ga, o1 + k * 2, none⟩) hg1w).trans a0
                have yb := (hB.cell (p := ⟨ga, o1 + k * 2 + 1, none⟩) hg1w).trans a1
                have yc := (hB.cell (p := ⟨gb, o2 + k * 2, none⟩) hg2w).trans c0
                have yd := (hB.cell (p := ⟨gb, o2 + k * 2 + 1, none⟩) hg2w).trans c1'
                go_simp
                exact hK _ _ (Below.refl _ _) (fun _ => rfl)
              · intro act wa hC hd H O K hK
                clear hd
                obtain ⟨hB, -⟩ := hC
                have h28 : act.tmps.getD 28 undef = .bool false := H 1 11 28 (by kernel_rfl) rfl
                have g28 := Array.getD_eq_getD_getElem?.symm.trans h28
                have h41 : act.tmps.getD 41 undef = .bool false := H 1 24 41 (by kernel_rfl) rfl
                have g41 := Array.getD_eq_getD_getElem?.symm.trans h41
                clear H O
                have ya := (hB.cell (p := ⟨ga, o1 + k * 2, none⟩) hg1w).trans a0
                have yb := (hB.cell (p := ⟨ga, o1 + k * 2 + 1, none⟩) hg1w).trans a1
                have yc := (hB.cell (p := ⟨gb, o2 + k * 2, none⟩) hg2w).trans c0
                have yd := (hB.cell (p := ⟨gb, o2 + k * 2 + 1, none⟩) hg2w).trans c1'
                go_simp
                exact hK _ _ (Below.refl _ _) (fun _ => rfl)
            · intro us w' hC hF
              obtain ⟨hB, -⟩ := hC
              have u42 : us 42 = .bool false := hF 25 42 rfl
              clear hF
              simp only [List.foldl]
              go_simp
              have e42 : us 42 = .bool false := u42
              have HBB := Lib.hid (HB.out.trans (hB.mono HB.out.size))
              clear hB u42
              try rw [e42]
              go_wp2
              go_roundw
              case rel => exact ⟨k + 1, by go_num, by omega, R, HBB.out⟩
              case measure => simp [intOf]; omega
          · have hxn : x1 ≠ x2 := fun h => hbb (str_inj h256a h256b (by rw [hx1, hx2, h]))
            have hbn := bas_ne hxn
            have R := Lib.hid (show decide (l1 = l2) = false from decide_eq_false (fun h => by subst h; rw [hx] at hy; injection hy with hy; injection hy with _ hy; exact hbb hy))
            clear hx hy ht hx1 hx2 hm1 hm2 h256a h256b hxn hbb
            go_wp2
            refine Inv.region_below (fun i v w' => match i with
                | 0 => v = .slice (some ⟨ga, o1, none⟩) n1 c1
                | 1 => v = .int .i64 (k : Int)
                | 2 => v = .pointer (some ⟨ga, o1 + k * 2, none⟩)
                | 3 => v = .pointer (some ⟨ga, o1 + k * 2, none⟩)
                | 4 => v = .int .i64 to1
                | 5 => v = .slice (some ⟨gb, o2, none⟩) n1 c2
                | 6 => v = .int .i64 (k : Int)
                | 7 => v = .pointer (some ⟨gb, o2 + k * 2, none⟩)
                | 8 => v = .pointer (some ⟨gb, o2 + k * 2, none⟩)
                | 9 => v = .int .i64 to1
                | 10 => v = .bool false
                | 11 => v = .bool false
                | 12 => v = .slice (some ⟨ga, o1, none⟩) n1 c1
                | 13 => v = .int .i64 (k : Int)
                | 14 => v = .pointer (some ⟨ga, o1 + k * 2, none⟩)
                | 15 => v = .pointer (some ⟨ga, o1 + k * 2 + 1, none⟩)
                | 16 => v = .slice Ab1 m1 cb1
                | 17 => v = .string x1
                | 18 => v = .slice (some ⟨gb, o2, none⟩) n1 c2
                | 19 => v = .int .i64 (k : Int)
                | 20 => v = .pointer (some ⟨gb, o2 + k * 2, none⟩)
                | 21 => v = .pointer (some ⟨gb, o2 + k * 2 + 1, none⟩)
                | 22 => v = .slice Ab2 m2 cb2
                | 23 => v = .string x2
                | 24 => v = .bool true
                | 25 => v = .bool true
                | _ => True)
              (fun w' => Below wr.heap.size wr w' ∧ True) 43 [17, 18, 19, 20, 21, 22, 23, 24, 25, 26, 27, 28, 29, 30, 31, 32, 33, 34, 35, 36, 37, 38, 39, 40, 41, 42] (by kernel_rfl) rfl (by kernel_rfl) (by kernel_rfl) ?_ ?_ ?_ ?_
            · intro v v' hC hb
              obtain ⟨hB, -⟩ := hC
              exact ⟨hB.trans (hb.mono hB.size), trivial⟩
            · exact ⟨(Below.refl _ _).drew, trivial⟩
            · refine ⟨⟨fun _ _ _ h _ => h, ?_⟩, ⟨fun _ _ _ h _ => h, ?_⟩, ⟨fun _ _ _ h _ => h, ?_⟩, ⟨fun _ _ _ h _ => h, ?_⟩, ⟨fun _ _ _ h _ => h, ?_⟩, ⟨fun _ _ _ h _ => h, ?_⟩, ⟨fun _ _ _ h _ => h, ?_⟩, ⟨fun _ _ _ h _ => h, ?_⟩, ⟨fun _ _ _ h _ => h, ?_⟩, ⟨fun _ _ _ h _ => h, ?_⟩, ⟨fun _ _ _ h _ => h, ?_⟩, ⟨fun _ _ _ h _ => h, ?_⟩, ⟨fun _ _ _ h _ => h, ?_⟩, ⟨fun _ _ _ h _ => h, ?_⟩, ⟨fun _ _ _ h _ => h, ?_⟩, ⟨fun _ _ _ h _ => h, ?_⟩, ⟨fun _ _ _ h _ => h, ?_⟩, ⟨fun _ _ _ h _ => h, ?_⟩, ⟨fun _ _ _ h _ => h, ?_⟩, ⟨fun _ _ _ h _ => h, ?_⟩, ⟨fun _ _ _ h _ => h, ?_⟩, ⟨fun _ _ _ h _ => h, ?_⟩, ⟨fun _ _ _ h _ => h, ?_⟩, ⟨fun _ _ _ h _ => h, ?_⟩, ⟨fun _ _ _ h _ => h, ?_⟩, ⟨fun _ _ _ h _ => h, ?_⟩, trivial⟩
              · intro act wa hC hd H O K hK
                clear hd
                obtain ⟨hB, -⟩ := hC
                have h0 := O 0 (by kernel_rfl)
                have g0 := Array.getD_eq_getD_getElem?.symm.trans h0
                clear H O
                have ya := (hB.cell (p := ⟨ga, o1 + k * 2, none⟩) hg1w).trans a0
                have yb := (hB.cell (p := ⟨ga, o1 + k * 2 + 1, none⟩) hg1w).trans a1
                have yc := (hB.cell (p := ⟨gb, o2 + k * 2, none⟩) hg2w).trans c0
                have yd := (hB.cell (p := ⟨gb, o2 + k * 2 + 1, none⟩) hg2w).trans c1'
                go_simp
                exact hK _ _ (Below.refl _ _) (fun _ => rfl)
              · intro act wa hC hd H O K hK
                clear hd
                obtain ⟨hB, -⟩ := hC
                have h5 := O 5 (by kernel_rfl)
                have g5 := Array.getD_eq_getD_getElem?.symm.trans h5
                clear H O
                have ya := (hB.cell (p := ⟨ga, o1 + k * 2, none⟩) hg1w).trans a0
                have yb := (hB.cell (p := ⟨ga, o1 + k * 2 + 1, none⟩) hg1w).trans a1
                have yc := (hB.cell (p := ⟨gb, o2 + k * 2, none⟩) hg2w).trans c0
                have yd := (hB.cell (p := ⟨gb, o2 + k * 2 + 1, none⟩) hg2w).trans c1'
                go_simp
                exact hK _ _ (Below.refl _ _) (fun _ => rfl)
              · intro act wa hC hd H O K hK
                clear hd
                obtain ⟨hB, -⟩ := hC
                have h17 : act.tmps.getD 17 undef = .slice (some ⟨ga, o1, none⟩) n1 c1 := H 1 0 17 (by kernel_rfl) rfl
                have g17 := Array.getD_eq_getD_getElem?.symm.trans h17
                have h18 : act.tmps.getD 18 undef = .int .i64 (k : Int) := H 1 1 18 (by kernel_rfl) rfl
                have g18 := Array.getD_eq_getD_getElem?.symm.trans h18
                clear H O
                have ya := (hB.cell (p := ⟨ga, o1 + k * 2, none⟩) hg1w).trans a0
                have yb := (hB.cell (p := ⟨ga, o1 + k * 2 + 1, none⟩) hg1w).trans a1
                have yc := (hB.cell (p := ⟨gb, o2 + k * 2, none⟩) hg2w).trans c0
                have yd := (hB.cell (p := ⟨gb, o2 + k * 2 + 1, none⟩) hg2w).trans c1'
                go_simp
                exact hK _ _ (Below.refl _ _) (fun _ => rfl)
              · intro act wa hC hd H O K hK
                clear hd
                obtain ⟨hB, -⟩ := hC
                have h19 : act.tmps.getD 19 undef = .pointer (some ⟨ga, o1 + k * 2, none⟩) := H 1 2 19 (by kernel_rfl) rfl
                have g19 := Array.getD_eq_getD_getElem?.symm.trans h19
                clear H O
                have ya := (hB.cell (p := ⟨ga, o1 + k * 2, none⟩) hg1w).trans a0
                have yb := (hB.cell (p := ⟨ga, o1 + k * 2 + 1, none⟩) hg1w).trans a1
                have yc := (hB.cell (p := ⟨gb, o2 + k * 2, none⟩) hg2w).trans c0
                have yd := (hB.cell (p := ⟨gb, o2 + k * 2 + 1, none⟩) hg2w).trans c1'
                go_simp
                exact hK _ _ (Below.refl _ _) (fun _ => rfl)
              · intro act wa hC hd H O K hK
                clear hd
                obtain ⟨hB, -⟩ := hC
                have h20 : act.tmps.getD 20 undef = .pointer (some ⟨ga, o1 + k * 2, none⟩) := H 1 3 20 (by kernel_rfl) rfl
                have g20 := Array.getD_eq_getD_getElem?.symm.trans h20
                clear H O
                have ya := (hB.cell (p := ⟨ga, o1 + k * 2, none⟩) hg1w).trans a0
                have yb := (hB.cell (p := ⟨ga, o1 + k * 2 + 1, none⟩) hg1w).trans a1
                have yc := (hB.cell (p := ⟨gb, o2 + k * 2, none⟩) hg2w).trans c0
                have yd := (hB.cell (p := ⟨gb, o2 + k * 2 + 1, none⟩) hg2w).trans c1'
                go_simp
                exact hK _ _ (Below.refl _ _) (fun _ => rfl)
              · intro act wa hC hd H O K hK
                clear hd
                obtain ⟨hB, -⟩ := hC
                have h1 := O 1 (by kernel_rfl)
                have g1 := Array.getD_eq_getD_getElem?.symm.trans h1
                clear H O
                have ya := (hB.cell (p := ⟨ga, o1 + k * 2, none⟩) hg1w).trans a0
                have yb := (hB.cell (p := ⟨ga, o1 + k * 2 + 1, none⟩) hg1w).trans a1
                have yc := (hB.cell (p := ⟨gb, o2 + k * 2, none⟩) hg2w).trans c0
                have yd := (hB.cell (p := ⟨gb, o2 + k * 2 + 1, none⟩) hg2w).trans c1'
                go_simp
                exact hK _ _ (Below.refl _ _) (fun _ => rfl)
              · intro act wa hC hd H O K hK
                clear hd
                obtain ⟨hB, -⟩ := hC
                have h5 := O 5 (by kernel_rfl)
                have g5 := Array.getD_eq_getD_getElem?.symm.trans h5
                clear H O
                have ya := (hB.cell (p := ⟨ga, o1 + k * 2, none⟩) hg1w).trans a0
                have yb := (hB.cell (p := ⟨ga, o1 + k * 2 + 1, none⟩) hg1w).trans a1
                have yc := (hB.cell (p := ⟨gb, o2 + k * 2, none⟩) hg2w).trans c0
                have yd := (hB.cell (p := ⟨gb, o2 + k * 2 + 1, none⟩) hg2w).trans c1'
                go_simp
                exact hK _ _ (Below.refl _ _) (fun _ => rfl)
              · intro act wa hC hd H O K hK
                clear hd
                obtain ⟨hB, -⟩ := hC
                have h22 : act.tmps.getD 22 undef = .slice (some ⟨gb, o2, none⟩) n1 c2 := H 1 5 22 (by kernel_rfl) rfl
                have g22 := Array.getD_eq_getD_getElem?.symm.trans h22
                have h23 : act.tmps.getD 23 undef = .int .i64 (k : Int) := H 1 6 23 (by kernel_rfl) rfl
                have g23 := Array.getD_eq_getD_getElem?.symm.trans h23
                clear H O
                have ya := (hB.cell (p := ⟨ga, o1 + k * 2, none⟩) hg1w).trans a0
                have yb := (hB.cell (p := ⟨ga, o1 + k * 2 + 1, none⟩) hg1w).trans a1
                have yc := (hB.cell (p := ⟨gb, o2 + k * 2, none⟩) hg2w).trans c0
                have yd := (hB.cell (p := ⟨gb, o2 + k * 2 + 1, none⟩) hg2w).trans c1'
                go_simp
                exact hK _ _ (Below.refl _ _) (fun _ => rfl)
              · intro act wa hC hd H O K hK
                clear hd
                obtain ⟨hB, -⟩ := hC
                have h24 : act.tmps.getD 24 undef = .pointer (some ⟨gb, o2 + k * 2, none⟩) := H 1 7 24 (by kernel_rfl) rfl
                have g24 := Array.getD_eq_getD_getElem?.symm.trans h24
                clear H O
                have ya := (hB.cell (p := ⟨ga, o1 + k * 2, none⟩) hg1w).trans a0
                have yb := (hB.cell (p := ⟨ga, o1 + k * 2 + 1, none⟩) hg1w).trans a1
                have yc := (hB.cell (p := ⟨gb, o2 + k * 2, none⟩) hg2w).trans c0
                have yd := (hB.cell (p := ⟨gb, o2 + k * 2 + 1, none⟩) hg2w).trans c1'
                go_simp
                exact hK _ _ (Below.refl _ _) (fun _ => rfl)
              · intro act wa hC hd H O K hK
                clear hd
                obtain ⟨hB, -⟩ := hC
                have h25 : act.tmps.getD 25 undef = .pointer (some ⟨gb, o2 + k * 2, none⟩) := H 1 8 25 (by kernel_rfl) rfl
                have g25 := Array.getD_eq_getD_getElem?.symm.trans h25
                clear H O
                have ya := (hB.cell (p := ⟨ga, o1 + k * 2, none⟩) hg1w).trans a0
                have yb := (hB.cell (p := ⟨ga, o1 + k * 2 + 1, none⟩) hg1w).trans a1
                have yc := (hB.cell (p := ⟨gb, o2 + k * 2, none⟩) hg2w).trans c0
                have yd := (hB.cell (p := ⟨gb, o2 + k * 2 + 1, none⟩) hg2w).trans c1'
                go_simp
                exact hK _ _ (Below.refl _ _) (fun _ => rfl)
              · intro act wa hC hd H O K hK
                clear hd
                obtain ⟨hB, -⟩ := hC
                have h21 : act.tmps.getD 21 undef = .int .i64 to1 := H 1 4 21 (by kernel_rfl) rfl
                have g21 := Array.getD_eq_getD_getElem?.symm.trans h21
                have h26 : act.tmps.getD 26 undef = .int .i64 to1 := H 1 9 26 (by kernel_rfl) rfl
                have g26 := Array.getD_eq_getD_getElem?.symm.trans h26
                clear H O
                have ya := (hB.cell (p := ⟨ga, o1 + k * 2, none⟩) hg1w).trans a0
                have yb := (hB.cell (p := ⟨ga, o1 + k * 2 + 1, none⟩) hg1w).trans a1
                have yc := (hB.cell (p := ⟨gb, o2 + k * 2, none⟩) hg2w).trans c0
                have yd := (hB.cell (p := ⟨gb, o2 + k * 2 + 1, none⟩) hg2w).trans c1'
                go_simp
                exact hK _ _ (Below.refl _ _) (fun _ => rfl)
              · intro act wa hC hd H O K hK
                clear hd
                obtain ⟨hB, -⟩ := hC
                have h27 : act.tmps.getD 27 undef = .bool false := H 1 10 27 (by kernel_rfl) rfl
                have g27 := Array.getD_eq_getD_getElem?.symm.trans h27
                clear H O
                have ya := (hB.cell (p := ⟨ga, o1 + k * 2, none⟩) hg1w).trans a0
                have yb := (hB.cell (p := ⟨ga, o1 + k * 2 + 1, none⟩) hg1w).trans a1
                have yc := (hB.cell (p := ⟨gb, o2 + k * 2, none⟩) hg2w).trans c0
                have yd := (hB.cell (p := ⟨gb, o2 + k * 2 + 1, none⟩) hg2w).trans c1'
                go_simp
                exact hK _ _ (Below.refl _ _) (fun _ => rfl)
              · intro act wa hC hd H O K hK
                clear hd
                obtain ⟨hB, -⟩ := hC
                have h0 := O 0 (by kernel_rfl)
                have g0 := Array.getD_eq_getD_getElem?.symm.trans h0
                have h28 : act.tmps.getD 28 undef = .bool false := H 1 11 28 (by kernel_rfl) rfl
                have g28 := Array.getD_eq_getD_getElem?.symm.trans h28
                have k28 := Inv.some_bool g28
                clear H O
                have ya := (hB.cell (p := ⟨ga, o1 + k * 2, none⟩) hg1w).trans a0
                have yb := (hB.cell (p := ⟨ga, o1 + k * 2 + 1, none⟩) hg1w).trans a1
                have yc := (hB.cell (p := ⟨gb, o2 + k * 2, none⟩) hg2w).trans c0
                have yd := (hB.cell (p := ⟨gb, o2 + k * 2 + 1, none⟩) hg2w).trans c1'
                go_simp
                exact hK _ _ (Below.refl _ _) (fun _ => rfl)
              · intro act wa hC hd H O K hK
                clear hd
                obtain ⟨hB, -⟩ := hC
                have h5 := O 5 (by kernel_rfl)
                have g5 := Array.getD_eq_getD_getElem?.symm.trans h5
                have h28 : act.tmps.getD 28 undef = .bool false := H 1 11 28 (by kernel_rfl) rfl
                have g28 := Array.getD_eq_getD_getElem?.symm.trans h28
                have k28 := Inv.some_bool g28
                clear H O
                have ya := (hB.cell (p := ⟨ga, o1 + k * 2, none⟩) hg1w).trans a0
                have yb := (hB.cell (p := ⟨ga, o1 + k * 2 + 1, none⟩) hg1w).trans a1
                have yc := (hB.cell (p := ⟨gb, o2 + k * 2, none⟩) hg2w).trans c0
                have yd := (hB.cell (p := ⟨gb, o2 + k * 2 + 1, none⟩) hg2w).trans c1'
                go_simp
                exact hK _ _ (Below.refl _ _) (fun _ => rfl)
              · intro act wa hC hd H O K hK
                clear hd
                obtain ⟨hB, -⟩ := hC
                have h29 : act.tmps.getD 29 undef = .slice (some ⟨ga, o1, none⟩) n1 c1 := H 1 12 29 (by kernel_rfl) rfl
                have g29 := Array.getD_eq_getD_getElem?.symm.trans h29
                have h30 : act.tmps.getD 30 undef = .int .i64 (k : Int) := H 1 13 30 (by kernel_rfl) rfl
                have g30 := Array.getD_eq_getD_getElem?.symm.trans h30
                have h28 : act.tmps.getD 28 undef = .bool false := H 1 11 28 (by kernel_rfl) rfl
                have g28 := Array.getD_eq_getD_getElem?.symm.trans h28
                have k28 := Inv.some_bool g28
                clear H O
                have ya := (hB.cell (p := ⟨ga, o1 + k * 2, none⟩) hg1w).trans a0
                have yb := (hB.cell (p := ⟨ga, o1 + k * 2 + 1, none⟩) hg1w).trans a1
                have yc := (hB.cell (p := ⟨gb, o2 + k * 2, none⟩) hg2w).trans c0
                have yd := (hB.cell (p := ⟨gb, o2 + k * 2 + 1, none⟩) hg2w).trans c1'
                go_simp
                exact hK _ _ (Below.refl _ _) (fun _ => rfl)
              · intro act wa hC hd H O K hK
                clear hd
                obtain ⟨hB, -⟩ := hC
                have h31 : act.tmps.getD 31 undef = .pointer (some ⟨ga, o1 + k * 2, none⟩) := H 1 14 31 (by kernel_rfl) rfl
                have g31 := Array.getD_eq_getD_getElem?.symm.trans h31
                have h28 : act.tmps.getD 28 undef = .bool false := H 1 11 28 (by kernel_rfl) rfl
                have g28 := Array.getD_eq_getD_getElem?.symm.trans h28
                have k28 := Inv.some_bool g28
                clear H O
                have ya := (hB.cell (p := ⟨ga, o1 + k * 2, none⟩) hg1w).trans a0
                have yb := (hB.cell (p := ⟨ga, o1 + k * 2 + 1, none⟩) hg1w).trans a1
                have yc := (hB.cell (p := ⟨gb, o2 + k * 2, none⟩) hg2w).trans c0
                have yd := (hB.cell (p := ⟨gb, o2 + k * 2 + 1, none⟩) hg2w).trans c1'
                go_simp
                exact hK _ _ (Below.refl _ _) (fun _ => rfl)
              · intro act wa hC hd H O K hK
                clear hd
                obtain ⟨hB, -⟩ := hC
                have h32 : act.tmps.getD 32 undef = .pointer (some ⟨ga, o1 + k * 2 + 1, none⟩) := H 1 15 32 (by kernel_rfl) rfl
                have g32 := Array.getD_eq_getD_getElem?.symm.trans h32
                have h28 : act.tmps.getD 28 undef = .bool false := H 1 11 28 (by kernel_rfl) rfl
                have g28 := Array.getD_eq_getD_getElem?.symm.trans h28
                have k28 := Inv.some_bool g28
                clear H O
                have ya := (hB.cell (p := ⟨ga, o1 + k * 2, none⟩) hg1w).trans a0
                have yb := (hB.cell (p := ⟨ga, o1 + k * 2 + 1, none⟩) hg1w).trans a1
                have yc := (hB.cell (p := ⟨gb, o2 + k * 2, none⟩) hg2w).trans c0
                have yd := (hB.cell (p := ⟨gb, o2 + k * 2 + 1, none⟩) hg2w).trans c1'
                go_simp
                exact hK _ _ (Below.refl _ _) (fun _ => rfl)
              · intro act wa hC hd H O K hK
                clear hd
                obtain ⟨hB, -⟩ := hC
                have h33 : act.tmps.getD 33 undef = .slice Ab1 m1 cb1 := H 1 16 33 (by kernel_rfl) rfl
                have g33 := Array.getD_eq_getD_getElem?.symm.trans h33
                have h28 : act.tmps.getD 28 undef = .bool false := H 1 11 28 (by kernel_rfl) rfl
                have g28 := Array.getD_eq_getD_getElem?.symm.trans h28
                have k28 := Inv.some_bool g28
                clear H O
                have ya := (hB.cell (p := ⟨ga, o1 + k * 2, none⟩) hg1w).trans a0
                have yb := (hB.cell (p := ⟨ga, o1 + k * 2 + 1, none⟩) hg1w).trans a1
                have yc := (hB.cell (p := ⟨gb, o2 + k * 2, none⟩) hg2w).trans c0
                have yd := (hB.cell (p := ⟨gb, o2 + k * 2 + 1, none⟩) hg2w).trans c1'
                have s := s1 wa hB
                go_simp
                exact hK _ _ (Below.refl _ _) (fun _ => rfl)
              · intro act wa hC hd H O K hK
                clear hd
                obtain ⟨hB, -⟩ := hC
                have h1 := O 1 (by kernel_rfl)
                have g1 := Array.getD_eq_getD_getElem?.symm.trans h1
                have h28 : act.tmps.getD 28 undef = .bool false := H 1 11 28 (by kernel_rfl) rfl
                have g28 := Array.getD_eq_getD_getElem?.symm.trans h28
                have k28 := Inv.some_bool g28
                clear H O
                have ya := (hB.cell (p := ⟨ga, o1 + k * 2, none⟩) hg1w).trans a0
                have yb := (hB.cell (p := ⟨ga, o1 + k * 2 + 1, none⟩) hg1w).trans a1
                have yc := (hB.cell (p := ⟨gb, o2 + k * 2, none⟩) hg2w).trans c0
                have yd := (hB.cell (p := ⟨gb, o2 + k * 2 + 1, none⟩) hg2w).trans c1'
                go_simp
                exact hK _ _ (Below.refl _ _) (fun _ => rfl)
              · intro act wa hC hd H O K hK
                clear hd
                obtain ⟨hB, -⟩ := hC
                have h5 := O 5 (by kernel_rfl)
                have g5 := Array.getD_eq_getD_getElem?.symm.trans h5
                have h28 : act.tmps.getD 28 undef = .bool false := H 1 11 28 (by kernel_rfl) rfl
                have g28 := Array.getD_eq_getD_getElem?.symm.trans h28
                have k28 := Inv.some_bool g28
                clear H O
                have ya := (hB.cell (p := ⟨ga, o1 + k * 2, none⟩) hg1w).trans a0
                have yb := (hB.cell (p := ⟨ga, o1 + k * 2 + 1, none⟩) hg1w).trans a1
                have yc := (hB.cell (p := ⟨gb, o2 + k * 2, none⟩) hg2w).trans c0
                have yd := (hB.cell (p := ⟨gb, o2 + k * 2 + 1, none⟩) hg2w).trans c1'
                go_simp
                exact hK _ _ (Below.refl _ _) (fun _ => rfl)
              · intro act wa hC hd H O K hK
                clear hd
                obtain ⟨hB, -⟩ := hC
                have h35 : act.tmps.getD 35 undef = .slice (some ⟨gb, o2, none⟩) n1 c2 := H 1 18 35 (by kernel_rfl) rfl
                have g35 := Array.getD_eq_getD_getElem?.symm.trans h35
                have h36 : act.tmps.getD 36 undef = .int .i64 (k : Int) := H 1 19 36 (by kernel_rfl) rfl
                have g36 := Array.getD_eq_getD_getElem?.symm.trans h36
                have h28 : act.tmps.getD 28 undef = .bool false := H 1 11 28 (by kernel_rfl) rfl
                have g28 := Array.getD_eq_getD_getElem?.symm.trans h28
                have k28 := Inv.some_bool g28
                clear H O
                have ya := (hB.cell (p := ⟨ga, o1 + k * 2, none⟩) hg1w).trans a0
                have yb := (hB.cell (p := ⟨ga, o1 + k * 2 + 1, none⟩) hg1w).trans a1
                have yc := (hB.cell (p := ⟨gb, o2 + k * 2, none⟩) hg2w).trans c0
                have yd := (hB.cell (p := ⟨gb, o2 + k * 2 + 1, none⟩) hg2w).trans c1'
                go_simp
                exact hK _ _ (Below.refl _ _) (fun _ => rfl)
              · intro act wa hC hd H O K hK
                clear hd
                obtain ⟨hB, -⟩ := hC
                have h37 : act.tmps.getD 37 undef = .pointer (some ⟨gb, o2 + k * 2, none⟩) := H 1 20 37 (by kernel_rfl) rfl
                have g37 := Array.getD_eq_getD_getElem?.symm.trans h37
                have h28 : act.tmps.getD 28 undef = .bool false := H 1 11 28 (by kernel_rfl) rfl
                have g28 := Array.getD_eq_getD_getElem?.symm.trans h28
                have k28 := Inv.some_bool g28
                clear H O
                have ya := (hB.cell (p := ⟨ga, o1 + k * 2, none⟩) hg1w).trans a0
                have yb := (hB.cell (p := ⟨ga, o1 + k * 2 + 1, none⟩) hg1w).trans a1
                have yc := (hB.cell (p := ⟨gb, o2 + k * 2, none⟩) hg2w).trans c0
                have yd := (hB.cell (p := ⟨gb, o2 + k * 2 + 1, none⟩) hg2w).trans c1'
                go_simp
                exact hK _ _ (Below.refl _ _) (fun _ => rfl)
              · intro act wa hC hd H O K hK
                clear hd
                obtain ⟨hB, -⟩ := hC
                have h38 : act.tmps.getD 38 undef = .pointer (some ⟨gb, o2 + k * 2 + 1, none⟩) := H 1 21 38 (by kernel_rfl) rfl
                have g38 := Array.getD_eq_getD_getElem?.symm.trans h38
                have h28 : act.tmps.getD 28 undef = .bool false := H 1 11 28 (by kernel_rfl) rfl
                have g28 := Array.getD_eq_getD_getElem?.symm.trans h28
                have k28 := Inv.some_bool g28
                clear H O
                have ya := (hB.cell (p := ⟨ga, o1 + k * 2, none⟩) hg1w).trans a0
                have yb := (hB.cell (p := ⟨ga, o1 + k * 2 + 1, none⟩) hg1w).trans a1
                have yc := (hB.cell (p := ⟨gb, o2 + k * 2, none⟩) hg2w).trans c0
                have yd := (hB.cell (p := ⟨gb, o2 + k * 2 + 1, none⟩) hg2w).trans c1'
                go_simp
                exact hK _ _ (Below.refl _ _) (fun _ => rfl)
              · intro act wa hC hd H O K hK
                clear hd
                obtain ⟨hB, -⟩ := hC
                have h39 : act.tmps.getD 39 undef = .slice Ab2 m2 cb2 := H 1 22 39 (by kernel_rfl) rfl
                have g39 := Array.getD_eq_getD_getElem?.symm.trans h39
                have h28 : act.tmps.getD 28 undef = .bool false := H 1 11 28 (by kernel_rfl) rfl
                have g28 := Array.getD_eq_getD_getElem?.symm.trans h28
                have k28 := Inv.some_bool g28
                clear H O
                have ya := (hB.cell (p := ⟨ga, o1 + k * 2, none⟩) hg1w).trans a0
                have yb := (hB.cell (p := ⟨ga, o1 + k * 2 + 1, none⟩) hg1w).trans a1
                have yc := (hB.cell (p := ⟨gb, o2 + k * 2, none⟩) hg2w).trans c0
                have yd := (hB.cell (p := ⟨gb, o2 + k * 2 + 1, none⟩) hg2w).trans c1'
                have s := s2 wa hB
                go_simp
                exact hK _ _ (Below.refl _ _) (fun _ => rfl)
              · intro act wa hC hd H O K hK
                clear hd
                obtain ⟨hB, -⟩ := hC
                have h34 : act.tmps.getD 34 undef = .string x1 := H 1 17 34 (by kernel_rfl) rfl
                have g34 := Array.getD_eq_getD_getElem?.symm.trans h34
                have h40 : act.tmps.getD 40 undef = .string x2 := H 1 23 40 (by kernel_rfl) rfl
                have g40 := Array.getD_eq_getD_getElem?.symm.trans h40
                have h28 : act.tmps.getD 28 undef = .bool false := H 1 11 28 (by kernel_rfl) rfl
                have g28 := Array.getD_eq_getD_getElem?.symm.trans h28
                have k28 := Inv.some_bool g28
                clear H O
                have ya := (hB.cell (p := ⟨ga, o1 + k * 2, none⟩) hg1w).trans a0
                have yb := (hB.cell (p := ⟨ga, o1 + k * 2 + 1, none⟩) hg1w).trans a1
                have yc := (hB.cell (p := ⟨gb, o2 + k * 2, none⟩) hg2w).trans c0
                have yd := (hB.cell (p := ⟨gb, o2 + k * 2 + 1, none⟩) hg2w).trans c1'
                go_simp
                exact hK _ _ (Below.refl _ _) (fun _ => rfl)
              · intro act wa hC hd H O K hK
                clear hd
                obtain ⟨hB, -⟩ := hC
                have h28 : act.tmps.getD 28 undef = .bool false := H 1 11 28 (by kernel_rfl) rfl
                have g28 := Array.getD_eq_getD_getElem?.symm.trans h28
                have h41 : act.tmps.getD 41 undef = .bool true := H 1 24 41 (by kernel_rfl) rfl
                have g41 := Array.getD_eq_getD_getElem?.symm.trans h41
                clear H O
                have ya := (hB.cell (p := ⟨ga, o1 + k * 2, none⟩) hg1w).trans a0
                have yb := (hB.cell (p := ⟨ga, o1 + k * 2 + 1, none⟩) hg1w).trans a1
                have yc := (hB.cell (p := ⟨gb, o2 + k * 2, none⟩) hg2w).trans c0
                have yd := (hB.cell (p := ⟨gb, o2 + k * 2 + 1, none⟩) hg2w).trans c1'
                go_simp
                exact hK _ _ (Below.refl _ _) (fun _ => rfl)
            · intro us w' hC hF
              obtain ⟨hB, -⟩ := hC
              have u42 : us 42 = .bool true := hF 25 42 rfl
              clear hF
              simp only [List.foldl]
              go_simp
              have e42 : us 42 = .bool true := u42
              have HBB := Lib.hid (HB.out.trans (hB.mono HB.out.size))
              clear hB u42
              try rw [e42]
              go_wp2
              go_ret
              exact ⟨by rw [R.out]; rfl, HBB.out⟩
        · have R := Lib.hid (show decide (l1 = l2) = false from decide_eq_false (fun h => by subst h; rw [hx] at hy; injection hy with hy; injection hy with hy _; exact hto hy))
          have htb : (to1 == to2) = false := by simp [hto]
          clear hx hy ht hx1 hx2 hm1 hm2 h256a h256b s1 s2
          go_wp2
          go_quiet (fail)
          go_wp2
          go_ret
          exact ⟨by rw [R.out]; rfl, by first | exact HB.out.drew | exact below_drewN HB.out _⟩
      · obtain rfl : k = n1 := by omega
        have hge : ¬ ((k : Int) < (k : Int)) := by omega
        have R := Lib.hid (show decide (l1 = l2) = true from decide_eq_true (by
          have h := ht.out
          rw [← HN1.out, List.take_length, HN1.out, ← HN2.out, List.take_length] at h
          exact h))
        clear ht hbel
        go_wp2
        go_ret
        exact ⟨by rw [R.out]; rfl, HB.out⟩
  · have hnI : (n1 : Int) ≠ (n2 : Int) := by omega
    have R := Lib.hid (show decide (l1 = l2) = false from decide_eq_false (fun h => by subst h; omega))
    clear h1 h2 hn1 hn2
    go_enter Try.func58, Try.ntmps58
    go_wp2
    go_ret
    exact ⟨by rw [R.out]; rfl, HB0.out⟩
end Go.Proofs.Ytahichieakdbnaa

/- mark: Files. -/
import Derived.Test.YtjaifieakcnlmaaMe
import Derived.Test.YtjaifieakcnlmaaMi
import Derived.Test.YtjaifieakcnlmaaShelf
import Derived.Lib.SlicesCompact
namespace Go.Proofs.Ytjaifieakcnlmaa
open Go.ChangeShapes Go.WideShapes Go.ChangeAt Go.RowKit Go.Maps Go.Sort
set_option linter.unusedVariables false
set_option linter.unusedSimpArgs false

theorem putRow_below {α : Type} [Inhabited α] (enc : α → Value) (w : World) (n blk off : Nat) (d : Array α) {B : Nat} (hB : B ≤ blk) (hs : B ≤ w.heap.size) : Below B w (putRow enc (Sort.ahead w n) blk off d) := by
  refine ⟨rfl, rfl, rfl, ?_, fun j hj => ?_⟩
  · simp [putRow, mapBlock, Sort.ahead]
  · simp [putRow, mapBlock, Sort.ahead, Array.getElem?_modify]
    intro h; omega
theorem compactUpTo_len (d : Array Int) : ∀ m, (Lib.compactUpTo d m).length ≤ m
  | 0 => by simp [Lib.compactUpTo]
  | m + 1 => by
    rw [Lib.compactUpTo_succ, List.length_append]
    have := compactUpTo_len d m
    split <;> simp <;> omega
theorem compact_len (l : List Int) : (Lib.compact l).length ≤ l.length := compactUpTo_len _ _
theorem infoIntM : (Try.prog.info? 3).map (fun i => (i.zero, i.size, i.bytes)) = some (some (.int .i64 0), 1, 8) := by kernel_rfl
def filesM (ms : List Mk) : List Int := ms.map (·.2.1)
def FilesQ (w : World) (l : List Int) (en : Ending) (w' : World) : Prop := ∃ A c, en = .returned (.slice A l.length c) ∧ Rd w' w'.heap.size A (i64i l) ∧ (∀ q o, A = some ⟨q, o, none⟩ → w.heap.size ≤ q) ∧ Below w.heap.size w w'
set_option maxHeartbeats 4000000 in
set_option maxRecDepth 100000 in
theorem MFiles_any (w : World) (S : Nat → Prop) (g : Nat) (ms : List Mk) (most : Int) (h : IM w S g ms most) (hl : ms.length ≤ 1000) :
    Calls Try.prog 8 #[.pointer (some ⟨g, 0, none⟩)] w (FilesQ w (Lib.compact (filesM ms))) := by
  obtain ⟨i0, hi, hz0, hz1, hz2⟩ := info_parts infoIntM
  obtain ⟨A, c, k1, k2, k3⟩ := h
  have c0 := k1.cell 0
  simp at c0
  have gl := k1.lt
  have HR := Lib.hid (rd_of_own3 k2)
  have hcap := own_capM k2
  obtain ⟨n, hn⟩ : ∃ n, ms.length = n := ⟨_, rfl⟩
  rw [hn] at c0 hl hcap
  have HN := Lib.hid hn
  clear k1 k2 k3 hn
  go_enter Try.func8, Try.ntmps8
  go_wp2
  go_loopw [3, 11] (fun s3 s11 wr => ∃ (i : Nat), s11 = .int .i64 (i : Int) ∧ i ≤ n ∧ Hid (wr.ownsRow w.heap.size 3 1 s3 i (i64i (filesM (ms.take i)))) ∧ Hid (Below w.heap.size w wr)) (fun _ s11 _ => n - (intOf s11).toNat)
  case atStart => exact ⟨0, rfl, by omega, Lib.hid ⟨rfl, .inl ⟨rfl, rfl⟩⟩, Lib.hid (Below.refl _ _)⟩
  case round =>
    obtain ⟨i, rfl, hin, HO, HB⟩ := hrel
    obtain ⟨A3, c3, rfl⟩ := own_sl HO.out
    by_cases hlt : i < n
    · have hiI : (i : Int) < (n : Int) := by omega
      obtain ⟨m, hm⟩ : ∃ m, ms[i]? = some m := ⟨_, List.getElem?_eq_getElem (by rw [HN.out]; exact hlt)⟩
      obtain ⟨q, o, rfl, hq, hc⟩ := HR.out (by intro e9; have := congrArg List.length e9; rw [flm_length, HN.out] at this; simp at this; omega)
      obtain ⟨f1, f2, f3⟩ := flm_at hm
      have b1 := (HB.out.cell (p := ⟨q, o + i * 3, none⟩) hq).trans (hc _ _ f1)
      have b2 := (HB.out.cell (p := ⟨q, o + i * 3 + 1, none⟩) hq).trans (hc _ _ f2)
      have b3 := (HB.out.cell (p := ⟨q, o + i * 3 + 2, none⟩) hq).trans (hc _ _ f3)
      obtain ⟨m1, m2, m3⟩ := m
      simp only at b1 b2 b3
      have HNX : Hid (filesM (ms.take (i + 1)) = filesM (ms.take i) ++ [m2]) := Lib.hid (by rw [List.take_add_one, hm]; simp [filesM])
      clear hc f1 f2 f3 hm
      have hsz : (wr.alloc (.cells #[.int .i64 m1, .int .i64 m2, .int .i64 m3] 29)).heap.size = wr.heap.size + 1 := by simp
      go_wp2_with (at_builtin; go_must (refine wpList_append_own_at _ rfl (.tmp 15) (.tmp 18) 33 rfl w.heap.size 3 i0 (.int .i64 0) 1 8 Try.underlying33 hi hz0 hz1 hz2 rfl (by decide) _ i (i64i (filesM (ms.take i))) rfl ((HO.out.alloc _).alloc _) ⟨wr.heap.size + 1, 0, none⟩ 1 1 [.int .i64 m2] rfl rfl (by intro j u hu; have h9 := one_new (wr.alloc (.cells #[.int .i64 m1, .int .i64 m2, .int .i64 m3] 29)) (.int .i64 m2) 3 j u hu; rwa [hsz] at h9) (one_cell rfl) (by unfold maxLen; omega) (by omega) (by simp; have := HB.out.size; omega) ?_; intro v2 w2 ho2 hg2 _ _; obtain ⟨A2, c2, rfl⟩ := own_sl ho2; have HO2 := Lib.hid ho2; have HG2 := Lib.hid hg2; clear ho2 hg2))
      have R : Hid (w2.ownsRow w.heap.size 3 1 (.slice A2 (i + 1) c2) (i + 1) (i64i (filesM (ms.take (i + 1))))) := Lib.hid (by
        rw [HNX.out]
        have := HO2.out
        simpa [i64i] using this)
      have RB : Hid (Below w.heap.size w w2) := Lib.hid (((HB.out.alloc HB.out.size _).alloc (by rw [hsz]; have := HB.out.size; omega) _).trans (below_own (B := w.heap.size) ((HO.out.alloc _).alloc _) HG2.out (Nat.le_refl _) (by have := HB.out.size; simp; omega)))
      clear hsz
      go_wp2
      go_roundw
      case rel => exact ⟨i + 1, by go_num, by omega, R, RB⟩
      case measure => simp [intOf]; omega
    · obtain rfl : i = n := by omega
      have hlen : (filesM ms).length = i := by simp [filesM, HN.out]
      have hO := HO.out
      rw [List.take_of_length_le (by rw [HN.out]; exact Nat.le_refl _)] at hO
      have HLEN := Lib.hid hlen
      rcases hO.2 with ⟨hv, h0⟩ | ⟨q, cap, cur, hv, hbq, hh, hnc, hmx, hsz, ht⟩
      · injection hv with e1 e2 e3
        subst e1 e3 h0
        have hnil : filesM ms = [] := List.eq_nil_of_length_eq_zero hlen
        have HFIN : Hid (FilesQ w (Lib.compact (filesM ms)) (.returned (.slice none 0 0)) wr) := Lib.hid (by
          rw [hnil]
          exact ⟨none, 0, rfl, Rd.nil _ _ _, (fun q o h => by cases h), HB.out⟩)
        clear hnil
        have HCE := fun W => Lib.hid (Try.slices_Compact_int_empty none 0 W)
        clear hO hlen
        go_wp2_with fail
        refine (HCE _).out.mono ?_
        rintro en w2 ⟨rfl, hw⟩
        rw [hw]; clear hw w2
        go_wp2
        go_ret
        exact HFIN.out
      · injection hv with e1 e2 e3
        subst e1 e3
        have hholds : Holds (Value.int .i64) wr q 0 (filesM ms).toArray := by
          intro j hj
          simp only [List.size_toArray] at hj
          have hc := hO.cells (g := q) rfl j (.int .i64 ((filesM ms)[j]?.getD 0)) (by simp [i64i, List.getElem?_eq_getElem hj])
          refine ⟨?_, ?_⟩
          · have e9 : (⟨q, 0, none⟩ : Addr).add j = ⟨q, 0 + j, none⟩ := by by_cases h9 : j = 0 <;> simp [Addr.add, h9]
            rw [e9] at hc
            rw [hc]
            simp [List.getElem?_eq_getElem hj, getElem!_pos, hj]
          · simp [World.frozen?, hh]
        have HC := Lib.hid (Try.slices_Compact_int q 0 c3 (filesM ms) wr hholds (by rw [hlen]; unfold maxLen at hmx; omega) (by rw [hlen]; exact hnc))
        have HH := Lib.hid hholds
        rw [hlen] at HC
        obtain ⟨cl, hcl⟩ : ∃ cl, Lib.compact (filesM ms) = cl := ⟨_, rfl⟩
        have hcle : cl.length ≤ i := by
          rw [← hcl, ← hlen]
          exact compact_len _
        have HQ := Lib.hid hbq
        rw [hcl] at HC ⊢
        have HCL := Lib.hid hcl; have HCE := Lib.hid hcle
        clear hO hlen hholds hcl hh ht hsz hcle hbq
        go_wp2_with fail
        refine HC.out.mono ?_
        rintro en w2 ⟨rfl, q9, hw⟩
        have hp := holds_putRow (Value.int .i64) (Sort.ahead wr q9) q 0 (filesM ms).toArray (cl ++ List.replicate (i - cl.length) 0).toArray (fun j hj => HH.out j hj) (by simp [HLEN.out]; have := HCE.out; omega)
        rw [← hw] at hp
        have hbel : Below w.heap.size w w2 := by rw [hw]; exact HB.out.trans (putRow_below _ wr q9 q 0 _ HQ.out HB.out.size)
        have hrd : Rd w2 w2.heap.size (some ⟨q, 0, none⟩) (i64i cl) := fun _ => by
          refine ⟨q, 0, rfl, ?_, fun j u hu => ?_⟩
          · rcases Nat.eq_zero_or_pos i with h9 | h9
            · exfalso
              rename_i hne
              apply hne
              have := HCE.out
              have : cl = [] := List.eq_nil_of_length_eq_zero (by omega)
              rw [this]; rfl
            · exact World.block_lt_of_cell? _ _ (hp 0 (by simp; have := HCE.out; omega)).1
          · simp only [i64i, List.getElem?_map, Option.map_eq_some_iff] at hu
            obtain ⟨v, hv, rfl⟩ := hu
            have hjl := (List.getElem?_eq_some_iff.1 hv).1
            have := (hp j (by simp; have := HCE.out; omega)).1
            rw [this]
            congr 2
            have hj2 : j < (cl ++ List.replicate (i - cl.length) (0 : Int)).length := by simp; omega
            rw [getElem!_pos _ _ (by simpa using hj2)]
            simp [List.getElem_append_left hjl]
            have := List.getElem?_eq_some_iff.1 hv
            exact this.2
        have R1 := Lib.hid hrd; have R2 := Lib.hid hbel
        clear hp hbel hrd hw
        go_wp2
        go_ret
        have hfin : FilesQ w (Lib.compact (filesM ms)) (.returned (.slice (some ⟨q, 0, none⟩) cl.length c3)) w2 := by
          rw [HCL.out]
          exact ⟨some ⟨q, 0, none⟩, c3, rfl, R1.out, (fun q' o h => by injection h with h; injection h with h1 h2; have := HQ.out; omega), R2.out⟩
        exact hfin
end Go.Proofs.Ytjaifieakcnlmaa

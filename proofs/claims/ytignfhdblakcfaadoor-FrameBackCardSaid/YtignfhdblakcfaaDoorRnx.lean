/- packetboatref03.Next. -/
import Derived.Test.YtignfhdblakcfaaDoorNxt
import Derived.Test.YtignfhdblakcfaaDoorSame
namespace Go.Proofs.YtignfhdblakcfaaDoor
open Go.ChangeShapes Go.WideShapes Go.ChangeAt Go.RowKit
set_option linter.unusedVariables false

def MNextPost (w : World) (r : List Nat × Nat × Nat) (e : Ending) (w' : World) : Prop :=
  ∃ v, e = .returned (.tuple #[v, .int .i64 (r.2.1 : Int), .int .i64 (r.2.2 : Int)]) ∧ Made w' v r.1 r.1.length ∧ Below w.heap.size w w' ∧ (r.2.2 = 0 → w'.ownsRow 0 5 1 v r.1.length (u8s r.1))
theorem own_base {w : World} {base : Nat} {e : TypeId} {size : Nat} {v : Value} {n : Nat} {xs : List Value} (h : w.ownsRow base e size v n xs) : w.ownsRow 0 e size v n xs := by
  refine ⟨h.1, ?_⟩
  rcases h.2 with h2 | ⟨g, cap, cur, hv, _, r⟩
  · exact .inl h2
  · exact .inr ⟨g, cap, cur, hv, Nat.zero_le _, r⟩
theorem mnext_no {w w' : World} {r : List Nat × Nat × Nat} {d : Nat} (h : r = ([], 0, d)) (hd : d ≠ 0) (hb : Below w.heap.size w w') : MNextPost w r (.returned (.tuple #[.slice none 0 0, .int .i64 0, .int .i64 (d : Int)])) w' := by
  subst h; exact ⟨_, rfl, made_nil _, hb, fun h => absurd h hd⟩
set_option maxHeartbeats 1000000 in
set_option maxRecDepth 100000 in
theorem RNext_any (w : World) (A : Option Addr) (len cap : Nat) (bs : List Nat) (hr : Rd w w.heap.size A (u8s bs)) (h256 : ∀ b ∈ bs, b < 256) (hn : bs.length = len) (hlc : len ≤ cap) (hcm : cap ≤ maxLen) (hl : len ≤ 1099511627776) :
    Calls Tryd.prog 11 #[.slice A len cap] w (MNextPost w (Fm.next bs)) := by
  obtain ⟨⟨n, k, d⟩, hte⟩ : ∃ x, Vm.take bs = x := ⟨_, rfl⟩
  have hTake := Lib.hid (rtake_at w A cap bs len n k d hr h256 hlc hcm hn hte)
  by_cases hd : d = 0
  · subst hd
    obtain ⟨hk1, hk2, hk3, hk4⟩ := Vm.take_ok hte h256
    have hA : A ≠ none := by
      intro h; subst h
      obtain ⟨g, o, he, _⟩ := hr (by intro h0; have := congrArg List.length h0; simp [u8s] at this; subst this; simp at hk2; omega)
      cases he
    by_cases hn8 : 8192 < n
    · have hr18 := (take_range bs).1
      rw [hte] at hr18
      simp only at hr18
      have HP := Lib.hid (fun w' (hb : Below w.heap.size w w') => mnext_no (Fm.next_long hte hn8) (by decide) hb)
      clear hr h256 hn hte hk4
      go_enter Tryd.func11, Tryd.ntmps11
      go_wp2_with fail
      refine hTake.out.mono ?_
      rintro e w' ⟨rfl, hb⟩
      have HPP := Lib.hid (HP.out _ hb); clear hb
      go_wp2
      go_ret3
      exact HPP.out
    · by_cases hs : bs.length < k + n + 4
      · have HP := Lib.hid (fun w' (hb : Below w.heap.size w w') => mnext_no (Fm.next_short hte (by omega) hs) (by decide) hb)
        rw [hn] at hs
        clear hr h256 hn hte hk4
        go_enter Tryd.func11, Tryd.ntmps11
        go_wp2_with fail
        refine hTake.out.mono ?_
        rintro e w' ⟨rfl, hb⟩
        have HPP := Lib.hid (HP.out _ hb); clear hb
        go_wp2
        go_ret3
        exact HPP.out
      · obtain ⟨i0, hi, hz0, hz1, hz2⟩ := info_parts Tryd.infoB
        obtain ⟨A1, hs1, hr1, hA1⟩ := slice_h 22 5 Tryd.underlying22 one8 A len cap (k + n + 4) ((k : Int) + (n : Int) + 4) (by omega) (by omega)
        obtain ⟨A2, hs2, hr2, hA2⟩ := slice_lh 22 5 Tryd.underlying22 one8 A len cap k (k + n) (k : Int) ((k : Int) + (n : Int)) rfl (by omega) (by omega) (by omega)
        have ekn : k + n - k = n := by omega
        rw [ekn] at hs2 hr2
        obtain ⟨q, hq⟩ : ∃ q, (bs.drop k).take n = q := ⟨_, rfl⟩
        have hql : q.length = n := by rw [← hq]; simp; omega
        have hq256 : ∀ b ∈ q, b < 256 := by rw [← hq]; exact fun b hb => h256 b (List.mem_of_mem_drop (List.mem_of_mem_take hb))
        obtain ⟨ts, hts⟩ : ∃ ts, bs.take (k + n + 4) = ts := ⟨_, rfl⟩
        have htl : ts.length = k + n + 4 := by rw [← hts]; simp; omega
        have hfr : Fm.fr q = Cm.sealed (ts.take (k + n)) := by rw [← hq, ← hts]; exact Fm.again hte h256 hs
        have hrq : ∀ w' B, Rd w' B A (u8s bs) → Rd w' B A2 (u8s q) := fun w' B h => by
          have h2 := hr2 w' B (u8s bs) (by simp [u8s]; omega) h
          rw [← hq, u8s_take, u8s_drop]; exact h2
        have hrt : ∀ w' B, Rd w' B A (u8s bs) → Rd w' B A1 (u8s ts) := fun w' B h => by
          rw [← hts, u8s_take]; exact hr1 w' B (u8s bs) (by simp [u8s]; omega) h
        obtain ⟨fs, hfs⟩ : ∃ fs, Fm.fr q = fs := ⟨_, rfl⟩
        have hfl : fs.length = (Vm.enc n).length + n + 4 := by rw [← hfs, Fm.fr_length, hql]
        obtain ⟨fl, hfl2⟩ : ∃ fl, fs.length = fl := ⟨_, rfl⟩
        have hfl3 : fl ≤ 10 + n + 4 := by have := Vm.enc_le n; omega
        obtain ⟨hok, hno⟩ := sealed_iff (bs := ts) (n := k + n) (by omega)
        rw [← hfr, hfs] at hok hno
        have hlen : ¬ len < k + n + 4 := by omega
        have HRQ := Lib.hid hrq; have HRT := Lib.hid hrt; have HR := Lib.hid hr
        have HQL := Lib.hid hql; have HQ := Lib.hid hq256; have HFS := Lib.hid hfs; have HFL := Lib.hid hfl2; have HTL := Lib.hid htl
        have HA2 := Lib.hid (hA2 hA)
        have HUL : Hid ((u8s q).length = n) := Lib.hid (by simp [hql])
        have hb2e : (2 : Nat) = 2 := rfl
        by_cases heq : fs = ts
        · have HD : Hid (decide (fs = ts) = true) := Lib.hid (by simp [heq])
          have hnx := Fm.next_ok hte (by omega) hs (by rw [hts]; exact (hok heq).1)
          rw [hq] at hnx
          have HX := Lib.hid hnx
          clear hr h256 hn hte hk4 hs hr1 hr2 hA hA1 hA2 hq hql hq256 hts htl hfr hrq hrt hfs hfl hok hno heq hnx hfl2
          have tok1 : True := trivial
          go_enter Tryd.func11, Tryd.ntmps11
          go_wp2_with fail
          refine hTake.out.mono ?_
          rintro e w1 ⟨rfl, hb1⟩
          go_wp2_with fail
          refine (RWrap_at w1 A2 n (cap - k) q (HRQ.out _ _ ((HR.out.below hb1).more hb1.size)) HQ.out HQL.out (by omega) (fun h => absurd h HA2.out) fs fl HFS.out HFL.out).mono ?_
          rintro e w2 ⟨v2, rfl, ⟨A3, c3, rfl, hr3, _, _, _, _, _⟩, hb2⟩
          have hb12 := hb1.trans (hb2.mono hb1.size)
          go_wp2_with fail
          refine (same_at w2 A3 A1 c3 cap fs ts _ _ fl (k + n + 4) true hr3 (HRT.out _ _ (HR.out.below hb12)) (by rw [HFL.out]; unfold maxLen; omega) HFL.out HTL.out HD.out).mono ?_
          rintro e w3 ⟨rfl, x, rfl⟩
          have hb3 : Below w.heap.size w (w2.drewN x) := below_drewN hb12 x
          clear hr3 hb1 hb2 hb12
          have hb0 := own_lit0 (w2.drewN x) 5 w.heap.size hb3.size
          have hbw := hb3.alloc hb3.size (.cells #[] 5)
          go_wp2_with (first
            | (at_builtin; have _t := tok1; go_must (refine app_own rfl (.tmp 52) (.tmp 59) 22 rfl w.heap.size 5 i0 (.int .u8 0) 1 Tryd.underlying22 hi hz0 hz1 hz2 rfl (.slice (some ⟨(w2.drewN x).heap.size, 0, none⟩) 0 0) 0 [] rfl hb0 w.heap.size A2 n (cap - k) (u8s q) rfl HUL.out (HRQ.out _ _ (HR.out.below hbw)) (fun h => absurd h HA2.out) (u8s_one _) (by unfold maxLen; omega) (by omega) (by have := hb3.size; have e0 : (w2.drewN x).heap.size = w2.heap.size := rfl; simp; omega) ?_; intro v5 w5 ho5 hg5 _hne5; have hb5 := hbw.grown hg5 (by have := hb3.size; have e0 : (w2.drewN x).heap.size = w2.heap.size := rfl; simp; omega) (fun k hk => (hb0.lt k hk).1); simp only [Nat.zero_add, List.nil_append] at ho5; clear hg5 hb0 hbw tok1))
            | fail)
          have HP := Lib.hid (show MNextPost w (Fm.next bs) (.returned (.tuple #[v5, .int .i64 ((k : Int) + (n : Int) + 4), .int .i64 0])) w5 from by
            rw [HX.out]
            refine ⟨v5, by simp only; congr 1, ?_, hb5, fun _ => ?_⟩
            · have := made_of_own ho5 HQL.out HQ.out
              simp only
              rw [HQL.out]
              exact this
            · simp only
              rw [HQL.out]
              exact own_base ho5)
          clear ho5 hb5
          go_wp2
          go_ret3
          exact HP.out
        · have HD : Hid (decide (fs = ts) = false) := Lib.hid (by simp [heq])
          have hnx := Fm.next_sum hte (by omega) hs (by rw [hts, hno heq]; decide)
          have HX := Lib.hid hnx
          clear hr h256 hn hte hk4 hs hr1 hr2 hA hA1 hA2 hq hql hq256 hts htl hfr hrq hrt hfs hfl hok hno heq hnx hfl2
          go_enter Tryd.func11, Tryd.ntmps11
          go_wp2_with fail
          refine hTake.out.mono ?_
          rintro e w1 ⟨rfl, hb1⟩
          go_wp2_with fail
          refine (RWrap_at w1 A2 n (cap - k) q (HRQ.out _ _ ((HR.out.below hb1).more hb1.size)) HQ.out HQL.out (by omega) (fun h => absurd h HA2.out) fs fl HFS.out HFL.out).mono ?_
          rintro e w2 ⟨v2, rfl, ⟨A3, c3, rfl, hr3, _, _, _, _, _⟩, hb2⟩
          have hb12 := hb1.trans (hb2.mono hb1.size)
          go_wp2_with fail
          refine (same_at w2 A3 A1 c3 cap fs ts _ _ fl (k + n + 4) false hr3 (HRT.out _ _ (HR.out.below hb12)) (by rw [HFL.out]; unfold maxLen; omega) HFL.out HTL.out HD.out).mono ?_
          rintro e w3 ⟨rfl, x, rfl⟩
          have HP := Lib.hid (mnext_no (w := w) (d := 5) HX.out (by decide) (below_drewN hb12 x))
          clear hr3 hb1 hb2 hb12
          go_wp2
          go_ret3
          exact HP.out
  · have HP := Lib.hid (fun w' (hb : Below w.heap.size w w') => mnext_no (Fm.next_e hte hd) hd hb)
    have hdn : ((d : Int) == 0) = false := by simp; omega
    clear hr h256 hn hte
    go_enter Tryd.func11, Tryd.ntmps11
    go_wp2_with fail
    refine hTake.out.mono ?_
    rintro e w' ⟨rfl, hb⟩
    have HPP := Lib.hid (HP.out _ hb); clear hb
    go_wp2
    go_ret3
    exact HPP.out
theorem RNext_at (w : World) (A : Option Addr) (len cap : Nat) (bs : List Nat) (hr : Rd w w.heap.size A (u8s bs)) (h256 : ∀ b ∈ bs, b < 256) (hn : bs.length = len) (hlc : len ≤ cap) (hcm : cap ≤ maxLen) (hl : len ≤ 1099511627776) (q : List Nat) (s d m : Nat) (hq : Fm.next bs = (q, s, d)) (hm : q.length = m) :
    Calls Tryd.prog 11 #[.slice A len cap] w fun e w' => ∃ v, e = .returned (.tuple #[v, .int .i64 (s : Int), .int .i64 (d : Int)]) ∧ Made w' v q m ∧ Below w.heap.size w w' ∧ (d = 0 → w'.ownsRow 0 5 1 v m (u8s q)) := by
  subst hm
  have h := RNext_any w A len cap bs hr h256 hn hlc hcm hl
  rw [hq] at h
  exact h
end Go.Proofs.YtignfhdblakcfaaDoor

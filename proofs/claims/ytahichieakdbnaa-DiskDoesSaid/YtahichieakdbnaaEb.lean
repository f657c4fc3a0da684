/- disk: Crash. -/
import Derived.Test.YtahichieakdbnaaEa
namespace Go.Proofs.Ytahichieakdbnaa
open Go.ChangeShapes Go.WideShapes Go.ChangeAt Go.RowKit Go.Maps
set_option linter.unusedVariables false
set_option linter.unusedSimpArgs false

def i64i (l : List Int) : List Value := l.map fun (n : Int) => Value.int .i64 n
/-- how many bytes more are kept, at most -/
def moreK (ks : List Int) (i : Nat) : Nat := if ks = [] then 0 else (ks[i % ks.length]?.getD 0).toNat
def crash1 (ks : List Int) (i : Nat) (f : Fl) : Fl := (f.1.take (f.2 + min (moreK ks i) (f.1.length - f.2)), f.2 + min (moreK ks i) (f.1.length - f.2))
def crashU (ks : List Int) (fs : List Fl) (k : Nat) : List Fl := fs.mapIdx fun j f => if j < k then crash1 ks j f else f
def crashP (ks : List Int) (d : Pd) : Pd := (crashU ks d.1 64, false, false, 0)
theorem crashU_get {ks : List Int} {fs : List Fl} {i : Nat} {f : Fl} (h : fs[i]? = some f) : (crashU ks fs i)[i]? = some f := by
  unfold crashU
  rw [List.getElem?_mapIdx, h]
  simp
theorem crashU_succ {ks : List Int} {fs : List Fl} {i : Nat} {f : Fl} (h : fs[i]? = some f) : crashU ks fs (i + 1) = (crashU ks fs i).set i (crash1 ks i f) := by
  apply List.ext_getElem?
  intro j
  unfold crashU
  by_cases hj : i = j
  · subst hj
    rw [List.getElem?_set_self (by simpa using (List.getElem?_eq_some_iff.1 h).1), List.getElem?_mapIdx, h]
    simp
  · rw [List.getElem?_set_ne hj, List.getElem?_mapIdx, List.getElem?_mapIdx]
    have : (j < i + 1) ↔ (j < i) := by omega
    simp only [this]
theorem crashU_zero (ks : List Int) (fs : List Fl) : crashU ks fs 0 = fs := by
  apply List.ext_getElem?
  intro j
  unfold crashU
  rw [List.getElem?_mapIdx]
  cases fs[j]? <;> simp
set_option maxHeartbeats 4000000 in
set_option maxRecDepth 100000 in
theorem DCrash_any (w : World) (g room : Nat) (vs : List Value) (d : Pd) (A0 : Option Addr) (n0 cap0 B : Nat) (ks : List Int) (h : DM w g room vs d) (hok : OkP room d)
    (hr : Rd w B A0 (i64i ks)) (hB : B ≤ w.heap.size) (hl : ks.length = n0) (hn : n0 ≤ 1099511627776) (hne : ∀ q o, A0 = some ⟨q, o, none⟩ → i64i ks ≠ [] → q ≠ g) :
    Calls Try.prog 34 #[.pointer (some ⟨g, 0, none⟩), .slice A0 n0 cap0] w (fun en w' => en = .returned (.tuple #[]) ∧ ∃ vs', DM w' g room vs' (crashP ks d) ∧ Only (fun j => j = g) w w' ∧ ∀ j, DS g vs' j → DS g vs j) := by
  have gl := h.2.2.1.lt
  have H := Lib.hid h
  have HOK := Lib.hid hok
  have HR := Lib.hid hr
  clear h hok hr
  go_enter Try.func34, Try.ntmps34
  go_wp2
  go_loopw [7] (fun s7 wr => ∃ (i : Nat), s7 = .int .i64 (i : Int) ∧ i ≤ 64 ∧ ∃ vs', Hid (DskM wr g room vs' (crashU ks d.1 i) d.2.1 d.2.2.1 d.2.2.2) ∧ Hid (Only (fun j => j = g) w wr) ∧ Hid (∀ j, DS g vs' j → DS g vs j)) (fun s7 _ => 64 - (intOf s7).toNat)
  case atStart => exact ⟨0, rfl, by omega, vs, Lib.hid (by rw [crashU_zero]; exact H.out), Lib.hid (Only.refl _ _), Lib.hid (fun j h => h)⟩
  case round =>
    obtain ⟨i, rfl, hi64, vs', HD, HO, HS⟩ := hrel
    by_cases hlt : i < 64
    · have hiI : (i : Int) < 64 := by omega
      obtain ⟨v, hv⟩ : ∃ v, vs'[i]? = some v := ⟨_, List.getElem?_eq_getElem (by rw [HD.out.1]; exact hlt)⟩
      obtain ⟨f, hf⟩ : ∃ f, d.1[i]? = some f := ⟨_, List.getElem?_eq_getElem (by rw [HOK.out.2.2.1]; exact hlt)⟩
      have hf2 := crashU_get (ks := ks) hf
      have ho := HD.out.2.2.2.1 i v f hv hf2
      obtain ⟨A, c, rfl⟩ := own_sl ho
      have c0 := HD.out.bytesA hv
      have c1 := HD.out.sureA hf2
      have z0 := HD.out.2.2.1.frozen (1 + i * 2)
      have z1 := HD.out.2.2.1.frozen (1 + i * 2 + 1)
      have gl2 := HD.out.2.2.1.lt
      have hs := (HOK.out.2.2.2.1 f (List.mem_of_getElem? hf)).1
      have hL := Nat.le_trans (totF_mem hf) (Nat.le_trans HOK.out.2.1 HOK.out.1)
      have hcap := own_cap ho
      obtain ⟨k, hk⟩ : ∃ k, f.2 + min (moreK ks i) (f.1.length - f.2) = k := ⟨_, rfl⟩
      have hkL : k ≤ f.1.length := by omega
      have S0 := slice_h0 32 5 Try.underlying32 one8d A f.1.length c k (k : Int) rfl (by omega) (own_add0 ho)
      have hc1 : crash1 ks i f = (f.1.take k, k) := by unfold crash1; rw [hk]
      -- behind the first store
      have hon := own_cut ho hkL
      rw [Nat.mul_one] at hon
      have HEND : Hid (∀ W, W = wr.drew → DskM ((W.setCell ⟨g, 1 + i * 2, none⟩ (.slice A k c)).setCell ⟨g, 1 + i * 2 + 1, none⟩ (.int .i64 (k : Int))).drew g room (vs'.set i (.slice A k c)) (crashU ks d.1 (i + 1)) d.2.1 d.2.2.1 d.2.2.2 ∧
          Only (fun j => j = g) w ((W.setCell ⟨g, 1 + i * 2, none⟩ (.slice A k c)).setCell ⟨g, 1 + i * 2 + 1, none⟩ (.int .i64 (k : Int))).drew ∧ ∀ j, DS g (vs'.set i (.slice A k c)) j → DS g vs j) := Lib.hid (by
        rintro W rfl
        have hbd := (Below.refl wr.heap.size wr).drew
        have e1 : ∀ j, (Value.slice A k c).ownBlock = some j → (Value.slice A f.1.length c).ownBlock = some j := fun j hj => by cases A with | none => simp [Value.ownBlock] at hj | some a => simpa [Value.ownBlock] using hj
        have h1 := (HD.out.below hbd).setV (v' := .slice A k c) (bs := f.1.take k) (w2 := wr.drew) hv hf2 (World.grownBy.refl _ _) (by
          rw [List.length_take, Nat.min_eq_left hkL]
          have h9 := own_below hon hbd
          simpa [u8s, List.map_take] using h9) (fun j hj => .inl (e1 j hj))
        have hil := (List.getElem?_eq_some_iff.1 hf2).1
        have hf3 : ((crashU ks d.1 i).set i (f.1.take k, f.2))[i]? = some (f.1.take k, f.2) := by rw [List.getElem?_set_self hil]
        have h2 := h1.setS hf3 k
        rw [List.set_set, ← hc1, ← crashU_succ hf] at h2
        refine ⟨h2.below (Below.refl _ _).drew, Only.drew (Only.set (S := fun j => j = g) (Only.set (S := fun j => j = g) HO.out.drew rfl _ _) rfl _ _), fun j hj => HS.out j ?_⟩
        rcases hj with rfl | ⟨a, u, hu, hj⟩
        · exact .inl rfl
        · by_cases ha : i = a
          · subst ha
            rw [List.getElem?_set_self (List.getElem?_eq_some_iff.1 hv).1] at hu
            injection hu with hu
            subst hu
            exact .inr ⟨i, _, hv, e1 j hj⟩
          · rw [List.getElem?_set_ne ha] at hu
            exact .inr ⟨a, u, hu, hj⟩)
      obtain ⟨s, hsv⟩ : ∃ s, f.2 = s := ⟨_, rfl⟩
      obtain ⟨L, hLv⟩ : ∃ L, f.1.length = L := ⟨_, rfl⟩
      have w1 : IntKind.i64.wrap ((L : Int) - (s : Int)) = ((L - s : Nat) : Int) := by rw [IntWalk.i64_in _ ⟨by omega, by omega⟩]; omega
      rw [hLv] at c0 S0
      rw [hsv] at c1
      have HK := Lib.hid hk; have HSV := Lib.hid hsv; have HLV := Lib.hid hLv; have HF := Lib.hid hf; have HV := Lib.hid hv
      have hsL : s ≤ L := by omega
      have hLL : L ≤ 1048576 := by omega
      clear hv hf hf2 ho hon hk hc1 hsv hLv hs hL
      by_cases hn0 : n0 = 0
      · subst hn0
        have hks : ks = [] := List.eq_nil_of_length_eq_zero hl
        have hk2 : k = s := by rw [← HK.out, ← HSV.out]; unfold moreK; rw [if_pos hks]; simp
        have hlt0 : ¬ (((L - s : Nat) : Int) < 0) := by omega
        have w2 : IntKind.i64.wrap (s : Int) = (s : Int) := by rw [IntWalk.i64_in _ ⟨by omega, by omega⟩]
        subst hk2
        go_wp2
        go_still_tail 12, (by kernel_rfl)
        go_wp2
        obtain ⟨W, hW⟩ : ∃ W, W = wr.drew := ⟨_, rfl⟩
        first | rw [← hW] | (change Code.wp _ _ _ _ wr.drew; rw [← hW])
        have c0' : W.cell? ⟨g, 1 + i * 2, none⟩ = some (.slice A L c) := by rw [hW]; exact c0
        have c1' : W.cell? ⟨g, 1 + i * 2 + 1, none⟩ = some (.int .i64 (k : Int)) := by rw [hW]; exact c1
        have z0' : W.frozen? ⟨g, 1 + i * 2, none⟩ = false := by rw [hW]; exact z0
        have z1' : W.frozen? ⟨g, 1 + i * 2 + 1, none⟩ = false := by rw [hW]; exact z1
        have gl3 : g < W.heap.size := by rw [hW]; exact gl2
        have HE := Lib.hid (HEND.out W hW)
        clear c0 c1 z0 z1 hW
        go_still_tail 14, (by kernel_rfl)
        change wpList _ _ _ _ _ W.drew
        go_wp2
        go_roundw
        case rel => exact ⟨i + 1, by go_num, by omega, _, Lib.hid HE.out.1, Lib.hid HE.out.2.1, Lib.hid HE.out.2.2⟩
        case measure => simp [intOf]; omega
      · have hnI : (0 : Int) < (n0 : Int) := by omega
        have hne2 : i64i ks ≠ [] := by intro e; have h9 := congrArg List.length e; simp only [i64i, List.length_map, List.length_nil] at h9; omega
        obtain ⟨q, o, rfl, hq, hc⟩ := (HR.out) hne2
        have hqw : q < w.heap.size := by omega
        have hqg := hne q o rfl hne2
        have hlt2 : i % n0 < n0 := Nat.mod_lt _ (by omega)
        obtain ⟨kv, hkv⟩ : ∃ kv, ks[i % n0]? = some kv := ⟨_, List.getElem?_eq_getElem (by rw [hl]; exact hlt2)⟩
        have hrem : Int.tmod (i : Int) (n0 : Int) = ((i % n0 : Nat) : Int) := by rw [← Int.ofNat_tmod]
        have k0 : wr.cell? ⟨q, o + i % n0, none⟩ = some (.int .i64 kv) := by
          rw [show wr.cell? ⟨q, o + i % n0, none⟩ = w.cell? ⟨q, o + i % n0, none⟩ from by unfold World.cell?; rw [HO.out.2.2.2.2 q hqw hqg]]
          exact hc _ _ (by simp [i64i, hkv])
        have hmore : moreK ks i = kv.toNat := by
          unfold moreK
          rw [if_neg (by rintro rfl; simp at hl; omega), hl, hkv]
          rfl
        have hk2 : s + min kv.toNat (L - s) = k := by rw [← hmore, ← HSV.out, ← HLV.out]; exact HK.out
        clear hkv hmore
        by_cases hkv0 : kv < 0
        · have hk3 : k = s := by omega
          have hlt0 : ¬ (((L - s : Nat) : Int) < 0) := by omega
          have w2 : IntKind.i64.wrap (s : Int) = (s : Int) := by rw [IntWalk.i64_in _ ⟨by omega, by omega⟩]
          clear hk2
          subst hk3
          go_wp2
          go_still_tail 12, (by kernel_rfl)
          go_wp2
          obtain ⟨W, hW⟩ : ∃ W, W = wr.drew := ⟨_, rfl⟩
          first | rw [← hW] | (change Code.wp _ _ _ _ wr.drew; rw [← hW])
          have c0' : W.cell? ⟨g, 1 + i * 2, none⟩ = some (.slice A L c) := by rw [hW]; exact c0
          have c1' : W.cell? ⟨g, 1 + i * 2 + 1, none⟩ = some (.int .i64 (k : Int)) := by rw [hW]; exact c1
          have z0' : W.frozen? ⟨g, 1 + i * 2, none⟩ = false := by rw [hW]; exact z0
          have z1' : W.frozen? ⟨g, 1 + i * 2 + 1, none⟩ = false := by rw [hW]; exact z1
          have gl3 : g < W.heap.size := by rw [hW]; exact gl2
          have HE := Lib.hid (HEND.out W hW)
          clear c0 c1 z0 z1 hW
          go_still_tail 14, (by kernel_rfl)
          change wpList _ _ _ _ _ W.drew
          go_wp2
          go_roundw
          case rel => exact ⟨i + 1, by go_num, by omega, _, Lib.hid HE.out.1, Lib.hid HE.out.2.1, Lib.hid HE.out.2.2⟩
          case measure => simp [intOf]; omega
        · obtain ⟨kn, rfl⟩ : ∃ kn : Nat, kv = (kn : Int) := ⟨kv.toNat, by omega⟩
          by_cases hle : L - s < kn
          · have hleI : ((L - s : Nat) : Int) < (kn : Int) := by omega
            have hk3 : k = L := by simp only [Int.toNat_natCast] at hk2; omega
            have w2 : IntKind.i64.wrap ((s : Int) + ((L - s : Nat) : Int)) = (L : Int) := by rw [IntWalk.i64_in _ ⟨by omega, by omega⟩]; omega
            clear hk2
            subst hk3
            go_wp2
            go_still_tail 12, (by kernel_rfl)
            go_wp2
            obtain ⟨W, hW⟩ : ∃ W, W = wr.drew := ⟨_, rfl⟩
            first | rw [← hW] | (change Code.wp _ _ _ _ wr.drew; rw [← hW])
            have c0' : W.cell? ⟨g, 1 + i * 2, none⟩ = some (.slice A k c) := by rw [hW]; exact c0
            have c1' : W.cell? ⟨g, 1 + i * 2 + 1, none⟩ = some (.int .i64 (s : Int)) := by rw [hW]; exact c1
            have z0' : W.frozen? ⟨g, 1 + i * 2, none⟩ = false := by rw [hW]; exact z0
            have z1' : W.frozen? ⟨g, 1 + i * 2 + 1, none⟩ = false := by rw [hW]; exact z1
            have gl3 : g < W.heap.size := by rw [hW]; exact gl2
            have HE := Lib.hid (HEND.out W hW)
            clear c0 c1 z0 z1 hW
            go_still_tail 14, (by kernel_rfl)
            change wpList _ _ _ _ _ W.drew
            go_wp2
            go_roundw
            case rel => exact ⟨i + 1, by go_num, by omega, _, Lib.hid HE.out.1, Lib.hid HE.out.2.1, Lib.hid HE.out.2.2⟩
            case measure => simp [intOf]; omega
          · have hleI : ¬ ((L - s : Nat) : Int) < (kn : Int) := by omega
            have hk3 : k = s + kn := by simp only [Int.toNat_natCast] at hk2; omega
            have w2 : IntKind.i64.wrap ((s : Int) + (kn : Int)) = (k : Int) := by rw [IntWalk.i64_in _ ⟨by omega, by omega⟩]; omega
            clear hk2 hk3
            go_wp2
            go_still_tail 12, (by kernel_rfl)
            go_wp2
            obtain ⟨W, hW⟩ : ∃ W, W = wr.drew := ⟨_, rfl⟩
            first | rw [← hW] | (change Code.wp _ _ _ _ wr.drew; rw [← hW])
            have c0' : W.cell? ⟨g, 1 + i * 2, none⟩ = some (.slice A L c) := by rw [hW]; exact c0
            have c1' : W.cell? ⟨g, 1 + i * 2 + 1, none⟩ = some (.int .i64 (s : Int)) := by rw [hW]; exact c1
            have z0' : W.frozen? ⟨g, 1 + i * 2, none⟩ = false := by rw [hW]; exact z0
            have z1' : W.frozen? ⟨g, 1 + i * 2 + 1, none⟩ = false := by rw [hW]; exact z1
            have gl3 : g < W.heap.size := by rw [hW]; exact gl2
            have HE := Lib.hid (HEND.out W hW)
            clear c0 c1 z0 z1 hW
            go_still_tail 14, (by kernel_rfl)
            change wpList _ _ _ _ _ W.drew
            go_wp2
            go_roundw
            case rel => exact ⟨i + 1, by go_num, by omega, _, Lib.hid HE.out.1, Lib.hid HE.out.2.1, Lib.hid HE.out.2.2⟩
            case measure => simp [intOf]; omega
    · obtain rfl : i = 64 := by omega
      have hb := HD.out
      have HA := Lib.hid (hb.setDown false)
      have z9 := hb.2.2.1.frozen 129
      have a9 := hb.down0
      have gl9 := hb.2.2.1.lt
      have HFU := Lib.hid (DFuse_any (wr.setCell ⟨g, 129, none⟩ (.bool false)) g room vs' (crashU ks d.1 64, false, d.2.2.1, d.2.2.2) (-1) HA.out)
      have HOO := Lib.hid (Only.set (S := fun j => j = g) HO.out rfl 129 (.bool false))
      clear hb
      go_wp2_with fail
      refine HFU.out.mono ?_
      rintro en w2 ⟨rfl, h1, h2⟩
      have H1 := Lib.hid h1
      have H2 := Lib.hid (HOO.out.trans h2 (Sub.refl _ _))
      clear h1 h2
      go_wp2
      go_end0
      exact ⟨rfl, vs', H1.out, H2.out, HS.out⟩
end Go.Proofs.Ytahichieakdbnaa

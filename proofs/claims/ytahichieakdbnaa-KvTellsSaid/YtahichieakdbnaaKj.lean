/- packetboatref05.Same; a store's bounds; law 16's KvBack, in plain words. -/
import Derived.Test.YtahichieakdbnaaKh
namespace Go.Proofs.Ytahichieakdbnaa
open Go.ChangeShapes Go.WideShapes Go.ChangeAt Go.RowKit Go.Maps
set_option linter.unusedVariables false
set_option linter.unusedSimpArgs false

def SSAPost (w : World) (b : Bool) (e : Ending) (w' : World) : Prop := e = .returned (.bool b) ∧ ∃ q, w' = w.drewN q
theorem take_grow {ks ls : List ByteArray} {k : Nat} {s : ByteArray} (h : ks.take k = ls.take k) (h1 : ks[k]? = some s) (h2 : ls[k]? = some s) : ks.take (k + 1) = ls.take (k + 1) := by
  rw [List.take_add_one, List.take_add_one, h, h1, h2]
set_option maxHeartbeats 2000000 in
theorem SSame_any (w : World) (A1 A2 : Option Addr) (c1 c2 n1 n2 : Nat) (ks ls : List ByteArray) (B1 B2 : Nat) (h1 : Rd w B1 A1 (ks.map Value.string)) (h2 : Rd w B2 A2 (ls.map Value.string)) (hn1 : ks.length = n1) (hn2 : ls.length = n2) (hl : n1 ≤ 1000000000) :
    Calls Try.prog 45 #[.slice A1 n1 c1, .slice A2 n2 c2] w (SSAPost w (decide (ks = ls))) := by
  have HN1 := Lib.hid hn1; have HN2 := Lib.hid hn2; have H1 := Lib.hid h1; have H2 := Lib.hid h2
  by_cases hnn : n1 = n2
  · subst hnn
    obtain ⟨d, hd⟩ : ∃ d, decide (ks = ls) = d := ⟨_, rfl⟩
    have HD := Lib.hid hd
    rw [hd]
    clear hn1 hn2 h1 h2 hd
    go_enter Try.func45, Try.ntmps45
    go_wp2
    go_loopw [5] (fun s5 wr => ∃ k : Nat, s5 = .int .i64 (k : Int) ∧ k ≤ n1 ∧ Hid (ks.take k = ls.take k) ∧ ∃ q, wr = w.drewN q) (fun s5 _ => n1 - (intOf s5).toNat)
    case atStart => exact ⟨0, rfl, by omega, Lib.hid (by simp), 0, rfl⟩
    case round =>
      obtain ⟨k, rfl, hk, htk, q, rfl⟩ := hrel
      by_cases hlt : k < n1
      · have hne : ks ≠ [] := by intro h0; have := HN1.out; rw [h0] at this; simp at this; omega
        have hne2 : ls ≠ [] := by intro h0; have := HN2.out; rw [h0] at this; simp at this; omega
        obtain ⟨g1, o1, rfl, -, hc1⟩ := H1.out.strs hne
        obtain ⟨g2, o2, rfl, -, hc2⟩ := H2.out.strs hne2
        obtain ⟨s, hs⟩ : ∃ s, ks[k]? = some s := ⟨_, List.getElem?_eq_getElem (by rw [HN1.out]; exact hlt)⟩
        obtain ⟨s', hs'⟩ : ∃ s, ls[k]? = some s := ⟨_, List.getElem?_eq_getElem (by rw [HN2.out]; exact hlt)⟩
        have e1 := hc1 k s hs
        have e2 := hc2 k s' hs'
        have hlI : (k : Int) < (n1 : Int) := by omega
        by_cases hss : s = s'
        · subst hss
          have R := Lib.hid (take_grow htk.out hs hs')
          clear hc1 hc2 hs hs' hne hne2 htk
          go_wp2
          go_quiet (fail)
          go_wp2
          go_roundw
          case rel => exact ⟨k + 1, by go_num, by omega, R, _, rfl⟩
          case measure => simp [intOf]; omega
        · have hbn := bas_ne hss
          have hdf : d = false := by
            rw [← HD.out]
            exact decide_eq_false (fun e => hss (by rw [e, hs'] at hs; injection hs with hs; exact hs.symm))
          have HDF := Lib.hid hdf
          clear hc1 hc2 hs hs' hne hne2 htk hdf
          go_wp2
          go_quiet (fail)
          go_wp2
          go_ret
          exact ⟨by rw [HDF.out]; rfl, by first | exact ⟨_, rfl⟩ | exact ⟨_, World.drewN_drewN ..⟩⟩
      · have hge : (n1 : Int) ≤ (k : Int) := by omega
        have hdt : d = true := by
          rw [← HD.out]
          have h := htk.out
          rw [List.take_of_length_le (by rw [HN1.out]; omega), List.take_of_length_le (by rw [HN2.out]; omega)] at h
          exact decide_eq_true h
        have HDT := Lib.hid hdt
        clear htk hdt
        go_wp2
        go_ret
        exact ⟨by rw [HDT.out]; rfl, by first | exact ⟨_, rfl⟩ | exact ⟨_, World.drewN_drewN ..⟩⟩
  · have hd : decide (ks = ls) = false := decide_eq_false (fun e => hnn (by rw [← hn1, ← hn2, e]))
    rw [hd]
    have hnI : (n1 : Int) ≠ (n2 : Int) := by omega
    clear hn1 hn2 h1 h2 hd
    go_enter Try.func45, Try.ntmps45
    go_wp2
    go_ret
    exact ⟨rfl, 0, rfl⟩
/-- an own row of keys, read as texts -/
theorem own_strs {w : World} {base n c : Nat} {A : Option Addr} {xs : List L8} (h : w.ownsRow base 9 1 (.slice A n c) n (xs.map encStr)) : Rd w w.heap.size A ((xs.map Km.ba).map Value.string) := fun hne => by
  have e : (xs.map Km.ba).map Value.string = xs.map encStr := by rw [List.map_map]; rfl
  rw [e] at hne ⊢
  have hpos : 0 < n := by
    rcases Nat.eq_zero_or_pos n with h0 | h0
    · exact absurd (List.eq_nil_of_length_eq_zero (by rw [h.1, h0])) hne
    · exact h0
  obtain ⟨q, cp, hv, -, hq⟩ := h.form hpos
  injection hv with e1 _ e3
  subst e1
  exact ⟨q, 0, rfl, hq, fun j u hu => by
    have h2 := h.cells (g := q) rfl j u hu
    rw [addk0] at h2
    simpa using h2⟩
theorem ba_map_inj {a b : List L8} : (a.map Km.ba = b.map Km.ba) ↔ a = b := by
  constructor
  · intro h
    have h2 := congrArg (fun l => l.map (fun k : ByteArray => k.data.toList)) h
    simp only [List.map_map] at h2
    have e : ((fun k : ByteArray => k.data.toList) ∘ Km.ba) = id := by funext x; exact Km.data_ba x
    rw [e, List.map_id, List.map_id] at h2
    exact h2
  · intro h; rw [h]
theorem StoreM.len_le {w : World} {g n : Nat} {S : Nat → Prop} {st : St} (h : StoreM w g S n st) : st.length ≤ n := by
  obtain ⟨m, D, h1, h2, h3, h4⟩ := h
  rw [← KI_size h2 h3]
  exact h2.size_le
theorem StoreM.tight {w : World} {g n : Nat} {S : Nat → Prop} {st : St} (h : StoreM w g S n st) : StoreM w g S st.length st := by
  obtain ⟨m, D, h1, h2, h3, h4⟩ := h
  have h5 := map_tight h2
  rw [KI_size h2 h3] at h5
  exact ⟨m, D, h1, h5, h3, h4⟩
def LeM (M : Nat) (st : St) : Prop := ∀ p ∈ st, p.1.length ≤ M ∧ p.2.length ≤ M
theorem LeM.appl {M : Nat} : ∀ {l : List Wr} {st : St}, LeM M st → (∀ x ∈ l, x.1.size ≤ M ∧ x.2.1.size ≤ M) → LeM M (Km.appl st l)
  | [], st, h, _ => h
  | x :: r, st, h, hx => by
    have e : Km.appl st (x :: r) = Km.appl (if x.2.2 = true then Km.del st x.1.data.toList else Km.put st x.1.data.toList x.2.1.data.toList) r := rfl
    rw [e]
    refine LeM.appl (fun p hp => ?_) (fun y hy => hx y (List.mem_cons_of_mem _ hy))
    obtain ⟨h1, h2⟩ := hx x List.mem_cons_self
    split at hp
    · exact h p ((List.mem_filter.1 hp).1)
    · rcases Km.mem_put hp with hp | hp
      · rw [hp]; exact ⟨by rw [Array.length_toList]; exact h1, by rw [Array.length_toList]; exact h2⟩
      · exact h p hp
theorem LeM.fold {M : Nat} {ts : List Txn} (h : ∀ t ∈ ts, ∀ x ∈ t.2.2.2, x.1.size ≤ M ∧ x.2.1.size ≤ M) : LeM M (foldT ts) := by
  have : ∀ (l : List Txn) (st : St), LeM M st → (∀ t ∈ l, ∀ x ∈ t.2.2.2, x.1.size ≤ M ∧ x.2.1.size ≤ M) → LeM M (l.foldl (fun st t => Km.appl st t.2.2.2) st) := by
    intro l
    induction l with
    | nil => intro st h _; exact h
    | cons t r ih => intro st h hl; exact ih _ (h.appl (hl t List.mem_cons_self)) (fun t' ht' => hl t' (List.mem_cons_of_mem _ ht'))
  exact this ts [] (fun p hp => by simp at hp) h
theorem FineT.le {t : Txn} (h : FineT t) : ∀ x ∈ t.2.2.2, x.1.size ≤ 9000 ∧ x.2.1.size ≤ 9000 := fun x hx => by
  obtain ⟨j, hj⟩ := List.getElem?_of_mem hx
  exact h.2 j x hj
/-- two texts are one just if the stores are -/
theorem txt_inj {a b : St} (ha : Km.Srt a) (hb : Km.Srt b) (h1 : LeM 9000 a) (h2 : LeM 9000 b) : decide (Km.txt a = Km.txt b) = decide (a = b) := by
  by_cases h : a = b
  · rw [decide_eq_true h, decide_eq_true (by rw [h])]
  · rw [decide_eq_false h]
    refine decide_eq_false (fun e => h ?_)
    have e1 := Km.load_txt ha (fun p hp => by have := h1 p hp; omega)
    have e2 := Km.load_txt hb (fun p hp => by have := h2 p hp; omega)
    rw [e, e2] at e1
    injection e1 with e1 _
    injection e1 with e1
    exact e1.symm
/-- so far the values are the same -/
def sm (b0 : Bool) (st tt : St) (j : Nat) : Bool := b0 && (st.take j).all fun p => decide (p.2 = (Km.get tt p.1).getD [])
theorem sm_succ {b0 : Bool} {st tt : St} {j : Nat} {p : L8 × L8} (hp : st[j]? = some p) : sm b0 st tt (j + 1) = (sm b0 st tt j && decide (p.2 = (Km.get tt p.1).getD [])) := by
  unfold sm
  rw [List.take_add_one, hp, Option.toList_some, List.all_append]
  simp [Bool.and_assoc]
theorem sm_end {st tt : St} (ha : Km.Srt st) (hb : Km.Srt tt) {n : Nat} (hn : st.length = n) : sm (decide (st.map (·.1) = tt.map (·.1))) st tt n = decide (st = tt) := by
  unfold sm
  rw [List.take_of_length_le (by omega)]
  by_cases h : st = tt
  · subst h
    rw [decide_eq_true rfl, decide_eq_true rfl, Bool.true_and, List.all_eq_true]
    exact fun p hp => decide_eq_true (by rw [Km.get_at ha hp]; rfl)
  · rw [decide_eq_false h]
    by_cases hk : st.map (·.1) = tt.map (·.1)
    · rw [decide_eq_true hk, Bool.true_and]
      rw [List.all_eq_false]
      refine Classical.byContradiction (fun hno => h ?_)
      refine List.ext_getElem? (fun i => ?_)
      have hki := congrArg (fun l => l[i]?) hk
      simp only [List.getElem?_map] at hki
      cases h1 : st[i]? with
      | none =>
        rw [h1] at hki
        cases h2 : tt[i]? with
        | none => rfl
        | some q => rw [h2] at hki; cases hki
      | some p =>
        rw [h1] at hki
        cases h2 : tt[i]? with
        | none => rw [h2] at hki; cases hki
        | some q =>
          rw [h2] at hki
          injection hki with hki
          have hp := List.mem_of_getElem? h1
          have hq := List.mem_of_getElem? h2
          have hg := Km.get_at hb hq
          have hv : p.2 = (Km.get tt p.1).getD [] := by
            refine Classical.byContradiction (fun hc => hno ⟨p, hp, by simpa using hc⟩)
          have hki2 : p.1 = q.1 := hki
          rw [hki2, hg] at hv
          exact congrArg some (Prod.ext hki2 hv)
    · rw [decide_eq_false hk, Bool.false_and]
end Go.Proofs.Ytahichieakdbnaa

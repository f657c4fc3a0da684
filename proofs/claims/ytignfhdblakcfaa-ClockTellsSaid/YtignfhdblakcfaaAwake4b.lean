/- law 4's awake. -/
import Derived.Test.YtignfhdblakcfaaCtake
import Derived.Test.YtignfhdblakcfaaCov
import Derived.Test.YtignfhdblakcfaaStp
import Derived.Test.YtignfhdblakcfaaSame
import Derived.Deep.AppendLies
import Derived.Deep.DrawnRows
namespace Go.Proofs.Ytignfhdblakcfaa
open Go.ChangeShapes Go.WideShapes Go.ChangeAt Go.RowKit
set_option linter.unusedVariables false
set_option linter.unusedSimpArgs false

theorem Cput_at (w : World) (p0 p1 p2 c0 c1 c2 : Int) (bs : List Nat) (n : Nat) (h : rightB p0 p1 p2 = true ∧ rightB c0 c1 c2 = true) (hb : putC (p0, p1, p2) (c0, c1, c2) = bs) (hn : bs.length = n) :
    Calls Try.prog 15 #[.agg #[.int .i64 p0, .int .i64 p1, .int .i64 p2], .agg #[.int .i64 c0, .int .i64 c1, .int .i64 c2]] w fun e w' => ∃ g o c, e = .returned (.tuple #[.slice (some ⟨g, o, none⟩) n c, .int .i64 0]) ∧ Rd w' w'.heap.size (some ⟨g, o, none⟩) (u8s bs) ∧ n ≤ c ∧ c ≤ maxLen ∧ Below w.heap.size w w' := by
  subst hb hn
  refine (Cput_any w p0 p1 p2 c0 c1 c2).mono ?_
  rintro e w' ⟨hb, h2⟩
  rw [if_pos h] at h2
  obtain ⟨v, rfl, A, c, rfl, hr, _, hc, hm, _, _⟩ := h2
  obtain ⟨g, o, rfl⟩ := hr.at_ (by
    intro h
    have h1 := congrArg List.length h
    have h2 := Vm.enc_pos (Vm.zig (c0 - p0))
    simp [putC, put1] at h1
    have h3 := h1.1
    rw [h3] at h2
    simp at h2)
  exact ⟨g, o, c, rfl, hr, hc, hm, hb⟩
theorem Cput_no_at (w : World) (p0 p1 p2 c0 c1 c2 : Int) (h : ¬ (rightB p0 p1 p2 = true ∧ rightB c0 c1 c2 = true)) :
    Calls Try.prog 15 #[.agg #[.int .i64 p0, .int .i64 p1, .int .i64 p2], .agg #[.int .i64 c0, .int .i64 c1, .int .i64 c2]] w fun e w' => e = .returned (.tuple #[.slice none 0 0, .int .i64 1]) ∧ Below w.heap.size w w' := by
  refine (Cput_any w p0 p1 p2 c0 c1 c2).mono ?_
  rintro e w' ⟨hb, h2⟩
  rw [if_neg h] at h2
  exact ⟨h2, hb⟩
theorem Ctake_at (w : World) (p0 p1 p2 : Int) (A : Option Addr) (n c : Nat) (bs : List Nat) (x y z : Int) (k d : Nat) (ki di : Int) (hr : Rd w w.heap.size A (u8s bs)) (h256 : ∀ b ∈ bs, b < 256) (hn : bs.length = n) (hc : n ≤ c) (hm : c ≤ maxLen) (hnone : A = none → c = 0) (ht : takeC (p0, p1, p2) bs = ((x, y, z), k, d)) (hk : (k : Int) = ki) (hd : (d : Int) = di) :
    Calls Try.prog 17 #[.agg #[.int .i64 p0, .int .i64 p1, .int .i64 p2], .slice A n c] w fun e w' => e = .returned (.tuple #[.agg #[.int .i64 x, .int .i64 y, .int .i64 z], .int .i64 ki, .int .i64 di]) ∧ Below w.heap.size w w' := by
  subst hk hd
  refine (Ctake_any w p0 p1 p2 A n c bs hr h256 hn hc hm hnone).mono ?_
  intro e w' h
  rw [ht] at h
  exact h
theorem Step_at (w : World) (a b c k x y z d : Int) (h : stepL a b c k = ((x, y, z), d)) :
    Calls Try.prog 13 #[.agg #[.int .i64 a, .int .i64 b, .int .i64 c], .int .i64 k] w fun e w' => e = .returned (.tuple #[.agg #[.int .i64 x, .int .i64 y, .int .i64 z], .int .i64 d]) ∧ Below w.heap.size w w' := by
  refine (Step_any w a b c k).mono ?_
  intro e w' h2
  rw [h] at h2
  exact h2
def TruePost (w : World) (e : Ending) (w' : World) : Prop := e = .returned (.bool true) ∧ Below w.heap.size w w'
theorem own_drew {w : World} {base : Nat} {e : TypeId} {size : Nat} {v : Value} {n : Nat} {xs : List Value} (h : w.ownsRow base e size v n xs) : w.drew.ownsRow base e size v n xs := h


/-! The statement 'd, n, f := clock.Take(prev, append(append([]byte{}, b...), 9))': a region that draws its order. -/
/-- what is known of each operation's value; B: the heap's size at the region's start -/
def FA (B gb ob cb : Nat) : Nat → (Nat → Bool) → Value → World → Prop
  | 0, _, v, _ => v = .agg #[.int .i64 4, .int .i64 0, .int .i64 9]
  | 1, L, v, w => ∃ g, v = .slice (some ⟨g, 0, none⟩) 0 0 ∧ (L 3 = false → B ≤ g ∧ Blk w g 5 #[])
  | 2, _, v, _ => v = .slice (some ⟨gb, ob, none⟩) 3 cb
  | 3, L, v, w => ∃ g c, v = .slice (some ⟨g, 0, none⟩) 3 c ∧ (L 5 = false → w.ownsRow B 5 1 v 3 (u8s [2, 0, 3]))
  | 4, L, v, w => ∃ g, v = .slice (some ⟨g, 0, none⟩) 1 1 ∧ (L 5 = false → Blk w g 5 #[.int .u8 9])
  | 5, L, v, w => ∃ g c, v = .slice (some ⟨g, 0, none⟩) 4 c ∧ 4 ≤ c ∧ c ≤ maxLen ∧ (L 6 = false → Rd w w.heap.size (some ⟨g, 0, none⟩) (u8s [2, 0, 3, 9]))
  | 6, _, v, _ => v = .tuple #[.agg #[.int .i64 5, .int .i64 0, .int .i64 7], .int .i64 3, .int .i64 0]
  | 7, _, v, _ => v = .tuple #[.agg #[.int .i64 5, .int .i64 0, .int .i64 7], .int .i64 3, .int .i64 0]
  | 8, _, v, _ => v = .agg #[.int .i64 5, .int .i64 0, .int .i64 7]
  | 9, _, v, _ => v = .int .i64 3
  | 10, _, v, _ => v = .int .i64 0
  | 11, L, v, w => ∃ g, v = .pointer (some ⟨g, 0, none⟩) ∧ B ≤ g ∧ (L 12 = false → Blk w g 23 #[.int .i64 0, .int .i64 0, .int .i64 0]) ∧ (L 12 = true → Blk w g 23 #[.int .i64 5, .int .i64 0, .int .i64 7])
  | 13, _, v, _ => v = .int .i64 3
  | 14, _, v, _ => v = .int .i64 0
  | _, _, _, _ => True
def CA (w1 : World) (ba : Nat) (gb ob : Nat) (w : World) : Prop :=
  Below w1.heap.size w1 w ∧ Blk w ba 23 #[.int .i64 4, .int .i64 0, .int .i64 9] ∧ Rd w w1.heap.size (some ⟨gb, ob, none⟩) (u8s [2, 0, 3])
theorem CA.keep {w1 w w' : World} {ba gb ob : Nat} (hba : ba < w1.heap.size) (h : CA w1 ba gb ob w) (hb : Below w1.heap.size w w') : CA w1 ba gb ob w' :=
  ⟨h.1.trans hb, h.2.1.below hb hba, h.2.2.below hb⟩
/-- behind an operation that only makes memory -/
theorem FA.st {B gb ob cb i : Nat} (h12 : 12 ≠ i) {w w' : World} (hb : Below w.heap.size w w') (L : Nat → Bool) : ∀ j u, FA B gb ob cb j L u w → FA B gb ob cb j (Inv.upd L i) u w' := by
  intro j u h
  match j, h with
  | 0, h => exact h
  | 1, ⟨g, h1, h2⟩ => exact ⟨g, h1, fun hl => ⟨(h2 (Inv.upd_f hl)).1, (h2 (Inv.upd_f hl)).2.below hb (h2 (Inv.upd_f hl)).2.lt⟩⟩
  | 2, h => exact h
  | 3, ⟨g, c, h1, h2⟩ => exact ⟨g, c, h1, fun hl => own_below (h2 (Inv.upd_f hl)) hb⟩
  | 4, ⟨g, h1, h2⟩ => exact ⟨g, h1, fun hl => (h2 (Inv.upd_f hl)).below hb (h2 (Inv.upd_f hl)).lt⟩
  | 5, ⟨g, c, h1, h2, h3, h4⟩ => exact ⟨g, c, h1, h2, h3, fun hl => ((h4 (Inv.upd_f hl)).below hb).more hb.size⟩
  | 6, h => exact h
  | 7, h => exact h
  | 8, h => exact h
  | 9, h => exact h
  | 10, h => exact h
  | 11, ⟨g, h1, h2, h3, h4⟩ => exact ⟨g, h1, h2, fun hl => (h3 (Inv.upd_f hl)).below hb (h3 (Inv.upd_f hl)).lt, fun hl => (h4 (Inv.upd_t h12 hl)).below hb (h4 (Inv.upd_t h12 hl)).lt⟩
  | 12, h => exact h
  | 13, h => exact h
  | 14, h => exact h
  | n + 15, h => exact h
theorem Blk.ty {w : World} {g : Nat} {t t' : TypeId} {cs cs' : Array Value} (h : Blk w g t cs) (h' : Blk w g t' cs') : t = t' ∧ cs = cs' := by
  unfold Blk at h h'
  rw [h] at h'
  injection h' with h'
  injection h' with h1 h2
  exact ⟨h2, h1⟩
theorem own_blk {w : World} {B : Nat} {e : TypeId} {g : Nat} {v : Value} {n : Nat} {xs : List Value} (h : w.ownsRow B e 1 v n xs) (hv : v.ownBlock = some g) {t : TypeId} {cs : Array Value} (h' : Blk w g t cs) : t = e := by
  rcases h.2 with ⟨rfl, _⟩ | ⟨g', cap, cur, rfl, hb, hh, _⟩
  · simp [Value.ownBlock] at hv
  · have : g' = g := by simpa [Value.ownBlock] using hv
    subst this
    unfold Blk at h'
    rw [hh] at h'
    injection h' with h'
    injection h' with h1 h2
    exact h2.symm
theorem own_of_empty {w : World} {B g : Nat} (hB : B ≤ g) (h : Blk w g 5 #[]) : w.ownsRow B 5 1 (.slice (some ⟨g, 0, none⟩) 0 0) 0 [] := by
  refine ⟨rfl, .inr ⟨g, 0, #[], rfl, hB, h, Nat.le_refl _, Nat.zero_le _, rfl, ?_⟩⟩
  intros
  simp
theorem rd_add {w : World} {B g o : Nat} {xs : List Value} (h : Rd w B (some ⟨g, o, none⟩) xs) (hne : xs ≠ []) : ∀ j u, xs[j]? = some u → w.cell? ((⟨g, o, none⟩ : Addr).add j) = some u := by
  intro j u hu
  obtain ⟨g', o', he, _, hc⟩ := h hne
  injection he with he
  injection he with h1 h2
  subst h1 h2
  have := hc j u hu
  rcases Nat.eq_zero_or_pos j with h2 | h2
  · subst h2; simpa [Addr.add] using this
  · simpa [Addr.add, Nat.ne_of_gt h2] using this
/-- behind an append onto the first row -/
theorem FA.row {B gb ob cb : Nat} {w w' : World} {g : Nat} (hblk : Blk w g 5 #[]) (hgr : w.grownBy w' (some g)) {L : Nat → Bool} (h5 : L 5 = false) : ∀ j u, j ≠ 3 → L j = true → FA B gb ob cb j L u w → FA B gb ob cb j (Inv.upd L 3) u w' := by
  intro j u hj hLj h
  match j, h with
  | 0, h => exact h
  | 1, ⟨g, h1, h2⟩ => exact ⟨g, h1, fun hl => by rw [Inv.upd_same] at hl; cases hl⟩
  | 2, h => exact h
  | 3, _ => exact absurd rfl hj
  | 4, ⟨g2, h1, h2⟩ => exact ⟨g2, h1, fun hl => (h2 (Inv.upd_f hl)).grown hgr (fun e => by
      injection e with e
      subst e
      have := (Blk.ty hblk (h2 (Inv.upd_f hl))).2
      simp at this)⟩
  | 5, _ => rw [h5] at hLj; cases hLj
  | 6, h => exact h
  | 7, h => exact h
  | 8, h => exact h
  | 9, h => exact h
  | 10, h => exact h
  | 11, ⟨g2, h1, h2, h3, h4⟩ =>
    refine ⟨g2, h1, h2, fun hl => (h3 (Inv.upd_f hl)).grown hgr (fun e => ?_), fun hl => (h4 (Inv.upd_t (by decide) hl)).grown hgr (fun e => ?_)⟩
    · injection e with e; subst e
      exact absurd (Blk.ty hblk (h3 (Inv.upd_f hl))).1 (by decide)
    · injection e with e; subst e
      exact absurd (Blk.ty hblk (h4 (Inv.upd_t (by decide) hl))).1 (by decide)
  | 12, h => exact h
  | 13, h => exact h
  | 14, h => exact h
  | n + 15, h => exact h
/-- behind the append onto the second row -/
theorem FA.row5 {B gb ob cb : Nat} {w w' : World} {v : Value} {n : Nat} {xs : List Value} (hown : w.ownsRow B 5 1 v n xs) (hgr : w.grownBy w' v.ownBlock) {L : Nat → Bool} (h3 : L 3 = true) : ∀ j u, j ≠ 5 → FA B gb ob cb j L u w → FA B gb ob cb j (Inv.upd L 5) u w' := by
  intro j u hj h
  match j, h with
  | 0, h => exact h
  | 1, ⟨g, h1, h2⟩ => exact ⟨g, h1, fun hl => by rw [Inv.upd_f hl] at h3; cases h3⟩
  | 2, h => exact h
  | 3, ⟨g, c, h1, h2⟩ => exact ⟨g, c, h1, fun hl => by rw [Inv.upd_same] at hl; cases hl⟩
  | 4, ⟨g, h1, h2⟩ => exact ⟨g, h1, fun hl => by rw [Inv.upd_same] at hl; cases hl⟩
  | 5, _ => exact absurd rfl hj
  | 6, h => exact h
  | 7, h => exact h
  | 8, h => exact h
  | 9, h => exact h
  | 10, h => exact h
  | 11, ⟨g2, h1, h2, h3, h4⟩ =>
    refine ⟨g2, h1, h2, fun hl => (h3 (Inv.upd_f hl)).grown hgr (fun e => ?_), fun hl => (h4 (Inv.upd_t (by decide) hl)).grown hgr (fun e => ?_)⟩
    · exact absurd (own_blk hown e.symm (h3 (Inv.upd_f hl))) (by decide)
    · exact absurd (own_blk hown e.symm (h4 (Inv.upd_t (by decide) hl))) (by decide)
  | 12, h => exact h
  | 13, h => exact h
  | 14, h => exact h
  | n + 15, h => exact h
/-- behind the store -/
theorem FA.store {B gb ob cb : Nat} {w w' : World} {g : Nat} (hblk : Blk w' g 23 #[.int .i64 5, .int .i64 0, .int .i64 7]) (hB : B ≤ g) {L : Nat → Bool} (h3 : L 3 = true) (h5 : L 5 = true) (h6 : L 6 = true) : ∀ j u, j ≠ 12 → (j = 11 → u = .pointer (some ⟨g, 0, none⟩)) → FA B gb ob cb j L u w → FA B gb ob cb j (Inv.upd L 12) u w' := by
  intro j u hj h11 h
  match j, h with
  | 0, h => exact h
  | 1, ⟨g, h1, h2⟩ => exact ⟨g, h1, fun hl => by rw [Inv.upd_f hl] at h3; cases h3⟩
  | 2, h => exact h
  | 3, ⟨g, c, h1, h2⟩ => exact ⟨g, c, h1, fun hl => by rw [Inv.upd_f hl] at h5; cases h5⟩
  | 4, ⟨g, h1, h2⟩ => exact ⟨g, h1, fun hl => by rw [Inv.upd_f hl] at h5; cases h5⟩
  | 5, ⟨g, c, h1, h2, hm, h4⟩ => exact ⟨g, c, h1, h2, hm, fun hl => by rw [Inv.upd_f hl] at h6; cases h6⟩
  | 6, h => exact h
  | 7, h => exact h
  | 8, h => exact h
  | 9, h => exact h
  | 10, h => exact h
  | 11, _ => exact ⟨g, h11 rfl, hB, (fun hl => by rw [Inv.upd_same] at hl; cases hl), fun _ => hblk⟩
  | 12, _ => exact absurd rfl hj
  | 13, h => exact h
  | 14, h => exact h
  | n + 15, h => exact h
theorem Rd.at8 (w : World) (t : TypeId) (bs : List Nat) (cs : Array Value) (h : u8s bs = cs.toList) (g : Nat) (hg : g = w.heap.size) : Rd (w.alloc (.cells cs t)) (w.alloc (.cells cs t)).heap.size (some ⟨g, 0, none⟩) (u8s bs) := by
  subst hg
  exact (Rd.new8 w t bs cs h).more (by simp)
theorem Rd.atv (w : World) (t : TypeId) (cs : Array Value) (xs : List Value) (h : xs = cs.toList) (g : Nat) (hg : g = w.heap.size) : Rd (w.alloc (.cells cs t)) (g + 1) (some ⟨g, 0, none⟩) xs := by
  subst hg h
  exact Rd.new w cs t
theorem MergeC (w : World) (g : Nat) (hr : Rd w (g + 1) (some ⟨g, 0, none⟩) (cells3 [(4, 0, 9), (5, 0, 7)])) (hg : g < w.heap.size) :
    Calls Try.prog 25 #[.slice (some ⟨g, 0, none⟩) 2 2] w fun e w' => e = .returned (.agg #[.int .i64 5, .int .i64 0, .int .i64 9]) ∧ Below w.heap.size w w' :=
  Merge2_at w g 4 0 9 5 0 7 hr hg
def CR (w6 : World) (ba bb g5 gs gb ob : Nat) (w : World) : Prop :=
  Below w6.heap.size w6 w ∧ Blk w ba 23 #[.int .i64 4, .int .i64 0, .int .i64 9] ∧ Blk w bb 23 #[.int .i64 5, .int .i64 0, .int .i64 7] ∧ Blk w g5 23 #[.int .i64 5, .int .i64 0, .int .i64 7] ∧ Blk w gs 23 #[.int .i64 5, .int .i64 1, .int .i64 7] ∧ Rd w w6.heap.size (some ⟨gb, ob, none⟩) (u8s [2, 0, 3])
theorem CR.keep {w6 w w' : World} {ba bb g5 gs gb ob : Nat} (h : CR w6 ba bb g5 gs gb ob w) (hb : Below w.heap.size w w') : CR w6 ba bb g5 gs gb ob w' :=
  ⟨h.1.trans (hb.mono h.1.size), h.2.1.below hb h.2.1.lt, h.2.2.1.below hb h.2.2.1.lt, h.2.2.2.1.below hb h.2.2.2.1.lt, h.2.2.2.2.1.below hb h.2.2.2.2.1.lt, h.2.2.2.2.2.below (hb.mono h.1.size)⟩
attribute [local go_sem ↓] Go.wp_at_zero Go.wp_at_succ
set_option maxRecDepth 100000 in
set_option maxHeartbeats 4000000 in
theorem awake_any (w : World) : Calls Try.prog 12 #[] w (TruePost w) := by
  obtain ⟨i0, hi, hz0, hz1, hz2⟩ := info_parts Try.infoB
  have K1 : ∀ w1, Below ((w.alloc (.cells #[.int .i64 4, .int .i64 0, .int .i64 9] 23)).alloc (.cells #[.int .i64 5, .int .i64 0, .int .i64 7] 23)).heap.size ((w.alloc (.cells #[.int .i64 4, .int .i64 0, .int .i64 9] 23)).alloc (.cells #[.int .i64 5, .int .i64 0, .int .i64 7] 23)) w1 →
      Blk w1 w.heap.size 23 #[.int .i64 4, .int .i64 0, .int .i64 9] ∧ Blk w1 (w.heap.size + 1) 23 #[.int .i64 5, .int .i64 0, .int .i64 7] ∧ Below w.heap.size w w1 := fun w1 hb =>
    ⟨((Blk.new w _ _).alloc _).below hb (by simp; omega), (Blk.new' _ _ _ (by simp)).below hb (by simp), (((Below.refl _ _).alloc (Nat.le_refl _) _).alloc (by simp) _).trans (hb.mono (by simp; omega))⟩
  have HK1 := Lib.hid K1; clear K1
  go_enter Try.func12, Try.ntmps12
  go_wp2_with fail
  refine (Cput_at _ 4 0 9 5 0 7 [2, 0, 3] 3 (by decide) (by decide) rfl).mono ?_
  rintro e w1 ⟨gb, ob, cb, rfl, hrb, hcb, hmb, hb1⟩
  obtain ⟨ka, kb, hbw⟩ := HK1.out _ hb1
  clear hb1 HK1
  obtain ⟨a0, a1, a2, af⟩ := ka.three
  obtain ⟨b0, b1, b2, bf⟩ := kb.three
  have s1 := kb.lt
  have hba : w.heap.size < w1.heap.size := by omega
  go_wp2
  refine Inv.region_gen (FA w1.heap.size gb ob cb) (CA w1 w.heap.size gb ob) 161 [31, 32, 33, 34, 35, 36, 37, 30, 38, 39, 40, 5, 6, 7] (by kernel_rfl) rfl (by kernel_rfl) (by kernel_rfl) ?_ ?_ ?_
  · exact ⟨(Below.refl _ _).drew, ka, hrb⟩
  · refine ⟨?_, ?_, ?_, ?_, ?_, ?_, ?_, ?_, ?_, ?_, ?_, ?_, ?_, ?_, ?_, trivial⟩
    · intro act wa L hC hd hLi hLa hLb HF O K hK
      clear hd
      obtain ⟨x0, x1, x2, xf⟩ := hC.2.1.three
      have h1 := O 1 (by kernel_rfl)
      try have g1 := Array.getD_eq_getD_getElem?.symm.trans h1
      go_simp
      exact hK _ _ (hC.keep hba ((Below.refl wa.heap.size wa).mono hC.1.size)) (fun j d _ _ _ h => FA.st (by decide) (Below.refl wa.heap.size wa) L j _ h) (fun _ => rfl)
    · intro act wa L hC hd hLi hLa hLb HF O K hK
      clear hd
      obtain ⟨x0, x1, x2, xf⟩ := hC.2.1.three
      go_simp
      exact hK _ _ (hC.keep hba (((Below.refl wa.heap.size wa).alloc (Nat.le_refl _) _).mono hC.1.size)) (fun j d _ _ _ h => FA.st (by decide) ((Below.refl wa.heap.size wa).alloc (Nat.le_refl _) _) L j _ h) (fun _ => ⟨wa.heap.size, rfl, fun _ => ⟨hC.1.size, Blk.new wa _ _⟩⟩)
    · intro act wa L hC hd hLi hLa hLb HF O K hK
      clear hd
      obtain ⟨x0, x1, x2, xf⟩ := hC.2.1.three
      have h3 := O 3 (by kernel_rfl)
      try have g3 := Array.getD_eq_getD_getElem?.symm.trans h3
      go_simp
      exact hK _ _ (hC.keep hba ((Below.refl wa.heap.size wa).mono hC.1.size)) (fun j d _ _ _ h => FA.st (by decide) (Below.refl wa.heap.size wa) L j _ h) (fun _ => rfl)
    · intro act wa L hC hd hLi hLa hLb HF O K hK
      clear hd
      obtain ⟨x0, x1, x2, xf⟩ := hC.2.1.three
      have h32 := HF 1 32 (hLa 1 1 (by kernel_rfl)) rfl
      dsimp only [FA] at h32
      try have g32 := Array.getD_eq_getD_getElem?.symm.trans h32
      have h33 := HF 2 33 (hLa 1 2 (by kernel_rfl)) rfl
      dsimp only [FA] at h33
      try have g33 := Array.getD_eq_getD_getElem?.symm.trans h33
      obtain ⟨g, hv, hg⟩ := h32
      obtain ⟨hBg, hblk⟩ := hg hLi
      have hS := hC.1.size
      refine step_append_lies (w := wa) rfl (.tmp 32) (.tmp 33) _ rfl w1.heap.size 5 i0 (.int .u8 0) 1 1 Try.underlying25 hi hz0 hz1 hz2 rfl (by omega) _ 0 [] hv (own_of_empty hBg hblk) ⟨gb, ob, none⟩ 3 cb (u8s [2, 0, 3]) h33 rfl (rd_add hC.2.2 (by simp [u8s])) (u8s_one _) (by omega) (by unfold maxLen; omega) (by omega) hS _ rfl ?_
      intro g' cap w' ho hgr hat hlt
      refine hK _ _ (hC.keep hba ((Below.refl _ _).grown hgr hS (fun k hk => by simp [Value.ownBlock] at hk; omega))) ?_ (fun _ => ⟨g', cap, rfl, fun _ => ho⟩)
      exact fun j d hj hLj _ h => FA.row hblk hgr (hLb 1 5 (by kernel_rfl)) j _ hj hLj h
    · intro act wa L hC hd hLi hLa hLb HF O K hK
      clear hd
      obtain ⟨x0, x1, x2, xf⟩ := hC.2.1.three
      go_simp
      exact hK _ _ (hC.keep hba (((Below.refl wa.heap.size wa).alloc (Nat.le_refl _) _).mono hC.1.size)) (fun j d _ _ _ h => FA.st (by decide) ((Below.refl wa.heap.size wa).alloc (Nat.le_refl _) _) L j _ h) (fun _ => ⟨wa.heap.size, rfl, fun _ => Blk.new wa _ _⟩)
    · intro act wa L hC hd hLi hLa hLb HF O K hK
      clear hd
      obtain ⟨x0, x1, x2, xf⟩ := hC.2.1.three
      have h34 := HF 3 34 (hLa 1 3 (by kernel_rfl)) rfl
      dsimp only [FA] at h34
      try have g34 := Array.getD_eq_getD_getElem?.symm.trans h34
      have h35 := HF 4 35 (hLa 1 4 (by kernel_rfl)) rfl
      dsimp only [FA] at h35
      try have g35 := Array.getD_eq_getD_getElem?.symm.trans h35
      obtain ⟨g, c, hv, hown⟩ := h34
      obtain ⟨g2, hv2, hblk⟩ := h35
      have hown := hown hLi
      have hS := hC.1.size
      refine step_append_lies (w := wa) rfl (.tmp 34) (.tmp 35) _ rfl w1.heap.size 5 i0 (.int .u8 0) 1 1 Try.underlying25 hi hz0 hz1 hz2 rfl (by omega) _ 3 (u8s [2, 0, 3]) hv (by rw [hv] at hown; exact hown) ⟨g2, 0, none⟩ 1 1 (u8s [9]) hv2 rfl (World.news_of_block (hblk hLi)) (u8s_one _) (by omega) (by unfold maxLen; omega) (by omega) hS _ rfl ?_
      intro g' cap w' ho hgr hat hlt
      rw [hv] at hown
      refine hK _ _ (hC.keep hba ((Below.refl _ _).grown hgr hS (fun k hk => (hown.lt k hk).1))) (fun j d hj _ _ h => FA.row5 hown hgr (hLa 1 3 (by kernel_rfl)) j _ hj h) (fun _ => ?_)
      obtain ⟨A', c', hv', hc1, hc2, _, hrr, _⟩ := own_form ho
      injection hv' with e1 e2 e3
      subst e1 e3
      exact ⟨g', cap, rfl, hc1, hc2, fun _ => hrr⟩
    · intro act wa L hC hd hLi hLa hLb HF O K hK
      clear hd
      obtain ⟨x0, x1, x2, xf⟩ := hC.2.1.three
      have h31 := HF 0 31 (hLa 1 0 (by kernel_rfl)) rfl
      dsimp only [FA] at h31
      try have g31 := Array.getD_eq_getD_getElem?.symm.trans h31
      have h36 := HF 5 36 (hLa 1 5 (by kernel_rfl)) rfl
      dsimp only [FA] at h36
      try have g36 := Array.getD_eq_getD_getElem?.symm.trans h36
      obtain ⟨g, c, hv, hc4, hcm, hr⟩ := h36
      go_simp
      refine (Ctake_at _ 4 0 9 _ 4 c [2, 0, 3, 9] 5 0 7 3 0 3 0 (hr hLi) (by decide) rfl hc4 hcm (fun h => by cases h) (by decide) rfl rfl).mono ?_
      rintro e w2 ⟨rfl, hb⟩
      exact hK _ _ (hC.keep hba (hb.mono hC.1.size)) (fun j d _ _ _ h => FA.st (by decide) hb L j _ h) (fun _ => rfl)
    · intro act wa L hC hd hLi hLa hLb HF O K hK
      clear hd
      obtain ⟨x0, x1, x2, xf⟩ := hC.2.1.three
      have h37 := HF 6 37 (hLa 1 6 (by kernel_rfl)) rfl
      dsimp only [FA] at h37
      try have g37 := Array.getD_eq_getD_getElem?.symm.trans h37
      go_simp
      exact hK _ _ (hC.keep hba ((Below.refl wa.heap.size wa).mono hC.1.size)) (fun j d _ _ _ h => FA.st (by decide) (Below.refl wa.heap.size wa) L j _ h) (fun _ => rfl)
    · intro act wa L hC hd hLi hLa hLb HF O K hK
      clear hd
      obtain ⟨x0, x1, x2, xf⟩ := hC.2.1.three
      have h30 := HF 7 30 (hLa 1 7 (by kernel_rfl)) rfl
      dsimp only [FA] at h30
      try have g30 := Array.getD_eq_getD_getElem?.symm.trans h30
      go_simp
      exact hK _ _ (hC.keep hba ((Below.refl wa.heap.size wa).mono hC.1.size)) (fun j d _ _ _ h => FA.st (by decide) (Below.refl wa.heap.size wa) L j _ h) (fun _ => rfl)
    · intro act wa L hC hd hLi hLa hLb HF O K hK
      clear hd
      obtain ⟨x0, x1, x2, xf⟩ := hC.2.1.three
      have h30 := HF 7 30 (hLa 1 7 (by kernel_rfl)) rfl
      dsimp only [FA] at h30
      try have g30 := Array.getD_eq_getD_getElem?.symm.trans h30
      go_simp
      exact hK _ _ (hC.keep hba ((Below.refl wa.heap.size wa).mono hC.1.size)) (fun j d _ _ _ h => FA.st (by decide) (Below.refl wa.heap.size wa) L j _ h) (fun _ => rfl)
    · intro act wa L hC hd hLi hLa hLb HF O K hK
      clear hd
      obtain ⟨x0, x1, x2, xf⟩ := hC.2.1.three
      have h30 := HF 7 30 (hLa 1 7 (by kernel_rfl)) rfl
      dsimp only [FA] at h30
      try have g30 := Array.getD_eq_getD_getElem?.symm.trans h30
      go_simp
      exact hK _ _ (hC.keep hba ((Below.refl wa.heap.size wa).mono hC.1.size)) (fun j d _ _ _ h => FA.st (by decide) (Below.refl wa.heap.size wa) L j _ h) (fun _ => rfl)
    · intro act wa L hC hd hLi hLa hLb HF O K hK
      clear hd
      obtain ⟨x0, x1, x2, xf⟩ := hC.2.1.three
      go_simp
      exact hK _ _ (hC.keep hba (((Below.refl wa.heap.size wa).alloc (Nat.le_refl _) _).mono hC.1.size)) (fun j d _ _ _ h => FA.st (by decide) ((Below.refl wa.heap.size wa).alloc (Nat.le_refl _) _) L j _ h) (fun _ => ⟨wa.heap.size, rfl, hC.1.size, fun _ => Blk.new wa _ _, fun hl => by have := hLb 2 12 (by kernel_rfl); rw [Inv.upd_t (by decide) hl] at this; cases this⟩)
    · intro act wa L hC hd hLi hLa hLb HF O K hK
      clear hd
      obtain ⟨x0, x1, x2, xf⟩ := hC.2.1.three
      have h5 := HF 11 5 (hLa 1 11 (by kernel_rfl)) rfl
      dsimp only [FA] at h5
      try have g5 := Array.getD_eq_getD_getElem?.symm.trans h5
      have h38 := HF 8 38 (hLa 1 8 (by kernel_rfl)) rfl
      dsimp only [FA] at h38
      try have g38 := Array.getD_eq_getD_getElem?.symm.trans h38
      obtain ⟨g, hv, hBg, hz, _⟩ := h5
      obtain ⟨y0, y1, y2, yf⟩ := (hz hLi).three
      have hbk := (((hz hLi).set 0 (.int .i64 5)).set 1 (.int .i64 0)).set 2 (.int .i64 7)
      have hne : w.heap.size ≠ g := by omega
      go_simp
      have hB3 : Below w1.heap.size wa (((wa.setCell ⟨g, 0, none⟩ (.int .i64 5)).setCell ⟨g, 1, none⟩ (.int .i64 0)).setCell ⟨g, 2, none⟩ (.int .i64 7)) := (((Below.refl _ _).setCell hBg _).setCell hBg _).setCell hBg _
      exact hK undef _ (hC.keep hba hB3) (fun j d hj _ hd h => FA.store hbk hBg (hLa 5 3 (by kernel_rfl)) (hLa 5 5 (by kernel_rfl)) (hLa 5 6 (by kernel_rfl)) j _ hj (fun e => by subst e; cases hd; exact hv) h) (fun _ => trivial)
    · intro act wa L hC hd hLi hLa hLb HF O K hK
      clear hd
      obtain ⟨x0, x1, x2, xf⟩ := hC.2.1.three
      have h39 := HF 9 39 (hLa 1 9 (by kernel_rfl)) rfl
      dsimp only [FA] at h39
      try have g39 := Array.getD_eq_getD_getElem?.symm.trans h39
      go_simp
      exact hK _ _ (hC.keep hba ((Below.refl wa.heap.size wa).mono hC.1.size)) (fun j d _ _ _ h => FA.st (by decide) (Below.refl wa.heap.size wa) L j _ h) (fun _ => rfl)
    · intro act wa L hC hd hLi hLa hLb HF O K hK
      clear hd
      obtain ⟨x0, x1, x2, xf⟩ := hC.2.1.three
      have h40 := HF 10 40 (hLa 1 10 (by kernel_rfl)) rfl
      dsimp only [FA] at h40
      try have g40 := Array.getD_eq_getD_getElem?.symm.trans h40
      go_simp
      exact hK _ _ (hC.keep hba ((Below.refl wa.heap.size wa).mono hC.1.size)) (fun j d _ _ _ h => FA.st (by decide) (Below.refl wa.heap.size wa) L j _ h) (fun _ => rfl)
  · intro us w' hC HF
    obtain ⟨L5, hL5, u5⟩ := HF 11 5 rfl
    dsimp only [FA] at u5
    obtain ⟨L6, hL6, u6⟩ := HF 13 6 rfl
    dsimp only [FA] at u6
    obtain ⟨L7, hL7, u7⟩ := HF 14 7 rfl
    dsimp only [FA] at u7
    clear HF
    simp only [List.foldl]
    go_simp
    obtain ⟨g5, e5, hBg5, _, hk5⟩ := u5
    have k5 := hk5 (hL5 12 (show 12 < 15 by omega))
    have e6 : us 6 = .int .i64 3 := u6
    have e7 : us 7 = .int .i64 0 := u7
    clear u6 u7 hk5 hL5 hL6 hL7 a0 a1 a2 af b0 b1 b2 bf
    have q0b := kb.below hC.1 kb.lt
    have q0a := hC.2.1
    have HW0 := Lib.hid (hbw.trans (hC.1.mono hbw.size))
    have HR0 := Lib.hid (hC.2.2.more hC.1.size)
    have HC := Lib.hid hC
    clear hC ka kb hrb hbw
    have l0 : w.heap.size + 1 < w'.heap.size := q0b.lt
    have g5lt := k5.lt
    rw [e5, e6, e7]
    clear e5 e6 e7
    have q05 := k5
    obtain ⟨a0, a1, a2, af⟩ := q0a.three
    have lta : w.heap.size < w'.heap.size := q0a.lt
    obtain ⟨b0, b1, b2, bf⟩ := q0b.three
    have ltb : w.heap.size + 1 < w'.heap.size := q0b.lt
    obtain ⟨x0, x1, x2, xf⟩ := q05.three
    have lt5 : g5 < w'.heap.size := q05.lt
    go_wp2_with fail
    refine (Ctake_at _ 4 0 9 _ 3 3 [2, 1, 0] 0 0 0 0 3 0 3 (Rd.at8 _ _ [2, 1, 0] _ rfl _ (by simp)) (by decide) rfl (by omega) (by unfold maxLen; omega) (fun h => by cases h) (by decide) rfl rfl).mono ?_
    rintro e v1 ⟨rfl, hb⟩
    have HB1 : Below w'.heap.size w' v1 := below_trans (by repeat' (first | exact Below.refl _ _ | refine Below.alloc ?_ ?_ _ | refine Below.setCell ?_ ?_ _ | refine Below.drew ?_ | (simp; done) | (simp; omega))) hb (Nat.le_refl _)
    clear hb
    have HW1 := Lib.hid (HW0.out.trans (HB1.mono HW0.out.size))
    have HR1 := Lib.hid ((HR0.out.below HB1).more HB1.size)
    clear a0 a1 a2 af b0 b1 b2 bf x0 x1 x2 xf lta ltb lt5
    have q1a := q0a.below HB1 q0a.lt
    have q1b := q0b.below HB1 q0b.lt
    have q15 := q05.below HB1 q05.lt
    clear HB1
    obtain ⟨a0, a1, a2, af⟩ := q1a.three
    have lta : w.heap.size < v1.heap.size := q1a.lt
    obtain ⟨b0, b1, b2, bf⟩ := q1b.three
    have ltb : w.heap.size + 1 < v1.heap.size := q1b.lt
    obtain ⟨x0, x1, x2, xf⟩ := q15.three
    have lt5 : g5 < v1.heap.size := q15.lt
    go_wp2_with fail
    refine (Ctake_at _ 4 0 9 _ 1 1 [2] 0 0 0 0 2 0 2 (Rd.at8 _ _ [2] _ rfl _ (by simp)) (by decide) rfl (by omega) (by unfold maxLen; omega) (fun h => by cases h) (by decide) rfl rfl).mono ?_
    rintro e v2 ⟨rfl, hb⟩
    have HB2 : Below v1.heap.size v1 v2 := below_trans (by repeat' (first | exact Below.refl _ _ | refine Below.alloc ?_ ?_ _ | refine Below.setCell ?_ ?_ _ | refine Below.drew ?_ | (simp; done) | (simp; omega))) hb (Nat.le_refl _)
    clear hb
    have HW2 := Lib.hid (HW1.out.trans (HB2.mono HW1.out.size))
    have HR2 := Lib.hid ((HR1.out.below HB2).more HB2.size)
    clear a0 a1 a2 af b0 b1 b2 bf x0 x1 x2 xf lta ltb lt5
    have q2a := q1a.below HB2 q1a.lt
    have q2b := q1b.below HB2 q1b.lt
    have q25 := q15.below HB2 q15.lt
    clear HB2
    obtain ⟨a0, a1, a2, af⟩ := q2a.three
    have lta : w.heap.size < v2.heap.size := q2a.lt
    obtain ⟨b0, b1, b2, bf⟩ := q2b.three
    have ltb : w.heap.size + 1 < v2.heap.size := q2b.lt
    obtain ⟨x0, x1, x2, xf⟩ := q25.three
    have lt5 : g5 < v2.heap.size := q25.lt
    go_wp2_with fail
    refine (Cput_no_at _ (-1) 0 0 5 0 7 (by decide)).mono ?_
    rintro e v3 ⟨rfl, hb⟩
    have HB3 : Below v2.heap.size v2 v3 := below_trans (by repeat' (first | exact Below.refl _ _ | refine Below.alloc ?_ ?_ _ | refine Below.setCell ?_ ?_ _ | refine Below.drew ?_ | (simp; done) | (simp; omega))) hb (Nat.le_refl _)
    clear hb
    have HW3 := Lib.hid (HW2.out.trans (HB3.mono HW2.out.size))
    have HR3 := Lib.hid ((HR2.out.below HB3).more HB3.size)
    clear a0 a1 a2 af b0 b1 b2 bf x0 x1 x2 xf lta ltb lt5
    have q3a := q2a.below HB3 q2a.lt
    have q3b := q2b.below HB3 q2b.lt
    have q35 := q25.below HB3 q25.lt
    clear HB3
    obtain ⟨a0, a1, a2, af⟩ := q3a.three
    have lta : w.heap.size < v3.heap.size := q3a.lt
    obtain ⟨b0, b1, b2, bf⟩ := q3b.three
    have ltb : w.heap.size + 1 < v3.heap.size := q3b.lt
    obtain ⟨x0, x1, x2, xf⟩ := q35.three
    have lt5 : g5 < v3.heap.size := q35.lt
    go_wp2_with fail
    refine (Step_at _ 5 0 7 1 5 1 7 0 (by decide)).mono ?_
    rintro e v4 ⟨rfl, hb⟩
    have HB4 : Below v3.heap.size v3 v4 := below_trans (by repeat' (first | exact Below.refl _ _ | refine Below.alloc ?_ ?_ _ | refine Below.setCell ?_ ?_ _ | refine Below.drew ?_ | (simp; done) | (simp; omega))) hb (Nat.le_refl _)
    clear hb
    have HW4 := Lib.hid (HW3.out.trans (HB4.mono HW3.out.size))
    have HR4 := Lib.hid ((HR3.out.below HB4).more HB4.size)
    clear a0 a1 a2 af b0 b1 b2 bf x0 x1 x2 xf lta ltb lt5
    have q4a := q3a.below HB4 q3a.lt
    have q4b := q3b.below HB4 q3b.lt
    have q45 := q35.below HB4 q35.lt
    clear HB4
    obtain ⟨a0, a1, a2, af⟩ := q4a.three
    have lta : w.heap.size < v4.heap.size := q4a.lt
    obtain ⟨b0, b1, b2, bf⟩ := q4b.three
    have ltb : w.heap.size + 1 < v4.heap.size := q4b.lt
    obtain ⟨x0, x1, x2, xf⟩ := q45.three
    have lt5 : g5 < v4.heap.size := q45.lt
    obtain ⟨gs, hgs⟩ : ∃ g, g = v4.heap.size := ⟨_, rfl⟩
    have HGS := Lib.hid hgs
    clear hgs
    go_wp2_with fail
    refine (Step_at _ 5 0 7 3 0 0 0 9 (by decide)).mono ?_
    rintro e v5 ⟨rfl, hb⟩
    have HB5 : Below v4.heap.size v4 v5 := below_trans (by repeat' (first | exact Below.refl _ _ | refine Below.alloc ?_ ?_ _ | refine Below.setCell ?_ ?_ _ | refine Below.drew ?_ | (simp; done) | (simp; omega))) hb (Nat.le_refl _)
    have q5s : Blk v5 gs 23 #[.int .i64 5, .int .i64 1, .int .i64 7] := (Blk.new' v4 _ _ HGS.out).below hb (by simp; have := HGS.out; omega)
    clear hb
    rw [← HGS.out]
    have HW5 := Lib.hid (HW4.out.trans (HB5.mono HW4.out.size))
    have HR5 := Lib.hid ((HR4.out.below HB5).more HB5.size)
    clear a0 a1 a2 af b0 b1 b2 bf x0 x1 x2 xf lta ltb lt5
    have q5a := q4a.below HB5 q4a.lt
    have q5b := q4b.below HB5 q4b.lt
    have q55 := q45.below HB5 q45.lt
    clear HB5
    obtain ⟨a0, a1, a2, af⟩ := q5a.three
    have lta : w.heap.size < v5.heap.size := q5a.lt
    obtain ⟨b0, b1, b2, bf⟩ := q5b.three
    have ltb : w.heap.size + 1 < v5.heap.size := q5b.lt
    obtain ⟨x0, x1, x2, xf⟩ := q55.three
    have lt5 : g5 < v5.heap.size := q55.lt
    obtain ⟨s0, s1, s2, sf⟩ := q5s.three
    have lts : gs < v5.heap.size := q5s.lt
    go_wp2_with fail
    refine (Step_at _ 4611686018427387903 0 0 0 0 0 0 10 (by decide)).mono ?_
    rintro e v6 ⟨rfl, hb⟩
    have HB6 : Below v5.heap.size v5 v6 := below_trans (by repeat' (first | exact Below.refl _ _ | refine Below.alloc ?_ ?_ _ | refine Below.setCell ?_ ?_ _ | refine Below.drew ?_ | (simp; done) | (simp; omega))) hb (Nat.le_refl _)
    clear hb
    have HW6 := Lib.hid (HW5.out.trans (HB6.mono HW5.out.size))
    have HR6 := Lib.hid ((HR5.out.below HB6).more HB6.size)
    clear a0 a1 a2 af b0 b1 b2 bf x0 x1 x2 xf lta ltb lt5 s0 s1 s2 sf lts
    have q6a := q5a.below HB6 q5a.lt
    have q6b := q5b.below HB6 q5b.lt
    have q65 := q55.below HB6 q55.lt
    have q6s := q5s.below HB6 q5s.lt
    clear HB6
    obtain ⟨a0, a1, a2, af⟩ := q6a.three
    have lta : w.heap.size < v6.heap.size := q6a.lt
    obtain ⟨b0, b1, b2, bf⟩ := q6b.three
    have ltb : w.heap.size + 1 < v6.heap.size := q6b.lt
    obtain ⟨x0, x1, x2, xf⟩ := q65.three
    have lt5 : g5 < v6.heap.size := q65.lt
    obtain ⟨s0, s1, s2, sf⟩ := q6s.three
    have lts : gs < v6.heap.size := q6s.lt
    go_wp2
    refine Inv.region_below (fun i v w' => match i with
        | 0 => v = .slice (some ⟨gb, ob, none⟩) 3 cb
        | 1 => ∃ g, v = .slice (some ⟨g, 0, none⟩) 3 3 ∧ g < w'.heap.size ∧ Rd w' (g + 1) (some ⟨g, 0, none⟩) (u8s [2, 0, 3])
        | 2 => v = .bool true
        | 3 => v = .bool true
        | 4 => v = .int .i64 0
        | 5 => v = .bool true
        | 6 => v = .bool true
        | 7 => v = .bool true
        | 8 => v = .agg #[.int .i64 5, .int .i64 0, .int .i64 7]
        | 9 => v = .agg #[.int .i64 5, .int .i64 0, .int .i64 7]
        | 10 => v = .bool true
        | 11 => v = .bool true
        | 12 => v = .bool true
        | 13 => v = .int .i64 3
        | 14 => v = .bool true
        | 15 => v = .bool true
        | 16 => v = .bool true
        | 17 => v = .int .i64 0
        | 18 => v = .bool true
        | 19 => v = .bool true
        | 20 => v = .bool true
        | 21 => v = .int .i64 3
        | 22 => v = .bool true
        | 23 => v = .bool true
        | 24 => v = .bool true
        | 25 => v = .int .i64 2
        | 26 => v = .bool true
        | 27 => v = .bool true
        | 28 => v = .bool true
        | 29 => v = .int .i64 1
        | 30 => v = .bool true
        | 31 => v = .bool true
        | 32 => v = .bool true
        | 33 => v = .agg #[.int .i64 5, .int .i64 1, .int .i64 7]
        | 34 => v = .agg #[.int .i64 5, .int .i64 1, .int .i64 7]
        | 35 => v = .bool true
        | 36 => v = .bool true
        | 37 => v = .bool true
        | 38 => v = .int .i64 0
        | 39 => v = .bool true
        | 40 => v = .bool true
        | 41 => v = .bool true
        | 42 => v = .int .i64 9
        | 43 => v = .bool true
        | 44 => v = .bool true
        | 45 => v = .bool true
        | 46 => v = .int .i64 10
        | 47 => v = .bool true
        | 48 => v = .bool true
        | 49 => v = .bool true
        | 50 => v = .agg #[.int .i64 4, .int .i64 0, .int .i64 9]
        | 51 => v = .agg #[.int .i64 5, .int .i64 0, .int .i64 7]
        | 52 => v = .bool true
        | 53 => v = .bool true
        | 54 => v = .bool true
        | 55 => v = .agg #[.int .i64 4, .int .i64 0, .int .i64 9]
        | 56 => v = .agg #[.int .i64 5, .int .i64 0, .int .i64 7]
        | 57 => ∃ g, v = .slice (some ⟨g, 0, none⟩) 2 2 ∧ g < w'.heap.size ∧ Rd w' (g + 1) (some ⟨g, 0, none⟩) (cells3 [(4, 0, 9), (5, 0, 7)])
        | 58 => v = .agg #[.int .i64 5, .int .i64 0, .int .i64 9]
        | 59 => v = .agg #[.int .i64 5, .int .i64 0, .int .i64 9]
        | 60 => v = .bool true
        | 61 => v = .bool true
        | 62 => v = .bool true
        | 63 => v = .agg #[.int .i64 4, .int .i64 0, .int .i64 9]
        | 64 => v = .agg #[.int .i64 5, .int .i64 0, .int .i64 7]
        | 65 => ∃ g, v = .slice (some ⟨g, 0, none⟩) 2 2 ∧ g < w'.heap.size ∧ Rd w' (g + 1) (some ⟨g, 0, none⟩) (cells3 [(4, 0, 9), (5, 0, 7)])
        | 66 => v = .agg #[.int .i64 5, .int .i64 0, .int .i64 9]
        | 67 => v = .agg #[.int .i64 4, .int .i64 0, .int .i64 9]
        | 68 => v = .bool true
        | 69 => v = .bool true
        | 70 => v = .bool true
        | 71 => v = .agg #[.int .i64 4, .int .i64 0, .int .i64 9]
        | 72 => v = .agg #[.int .i64 5, .int .i64 0, .int .i64 7]
        | 73 => v = .bool false
        | 74 => v = .bool true
        | 75 => v = .bool true
        | 76 => v = .bool true
        | 77 => v = .agg #[.int .i64 5, .int .i64 0, .int .i64 7]
        | 78 => v = .bool true
        | 79 => v = .bool true
        | 80 => v = .bool true
        | 81 => v = .agg #[.int .i64 4611686018427387904, .int .i64 0, .int .i64 0]
        | 82 => v = .bool false
        | 83 => v = .bool true
        | 84 => v = .bool true
        | 85 => v = .bool true
        | _ => True)
      (fun w' => CR v6 w.heap.size (w.heap.size + 1) g5 gs gb ob w') 161 [76, 77, 78, 79, 80, 81, 82, 83, 84, 85, 86, 87, 88, 89, 90, 91, 92, 93, 94, 95, 96, 97, 98, 99, 100, 101, 102, 103, 104, 105, 106, 107, 108, 109, 110, 111, 112, 113, 114, 115, 116, 117, 118, 119, 120, 121, 122, 123, 124, 125, 126, 127, 128, 129, 130, 131, 132, 133, 134, 135, 136, 137, 138, 139, 140, 141, 142, 143, 144, 145, 146, 147, 148, 149, 150, 151, 152, 153, 154, 155, 156, 157, 158, 159, 160, 0] (by kernel_rfl) rfl (by kernel_rfl) (by kernel_rfl) ?_ ?_ ?_ ?_
    · intro v v' hC hb
      obtain ⟨hB, hA, hBB, h5b, hsb, hrd⟩ := hC
      exact CR.keep ⟨hB, hA, hBB, h5b, hsb, hrd⟩ hb
    · exact ⟨((Below.refl _ _).alloc (Nat.le_refl _) _).drew, (q6a.alloc _).drew, (q6b.alloc _).drew, (q65.alloc _).drew, (q6s.alloc _).drew, ((HR6.out.alloc _).drew)⟩
    · refine ⟨⟨fun _ _ _ h _ => h, ?_⟩, ⟨fun v w w' ⟨g, h1, h2, h3⟩ hb => ⟨g, h1, Nat.lt_of_lt_of_le h2 hb.size, h3.below (hb.mono (by omega))⟩, ?_⟩, ⟨fun _ _ _ h _ => h, ?_⟩, ⟨fun _ _ _ h _ => h, ?_⟩, ⟨fun _ _ _ h _ => h, ?_⟩, ⟨fun _ _ _ h _ => h, ?_⟩, ⟨fun _ _ _ h _ => h, ?_⟩, ⟨fun _ _ _ h _ => h, ?_⟩, ⟨fun _ _ _ h _ => h, ?_⟩, ⟨fun _ _ _ h _ => h, ?_⟩, ⟨fun _ _ _ h _ => h, ?_⟩, ⟨fun _ _ _ h _ => h, ?_⟩, ⟨fun _ _ _ h _ => h, ?_⟩, ⟨fun _ _ _ h _ => h, ?_⟩, ⟨fun _ _ _ h _ => h, ?_⟩, ⟨fun _ _ _ h _ => h, ?_⟩, ⟨fun _ _ _ h _ => h, ?_⟩, ⟨fun _ _ _ h _ => h, ?_⟩, ⟨fun _ _ _ h _ => h, ?_⟩, ⟨fun _ _ _ h _ => h, ?_⟩, ⟨fun _ _ _ h _ => h, ?_⟩, ⟨fun _ _ _ h _ => h, ?_⟩, ⟨fun _ _ _ h _ => h, ?_⟩, ⟨fun _ _ _ h _ => h, ?_⟩, ⟨fun _ _ _ h _ => h, ?_⟩, ⟨fun _ _ _ h _ => h, ?_⟩, ⟨fun _ _ _ h _ => h, ?_⟩, ⟨fun _ _ _ h _ => h, ?_⟩, ⟨fun _ _ _ h _ => h, ?_⟩, ⟨fun _ _ _ h _ => h, ?_⟩, ⟨fun _ _ _ h _ => h, ?_⟩, ⟨fun _ _ _ h _ => h, ?_⟩, ⟨fun _ _ _ h _ => h, ?_⟩, ⟨fun _ _ _ h _ => h, ?_⟩, ⟨fun _ _ _ h _ => h, ?_⟩, ⟨fun _ _ _ h _ => h, ?_⟩, ⟨fun _ _ _ h _ => h, ?_⟩, ⟨fun _ _ _ h _ => h, ?_⟩, ⟨fun _ _ _ h _ => h, ?_⟩, ⟨fun _ _ _ h _ => h, ?_⟩, ⟨fun _ _ _ h _ => h, ?_⟩, ⟨fun _ _ _ h _ => h, ?_⟩, ⟨fun _ _ _ h _ => h, ?_⟩, ⟨fun _ _ _ h _ => h, ?_⟩, ⟨fun _ _ _ h _ => h, ?_⟩, ⟨fun _ _ _ h _ => h, ?_⟩, ⟨fun _ _ _ h _ => h, ?_⟩, ⟨fun _ _ _ h _ => h, ?_⟩, ⟨fun _ _ _ h _ => h, ?_⟩, ⟨fun _ _ _ h _ => h, ?_⟩, ⟨fun _ _ _ h _ => h, ?_⟩, ⟨fun _ _ _ h _ => h, ?_⟩, ⟨fun _ _ _ h _ => h, ?_⟩, ⟨fun _ _ _ h _ => h, ?_⟩, ⟨fun _ _ _ h _ => h, ?_⟩, ⟨fun _ _ _ h _ => h, ?_⟩, ⟨fun _ _ _ h _ => h, ?_⟩, ⟨fun v w w' ⟨g, h1, h2, h3⟩ hb => ⟨g, h1, Nat.lt_of_lt_of_le h2 hb.size, h3.below (hb.mono (by omega))⟩, ?_⟩, ⟨fun _ _ _ h _ => h, ?_⟩, ⟨fun _ _ _ h _ => h, ?_⟩, ⟨fun _ _ _ h _ => h, ?_⟩, ⟨fun _ _ _ h _ => h, ?_⟩, ⟨fun _ _ _ h _ => h, ?_⟩, ⟨fun _ _ _ h _ => h, ?_⟩, ⟨fun _ _ _ h _ => h, ?_⟩, ⟨fun v w w' ⟨g, h1, h2, h3⟩ hb => ⟨g, h1, Nat.lt_of_lt_of_le h2 hb.size, h3.below (hb.mono (by omega))⟩, ?_⟩, ⟨fun _ _ _ h _ => h, ?_⟩, ⟨fun _ _ _ h _ => h, ?_⟩, ⟨fun _ _ _ h _ => h, ?_⟩, ⟨fun _ _ _ h _ => h, ?_⟩, ⟨fun _ _ _ h _ => h, ?_⟩, ⟨fun _ _ _ h _ => h, ?_⟩, ⟨fun _ _ _ h _ => h, ?_⟩, ⟨fun _ _ _ h _ => h, ?_⟩, ⟨fun _ _ _ h _ => h, ?_⟩, ⟨fun _ _ _ h _ => h, ?_⟩, ⟨fun _ _ _ h _ => h, ?_⟩, ⟨fun _ _ _ h _ => h, ?_⟩, ⟨fun _ _ _ h _ => h, ?_⟩, ⟨fun _ _ _ h _ => h, ?_⟩, ⟨fun _ _ _ h _ => h, ?_⟩, ⟨fun _ _ _ h _ => h, ?_⟩, ⟨fun _ _ _ h _ => h, ?_⟩, ⟨fun _ _ _ h _ => h, ?_⟩, ⟨fun _ _ _ h _ => h, ?_⟩, ⟨fun _ _ _ h _ => h, ?_⟩, trivial⟩
      · intro act wa hC hd H O K hK
        clear hd
        obtain ⟨hB, hA, hBB, h5b, hsb, hrd⟩ := hC
        have h3 := O 3 (by kernel_rfl)
        have g3 := Array.getD_eq_getD_getElem?.symm.trans h3
        clear H O
        obtain ⟨a0, a1, a2, af⟩ := hA.three
        obtain ⟨b0, b1, b2, bf⟩ := hBB.three
        obtain ⟨x0, x1, x2, xf⟩ := h5b.three
        obtain ⟨s0, s1, s2, sf⟩ := hsb.three
        go_simp
        exact hK _ _ (Below.refl _ _) (fun _ => rfl)
      · intro act wa hC hd H O K hK
        clear hd
        obtain ⟨hB, hA, hBB, h5b, hsb, hrd⟩ := hC
        clear H O
        obtain ⟨a0, a1, a2, af⟩ := hA.three
        obtain ⟨b0, b1, b2, bf⟩ := hBB.three
        obtain ⟨x0, x1, x2, xf⟩ := h5b.three
        obtain ⟨s0, s1, s2, sf⟩ := hsb.three
        go_simp
        exact hK _ _ ((Below.refl _ _).alloc (Nat.le_refl _) _) (fun _ => ⟨wa.heap.size, rfl, by simp, Rd.new wa _ _⟩)
      · intro act wa hC hd H O K hK
        clear hd
        obtain ⟨hB, hA, hBB, h5b, hsb, hrd⟩ := hC
        have h76 : act.tmps.getD 76 undef = .slice (some ⟨gb, ob, none⟩) 3 cb := H 1 0 76 (by kernel_rfl) rfl
        have g76 := Array.getD_eq_getD_getElem?.symm.trans h76
        have h77 : ∃ g, act.tmps.getD 77 undef = .slice (some ⟨g, 0, none⟩) 3 3 ∧ g < wa.heap.size ∧ Rd wa (g + 1) (some ⟨g, 0, none⟩) (u8s [2, 0, 3]) := H 1 1 77 (by kernel_rfl) rfl
        obtain ⟨g, hv, hg, hr⟩ := h77
        clear H O
        obtain ⟨a0, a1, a2, af⟩ := hA.three
        obtain ⟨b0, b1, b2, bf⟩ := hBB.three
        obtain ⟨x0, x1, x2, xf⟩ := h5b.three
        obtain ⟨s0, s1, s2, sf⟩ := hsb.three
        go_simp
        refine (same_at wa _ _ _ _ [2, 0, 3] [2, 0, 3] _ _ 3 3 true hrd hr (by simp [maxLen]) rfl rfl (by decide)).mono ?_
        rintro e w1 ⟨rfl, q, hq⟩
        have hb : Below wa.heap.size wa w1 := by rw [hq]; exact below_drewN (Below.refl _ _) q
        exact hK _ _ hb (fun _ => rfl)
      · intro act wa hC hd H O K hK
        clear hd
        obtain ⟨hB, hA, hBB, h5b, hsb, hrd⟩ := hC
        have h78 : act.tmps.getD 78 undef = .bool true := H 1 2 78 (by kernel_rfl) rfl
        have g78 := Array.getD_eq_getD_getElem?.symm.trans h78
        clear H O
        obtain ⟨a0, a1, a2, af⟩ := hA.three
        obtain ⟨b0, b1, b2, bf⟩ := hBB.three
        obtain ⟨x0, x1, x2, xf⟩ := h5b.three
        obtain ⟨s0, s1, s2, sf⟩ := hsb.three
        go_simp
        exact hK _ _ (Below.refl _ _) (fun _ => rfl)
      · intro act wa hC hd H O K hK
        clear hd
        obtain ⟨hB, hA, hBB, h5b, hsb, hrd⟩ := hC
        have h4 := O 4 (by kernel_rfl)
        have g4 := Array.getD_eq_getD_getElem?.symm.trans h4
        have h79 : act.tmps.getD 79 undef = .bool true := H 1 3 79 (by kernel_rfl) rfl
        have g79 := Array.getD_eq_getD_getElem?.symm.trans h79
        have k79 := Inv.some_bool g79
        clear H O
        obtain ⟨a0, a1, a2, af⟩ := hA.three
        obtain ⟨b0, b1, b2, bf⟩ := hBB.three
        obtain ⟨x0, x1, x2, xf⟩ := h5b.three
        obtain ⟨s0, s1, s2, sf⟩ := hsb.three
        go_simp
        exact hK _ _ (Below.refl _ _) (fun _ => rfl)
      · intro act wa hC hd H O K hK
        clear hd
        obtain ⟨hB, hA, hBB, h5b, hsb, hrd⟩ := hC
        have h80 : act.tmps.getD 80 undef = .int .i64 0 := H 1 4 80 (by kernel_rfl) rfl
        have g80 := Array.getD_eq_getD_getElem?.symm.trans h80
        have h79 : act.tmps.getD 79 undef = .bool true := H 1 3 79 (by kernel_rfl) rfl
        have g79 := Array.getD_eq_getD_getElem?.symm.trans h79
        have k79 := Inv.some_bool g79
        clear H O
        obtain ⟨a0, a1, a2, af⟩ := hA.three
        obtain ⟨b0, b1, b2, bf⟩ := hBB.three
        obtain ⟨x0, x1, x2, xf⟩ := h5b.three
        obtain ⟨s0, s1, s2, sf⟩ := hsb.three
        go_simp
        exact hK _ _ (Below.refl _ _) (fun _ => rfl)
      · intro act wa hC hd H O K hK
        clear hd
        obtain ⟨hB, hA, hBB, h5b, hsb, hrd⟩ := hC
        have h79 : act.tmps.getD 79 undef = .bool true := H 1 3 79 (by kernel_rfl) rfl
        have g79 := Array.getD_eq_getD_getElem?.symm.trans h79
        have h81 : act.tmps.getD 81 undef = .bool true := H 1 5 81 (by kernel_rfl) rfl
        have g81 := Array.getD_eq_getD_getElem?.symm.trans h81
        clear H O
        obtain ⟨a0, a1, a2, af⟩ := hA.three
        obtain ⟨b0, b1, b2, bf⟩ := hBB.three
        obtain ⟨x0, x1, x2, xf⟩ := h5b.three
        obtain ⟨s0, s1, s2, sf⟩ := hsb.three
        go_simp
        exact hK _ _ (Below.refl _ _) (fun _ => rfl)
      · intro act wa hC hd H O K hK
        clear hd
        obtain ⟨hB, hA, hBB, h5b, hsb, hrd⟩ := hC
        have h82 : act.tmps.getD 82 undef = .bool true := H 1 6 82 (by kernel_rfl) rfl
        have g82 := Array.getD_eq_getD_getElem?.symm.trans h82
        clear H O
        obtain ⟨a0, a1, a2, af⟩ := hA.three
        obtain ⟨b0, b1, b2, bf⟩ := hBB.three
        obtain ⟨x0, x1, x2, xf⟩ := h5b.three
        obtain ⟨s0, s1, s2, sf⟩ := hsb.three
        go_simp
        exact hK _ _ (Below.refl _ _) (fun _ => rfl)
      · intro act wa hC hd H O K hK
        clear hd
        obtain ⟨hB, hA, hBB, h5b, hsb, hrd⟩ := hC
        have h5 := O 5 (by kernel_rfl)
        have g5 := Array.getD_eq_getD_getElem?.symm.trans h5
        have h83 : act.tmps.getD 83 undef = .bool true := H 1 7 83 (by kernel_rfl) rfl
        have g83 := Array.getD_eq_getD_getElem?.symm.trans h83
        have k83 := Inv.some_bool g83
        clear H O
        obtain ⟨a0, a1, a2, af⟩ := hA.three
        obtain ⟨b0, b1, b2, bf⟩ := hBB.three
        obtain ⟨x0, x1, x2, xf⟩ := h5b.three
        obtain ⟨s0, s1, s2, sf⟩ := hsb.three
        go_simp
        exact hK _ _ (Below.refl _ _) (fun _ => rfl)
      · intro act wa hC hd H O K hK
        clear hd
        obtain ⟨hB, hA, hBB, h5b, hsb, hrd⟩ := hC
        have h2 := O 2 (by kernel_rfl)
        have g2 := Array.getD_eq_getD_getElem?.symm.trans h2
        have h83 : act.tmps.getD 83 undef = .bool true := H 1 7 83 (by kernel_rfl) rfl
        have g83 := Array.getD_eq_getD_getElem?.symm.trans h83
        have k83 := Inv.some_bool g83
        clear H O
        obtain ⟨a0, a1, a2, af⟩ := hA.three
        obtain ⟨b0, b1, b2, bf⟩ := hBB.three
        obtain ⟨x0, x1, x2, xf⟩ := h5b.three
        obtain ⟨s0, s1, s2, sf⟩ := hsb.three
        go_simp
        exact hK _ _ (Below.refl _ _) (fun _ => rfl)
      · intro act wa hC hd H O K hK
        clear hd
        obtain ⟨hB, hA, hBB, h5b, hsb, hrd⟩ := hC
        have h84 : act.tmps.getD 84 undef = .agg #[.int .i64 5, .int .i64 0, .int .i64 7] := H 1 8 84 (by kernel_rfl) rfl
        have g84 := Array.getD_eq_getD_getElem?.symm.trans h84
        have h85 : act.tmps.getD 85 undef = .agg #[.int .i64 5, .int .i64 0, .int .i64 7] := H 1 9 85 (by kernel_rfl) rfl
        have g85 := Array.getD_eq_getD_getElem?.symm.trans h85
        have h83 : act.tmps.getD 83 undef = .bool true := H 1 7 83 (by kernel_rfl) rfl
        have g83 := Array.getD_eq_getD_getElem?.symm.trans h83
        have k83 := Inv.some_bool g83
        clear H O
        obtain ⟨a0, a1, a2, af⟩ := hA.three
        obtain ⟨b0, b1, b2, bf⟩ := hBB.three
        obtain ⟨x0, x1, x2, xf⟩ := h5b.three
        obtain ⟨s0, s1, s2, sf⟩ := hsb.three
        have q := eqc_in 5 0 7 5 0 7 wa
        rw [show eqcB 5 0 7 5 0 7 = true by decide] at q
        go_simp
        exact hK _ _ (Below.refl _ _) (fun _ => rfl)
      · intro act wa hC hd H O K hK
        clear hd
        obtain ⟨hB, hA, hBB, h5b, hsb, hrd⟩ := hC
        have h83 : act.tmps.getD 83 undef = .bool true := H 1 7 83 (by kernel_rfl) rfl
        have g83 := Array.getD_eq_getD_getElem?.symm.trans h83
        have h86 : act.tmps.getD 86 undef = .bool true := H 1 10 86 (by kernel_rfl) rfl
        have g86 := Array.getD_eq_getD_getElem?.symm.trans h86
        clear H O
        obtain ⟨a0, a1, a2, af⟩ := hA.three
        obtain ⟨b0, b1, b2, bf⟩ := hBB.three
        obtain ⟨x0, x1, x2, xf⟩ := h5b.three
        obtain ⟨s0, s1, s2, sf⟩ := hsb.three
        go_simp
        exact hK _ _ (Below.refl _ _) (fun _ => rfl)
      · intro act wa hC hd H O K hK
        clear hd
        obtain ⟨hB, hA, hBB, h5b, hsb, hrd⟩ := hC
        have h87 : act.tmps.getD 87 undef = .bool true := H 1 11 87 (by kernel_rfl) rfl
        have g87 := Array.getD_eq_getD_getElem?.symm.trans h87
        clear H O
        obtain ⟨a0, a1, a2, af⟩ := hA.three
        obtain ⟨b0, b1, b2, bf⟩ := hBB.three
        obtain ⟨x0, x1, x2, xf⟩ := h5b.three
        obtain ⟨s0, s1, s2, sf⟩ := hsb.three
        go_simp
        exact hK _ _ (Below.refl _ _) (fun _ => rfl)
      · intro act wa hC hd H O K hK
        clear hd
        obtain ⟨hB, hA, hBB, h5b, hsb, hrd⟩ := hC
        have h6 := O 6 (by kernel_rfl)
        have g6 := Array.getD_eq_getD_getElem?.symm.trans h6
        have h88 : act.tmps.getD 88 undef = .bool true := H 1 12 88 (by kernel_rfl) rfl
        have g88 := Array.getD_eq_getD_getElem?.symm.trans h88
        have k88 := Inv.some_bool g88
        clear H O
        obtain ⟨a0, a1, a2, af⟩ := hA.three
        obtain ⟨b0, b1, b2, bf⟩ := hBB.three
        obtain ⟨x0, x1, x2, xf⟩ := h5b.three
        obtain ⟨s0, s1, s2, sf⟩ := hsb.three
        go_simp
        exact hK _ _ (Below.refl _ _) (fun _ => rfl)
      · intro act wa hC hd H O K hK
        clear hd
        obtain ⟨hB, hA, hBB, h5b, hsb, hrd⟩ := hC
        have h89 : act.tmps.getD 89 undef = .int .i64 3 := H 1 13 89 (by kernel_rfl) rfl
        have g89 := Array.getD_eq_getD_getElem?.symm.trans h89
        have h88 : act.tmps.getD 88 undef = .bool true := H 1 12 88 (by kernel_rfl) rfl
        have g88 := Array.getD_eq_getD_getElem?.symm.trans h88
        have k88 := Inv.some_bool g88
        clear H O
        obtain ⟨a0, a1, a2, af⟩ := hA.three
        obtain ⟨b0, b1, b2, bf⟩ := hBB.three
        obtain ⟨x0, x1, x2, xf⟩ := h5b.three
        obtain ⟨s0, s1, s2, sf⟩ := hsb.three
        go_simp
        exact hK _ _ (Below.refl _ _) (fun _ => rfl)
      · intro act wa hC hd H O K hK
        clear hd
        obtain ⟨hB, hA, hBB, h5b, hsb, hrd⟩ := hC
        have h88 : act.tmps.getD 88 undef = .bool true := H 1 12 88 (by kernel_rfl) rfl
        have g88 := Array.getD_eq_getD_getElem?.symm.trans h88
        have h90 : act.tmps.getD 90 undef = .bool true := H 1 14 90 (by kernel_rfl) rfl
        have g90 := Array.getD_eq_getD_getElem?.symm.trans h90
        clear H O
        obtain ⟨a0, a1, a2, af⟩ := hA.three
        obtain ⟨b0, b1, b2, bf⟩ := hBB.three
        obtain ⟨x0, x1, x2, xf⟩ := h5b.three
        obtain ⟨s0, s1, s2, sf⟩ := hsb.three
        go_simp
        exact hK _ _ (Below.refl _ _) (fun _ => rfl)
      · intro act wa hC hd H O K hK
        clear hd
        obtain ⟨hB, hA, hBB, h5b, hsb, hrd⟩ := hC
        have h91 : act.tmps.getD 91 undef = .bool true := H 1 15 91 (by kernel_rfl) rfl
        have g91 := Array.getD_eq_getD_getElem?.symm.trans h91
        clear H O
        obtain ⟨a0, a1, a2, af⟩ := hA.three
        obtain ⟨b0, b1, b2, bf⟩ := hBB.three
        obtain ⟨x0, x1, x2, xf⟩ := h5b.three
        obtain ⟨s0, s1, s2, sf⟩ := hsb.three
        go_simp
        exact hK _ _ (Below.refl _ _) (fun _ => rfl)
      · intro act wa hC hd H O K hK
        clear hd
        obtain ⟨hB, hA, hBB, h5b, hsb, hrd⟩ := hC
        have h7 := O 7 (by kernel_rfl)
        have g7 := Array.getD_eq_getD_getElem?.symm.trans h7
        have h92 : act.tmps.getD 92 undef = .bool true := H 1 16 92 (by kernel_rfl) rfl
        have g92 := Array.getD_eq_getD_getElem?.symm.trans h92
        have k92 := Inv.some_bool g92
        clear H O
        obtain ⟨a0, a1, a2, af⟩ := hA.three
        obtain ⟨b0, b1, b2, bf⟩ := hBB.three
        obtain ⟨x0, x1, x2, xf⟩ := h5b.three
        obtain ⟨s0, s1, s2, sf⟩ := hsb.three
        go_simp
        exact hK _ _ (Below.refl _ _) (fun _ => rfl)
      · intro act wa hC hd H O K hK
        clear hd
        obtain ⟨hB, hA, hBB, h5b, hsb, hrd⟩ := hC
        have h93 : act.tmps.getD 93 undef = .int .i64 0 := H 1 17 93 (by kernel_rfl) rfl
        have g93 := Array.getD_eq_getD_getElem?.symm.trans h93
        have h92 : act.tmps.getD 92 undef = .bool true := H 1 16 92 (by kernel_rfl) rfl
        have g92 := Array.getD_eq_getD_getElem?.symm.trans h92
        have k92 := Inv.some_bool g92
        clear H O
        obtain ⟨a0, a1, a2, af⟩ := hA.three
        obtain ⟨b0, b1, b2, bf⟩ := hBB.three
        obtain ⟨x0, x1, x2, xf⟩ := h5b.three
        obtain ⟨s0, s1, s2, sf⟩ := hsb.three
        go_simp
        exact hK _ _ (Below.refl _ _) (fun _ => rfl)
      · intro act wa hC hd H O K hK
        clear hd
        obtain ⟨hB, hA, hBB, h5b, hsb, hrd⟩ := hC
        have h92 : act.tmps.getD 92 undef = .bool true := H 1 16 92 (by kernel_rfl) rfl
        have g92 := Array.getD_eq_getD_getElem?.symm.trans h92
        have h94 : act.tmps.getD 94 undef = .bool true := H 1 18 94 (by kernel_rfl) rfl
        have g94 := Array.getD_eq_getD_getElem?.symm.trans h94
        clear H O
        obtain ⟨a0, a1, a2, af⟩ := hA.three
        obtain ⟨b0, b1, b2, bf⟩ := hBB.three
        obtain ⟨x0, x1, x2, xf⟩ := h5b.three
        obtain ⟨s0, s1, s2, sf⟩ := hsb.three
        go_simp
        exact hK _ _ (Below.refl _ _) (fun _ => rfl)
      · intro act wa hC hd H O K hK
        clear hd
        obtain ⟨hB, hA, hBB, h5b, hsb, hrd⟩ := hC
        have h95 : act.tmps.getD 95 undef = .bool true := H 1 19 95 (by kernel_rfl) rfl
        have g95 := Array.getD_eq_getD_getElem?.symm.trans h95
        clear H O
        obtain ⟨a0, a1, a2, af⟩ := hA.three
        obtain ⟨b0, b1, b2, bf⟩ := hBB.three
        obtain ⟨x0, x1, x2, xf⟩ := h5b.three
        obtain ⟨s0, s1, s2, sf⟩ := hsb.three
        go_simp
        exact hK _ _ (Below.refl _ _) (fun _ => rfl)
      · intro act wa hC hd H O K hK
        clear hd
        obtain ⟨hB, hA, hBB, h5b, hsb, hrd⟩ := hC
        have h10 := O 10 (by kernel_rfl)
        have g10 := Array.getD_eq_getD_getElem?.symm.trans h10
        have h96 : act.tmps.getD 96 undef = .bool true := H 1 20 96 (by kernel_rfl) rfl
        have g96 := Array.getD_eq_getD_getElem?.symm.trans h96
        have k96 := Inv.some_bool g96
        clear H O
        obtain ⟨a0, a1, a2, af⟩ := hA.three
        obtain ⟨b0, b1, b2, bf⟩ := hBB.three
        obtain ⟨x0, x1, x2, xf⟩ := h5b.three
        obtain ⟨s0, s1, s2, sf⟩ := hsb.three
        go_simp
        exact hK _ _ (Below.refl _ _) (fun _ => rfl)
      · intro act wa hC hd H O K hK
        clear hd
        obtain ⟨hB, hA, hBB, h5b, hsb, hrd⟩ := hC
        have h97 : act.tmps.getD 97 undef = .int .i64 3 := H 1 21 97 (by kernel_rfl) rfl
        have g97 := Array.getD_eq_getD_getElem?.symm.trans h97
        have h96 : act.tmps.getD 96 undef = .bool true := H 1 20 96 (by kernel_rfl) rfl
        have g96 := Array.getD_eq_getD_getElem?.symm.trans h96
        have k96 := Inv.some_bool g96
        clear H O
        obtain ⟨a0, a1, a2, af⟩ := hA.three
        obtain ⟨b0, b1, b2, bf⟩ := hBB.three
        obtain ⟨x0, x1, x2, xf⟩ := h5b.three
        obtain ⟨s0, s1, s2, sf⟩ := hsb.three
        go_simp
        exact hK _ _ (Below.refl _ _) (fun _ => rfl)
      · intro act wa hC hd H O K hK
        clear hd
        obtain ⟨hB, hA, hBB, h5b, hsb, hrd⟩ := hC
        have h96 : act.tmps.getD 96 undef = .bool true := H 1 20 96 (by kernel_rfl) rfl
        have g96 := Array.getD_eq_getD_getElem?.symm.trans h96
        have h98 : act.tmps.getD 98 undef = .bool true := H 1 22 98 (by kernel_rfl) rfl
        have g98 := Array.getD_eq_getD_getElem?.symm.trans h98
        clear H O
        obtain ⟨a0, a1, a2, af⟩ := hA.three
        obtain ⟨b0, b1, b2, bf⟩ := hBB.three
        obtain ⟨x0, x1, x2, xf⟩ := h5b.three
        obtain ⟨s0, s1, s2, sf⟩ := hsb.three
        go_simp
        exact hK _ _ (Below.refl _ _) (fun _ => rfl)
      · intro act wa hC hd H O K hK
        clear hd
        obtain ⟨hB, hA, hBB, h5b, hsb, hrd⟩ := hC
        have h99 : act.tmps.getD 99 undef = .bool true := H 1 23 99 (by kernel_rfl) rfl
        have g99 := Array.getD_eq_getD_getElem?.symm.trans h99
        clear H O
        obtain ⟨a0, a1, a2, af⟩ := hA.three
        obtain ⟨b0, b1, b2, bf⟩ := hBB.three
        obtain ⟨x0, x1, x2, xf⟩ := h5b.three
        obtain ⟨s0, s1, s2, sf⟩ := hsb.three
        go_simp
        exact hK _ _ (Below.refl _ _) (fun _ => rfl)
      · intro act wa hC hd H O K hK
        clear hd
        obtain ⟨hB, hA, hBB, h5b, hsb, hrd⟩ := hC
        have h13 := O 13 (by kernel_rfl)
        have g13 := Array.getD_eq_getD_getElem?.symm.trans h13
        have h100 : act.tmps.getD 100 undef = .bool true := H 1 24 100 (by kernel_rfl) rfl
        have g100 := Array.getD_eq_getD_getElem?.symm.trans h100
        have k100 := Inv.some_bool g100
        clear H O
        obtain ⟨a0, a1, a2, af⟩ := hA.three
        obtain ⟨b0, b1, b2, bf⟩ := hBB.three
        obtain ⟨x0, x1, x2, xf⟩ := h5b.three
        obtain ⟨s0, s1, s2, sf⟩ := hsb.three
        go_simp
        exact hK _ _ (Below.refl _ _) (fun _ => rfl)
      · intro act wa hC hd H O K hK
        clear hd
        obtain ⟨hB, hA, hBB, h5b, hsb, hrd⟩ := hC
        have h101 : act.tmps.getD 101 undef = .int .i64 2 := H 1 25 101 (by kernel_rfl) rfl
        have g101 := Array.getD_eq_getD_getElem?.symm.trans h101
        have h100 : act.tmps.getD 100 undef = .bool true := H 1 24 100 (by kernel_rfl) rfl
        have g100 := Array.getD_eq_getD_getElem?.symm.trans h100
        have k100 := Inv.some_bool g100
        clear H O
        obtain ⟨a0, a1, a2, af⟩ := hA.three
        obtain ⟨b0, b1, b2, bf⟩ := hBB.three
        obtain ⟨x0, x1, x2, xf⟩ := h5b.three
        obtain ⟨s0, s1, s2, sf⟩ := hsb.three
        go_simp
        exact hK _ _ (Below.refl _ _) (fun _ => rfl)
      · intro act wa hC hd H O K hK
        clear hd
        obtain ⟨hB, hA, hBB, h5b, hsb, hrd⟩ := hC
        have h100 : act.tmps.getD 100 undef = .bool true := H 1 24 100 (by kernel_rfl) rfl
        have g100 := Array.getD_eq_getD_getElem?.symm.trans h100
        have h102 : act.tmps.getD 102 undef = .bool true := H 1 26 102 (by kernel_rfl) rfl
        have g102 := Array.getD_eq_getD_getElem?.symm.trans h102
        clear H O
        obtain ⟨a0, a1, a2, af⟩ := hA.three
        obtain ⟨b0, b1, b2, bf⟩ := hBB.three
        obtain ⟨x0, x1, x2, xf⟩ := h5b.three
        obtain ⟨s0, s1, s2, sf⟩ := hsb.three
        go_simp
        exact hK _ _ (Below.refl _ _) (fun _ => rfl)
      · intro act wa hC hd H O K hK
        clear hd
        obtain ⟨hB, hA, hBB, h5b, hsb, hrd⟩ := hC
        have h103 : act.tmps.getD 103 undef = .bool true := H 1 27 103 (by kernel_rfl) rfl
        have g103 := Array.getD_eq_getD_getElem?.symm.trans h103
        clear H O
        obtain ⟨a0, a1, a2, af⟩ := hA.three
        obtain ⟨b0, b1, b2, bf⟩ := hBB.three
        obtain ⟨x0, x1, x2, xf⟩ := h5b.three
        obtain ⟨s0, s1, s2, sf⟩ := hsb.three
        go_simp
        exact hK _ _ (Below.refl _ _) (fun _ => rfl)
      · intro act wa hC hd H O K hK
        clear hd
        obtain ⟨hB, hA, hBB, h5b, hsb, hrd⟩ := hC
        have h15 := O 15 (by kernel_rfl)
        have g15 := Array.getD_eq_getD_getElem?.symm.trans h15
        have h104 : act.tmps.getD 104 undef = .bool true := H 1 28 104 (by kernel_rfl) rfl
        have g104 := Array.getD_eq_getD_getElem?.symm.trans h104
        have k104 := Inv.some_bool g104
        clear H O
        obtain ⟨a0, a1, a2, af⟩ := hA.three
        obtain ⟨b0, b1, b2, bf⟩ := hBB.three
        obtain ⟨x0, x1, x2, xf⟩ := h5b.three
        obtain ⟨s0, s1, s2, sf⟩ := hsb.three
        go_simp
        exact hK _ _ (Below.refl _ _) (fun _ => rfl)
      · intro act wa hC hd H O K hK
        clear hd
        obtain ⟨hB, hA, hBB, h5b, hsb, hrd⟩ := hC
        have h105 : act.tmps.getD 105 undef = .int .i64 1 := H 1 29 105 (by kernel_rfl) rfl
        have g105 := Array.getD_eq_getD_getElem?.symm.trans h105
        have h104 : act.tmps.getD 104 undef = .bool true := H 1 28 104 (by kernel_rfl) rfl
        have g104 := Array.getD_eq_getD_getElem?.symm.trans h104
        have k104 := Inv.some_bool g104
        clear H O
        obtain ⟨a0, a1, a2, af⟩ := hA.three
        obtain ⟨b0, b1, b2, bf⟩ := hBB.three
        obtain ⟨x0, x1, x2, xf⟩ := h5b.three
        obtain ⟨s0, s1, s2, sf⟩ := hsb.three
        go_simp
        exact hK _ _ (Below.refl _ _) (fun _ => rfl)
      · intro act wa hC hd H O K hK
        clear hd
        obtain ⟨hB, hA, hBB, h5b, hsb, hrd⟩ := hC
        have h104 : act.tmps.getD 104 undef = .bool true := H 1 28 104 (by kernel_rfl) rfl
        have g104 := Array.getD_eq_getD_getElem?.symm.trans h104
        have h106 : act.tmps.getD 106 undef = .bool true := H 1 30 106 (by kernel_rfl) rfl
        have g106 := Array.getD_eq_getD_getElem?.symm.trans h106
        clear H O
        obtain ⟨a0, a1, a2, af⟩ := hA.three
        obtain ⟨b0, b1, b2, bf⟩ := hBB.three
        obtain ⟨x0, x1, x2, xf⟩ := h5b.three
        obtain ⟨s0, s1, s2, sf⟩ := hsb.three
        go_simp
        exact hK _ _ (Below.refl _ _) (fun _ => rfl)
      · intro act wa hC hd H O K hK
        clear hd
        obtain ⟨hB, hA, hBB, h5b, hsb, hrd⟩ := hC
        have h107 : act.tmps.getD 107 undef = .bool true := H 1 31 107 (by kernel_rfl) rfl
        have g107 := Array.getD_eq_getD_getElem?.symm.trans h107
        clear H O
        obtain ⟨a0, a1, a2, af⟩ := hA.three
        obtain ⟨b0, b1, b2, bf⟩ := hBB.three
        obtain ⟨x0, x1, x2, xf⟩ := h5b.three
        obtain ⟨s0, s1, s2, sf⟩ := hsb.three
        go_simp
        exact hK _ _ (Below.refl _ _) (fun _ => rfl)
      · intro act wa hC hd H O K hK
        clear hd
        obtain ⟨hB, hA, hBB, h5b, hsb, hrd⟩ := hC
        have h16 := O 16 (by kernel_rfl)
        have g16 := Array.getD_eq_getD_getElem?.symm.trans h16
        have h108 : act.tmps.getD 108 undef = .bool true := H 1 32 108 (by kernel_rfl) rfl
        have g108 := Array.getD_eq_getD_getElem?.symm.trans h108
        have k108 := Inv.some_bool g108
        clear H O
        obtain ⟨a0, a1, a2, af⟩ := hA.three
        obtain ⟨b0, b1, b2, bf⟩ := hBB.three
        obtain ⟨x0, x1, x2, xf⟩ := h5b.three
        obtain ⟨s0, s1, s2, sf⟩ := hsb.three
        go_simp
        exact hK _ _ (Below.refl _ _) (fun _ => rfl)
      · intro act wa hC hd H O K hK
        clear hd
        obtain ⟨hB, hA, hBB, h5b, hsb, hrd⟩ := hC
        have h108 : act.tmps.getD 108 undef = .bool true := H 1 32 108 (by kernel_rfl) rfl
        have g108 := Array.getD_eq_getD_getElem?.symm.trans h108
        have k108 := Inv.some_bool g108
        clear H O
        obtain ⟨a0, a1, a2, af⟩ := hA.three
        obtain ⟨b0, b1, b2, bf⟩ := hBB.three
        obtain ⟨x0, x1, x2, xf⟩ := h5b.three
        obtain ⟨s0, s1, s2, sf⟩ := hsb.three
        go_simp
        exact hK _ _ (Below.refl _ _) (fun _ => rfl)
      · intro act wa hC hd H O K hK
        clear hd
        obtain ⟨hB, hA, hBB, h5b, hsb, hrd⟩ := hC
        have h109 : act.tmps.getD 109 undef = .agg #[.int .i64 5, .int .i64 1, .int .i64 7] := H 1 33 109 (by kernel_rfl) rfl
        have g109 := Array.getD_eq_getD_getElem?.symm.trans h109
        have h110 : act.tmps.getD 110 undef = .agg #[.int .i64 5, .int .i64 1, .int .i64 7] := H 1 34 110 (by kernel_rfl) rfl
        have g110 := Array.getD_eq_getD_getElem?.symm.trans h110
        have h108 : act.tmps.getD 108 undef = .bool true := H 1 32 108 (by kernel_rfl) rfl
        have g108 := Array.getD_eq_getD_getElem?.symm.trans h108
        have k108 := Inv.some_bool g108
        clear H O
        obtain ⟨a0, a1, a2, af⟩ := hA.three
        obtain ⟨b0, b1, b2, bf⟩ := hBB.three
        obtain ⟨x0, x1, x2, xf⟩ := h5b.three
        obtain ⟨s0, s1, s2, sf⟩ := hsb.three
        have q := eqc_in 5 1 7 5 1 7 wa
        rw [show eqcB 5 1 7 5 1 7 = true by decide] at q
        go_simp
        exact hK _ _ (Below.refl _ _) (fun _ => rfl)
      · intro act wa hC hd H O K hK
        clear hd
        obtain ⟨hB, hA, hBB, h5b, hsb, hrd⟩ := hC
        have h108 : act.tmps.getD 108 undef = .bool true := H 1 32 108 (by kernel_rfl) rfl
        have g108 := Array.getD_eq_getD_getElem?.symm.trans h108
        have h111 : act.tmps.getD 111 undef = .bool true := H 1 35 111 (by kernel_rfl) rfl
        have g111 := Array.getD_eq_getD_getElem?.symm.trans h111
        clear H O
        obtain ⟨a0, a1, a2, af⟩ := hA.three
        obtain ⟨b0, b1, b2, bf⟩ := hBB.three
        obtain ⟨x0, x1, x2, xf⟩ := h5b.three
        obtain ⟨s0, s1, s2, sf⟩ := hsb.three
        go_simp
        exact hK _ _ (Below.refl _ _) (fun _ => rfl)
      · intro act wa hC hd H O K hK
        clear hd
        obtain ⟨hB, hA, hBB, h5b, hsb, hrd⟩ := hC
        have h112 : act.tmps.getD 112 undef = .bool true := H 1 36 112 (by kernel_rfl) rfl
        have g112 := Array.getD_eq_getD_getElem?.symm.trans h112
        clear H O
        obtain ⟨a0, a1, a2, af⟩ := hA.three
        obtain ⟨b0, b1, b2, bf⟩ := hBB.three
        obtain ⟨x0, x1, x2, xf⟩ := h5b.three
        obtain ⟨s0, s1, s2, sf⟩ := hsb.three
        go_simp
        exact hK _ _ (Below.refl _ _) (fun _ => rfl)
      · intro act wa hC hd H O K hK
        clear hd
        obtain ⟨hB, hA, hBB, h5b, hsb, hrd⟩ := hC
        have h17 := O 17 (by kernel_rfl)
        have g17 := Array.getD_eq_getD_getElem?.symm.trans h17
        have h113 : act.tmps.getD 113 undef = .bool true := H 1 37 113 (by kernel_rfl) rfl
        have g113 := Array.getD_eq_getD_getElem?.symm.trans h113
        have k113 := Inv.some_bool g113
        clear H O
        obtain ⟨a0, a1, a2, af⟩ := hA.three
        obtain ⟨b0, b1, b2, bf⟩ := hBB.three
        obtain ⟨x0, x1, x2, xf⟩ := h5b.three
        obtain ⟨s0, s1, s2, sf⟩ := hsb.three
        go_simp
        exact hK _ _ (Below.refl _ _) (fun _ => rfl)
      · intro act wa hC hd H O K hK
        clear hd
        obtain ⟨hB, hA, hBB, h5b, hsb, hrd⟩ := hC
        have h114 : act.tmps.getD 114 undef = .int .i64 0 := H 1 38 114 (by kernel_rfl) rfl
        have g114 := Array.getD_eq_getD_getElem?.symm.trans h114
        have h113 : act.tmps.getD 113 undef = .bool true := H 1 37 113 (by kernel_rfl) rfl
        have g113 := Array.getD_eq_getD_getElem?.symm.trans h113
        have k113 := Inv.some_bool g113
        clear H O
        obtain ⟨a0, a1, a2, af⟩ := hA.three
        obtain ⟨b0, b1, b2, bf⟩ := hBB.three
        obtain ⟨x0, x1, x2, xf⟩ := h5b.three
        obtain ⟨s0, s1, s2, sf⟩ := hsb.three
        go_simp
        exact hK _ _ (Below.refl _ _) (fun _ => rfl)
      · intro act wa hC hd H O K hK
        clear hd
        obtain ⟨hB, hA, hBB, h5b, hsb, hrd⟩ := hC
        have h113 : act.tmps.getD 113 undef = .bool true := H 1 37 113 (by kernel_rfl) rfl
        have g113 := Array.getD_eq_getD_getElem?.symm.trans h113
        have h115 : act.tmps.getD 115 undef = .bool true := H 1 39 115 (by kernel_rfl) rfl
        have g115 := Array.getD_eq_getD_getElem?.symm.trans h115
        clear H O
        obtain ⟨a0, a1, a2, af⟩ := hA.three
        obtain ⟨b0, b1, b2, bf⟩ := hBB.three
        obtain ⟨x0, x1, x2, xf⟩ := h5b.three
        obtain ⟨s0, s1, s2, sf⟩ := hsb.three
        go_simp
        exact hK _ _ (Below.refl _ _) (fun _ => rfl)
      · intro act wa hC hd H O K hK
        clear hd
        obtain ⟨hB, hA, hBB, h5b, hsb, hrd⟩ := hC
        have h116 : act.tmps.getD 116 undef = .bool true := H 1 40 116 (by kernel_rfl) rfl
        have g116 := Array.getD_eq_getD_getElem?.symm.trans h116
        clear H O
        obtain ⟨a0, a1, a2, af⟩ := hA.three
        obtain ⟨b0, b1, b2, bf⟩ := hBB.three
        obtain ⟨x0, x1, x2, xf⟩ := h5b.three
        obtain ⟨s0, s1, s2, sf⟩ := hsb.three
        go_simp
        exact hK _ _ (Below.refl _ _) (fun _ => rfl)
      · intro act wa hC hd H O K hK
        clear hd
        obtain ⟨hB, hA, hBB, h5b, hsb, hrd⟩ := hC
        have h19 := O 19 (by kernel_rfl)
        have g19 := Array.getD_eq_getD_getElem?.symm.trans h19
        have h117 : act.tmps.getD 117 undef = .bool true := H 1 41 117 (by kernel_rfl) rfl
        have g117 := Array.getD_eq_getD_getElem?.symm.trans h117
        have k117 := Inv.some_bool g117
        clear H O
        obtain ⟨a0, a1, a2, af⟩ := hA.three
        obtain ⟨b0, b1, b2, bf⟩ := hBB.three
        obtain ⟨x0, x1, x2, xf⟩ := h5b.three
        obtain ⟨s0, s1, s2, sf⟩ := hsb.three
        go_simp
        exact hK _ _ (Below.refl _ _) (fun _ => rfl)
      · intro act wa hC hd H O K hK
        clear hd
        obtain ⟨hB, hA, hBB, h5b, hsb, hrd⟩ := hC
        have h118 : act.tmps.getD 118 undef = .int .i64 9 := H 1 42 118 (by kernel_rfl) rfl
        have g118 := Array.getD_eq_getD_getElem?.symm.trans h118
        have h117 : act.tmps.getD 117 undef = .bool true := H 1 41 117 (by kernel_rfl) rfl
        have g117 := Array.getD_eq_getD_getElem?.symm.trans h117
        have k117 := Inv.some_bool g117
        clear H O
        obtain ⟨a0, a1, a2, af⟩ := hA.three
        obtain ⟨b0, b1, b2, bf⟩ := hBB.three
        obtain ⟨x0, x1, x2, xf⟩ := h5b.three
        obtain ⟨s0, s1, s2, sf⟩ := hsb.three
        go_simp
        exact hK _ _ (Below.refl _ _) (fun _ => rfl)
      · intro act wa hC hd H O K hK
        clear hd
        obtain ⟨hB, hA, hBB, h5b, hsb, hrd⟩ := hC
        have h117 : act.tmps.getD 117 undef = .bool true := H 1 41 117 (by kernel_rfl) rfl
        have g117 := Array.getD_eq_getD_getElem?.symm.trans h117
        have h119 : act.tmps.getD 119 undef = .bool true := H 1 43 119 (by kernel_rfl) rfl
        have g119 := Array.getD_eq_getD_getElem?.symm.trans h119
        clear H O
        obtain ⟨a0, a1, a2, af⟩ := hA.three
        obtain ⟨b0, b1, b2, bf⟩ := hBB.three
        obtain ⟨x0, x1, x2, xf⟩ := h5b.three
        obtain ⟨s0, s1, s2, sf⟩ := hsb.three
        go_simp
        exact hK _ _ (Below.refl _ _) (fun _ => rfl)
      · intro act wa hC hd H O K hK
        clear hd
        obtain ⟨hB, hA, hBB, h5b, hsb, hrd⟩ := hC
        have h120 : act.tmps.getD 120 undef = .bool true := H 1 44 120 (by kernel_rfl) rfl
        have g120 := Array.getD_eq_getD_getElem?.symm.trans h120
        clear H O
        obtain ⟨a0, a1, a2, af⟩ := hA.three
        obtain ⟨b0, b1, b2, bf⟩ := hBB.three
        obtain ⟨x0, x1, x2, xf⟩ := h5b.three
        obtain ⟨s0, s1, s2, sf⟩ := hsb.three
        go_simp
        exact hK _ _ (Below.refl _ _) (fun _ => rfl)
      · intro act wa hC hd H O K hK
        clear hd
        obtain ⟨hB, hA, hBB, h5b, hsb, hrd⟩ := hC
        have h21 := O 21 (by kernel_rfl)
        have g21 := Array.getD_eq_getD_getElem?.symm.trans h21
        have h121 : act.tmps.getD 121 undef = .bool true := H 1 45 121 (by kernel_rfl) rfl
        have g121 := Array.getD_eq_getD_getElem?.symm.trans h121
        have k121 := Inv.some_bool g121
        clear H O
        obtain ⟨a0, a1, a2, af⟩ := hA.three
        obtain ⟨b0, b1, b2, bf⟩ := hBB.three
        obtain ⟨x0, x1, x2, xf⟩ := h5b.three
        obtain ⟨s0, s1, s2, sf⟩ := hsb.three
        go_simp
        exact hK _ _ (Below.refl _ _) (fun _ => rfl)
      · intro act wa hC hd H O K hK
        clear hd
        obtain ⟨hB, hA, hBB, h5b, hsb, hrd⟩ := hC
        have h122 : act.tmps.getD 122 undef = .int .i64 10 := H 1 46 122 (by kernel_rfl) rfl
        have g122 := Array.getD_eq_getD_getElem?.symm.trans h122
        have h121 : act.tmps.getD 121 undef = .bool true := H 1 45 121 (by kernel_rfl) rfl
        have g121 := Array.getD_eq_getD_getElem?.symm.trans h121
        have k121 := Inv.some_bool g121
        clear H O
        obtain ⟨a0, a1, a2, af⟩ := hA.three
        obtain ⟨b0, b1, b2, bf⟩ := hBB.three
        obtain ⟨x0, x1, x2, xf⟩ := h5b.three
        obtain ⟨s0, s1, s2, sf⟩ := hsb.three
        go_simp
        exact hK _ _ (Below.refl _ _) (fun _ => rfl)
      · intro act wa hC hd H O K hK
        clear hd
        obtain ⟨hB, hA, hBB, h5b, hsb, hrd⟩ := hC
        have h121 : act.tmps.getD 121 undef = .bool true := H 1 45 121 (by kernel_rfl) rfl
        have g121 := Array.getD_eq_getD_getElem?.symm.trans h121
        have h123 : act.tmps.getD 123 undef = .bool true := H 1 47 123 (by kernel_rfl) rfl
        have g123 := Array.getD_eq_getD_getElem?.symm.trans h123
        clear H O
        obtain ⟨a0, a1, a2, af⟩ := hA.three
        obtain ⟨b0, b1, b2, bf⟩ := hBB.three
        obtain ⟨x0, x1, x2, xf⟩ := h5b.three
        obtain ⟨s0, s1, s2, sf⟩ := hsb.three
        go_simp
        exact hK _ _ (Below.refl _ _) (fun _ => rfl)
      · intro act wa hC hd H O K hK
        clear hd
        obtain ⟨hB, hA, hBB, h5b, hsb, hrd⟩ := hC
        have h124 : act.tmps.getD 124 undef = .bool true := H 1 48 124 (by kernel_rfl) rfl
        have g124 := Array.getD_eq_getD_getElem?.symm.trans h124
        clear H O
        obtain ⟨a0, a1, a2, af⟩ := hA.three
        obtain ⟨b0, b1, b2, bf⟩ := hBB.three
        obtain ⟨x0, x1, x2, xf⟩ := h5b.three
        obtain ⟨s0, s1, s2, sf⟩ := hsb.three
        go_simp
        exact hK _ _ (Below.refl _ _) (fun _ => rfl)
      · intro act wa hC hd H O K hK
        clear hd
        obtain ⟨hB, hA, hBB, h5b, hsb, hrd⟩ := hC
        have h1 := O 1 (by kernel_rfl)
        have g1 := Array.getD_eq_getD_getElem?.symm.trans h1
        have h125 : act.tmps.getD 125 undef = .bool true := H 1 49 125 (by kernel_rfl) rfl
        have g125 := Array.getD_eq_getD_getElem?.symm.trans h125
        have k125 := Inv.some_bool g125
        clear H O
        obtain ⟨a0, a1, a2, af⟩ := hA.three
        obtain ⟨b0, b1, b2, bf⟩ := hBB.three
        obtain ⟨x0, x1, x2, xf⟩ := h5b.three
        obtain ⟨s0, s1, s2, sf⟩ := hsb.three
        go_simp
        exact hK _ _ (Below.refl _ _) (fun _ => rfl)
      · intro act wa hC hd H O K hK
        clear hd
        obtain ⟨hB, hA, hBB, h5b, hsb, hrd⟩ := hC
        have h2 := O 2 (by kernel_rfl)
        have g2 := Array.getD_eq_getD_getElem?.symm.trans h2
        have h125 : act.tmps.getD 125 undef = .bool true := H 1 49 125 (by kernel_rfl) rfl
        have g125 := Array.getD_eq_getD_getElem?.symm.trans h125
        have k125 := Inv.some_bool g125
        clear H O
        obtain ⟨a0, a1, a2, af⟩ := hA.three
        obtain ⟨b0, b1, b2, bf⟩ := hBB.three
        obtain ⟨x0, x1, x2, xf⟩ := h5b.three
        obtain ⟨s0, s1, s2, sf⟩ := hsb.three
        go_simp
        exact hK _ _ (Below.refl _ _) (fun _ => rfl)
      · intro act wa hC hd H O K hK
        clear hd
        obtain ⟨hB, hA, hBB, h5b, hsb, hrd⟩ := hC
        have h126 : act.tmps.getD 126 undef = .agg #[.int .i64 4, .int .i64 0, .int .i64 9] := H 1 50 126 (by kernel_rfl) rfl
        have g126 := Array.getD_eq_getD_getElem?.symm.trans h126
        have h127 : act.tmps.getD 127 undef = .agg #[.int .i64 5, .int .i64 0, .int .i64 7] := H 1 51 127 (by kernel_rfl) rfl
        have g127 := Array.getD_eq_getD_getElem?.symm.trans h127
        have h125 : act.tmps.getD 125 undef = .bool true := H 1 49 125 (by kernel_rfl) rfl
        have g125 := Array.getD_eq_getD_getElem?.symm.trans h125
        have k125 := Inv.some_bool g125
        clear H O
        obtain ⟨a0, a1, a2, af⟩ := hA.three
        obtain ⟨b0, b1, b2, bf⟩ := hBB.three
        obtain ⟨x0, x1, x2, xf⟩ := h5b.three
        obtain ⟨s0, s1, s2, sf⟩ := hsb.three
        go_simp
        refine (Beside_any _ 4 0 9 5 0 7).mono ?_
        rintro e w1 ⟨rfl, hb⟩
        rw [show besB 4 0 9 5 0 7 = true by decide]
        exact hK _ _ hb (fun _ => rfl)
      · intro act wa hC hd H O K hK
        clear hd
        obtain ⟨hB, hA, hBB, h5b, hsb, hrd⟩ := hC
        have h125 : act.tmps.getD 125 undef = .bool true := H 1 49 125 (by kernel_rfl) rfl
        have g125 := Array.getD_eq_getD_getElem?.symm.trans h125
        have h128 : act.tmps.getD 128 undef = .bool true := H 1 52 128 (by kernel_rfl) rfl
        have g128 := Array.getD_eq_getD_getElem?.symm.trans h128
        clear H O
        obtain ⟨a0, a1, a2, af⟩ := hA.three
        obtain ⟨b0, b1, b2, bf⟩ := hBB.three
        obtain ⟨x0, x1, x2, xf⟩ := h5b.three
        obtain ⟨s0, s1, s2, sf⟩ := hsb.three
        go_simp
        exact hK _ _ (Below.refl _ _) (fun _ => rfl)
      · intro act wa hC hd H O K hK
        clear hd
        obtain ⟨hB, hA, hBB, h5b, hsb, hrd⟩ := hC
        have h129 : act.tmps.getD 129 undef = .bool true := H 1 53 129 (by kernel_rfl) rfl
        have g129 := Array.getD_eq_getD_getElem?.symm.trans h129
        clear H O
        obtain ⟨a0, a1, a2, af⟩ := hA.three
        obtain ⟨b0, b1, b2, bf⟩ := hBB.three
        obtain ⟨x0, x1, x2, xf⟩ := h5b.three
        obtain ⟨s0, s1, s2, sf⟩ := hsb.three
        go_simp
        exact hK _ _ (Below.refl _ _) (fun _ => rfl)
      · intro act wa hC hd H O K hK
        clear hd
        obtain ⟨hB, hA, hBB, h5b, hsb, hrd⟩ := hC
        have h1 := O 1 (by kernel_rfl)
        have g1 := Array.getD_eq_getD_getElem?.symm.trans h1
        have h130 : act.tmps.getD 130 undef = .bool true := H 1 54 130 (by kernel_rfl) rfl
        have g130 := Array.getD_eq_getD_getElem?.symm.trans h130
        have k130 := Inv.some_bool g130
        clear H O
        obtain ⟨a0, a1, a2, af⟩ := hA.three
        obtain ⟨b0, b1, b2, bf⟩ := hBB.three
        obtain ⟨x0, x1, x2, xf⟩ := h5b.three
        obtain ⟨s0, s1, s2, sf⟩ := hsb.three
        go_simp
        exact hK _ _ (Below.refl _ _) (fun _ => rfl)
      · intro act wa hC hd H O K hK
        clear hd
        obtain ⟨hB, hA, hBB, h5b, hsb, hrd⟩ := hC
        have h2 := O 2 (by kernel_rfl)
        have g2 := Array.getD_eq_getD_getElem?.symm.trans h2
        have h130 : act.tmps.getD 130 undef = .bool true := H 1 54 130 (by kernel_rfl) rfl
        have g130 := Array.getD_eq_getD_getElem?.symm.trans h130
        have k130 := Inv.some_bool g130
        clear H O
        obtain ⟨a0, a1, a2, af⟩ := hA.three
        obtain ⟨b0, b1, b2, bf⟩ := hBB.three
        obtain ⟨x0, x1, x2, xf⟩ := h5b.three
        obtain ⟨s0, s1, s2, sf⟩ := hsb.three
        go_simp
        exact hK _ _ (Below.refl _ _) (fun _ => rfl)
      · intro act wa hC hd H O K hK
        clear hd
        obtain ⟨hB, hA, hBB, h5b, hsb, hrd⟩ := hC
        have h131 : act.tmps.getD 131 undef = .agg #[.int .i64 4, .int .i64 0, .int .i64 9] := H 1 55 131 (by kernel_rfl) rfl
        have g131 := Array.getD_eq_getD_getElem?.symm.trans h131
        have h132 : act.tmps.getD 132 undef = .agg #[.int .i64 5, .int .i64 0, .int .i64 7] := H 1 56 132 (by kernel_rfl) rfl
        have g132 := Array.getD_eq_getD_getElem?.symm.trans h132
        have h130 : act.tmps.getD 130 undef = .bool true := H 1 54 130 (by kernel_rfl) rfl
        have g130 := Array.getD_eq_getD_getElem?.symm.trans h130
        have k130 := Inv.some_bool g130
        clear H O
        obtain ⟨a0, a1, a2, af⟩ := hA.three
        obtain ⟨b0, b1, b2, bf⟩ := hBB.three
        obtain ⟨x0, x1, x2, xf⟩ := h5b.three
        obtain ⟨s0, s1, s2, sf⟩ := hsb.three
        go_simp
        exact hK _ _ ((Below.refl _ _).alloc (Nat.le_refl _) _) (fun _ => ⟨wa.heap.size, rfl, by simp, Rd.new wa _ _⟩)
      · intro act wa hC hd H O K hK
        clear hd
        obtain ⟨hB, hA, hBB, h5b, hsb, hrd⟩ := hC
        have h133 : ∃ g, act.tmps.getD 133 undef = .slice (some ⟨g, 0, none⟩) 2 2 ∧ g < wa.heap.size ∧ Rd wa (g + 1) (some ⟨g, 0, none⟩) (cells3 [(4, 0, 9), (5, 0, 7)]) := H 1 57 133 (by kernel_rfl) rfl
        obtain ⟨g, hv, hg, hr⟩ := h133
        have h130 : act.tmps.getD 130 undef = .bool true := H 1 54 130 (by kernel_rfl) rfl
        have g130 := Array.getD_eq_getD_getElem?.symm.trans h130
        have k130 := Inv.some_bool g130
        clear H O
        obtain ⟨a0, a1, a2, af⟩ := hA.three
        obtain ⟨b0, b1, b2, bf⟩ := hBB.three
        obtain ⟨x0, x1, x2, xf⟩ := h5b.three
        obtain ⟨s0, s1, s2, sf⟩ := hsb.three
        go_simp
        refine (MergeC wa g hr hg).mono ?_
        rintro e w1 ⟨rfl, hb⟩
        exact hK _ _ hb (fun _ => rfl)
      · intro act wa hC hd H O K hK
        clear hd
        obtain ⟨hB, hA, hBB, h5b, hsb, hrd⟩ := hC
        have h130 : act.tmps.getD 130 undef = .bool true := H 1 54 130 (by kernel_rfl) rfl
        have g130 := Array.getD_eq_getD_getElem?.symm.trans h130
        have k130 := Inv.some_bool g130
        clear H O
        obtain ⟨a0, a1, a2, af⟩ := hA.three
        obtain ⟨b0, b1, b2, bf⟩ := hBB.three
        obtain ⟨x0, x1, x2, xf⟩ := h5b.three
        obtain ⟨s0, s1, s2, sf⟩ := hsb.three
        go_simp
        exact hK _ _ (Below.refl _ _) (fun _ => rfl)
      · intro act wa hC hd H O K hK
        clear hd
        obtain ⟨hB, hA, hBB, h5b, hsb, hrd⟩ := hC
        have h134 : act.tmps.getD 134 undef = .agg #[.int .i64 5, .int .i64 0, .int .i64 9] := H 1 58 134 (by kernel_rfl) rfl
        have g134 := Array.getD_eq_getD_getElem?.symm.trans h134
        have h135 : act.tmps.getD 135 undef = .agg #[.int .i64 5, .int .i64 0, .int .i64 9] := H 1 59 135 (by kernel_rfl) rfl
        have g135 := Array.getD_eq_getD_getElem?.symm.trans h135
        have h130 : act.tmps.getD 130 undef = .bool true := H 1 54 130 (by kernel_rfl) rfl
        have g130 := Array.getD_eq_getD_getElem?.symm.trans h130
        have k130 := Inv.some_bool g130
        clear H O
        obtain ⟨a0, a1, a2, af⟩ := hA.three
        obtain ⟨b0, b1, b2, bf⟩ := hBB.three
        obtain ⟨x0, x1, x2, xf⟩ := h5b.three
        obtain ⟨s0, s1, s2, sf⟩ := hsb.three
        have q := eqc_in 5 0 9 5 0 9 wa
        rw [show eqcB 5 0 9 5 0 9 = true by decide] at q
        go_simp
        exact hK _ _ (Below.refl _ _) (fun _ => rfl)
      · intro act wa hC hd H O K hK
        clear hd
        obtain ⟨hB, hA, hBB, h5b, hsb, hrd⟩ := hC
        have h130 : act.tmps.getD 130 undef = .bool true := H 1 54 130 (by kernel_rfl) rfl
        have g130 := Array.getD_eq_getD_getElem?.symm.trans h130
        have h136 : act.tmps.getD 136 undef = .bool true := H 1 60 136 (by kernel_rfl) rfl
        have g136 := Array.getD_eq_getD_getElem?.symm.trans h136
        clear H O
        obtain ⟨a0, a1, a2, af⟩ := hA.three
        obtain ⟨b0, b1, b2, bf⟩ := hBB.three
        obtain ⟨x0, x1, x2, xf⟩ := h5b.three
        obtain ⟨s0, s1, s2, sf⟩ := hsb.three
        go_simp
        exact hK _ _ (Below.refl _ _) (fun _ => rfl)
      · intro act wa hC hd H O K hK
        clear hd
        obtain ⟨hB, hA, hBB, h5b, hsb, hrd⟩ := hC
        have h137 : act.tmps.getD 137 undef = .bool true := H 1 61 137 (by kernel_rfl) rfl
        have g137 := Array.getD_eq_getD_getElem?.symm.trans h137
        clear H O
        obtain ⟨a0, a1, a2, af⟩ := hA.three
        obtain ⟨b0, b1, b2, bf⟩ := hBB.three
        obtain ⟨x0, x1, x2, xf⟩ := h5b.three
        obtain ⟨s0, s1, s2, sf⟩ := hsb.three
        go_simp
        exact hK _ _ (Below.refl _ _) (fun _ => rfl)
      · intro act wa hC hd H O K hK
        clear hd
        obtain ⟨hB, hA, hBB, h5b, hsb, hrd⟩ := hC
        have h1 := O 1 (by kernel_rfl)
        have g1 := Array.getD_eq_getD_getElem?.symm.trans h1
        have h138 : act.tmps.getD 138 undef = .bool true := H 1 62 138 (by kernel_rfl) rfl
        have g138 := Array.getD_eq_getD_getElem?.symm.trans h138
        have k138 := Inv.some_bool g138
        clear H O
        obtain ⟨a0, a1, a2, af⟩ := hA.three
        obtain ⟨b0, b1, b2, bf⟩ := hBB.three
        obtain ⟨x0, x1, x2, xf⟩ := h5b.three
        obtain ⟨s0, s1, s2, sf⟩ := hsb.three
        go_simp
        exact hK _ _ (Below.refl _ _) (fun _ => rfl)
      · intro act wa hC hd H O K hK
        clear hd
        obtain ⟨hB, hA, hBB, h5b, hsb, hrd⟩ := hC
        have h2 := O 2 (by kernel_rfl)
        have g2 := Array.getD_eq_getD_getElem?.symm.trans h2
        have h138 : act.tmps.getD 138 undef = .bool true := H 1 62 138 (by kernel_rfl) rfl
        have g138 := Array.getD_eq_getD_getElem?.symm.trans h138
        have k138 := Inv.some_bool g138
        clear H O
        obtain ⟨a0, a1, a2, af⟩ := hA.three
        obtain ⟨b0, b1, b2, bf⟩ := hBB.three
        obtain ⟨x0, x1, x2, xf⟩ := h5b.three
        obtain ⟨s0, s1, s2, sf⟩ := hsb.three
        go_simp
        exact hK _ _ (Below.refl _ _) (fun _ => rfl)
      · intro act wa hC hd H O K hK
        clear hd
        obtain ⟨hB, hA, hBB, h5b, hsb, hrd⟩ := hC
        have h139 : act.tmps.getD 139 undef = .agg #[.int .i64 4, .int .i64 0, .int .i64 9] := H 1 63 139 (by kernel_rfl) rfl
        have g139 := Array.getD_eq_getD_getElem?.symm.trans h139
        have h140 : act.tmps.getD 140 undef = .agg #[.int .i64 5, .int .i64 0, .int .i64 7] := H 1 64 140 (by kernel_rfl) rfl
        have g140 := Array.getD_eq_getD_getElem?.symm.trans h140
        have h138 : act.tmps.getD 138 undef = .bool true := H 1 62 138 (by kernel_rfl) rfl
        have g138 := Array.getD_eq_getD_getElem?.symm.trans h138
        have k138 := Inv.some_bool g138
        clear H O
        obtain ⟨a0, a1, a2, af⟩ := hA.three
        obtain ⟨b0, b1, b2, bf⟩ := hBB.three
        obtain ⟨x0, x1, x2, xf⟩ := h5b.three
        obtain ⟨s0, s1, s2, sf⟩ := hsb.three
        go_simp
        exact hK _ _ ((Below.refl _ _).alloc (Nat.le_refl _) _) (fun _ => ⟨wa.heap.size, rfl, by simp, Rd.new wa _ _⟩)
      · intro act wa hC hd H O K hK
        clear hd
        obtain ⟨hB, hA, hBB, h5b, hsb, hrd⟩ := hC
        have h141 : ∃ g, act.tmps.getD 141 undef = .slice (some ⟨g, 0, none⟩) 2 2 ∧ g < wa.heap.size ∧ Rd wa (g + 1) (some ⟨g, 0, none⟩) (cells3 [(4, 0, 9), (5, 0, 7)]) := H 1 65 141 (by kernel_rfl) rfl
        obtain ⟨g, hv, hg, hr⟩ := h141
        have h138 : act.tmps.getD 138 undef = .bool true := H 1 62 138 (by kernel_rfl) rfl
        have g138 := Array.getD_eq_getD_getElem?.symm.trans h138
        have k138 := Inv.some_bool g138
        clear H O
        obtain ⟨a0, a1, a2, af⟩ := hA.three
        obtain ⟨b0, b1, b2, bf⟩ := hBB.three
        obtain ⟨x0, x1, x2, xf⟩ := h5b.three
        obtain ⟨s0, s1, s2, sf⟩ := hsb.three
        go_simp
        refine (MergeC wa g hr hg).mono ?_
        rintro e w1 ⟨rfl, hb⟩
        exact hK _ _ hb (fun _ => rfl)
      · intro act wa hC hd H O K hK
        clear hd
        obtain ⟨hB, hA, hBB, h5b, hsb, hrd⟩ := hC
        have h1 := O 1 (by kernel_rfl)
        have g1 := Array.getD_eq_getD_getElem?.symm.trans h1
        have h138 : act.tmps.getD 138 undef = .bool true := H 1 62 138 (by kernel_rfl) rfl
        have g138 := Array.getD_eq_getD_getElem?.symm.trans h138
        have k138 := Inv.some_bool g138
        clear H O
        obtain ⟨a0, a1, a2, af⟩ := hA.three
        obtain ⟨b0, b1, b2, bf⟩ := hBB.three
        obtain ⟨x0, x1, x2, xf⟩ := h5b.three
        obtain ⟨s0, s1, s2, sf⟩ := hsb.three
        go_simp
        exact hK _ _ (Below.refl _ _) (fun _ => rfl)
      · intro act wa hC hd H O K hK
        clear hd
        obtain ⟨hB, hA, hBB, h5b, hsb, hrd⟩ := hC
        have h142 : act.tmps.getD 142 undef = .agg #[.int .i64 5, .int .i64 0, .int .i64 9] := H 1 66 142 (by kernel_rfl) rfl
        have g142 := Array.getD_eq_getD_getElem?.symm.trans h142
        have h143 : act.tmps.getD 143 undef = .agg #[.int .i64 4, .int .i64 0, .int .i64 9] := H 1 67 143 (by kernel_rfl) rfl
        have g143 := Array.getD_eq_getD_getElem?.symm.trans h143
        have h138 : act.tmps.getD 138 undef = .bool true := H 1 62 138 (by kernel_rfl) rfl
        have g138 := Array.getD_eq_getD_getElem?.symm.trans h138
        have k138 := Inv.some_bool g138
        clear H O
        obtain ⟨a0, a1, a2, af⟩ := hA.three
        obtain ⟨b0, b1, b2, bf⟩ := hBB.three
        obtain ⟨x0, x1, x2, xf⟩ := h5b.three
        obtain ⟨s0, s1, s2, sf⟩ := hsb.three
        go_simp
        refine (Covers_any _ 5 0 9 4 0 9).mono ?_
        rintro e w1 ⟨rfl, hb⟩
        rw [show covB 5 0 9 4 0 9 = true by decide]
        exact hK _ _ hb (fun _ => rfl)
      · intro act wa hC hd H O K hK
        clear hd
        obtain ⟨hB, hA, hBB, h5b, hsb, hrd⟩ := hC
        have h138 : act.tmps.getD 138 undef = .bool true := H 1 62 138 (by kernel_rfl) rfl
        have g138 := Array.getD_eq_getD_getElem?.symm.trans h138
        have h144 : act.tmps.getD 144 undef = .bool true := H 1 68 144 (by kernel_rfl) rfl
        have g144 := Array.getD_eq_getD_getElem?.symm.trans h144
        clear H O
        obtain ⟨a0, a1, a2, af⟩ := hA.three
        obtain ⟨b0, b1, b2, bf⟩ := hBB.three
        obtain ⟨x0, x1, x2, xf⟩ := h5b.three
        obtain ⟨s0, s1, s2, sf⟩ := hsb.three
        go_simp
        exact hK _ _ (Below.refl _ _) (fun _ => rfl)
      · intro act wa hC hd H O K hK
        clear hd
        obtain ⟨hB, hA, hBB, h5b, hsb, hrd⟩ := hC
        have h145 : act.tmps.getD 145 undef = .bool true := H 1 69 145 (by kernel_rfl) rfl
        have g145 := Array.getD_eq_getD_getElem?.symm.trans h145
        clear H O
        obtain ⟨a0, a1, a2, af⟩ := hA.three
        obtain ⟨b0, b1, b2, bf⟩ := hBB.three
        obtain ⟨x0, x1, x2, xf⟩ := h5b.three
        obtain ⟨s0, s1, s2, sf⟩ := hsb.three
        go_simp
        exact hK _ _ (Below.refl _ _) (fun _ => rfl)
      · intro act wa hC hd H O K hK
        clear hd
        obtain ⟨hB, hA, hBB, h5b, hsb, hrd⟩ := hC
        have h1 := O 1 (by kernel_rfl)
        have g1 := Array.getD_eq_getD_getElem?.symm.trans h1
        have h146 : act.tmps.getD 146 undef = .bool true := H 1 70 146 (by kernel_rfl) rfl
        have g146 := Array.getD_eq_getD_getElem?.symm.trans h146
        have k146 := Inv.some_bool g146
        clear H O
        obtain ⟨a0, a1, a2, af⟩ := hA.three
        obtain ⟨b0, b1, b2, bf⟩ := hBB.three
        obtain ⟨x0, x1, x2, xf⟩ := h5b.three
        obtain ⟨s0, s1, s2, sf⟩ := hsb.three
        go_simp
        exact hK _ _ (Below.refl _ _) (fun _ => rfl)
      · intro act wa hC hd H O K hK
        clear hd
        obtain ⟨hB, hA, hBB, h5b, hsb, hrd⟩ := hC
        have h2 := O 2 (by kernel_rfl)
        have g2 := Array.getD_eq_getD_getElem?.symm.trans h2
        have h146 : act.tmps.getD 146 undef = .bool true := H 1 70 146 (by kernel_rfl) rfl
        have g146 := Array.getD_eq_getD_getElem?.symm.trans h146
        have k146 := Inv.some_bool g146
        clear H O
        obtain ⟨a0, a1, a2, af⟩ := hA.three
        obtain ⟨b0, b1, b2, bf⟩ := hBB.three
        obtain ⟨x0, x1, x2, xf⟩ := h5b.three
        obtain ⟨s0, s1, s2, sf⟩ := hsb.three
        go_simp
        exact hK _ _ (Below.refl _ _) (fun _ => rfl)
      · intro act wa hC hd H O K hK
        clear hd
        obtain ⟨hB, hA, hBB, h5b, hsb, hrd⟩ := hC
        have h147 : act.tmps.getD 147 undef = .agg #[.int .i64 4, .int .i64 0, .int .i64 9] := H 1 71 147 (by kernel_rfl) rfl
        have g147 := Array.getD_eq_getD_getElem?.symm.trans h147
        have h148 : act.tmps.getD 148 undef = .agg #[.int .i64 5, .int .i64 0, .int .i64 7] := H 1 72 148 (by kernel_rfl) rfl
        have g148 := Array.getD_eq_getD_getElem?.symm.trans h148
        have h146 : act.tmps.getD 146 undef = .bool true := H 1 70 146 (by kernel_rfl) rfl
        have g146 := Array.getD_eq_getD_getElem?.symm.trans h146
        have k146 := Inv.some_bool g146
        clear H O
        obtain ⟨a0, a1, a2, af⟩ := hA.three
        obtain ⟨b0, b1, b2, bf⟩ := hBB.three
        obtain ⟨x0, x1, x2, xf⟩ := h5b.three
        obtain ⟨s0, s1, s2, sf⟩ := hsb.three
        go_simp
        refine (Covers_any _ 4 0 9 5 0 7).mono ?_
        rintro e w1 ⟨rfl, hb⟩
        rw [show covB 4 0 9 5 0 7 = false by decide]
        exact hK _ _ hb (fun _ => rfl)
      · intro act wa hC hd H O K hK
        clear hd
        obtain ⟨hB, hA, hBB, h5b, hsb, hrd⟩ := hC
        have h149 : act.tmps.getD 149 undef = .bool false := H 1 73 149 (by kernel_rfl) rfl
        have g149 := Array.getD_eq_getD_getElem?.symm.trans h149
        have h146 : act.tmps.getD 146 undef = .bool true := H 1 70 146 (by kernel_rfl) rfl
        have g146 := Array.getD_eq_getD_getElem?.symm.trans h146
        have k146 := Inv.some_bool g146
        clear H O
        obtain ⟨a0, a1, a2, af⟩ := hA.three
        obtain ⟨b0, b1, b2, bf⟩ := hBB.three
        obtain ⟨x0, x1, x2, xf⟩ := h5b.three
        obtain ⟨s0, s1, s2, sf⟩ := hsb.three
        go_simp
        exact hK _ _ (Below.refl _ _) (fun _ => rfl)
      · intro act wa hC hd H O K hK
        clear hd
        obtain ⟨hB, hA, hBB, h5b, hsb, hrd⟩ := hC
        have h146 : act.tmps.getD 146 undef = .bool true := H 1 70 146 (by kernel_rfl) rfl
        have g146 := Array.getD_eq_getD_getElem?.symm.trans h146
        have h150 : act.tmps.getD 150 undef = .bool true := H 1 74 150 (by kernel_rfl) rfl
        have g150 := Array.getD_eq_getD_getElem?.symm.trans h150
        clear H O
        obtain ⟨a0, a1, a2, af⟩ := hA.three
        obtain ⟨b0, b1, b2, bf⟩ := hBB.three
        obtain ⟨x0, x1, x2, xf⟩ := h5b.three
        obtain ⟨s0, s1, s2, sf⟩ := hsb.three
        go_simp
        exact hK _ _ (Below.refl _ _) (fun _ => rfl)
      · intro act wa hC hd H O K hK
        clear hd
        obtain ⟨hB, hA, hBB, h5b, hsb, hrd⟩ := hC
        have h151 : act.tmps.getD 151 undef = .bool true := H 1 75 151 (by kernel_rfl) rfl
        have g151 := Array.getD_eq_getD_getElem?.symm.trans h151
        clear H O
        obtain ⟨a0, a1, a2, af⟩ := hA.three
        obtain ⟨b0, b1, b2, bf⟩ := hBB.three
        obtain ⟨x0, x1, x2, xf⟩ := h5b.three
        obtain ⟨s0, s1, s2, sf⟩ := hsb.three
        go_simp
        exact hK _ _ (Below.refl _ _) (fun _ => rfl)
      · intro act wa hC hd H O K hK
        clear hd
        obtain ⟨hB, hA, hBB, h5b, hsb, hrd⟩ := hC
        have h2 := O 2 (by kernel_rfl)
        have g2 := Array.getD_eq_getD_getElem?.symm.trans h2
        have h152 : act.tmps.getD 152 undef = .bool true := H 1 76 152 (by kernel_rfl) rfl
        have g152 := Array.getD_eq_getD_getElem?.symm.trans h152
        have k152 := Inv.some_bool g152
        clear H O
        obtain ⟨a0, a1, a2, af⟩ := hA.three
        obtain ⟨b0, b1, b2, bf⟩ := hBB.three
        obtain ⟨x0, x1, x2, xf⟩ := h5b.three
        obtain ⟨s0, s1, s2, sf⟩ := hsb.three
        go_simp
        exact hK _ _ (Below.refl _ _) (fun _ => rfl)
      · intro act wa hC hd H O K hK
        clear hd
        obtain ⟨hB, hA, hBB, h5b, hsb, hrd⟩ := hC
        have h153 : act.tmps.getD 153 undef = .agg #[.int .i64 5, .int .i64 0, .int .i64 7] := H 1 77 153 (by kernel_rfl) rfl
        have g153 := Array.getD_eq_getD_getElem?.symm.trans h153
        have h152 : act.tmps.getD 152 undef = .bool true := H 1 76 152 (by kernel_rfl) rfl
        have g152 := Array.getD_eq_getD_getElem?.symm.trans h152
        have k152 := Inv.some_bool g152
        clear H O
        obtain ⟨a0, a1, a2, af⟩ := hA.three
        obtain ⟨b0, b1, b2, bf⟩ := hBB.three
        obtain ⟨x0, x1, x2, xf⟩ := h5b.three
        obtain ⟨s0, s1, s2, sf⟩ := hsb.three
        go_simp
        refine (Right_any _ 5 0 7).mono ?_
        rintro e w1 ⟨rfl, hb⟩
        rw [show rightB 5 0 7 = true by decide]
        exact hK _ _ hb (fun _ => rfl)
      · intro act wa hC hd H O K hK
        clear hd
        obtain ⟨hB, hA, hBB, h5b, hsb, hrd⟩ := hC
        have h152 : act.tmps.getD 152 undef = .bool true := H 1 76 152 (by kernel_rfl) rfl
        have g152 := Array.getD_eq_getD_getElem?.symm.trans h152
        have h154 : act.tmps.getD 154 undef = .bool true := H 1 78 154 (by kernel_rfl) rfl
        have g154 := Array.getD_eq_getD_getElem?.symm.trans h154
        clear H O
        obtain ⟨a0, a1, a2, af⟩ := hA.three
        obtain ⟨b0, b1, b2, bf⟩ := hBB.three
        obtain ⟨x0, x1, x2, xf⟩ := h5b.three
        obtain ⟨s0, s1, s2, sf⟩ := hsb.three
        go_simp
        exact hK _ _ (Below.refl _ _) (fun _ => rfl)
      · intro act wa hC hd H O K hK
        clear hd
        obtain ⟨hB, hA, hBB, h5b, hsb, hrd⟩ := hC
        have h155 : act.tmps.getD 155 undef = .bool true := H 1 79 155 (by kernel_rfl) rfl
        have g155 := Array.getD_eq_getD_getElem?.symm.trans h155
        clear H O
        obtain ⟨a0, a1, a2, af⟩ := hA.three
        obtain ⟨b0, b1, b2, bf⟩ := hBB.three
        obtain ⟨x0, x1, x2, xf⟩ := h5b.three
        obtain ⟨s0, s1, s2, sf⟩ := hsb.three
        go_simp
        exact hK _ _ (Below.refl _ _) (fun _ => rfl)
      · intro act wa hC hd H O K hK
        clear hd
        obtain ⟨hB, hA, hBB, h5b, hsb, hrd⟩ := hC
        have h156 : act.tmps.getD 156 undef = .bool true := H 1 80 156 (by kernel_rfl) rfl
        have g156 := Array.getD_eq_getD_getElem?.symm.trans h156
        have k156 := Inv.some_bool g156
        clear H O
        obtain ⟨a0, a1, a2, af⟩ := hA.three
        obtain ⟨b0, b1, b2, bf⟩ := hBB.three
        obtain ⟨x0, x1, x2, xf⟩ := h5b.three
        obtain ⟨s0, s1, s2, sf⟩ := hsb.three
        go_simp
        exact hK _ _ (Below.refl _ _) (fun _ => rfl)
      · intro act wa hC hd H O K hK
        clear hd
        obtain ⟨hB, hA, hBB, h5b, hsb, hrd⟩ := hC
        have h157 : act.tmps.getD 157 undef = .agg #[.int .i64 4611686018427387904, .int .i64 0, .int .i64 0] := H 1 81 157 (by kernel_rfl) rfl
        have g157 := Array.getD_eq_getD_getElem?.symm.trans h157
        have h156 : act.tmps.getD 156 undef = .bool true := H 1 80 156 (by kernel_rfl) rfl
        have g156 := Array.getD_eq_getD_getElem?.symm.trans h156
        have k156 := Inv.some_bool g156
        clear H O
        obtain ⟨a0, a1, a2, af⟩ := hA.three
        obtain ⟨b0, b1, b2, bf⟩ := hBB.three
        obtain ⟨x0, x1, x2, xf⟩ := h5b.three
        obtain ⟨s0, s1, s2, sf⟩ := hsb.three
        go_simp
        refine (Right_any _ 4611686018427387904 0 0).mono ?_
        rintro e w1 ⟨rfl, hb⟩
        rw [show rightB 4611686018427387904 0 0 = false by decide]
        exact hK _ _ hb (fun _ => rfl)
      · intro act wa hC hd H O K hK
        clear hd
        obtain ⟨hB, hA, hBB, h5b, hsb, hrd⟩ := hC
        have h158 : act.tmps.getD 158 undef = .bool false := H 1 82 158 (by kernel_rfl) rfl
        have g158 := Array.getD_eq_getD_getElem?.symm.trans h158
        have h156 : act.tmps.getD 156 undef = .bool true := H 1 80 156 (by kernel_rfl) rfl
        have g156 := Array.getD_eq_getD_getElem?.symm.trans h156
        have k156 := Inv.some_bool g156
        clear H O
        obtain ⟨a0, a1, a2, af⟩ := hA.three
        obtain ⟨b0, b1, b2, bf⟩ := hBB.three
        obtain ⟨x0, x1, x2, xf⟩ := h5b.three
        obtain ⟨s0, s1, s2, sf⟩ := hsb.three
        go_simp
        exact hK _ _ (Below.refl _ _) (fun _ => rfl)
      · intro act wa hC hd H O K hK
        clear hd
        obtain ⟨hB, hA, hBB, h5b, hsb, hrd⟩ := hC
        have h156 : act.tmps.getD 156 undef = .bool true := H 1 80 156 (by kernel_rfl) rfl
        have g156 := Array.getD_eq_getD_getElem?.symm.trans h156
        have h159 : act.tmps.getD 159 undef = .bool true := H 1 83 159 (by kernel_rfl) rfl
        have g159 := Array.getD_eq_getD_getElem?.symm.trans h159
        clear H O
        obtain ⟨a0, a1, a2, af⟩ := hA.three
        obtain ⟨b0, b1, b2, bf⟩ := hBB.three
        obtain ⟨x0, x1, x2, xf⟩ := h5b.three
        obtain ⟨s0, s1, s2, sf⟩ := hsb.three
        go_simp
        exact hK _ _ (Below.refl _ _) (fun _ => rfl)
      · intro act wa hC hd H O K hK
        clear hd
        obtain ⟨hB, hA, hBB, h5b, hsb, hrd⟩ := hC
        have h160 : act.tmps.getD 160 undef = .bool true := H 1 84 160 (by kernel_rfl) rfl
        have g160 := Array.getD_eq_getD_getElem?.symm.trans h160
        clear H O
        obtain ⟨a0, a1, a2, af⟩ := hA.three
        obtain ⟨b0, b1, b2, bf⟩ := hBB.three
        obtain ⟨x0, x1, x2, xf⟩ := h5b.three
        obtain ⟨s0, s1, s2, sf⟩ := hsb.three
        go_simp
        exact hK _ _ (Below.refl _ _) (fun _ => rfl)
    · intro us w' hC hF
      obtain ⟨hB, hA, hBB, h5b, hsb, hrd⟩ := hC
      have u0 : us 0 = .bool true := hF 85 0 rfl
      clear hF
      simp only [List.foldl]
      go_simp
      go_wp2
      go_ret
      exact ⟨by first | rfl | rw [u0], HW6.out.trans (hB.mono HW6.out.size)⟩
end Go.Proofs.Ytignfhdblakcfaa

/- kv: putText, Text, takeText. -/
import Derived.Test.YtahichieakdbnaaKy
import Derived.Test.YtahichieakdbnaaAt
import Derived.Test.YtahichieakdbnaaSl3
import Derived.Test.YtahichieakdbnaaSas
import Derived.Deep.AppendLies
namespace Go.Proofs.Ytahichieakdbnaa
open Go.ChangeShapes Go.WideShapes Go.ChangeAt Go.RowKit Go.Maps
set_option linter.unusedVariables false
set_option linter.unusedSimpArgs false

theorem sizeOfU8K : ∀ w, (sizeOf 5).run Try.prog w = .ok 1 w := fun w => by kernel_rfl
theorem wpList_app_str {P : Program} {ops : Array Oper} {rest : List Oper} {o : Oper} {a : Act} {w : World} {Q : Exit → Act → World → Prop}
    (hg : o.guard = none) (sl x : Operand) (t u : TypeId) (hop : o.op = Op.call { callee := Callee.builtin Builtin.append, args := #[sl, x], argTypes := #[t, u] })
    (base : Nat) (e : TypeId) (i : TypeInfo) (ht : P.underlying t = some (.slice e)) (hu : P.underlying u = some .string) (hi : P.info? e = some i) (hz : i.zero = some (.int .u8 0)) (hsize : i.size = 1) (hby : i.bytes = 1)
    (v : Value) (n : Nat) (xs : List Value) (hs : a.eval sl = v) (hown : w.ownsRow base e 1 v n xs) (s : ByteArray) (hx : a.eval x = .string s)
    (h63 : n + s.size ≤ maxLen) (hbytes : n + s.size ≤ 140737488355328) (hbase : base ≤ w.heap.size)
    (hK : ∀ v' w', w'.ownsRow base e 1 v' (n + s.size) (xs ++ Lib.strCells s) → w.grownBy w' v.ownBlock → wpList P ops Q rest (a.put o.dst v') w') : wpList P ops Q (o :: rest) a w := by
  refine wpList_plain hg fun _ hK' => ?_
  obtain ⟨v', w', hr, h2, h3, h4⟩ := Lib.run_append_own_string (P := P) w base t u o.type e i ht hu hi hz hsize hby v n xs hown s h63 hbytes hbase
  unfold Oper.wp
  simp only [execOp, hop, resolve, invoke, builtin, Sem.run_bind, Sem.run_pure, Result.andThen_ok, List.map_toArray, List.map_cons, List.map_nil, hs, hx, hr]
  exact hK' _ _ (hK _ _ h2 h3)
theorem addk0 (q k : Nat) : (⟨q, 0, none⟩ : Addr).add k = ⟨q, k, none⟩ := by
  rcases Nat.eq_zero_or_pos k with h | h
  · subst h; simp [Addr.add]
  · simp [Addr.add, Nat.ne_of_gt h]
theorem own_base0K {w : World} {base sz n : Nat} {e : TypeId} {v : Value} {xs : List Value} (h : w.ownsRow base e sz v n xs) : w.ownsRow 0 e sz v n xs := by
  refine ⟨h.1, ?_⟩
  rcases h.2 with h2 | ⟨g, cap, cur, hv, hb, r⟩
  · exact .inl h2
  · exact .inr ⟨g, cap, cur, hv, Nat.zero_le _, r⟩
/-- a text, with how many bytes it has ahead -/
def txtB (t : ByteArray) : List Nat := Vm.enc t.size ++ sb t
theorem txtB_ba (x : L8) : txtB (Km.ba x) = Km.txt1 x := by unfold txtB Km.txt1; rw [Km.sb_ba, Km.ba_size]
def PtxPost (base : Nat) (w : World) (m : Nat) (bs : List Nat) (t : ByteArray) (en : Ending) (w' : World) : Prop := ∃ v', en = .returned v' ∧ w'.ownsRow base 5 1 v' (m + (txtB t).length) (u8s (bs ++ txtB t)) ∧ Below base w w'
set_option maxHeartbeats 2000000 in
set_option maxRecDepth 100000 in
theorem putText_any (w : World) (base : Nat) (v : Value) (m : Nat) (bs : List Nat) (t : ByteArray) (ho : w.ownsRow base 5 1 v m (u8s bs)) (hB : base ≤ w.heap.size) (hm : m ≤ 1099511627776) (ht : t.size ≤ 1099511627776) :
    Calls Try.prog 82 #[v, .string t] w (PtxPost base w m bs t) := by
  obtain ⟨i0, hi, hz0, hz1, hz2⟩ := info_parts Try.infoB
  obtain ⟨es, hes⟩ : ∃ es, Vm.enc t.size = es := ⟨_, rfl⟩
  obtain ⟨ne, hne⟩ : ∃ ne, es.length = ne := ⟨_, rfl⟩
  have hne10 : ne ≤ 10 := by rw [← hne, ← hes]; exact Vm.enc_le _
  have HP := Lib.hid (Put_at w (t.size : Int) es ne (by omega) (by omega) (by rw [Int.toNat_natCast]; exact hes) hne)
  have HO := Lib.hid ho
  have HT : Hid (txtB t = es ++ sb t) := Lib.hid (by unfold txtB; rw [hes])
  have HNE := Lib.hid hne
  obtain ⟨A, c, rfl⟩ := own_sl ho
  have hcv : IntKind.u64.wrap (t.size : Int) = (t.size : Int) := by
    have : IntKind.u64.wrap (t.size : Int) = (t.size : Int) % 18446744073709551616 := rfl
    rw [this]; omega
  clear ho hes hne
  go_enter Try.func82, Try.ntmps82
  go_wp2_with fail
  refine HP.out.mono ?_
  rintro en w1 ⟨v1, rfl, hm1, hb1⟩
  obtain ⟨A1, c1, rfl, hr1, hl1, hc1, -, -, hn1⟩ := hm1
  have HB1 := Lib.hid (hb1.mono hB); have HO1 := Lib.hid (own_below HO.out hb1); have HR1 := Lib.hid hr1
  have hs1 : base ≤ w1.heap.size := Nat.le_trans hB hb1.size
  clear hb1 hr1
  go_wp2_with (at_builtin; go_must (first
    | (refine app_own rfl (.tmp 5) (.tmp 9) 32 rfl base 5 i0 (.int .u8 0) 1 Try.underlying32 hi hz0 hz1 hz2 rfl _ m (u8s bs) rfl HO1.out w1.heap.size A1 ne c1 (u8s es) rfl (by simp [HNE.out]) HR1.out hn1 (u8s_one _) (by unfold maxLen; omega) (by omega) hs1 ?_; intro v2 w2 ho2 hg2 hne2; obtain ⟨A2, c2, rfl⟩ := own_sl ho2; have HO2 := Lib.hid ho2; have HB2 := Lib.hid (below_own HO1.out hg2 (Nat.le_refl _) hs1); have hs2 : Hid (base ≤ w2.heap.size) := Lib.hid (Nat.le_trans hs1 hg2.size); clear ho2 hg2 hne2)
    | (refine wpList_app_str rfl (.tmp 11) (.tmp 12) 32 9 rfl base 5 i0 Try.underlying32 Try.underlying9 hi hz0 hz1 hz2 (.slice A2 (m + ne) c2) (m + ne) _ rfl HO2.out t rfl (by unfold maxLen; omega) (by omega) hs2.out ?_; intro v3 w3 ho3 hg3; obtain ⟨A3, c3, rfl⟩ := own_sl ho3; have HO3 := Lib.hid ho3; have HB3 := Lib.hid (below_own HO2.out hg3 (Nat.le_refl _) hs2.out); clear ho3 hg3)))
  have HQ := Lib.hid (show PtxPost base w m bs t (.returned (.slice A3 (m + ne + t.size) c3)) w3 from ⟨_, rfl, by
    have h := HO3.out
    rw [strCells_sb] at h
    have e1 : m + (txtB t).length = m + ne + t.size := by rw [HT.out, List.length_append, HNE.out, sb_length]; omega
    have e2 : u8s (bs ++ txtB t) = u8s bs ++ u8s es ++ u8s (sb t) := by rw [HT.out]; simp [u8s]
    rw [e1, e2]
    exact h, (HB1.out.trans HB2.out).trans HB3.out⟩)
  go_ret
  exact HQ.out
/-- a text of a store -/
def KTextPost (w : World) (st : St) (en : Ending) (w' : World) : Prop := ∃ v, en = .returned v ∧ Made w' v (Km.txt st) (Km.txt st).length ∧ Fre w (fun _ => False) v ∧ Below w.heap.size w w'
theorem txt_byte {st : St} (h : ∀ p ∈ st, p.1.length < 18446744073709551616 ∧ p.2.length < 18446744073709551616) : ∀ b ∈ Km.txt st, b < 256 := by
  intro b hb
  obtain ⟨p, hp, hb⟩ := List.mem_flatMap.1 hb
  obtain ⟨h1, h2⟩ := h p hp
  rcases List.mem_append.1 hb with hb | hb <;> (unfold Km.txt1 at hb; rcases List.mem_append.1 hb with hb | hb)
  · exact Vm.enc_byte h1 b hb
  · exact Km.bl_byte _ b hb
  · exact Vm.enc_byte h2 b hb
  · exact Km.bl_byte _ b hb
theorem txt_snoc (st : St) (p : L8 × L8) : Km.txt (st ++ [p]) = Km.txt st ++ (Km.txt1 p.1 ++ Km.txt1 p.2) := by simp [Km.txt]
theorem txt1_le (x : L8) : (Km.txt1 x).length ≤ x.length + 10 := by unfold Km.txt1; rw [List.length_append, Km.bl_length]; have := Vm.enc_le x.length; omega
theorem txt_le {M : Nat} : ∀ {st : St}, (∀ p ∈ st, p.1.length ≤ M ∧ p.2.length ≤ M) → (Km.txt st).length ≤ st.length * (2 * M + 20)
  | [], _ => by simp [Km.txt]
  | p :: r, h => by
    have h1 := h p List.mem_cons_self
    have h2 := txt_le (M := M) (st := r) (fun q hq => h q (List.mem_cons_of_mem _ hq))
    have e : Km.txt (p :: r) = Km.txt1 p.1 ++ Km.txt1 p.2 ++ Km.txt r := by simp [Km.txt]
    have h3 := txt1_le p.1
    have h4 := txt1_le p.2
    rw [e, List.length_append, List.length_append, List.length_cons, Nat.succ_mul]
    omega
set_option maxHeartbeats 3000000 in
set_option maxRecDepth 100000 in
theorem KText_any (w : World) (g : Nat) (S : Nat → Prop) (n M : Nat) (st : St) (h : StoreM w g S n st) (hn : n ≤ 1000000) (hstn : st.length ≤ 1000000) (hM : ∀ p ∈ st, p.1.length ≤ M ∧ p.2.length ≤ M) (hM2 : M ≤ 100000) :
    Calls Try.prog 47 #[.pointer (some ⟨g, 0, none⟩)] w (KTextPost w st) := by
  have H0 := Lib.hid h; have HM := Lib.hid hM
  have HK := Lib.hid (KKeys_any w g S n st h hn)
  clear h hM
  go_enter Try.func47, Try.ntmps47
  go_wp2_with fail
  refine HK.out.mono ?_
  rintro en w1 ⟨v1, rfl, hk1, hb1⟩
  have hcap : ∃ A1 c1, v1 = .slice A1 st.length c1 := own_sl hk1
  obtain ⟨A1, c1, rfl⟩ := hcap
  have H1 := Lib.hid (H0.out.below hb1); have B1 := Lib.hid hb1; have K1 := Lib.hid hk1
  obtain ⟨ns, hns⟩ : ∃ q, st.length = q := ⟨_, rfl⟩
  have HNS := Lib.hid hns
  rw [hns] at hk1 hstn ⊢
  clear hb1 hns
  go_wp2
  go_loopw [3, 9] (fun s3 s9 wr => ∃ j : Nat, s9 = .int .i64 (j : Int) ∧ j ≤ ns ∧ wr.ownsRow w1.heap.size 5 1 s3 (Km.txt (st.take j)).length (u8s (Km.txt (st.take j))) ∧ Below w1.heap.size w1 wr) (fun _ s9 _ => ns - (intOf s9).toNat)
  case atStart => exact ⟨0, rfl, Nat.zero_le _, World.ownsRow_nil _ _ _ _, Below.refl _ _⟩
  case round =>
    obtain ⟨j, rfl, hj, ho, hb⟩ := hrel
    have HB := Lib.hid hb
    by_cases hlt : j < ns
    · have hltI : (j : Int) < (ns : Int) := by omega
      have HLT := Lib.hid hlt
      have hlt' : j < st.length := by rw [HNS.out]; exact hlt
      obtain ⟨⟨key, val⟩, hp⟩ : ∃ p, st[j]? = some p := ⟨_, List.getElem?_eq_getElem hlt'⟩
      have hmem := List.mem_of_getElem? hp
      obtain ⟨hk1', hk2'⟩ := HM.out _ hmem
      simp only at hk1' hk2'
      have hget := Km.get_at H0.out.srt hmem
      simp only at hget
      obtain ⟨q, cq, hvq, -, hql⟩ := hk1.form (by omega)
      injection hvq with e1 e2 e3
      subst e1 e3
      have hcell := hk1.cells (g := q) rfl j (encStr key) (by rw [List.getElem?_map, List.getElem?_map, hp]; rfl)
      rw [addk0] at hcell
      have hcr := (hb.cell (p := ⟨q, j, none⟩) hql).trans hcell
      rw [Km.encStr_ba] at hcr
      have hqw : q < wr.heap.size := Nat.lt_of_lt_of_le hql hb.size
      obtain ⟨A3, c3, rfl⟩ := own_sl ho
      obtain ⟨m3, hm3⟩ : ∃ q, (Km.txt (st.take j)).length = q := ⟨_, rfl⟩
      obtain ⟨xs, hxs⟩ : ∃ q, Km.txt (st.take j) = q := ⟨_, rfl⟩
      have hml : m3 ≤ 200020000000 := by
        rw [← hm3]
        have h1 := txt_le (M := M) (st := st.take j) (fun p hp => HM.out p (List.mem_of_mem_take hp))
        have h2 : (st.take j).length ≤ 1000000 := by rw [List.length_take]; omega
        have h3 : (st.take j).length * (2 * M + 20) ≤ 1000000 * (2 * 100000 + 20) := Nat.mul_le_mul h2 (by omega)
        omega
      rw [hm3, hxs] at ho
      have HXS := Lib.hid hxs; have HM3 := Lib.hid hm3; have HPJ := Lib.hid hp
      obtain ⟨kb, hkb⟩ : ∃ kb, Km.ba key = kb := ⟨_, rfl⟩
      have hkbs : kb.size = key.length := by rw [← hkb, Km.ba_size]
      have HKB := Lib.hid hkb
      rw [hkb] at hcr
      have HPT := Lib.hid (putText_any wr w1.heap.size (.slice A3 m3 c3) m3 xs kb ho hb.size (by omega) (by omega))
      have HKS := Lib.hid hkbs
      rw [hm3]
      clear ho hb hp hcell hxs hm3 hkb hkbs
      go_wp2_with fail
      refine HPT.out.mono ?_
      rintro en w2 ⟨v2, rfl, ho2, hb2⟩
      obtain ⟨A4, c4, rfl⟩ := own_sl ho2
      have HB2 := Lib.hid (HB.out.trans hb2)
      obtain ⟨m, D, k1, k2, k3, k4⟩ := H1.out.below HB2.out
      have hlk := (look_kv k2 k3 kb (by have := HKS.out; unfold maxLen; omega)).2.1
      have hkd : kb.data.toList = key := by rw [← HKB.out, Km.data_ba]
      rw [hkd, hget] at hlk
      simp only [Option.getD_some] at hlk
      obtain ⟨vb, hvb⟩ : ∃ vb, Km.ba val = vb := ⟨_, rfl⟩
      rw [hvb] at hlk
      have hvs : vb.size = val.length := by rw [← hvb, Km.ba_size]
      have HVB := Lib.hid hvb; have HVS := Lib.hid hvs
      obtain ⟨m4, hm4⟩ : ∃ q, m3 + (txtB kb).length = q := ⟨_, rfl⟩
      have hm4l : m4 ≤ 1099511627776 := by
        rw [← hm4, ← HKB.out, txtB_ba]
        have := txt1_le key
        omega
      have c0 := k1.cell 0
      have cl := k1.lt
      simp at c0
      rw [hm4] at ho2 ⊢
      have HM4 := Lib.hid hm4
      have HPT2 := Lib.hid (putText_any w2 w1.heap.size (.slice A4 m4 c4) m4 (xs ++ txtB kb) vb ho2 HB2.out.size hm4l (by omega))
      clear ho2 hb2 k1 k2 k3 k4 hvb hvs hm4 HPT
      go_wp2_with fail
      refine HPT2.out.mono ?_
      rintro en w3 ⟨v3, rfl, ho3, hb3⟩
      obtain ⟨A5, c5, rfl⟩ := own_sl ho3
      have R := Lib.hid (show ∃ j' : Nat, (Value.int .i64 ((j : Int) + 1)) = .int .i64 (j' : Int) ∧ j' ≤ ns ∧ w3.ownsRow w1.heap.size 5 1 (.slice A5 (m4 + (txtB vb).length) c5) (Km.txt (st.take j')).length (u8s (Km.txt (st.take j'))) ∧ Below w1.heap.size w1 w3 from by
        have e1 : Km.txt (st.take (j + 1)) = xs ++ txtB kb ++ txtB vb := by
          rw [List.take_add_one, HPJ.out, Option.toList_some, txt_snoc, HXS.out, ← HKB.out, ← HVB.out, txtB_ba, txtB_ba, List.append_assoc]
        have e2 : (Km.txt (st.take (j + 1))).length = m4 + (txtB vb).length := by rw [e1, List.length_append, List.length_append, ← HM4.out, ← HM3.out, HXS.out]
        exact ⟨j + 1, by go_num, HLT.out, by rw [e2, e1]; exact ho3, HB2.out.trans hb3⟩)
      clear ho3 hb3 HPT2 hlk c0 cl hcr
      go_wp2
      go_roundw
      case rel => exact R.out
      case measure => simp [intOf]; have := HLT.out; omega
    · obtain rfl : j = ns := by omega
      have htk : st.take j = st := List.take_of_length_le (by rw [HNS.out]; exact Nat.le_refl _)
      rw [htk] at ho
      obtain ⟨A3, c3, rfl⟩ := own_sl ho
      have HP := Lib.hid (show KTextPost w st (.returned (.slice A3 (Km.txt st).length c3)) wr from ⟨_, rfl, made_of_own (own_base0K ho) rfl (txt_byte (fun p hp => by have := HM.out p hp; omega)), fun g o n c hv => ⟨by have := (ho.lt g (by rw [hv]; rfl)).1; have := B1.out.size; omega, fun h => h⟩, B1.out.trans (HB.out.mono B1.out.size)⟩)
      clear ho hb
      go_wp2
      go_ret
      exact HP.out
end Go.Proofs.Ytahichieakdbnaa

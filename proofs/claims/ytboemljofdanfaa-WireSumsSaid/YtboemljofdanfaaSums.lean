/- WireSums, for every input: it returns true, and its argument reads behind the call as it did: Check is CRC-32, and tells every change of one byte. No condition. -/
import Derived.Test.YtboemljofdanfaaTurns
import Derived.Test.YtboemljofdanfaaN9
namespace Go.Proofs.Ytboemljofdanfaa
open Go.ChangeShapes Go.WideShapes Go.ChangeAt Go.RowKit Go.Deep Go.Maps
set_option linter.unusedSimpArgs false
set_option linter.unusedVariables false

theorem crc_set {l : Sec} {i : Nat} {c x : UInt8} (hi : l[i]? = some c) (hx : x ≠ c) : crc (l.set i x) ≠ crc l := by
  obtain ⟨h7, h8⟩ := List.getElem?_eq_some_iff.1 hi
  have e5 : l = l.take i ++ c :: l.drop (i + 1) := by
    rw [← h8, List.getElem_cons_drop, List.take_append_drop]
  have e6 : l.set i x = l.take i ++ x :: l.drop (i + 1) := by
    rw [List.set_eq_take_append_cons_drop, if_pos h7]
  intro e
  rw [e6] at e
  exact hx (crc_change (l.take i) (l.drop (i + 1)) x c (by rw [e]; exact congrArg crc e5))
theorem Own.set {w : World} {base g n cap i : Nat} {l : Sec} (h : Own w base (.slice (some ⟨g, 0, none⟩) n cap) l) (x : UInt8) : Own (w.setCell ⟨g, i, none⟩ (.int .u8 x.toNat)) base (.slice (some ⟨g, 0, none⟩) n cap) (l.set i x) := by
  unfold Own at h ⊢
  refine ⟨by simp [bv], ?_⟩
  rcases h.2 with ⟨e, _⟩ | ⟨g', cap', cur, e, hb, hg, h1, h2, h3, h4⟩
  · cases e
  · injection e with e1 e2 e3
    cases e1
    subst e3
    refine .inr ⟨g, cap, _, by rw [e2, List.length_set], hb, heap_cell _ hg, by rw [List.length_set]; exact h1, h2, by simpa using h3, ?_⟩
    rw [Nat.mul_one, List.length_set] at *
    rw [Array.toList_setIfInBounds, List.take_set, h4]
    unfold bv
    rw [List.map_set]

set_option maxRecDepth 100000 in
set_option maxHeartbeats 1600000 in
theorem checks_any (va vb : Value) (at_ : Int) (d : UInt8) (a b : Sec) (w : World) (ha : Bytes w va a) (hal : a.length ≤ maxLen) (hb : Bytes w vb b) (hbl : b.length ≤ maxLen) (hat : (Lit.int .i64 at_).wf = true) :
    Calls Try.prog 28 #[va, vb, .int .i64 at_, .int .u8 d.toNat] w fun e w' => e = .returned (.bool true) ∧ Only [] w w' := by
  have HA := Lib.hid ha
  have HB := Lib.hid hb
  obtain ⟨aa, ac, rfl, -⟩ := id ha
  obtain ⟨ba, bc, rfl, -⟩ := id hb
  have hal' : a.length ≤ 9223372036854775807 := by unfold maxLen at hal; omega
  have hbl' : b.length ≤ 9223372036854775807 := by unfold maxLen at hbl; omega
  clear ha hb hal hbl hat
  go_enter Try.func28, Try.ntmps28
  go_wp2_with fail
  refine (alive_any _).mono ?_
  rintro e w1 ⟨rfl, o1⟩
  go_wp2_with fail
  have HP := parts_made2 (HA.out.kept o1 (clean_nil _)) (HB.out.kept o1 (clean_nil _)) rfl
  have HO2 := Lib.hid (o1.trans ((Only.refl [] w1).alloc (.cells #[.slice aa a.length ac, .slice ba b.length bc] 22)) (by simp))
  clear o1
  refine (large_any _ [a, b] _ HP (by simp) (by simp; omega)).mono ?_
  rintro e w2 ⟨rfl, rfl⟩
  clear HP
  generalize w1.alloc (.cells #[.slice aa a.length ac, .slice ba b.length bc] 22) = w2 at HO2 ⊢
  have ht : total [a, b] = a.length + b.length := by simp [total]
  rw [ht]
  clear ht
  by_cases hbig : 131072 < a.length + b.length
  · go_wp2
    go_ret
    exact ⟨rfl, HO2.out⟩
  · obtain ⟨l, hl⟩ : ∃ l : Sec, l = a ++ b := ⟨_, rfl⟩
    have hll : a.length + b.length = l.length := by rw [hl]; simp
    have HL := Lib.hid hl
    have HLL := Lib.hid hll
    clear hl hll
    go_wp2_with (first
      | (refine wpList_append_any rfl (.tmp 17) (.tmp 18) rfl w2.heap.size _ [] (by rfl) (Own.made w2 [] #[] rfl (Nat.le_refl _) (by simp)) _ a (by rfl) (HA.out.kept (HO2.out.trans ((Only.refl [] w2).alloc _) (by simp)) (clean_nil _)) a.length (by simp) a rfl (by omega) (by simp) ?_
         intro a3 c3 w3 hw3 e3
         have HW3 := Lib.hid hw3
         have ho3 := Ext.fresh ((Only.refl [] w2).alloc _) (Own.made w2 [] #[] rfl (Nat.le_refl _) (by simp)) (Nat.le_refl _) e3
         have hsz := ho3.size
         have HO3 := Lib.hid (HO2.out.trans ho3 (by simp))
         clear hw3 e3 ho3)
      | (refine wpList_append_any rfl (.tmp 19) (.tmp 20) rfl w2.heap.size _ a (by rfl) HW3.out _ b (by rfl) (HB.out.kept HO3.out (clean_nil _)) l.length HLL.out l HL.out.symm (by have := HLL.out; omega) hsz ?_
         intro a4 c4 w4 hw4 e4
         have HW4 := Lib.hid hw4
         have HO4 := Lib.hid (Ext.fresh HO3.out HW3.out HO2.out.size e4)
         clear hw4 e4 HW3 HO3 hsz))
    have hlen : l.length ≤ 131072 := by have := HLL.out; omega
    refine (RCheck_any _ l w4 HW4.out.bytes (by omega)).mono ?_
    rintro e w5 ⟨rfl, rfl⟩
    go_wp2_with fail
    have ef : ([a, b] : List Sec).flatten = l := by rw [HL.out]; simp
    have hc := Check_any _ [a, b] _ (parts_made2 (HA.out.kept HO4.out (clean_nil _)) (HB.out.kept HO4.out (clean_nil _)) rfl) (by simp) (by simp; omega)
    rw [ef] at hc
    refine hc.mono ?_
    rintro e w5 ⟨rfl, rfl⟩
    have q5 : Only [] w4 (w4.alloc (.cells #[.slice aa a.length ac, .slice ba b.length bc] 22)) := (Only.refl [] w4).alloc _
    have HW5 := Lib.hid (HW4.out.quiet q5)
    have HO5 := Lib.hid (HO4.out.trans q5 (by simp))
    clear hc ef q5 HW4 HO4
    generalize w4.alloc (.cells #[.slice aa a.length ac, .slice ba b.length bc] 22) = w5 at HW5 HO5 ⊢
    go_wp2_with fail
    refine (Check_any _ [l] _ (parts_made HW5.out.bytes rfl) (by simp) (by simp; omega)).mono ?_
    have ef : ([l] : List Sec).flatten = l := by simp
    rw [ef]
    rintro e w6 ⟨rfl, rfl⟩
    have q6 : Only [] w5 (w5.alloc (.cells #[.slice a4 l.length c4] 22)) := (Only.refl [] w5).alloc _
    have HW6 := Lib.hid (HW5.out.quiet q6)
    have HO6 := Lib.hid (HO5.out.trans q6 (by simp))
    clear ef q6 HW5 HO5
    generalize w5.alloc (.cells #[.slice a4 l.length c4] 22) = w6 at HW6 HO6 ⊢
    by_cases hd : d = 0
    · have hd0 : ((d.toNat : Int) == 0) = true := by rw [hd]; rfl
      clear hd
      by_cases hz : l.length = 0
      · have hz0 : ((l.length : Int) == 0) = true := by simp [hz]
        clear hz
        go_wp2
        go_ret
        exact ⟨rfl, HO6.out⟩
      · have hz0 : ((l.length : Int) == 0) = false := by simp; intro e; exact hz (by simp [e])
        clear hz
        go_wp2
        go_ret
        exact ⟨rfl, HO6.out⟩
    · have hd0 : ((d.toNat : Int) == 0) = false := by
        rw [beq_eq_false_iff_ne]
        exact fun e => hd (UInt8.toNat_inj.1 (by show _ = 0; omega))
      have HD := Lib.hid hd
      clear hd
      by_cases hz : l.length = 0
      · have hz0 : ((l.length : Int) == 0) = true := by simp [hz]
        clear hz
        go_wp2
        go_ret
        exact ⟨rfl, HO6.out⟩
      · have hz0 : ((l.length : Int) == 0) = false := by simp; intro e; exact hz (by simp [e])
        have hpos : 0 < l.length := by omega
        obtain ⟨u, hu⟩ : ∃ u : Nat, IntKind.u64.wrap at_ = (u : Int) := ⟨(IntKind.u64.wrap at_).toNat, by rw [IntKind.wrap_u64]; omega⟩
        have hu2 : u < 18446744073709551616 := by rw [IntKind.wrap_u64] at hu; omega
        obtain ⟨i, hi⟩ : ∃ i : Nat, i = u % l.length := ⟨_, rfl⟩
        have hin : i < l.length := by rw [hi]; exact Nat.mod_lt _ (by omega)
        have hmod : (u : Int) % (l.length : Int) = (i : Int) := by rw [hi]; simp
        clear hi hz
        have hil : l[i]? = some (l[i]'(by omega)) := List.getElem?_eq_getElem (by omega)
        generalize l[i]'(by omega) = c at hil
        obtain ⟨g, cap, hv, _⟩ := HW6.out.blk hpos
        injection hv with hv1 hv2 hv3
        subst hv1
        subst hv3
        have hcell : w6.cell? ⟨g, i, none⟩ = some (.int .u8 c.toNat) := by
          obtain ⟨a', c', e, hcs⟩ := HW6.out.bytes
          cases e
          obtain ⟨b', off, e2, h3⟩ := hcs i c hil
          cases e2
          simpa using h3
        have hfree : w6.frozen? ⟨g, i, none⟩ = false := by
          rcases HW6.out.2 with ⟨e, _⟩ | ⟨g', cap', cur, e, _, hg, _⟩
          · cases e
          · cases e
            exact free_at i hg
        have hge := (HW6.out.lt (k := g) rfl).1
        have hxor := xor_u8 c d
        have hne := crc_set hil (xor_ne c d HD.out)
        have hq : (((crc (l.set i (c ^^^ d)) : Nat) : Int) != ((crc l : Nat) : Int)) = true := by
          rw [bne_iff_ne]
          intro e
          exact hne (by omega)
        have HQ := Lib.hid hq
        have HW7 := Lib.hid (HW6.out.set (i := i) (c ^^^ d))
        have HL7 := Lib.hid (show (l.set i (c ^^^ d)).length = l.length by simp)
        have HGE := Lib.hid (Nat.le_trans HO2.out.size hge)
        have i0 : (0 : Int) ≤ (i : Int) := by omega
        have i1 : (i : Int) < (l.length : Int) := by omega
        clear hil hne hq hge
        go_wp2_with fail
        rw [← UInt8.toNat_xor]
        have HO7 := Lib.hid (HO6.out.setCell (p := ⟨g, i, none⟩) (.inr HGE.out) (.int .u8 ((c ^^^ d).toNat : Nat)))
        have hsz7 : (w6.setCell ⟨g, i, none⟩ (.int .u8 ((c ^^^ d).toNat : Nat))).heap.size = w6.heap.size := heap_slot
        rw [← hsz7]
        generalize w6.setCell ⟨g, i, none⟩ (.int .u8 ((c ^^^ d).toNat : Nat)) = w7 at HW7 HO7 ⊢
        have hl8 : (l.set i (c ^^^ d)).length ≤ 131072 := by rw [HL7.out]; exact hlen
        have hc := Check_any _ [l.set i (c ^^^ d)] _ (parts_made HW7.out.bytes rfl) (by simp) (fun x hx => by rw [List.mem_singleton.1 hx]; omega)
        have ef : ([l.set i (c ^^^ d)] : List Sec).flatten = l.set i (c ^^^ d) := by simp
        rw [ef] at hc
        refine hc.mono ?_
        rintro e w8 ⟨rfl, rfl⟩
        have HO8 := Lib.hid (HO7.out.trans ((Only.refl [] w7).alloc (.cells #[.slice (some ⟨g, 0, none⟩) l.length c4] 22)) (by simp))
        clear hc ef hcell hfree hxor hmod hu i0 i1 hsz7
        have hq := HQ.out
        generalize crc (l.set i (c ^^^ d)) = y at hq ⊢
        go_wp2
        go_ret
        exact ⟨by first | rfl | exact ret_bool hq, HO8.out⟩

set_option maxRecDepth 100000 in
theorem sums_walk (va vb : Value) (at_ : Int) (d : UInt8) (a b : Sec) (w : World) (ha : Bytes w va a) (_ : Fit va) (hal : a.length ≤ maxLen) (hb : Bytes w vb b) (_ : Fit vb) (hbl : b.length ≤ maxLen) (hat : (Lit.int .i64 at_).wf = true) :
    Calls Try.prog 8 #[.agg #[va, vb, .int .i64 at_, .int .u8 d.toNat]] w fun e w' => e = .returned (.bool true) ∧ Only [] w w' := by
  have HA := Lib.hid ha
  have HB := Lib.hid hb
  have HAL := Lib.hid hal
  have HBL := Lib.hid hbl
  have HT := Lib.hid hat
  obtain ⟨aa, ac, rfl, -⟩ := id ha
  obtain ⟨ba, bc, rfl, -⟩ := id hb
  clear ha hb hal hbl hat
  go_enter Try.func8, Try.ntmps8
  go_wp2_with fail
  have q1 : Only [] w (w.alloc (.cells #[.slice aa a.length ac, .slice ba b.length bc, .int .i64 at_, .int .u8 d.toNat] 60)) := (Only.refl [] w).alloc _
  refine (checks_any _ _ at_ d a b _ (HA.out.kept q1 (clean_nil _)) HAL.out (HB.out.kept q1 (clean_nil _)) HBL.out HT.out).mono ?_
  rintro e w2 ⟨rfl, o2⟩
  have HO := Lib.hid (q1.trans o2 (by simp))
  clear o2 q1
  go_wp2
  go_ret
  exact ⟨rfl, HO.out⟩

set_option maxRecDepth 100000 in
theorem sums_lifted (os : Os) (started : os.Started) (H : Type) (enc : TypeId × Value → H) :
    ReturnsInHanded {} Try.checked os 8 .any (Rows.wireSumsSpec.pre6 enc Try.prog Try.f8 Rows.wireSumsRow.domain false) (Rows.wireSumsSpec.post enc Try.prog Try.f8 false true false false) := by
  refine returnsInHanded_of_change (C := Try.checked) law_own started (by kernel_rfl) Try.func8
    (ChangeSpec.witness6 (enc := enc) (C := Try.checked) false ⟨#[], #[.agg #[.slice none 0 0, .slice none 0 0, .int .i64 0, .int .u8 0]], []⟩ 8 (by kernel_rfl) (by kernel_rfl) (by kernel_rfl) (by kernel_rfl)) ?_
  intro W base args ds gs before hval0 hW hcnd _
  have hval : ∀ (j : Nat) t v, Try.f8.params[j]? = some t → args[j]? = some v → Value.okWide Try.prog W .any base t v := hval0
  have hW' := hW
  obtain ⟨p, q, hA0, hV, rfl, hfz, hnd⟩ := hW
  have hA : DataW.TrodAll enc Try.prog W 0 (fun _ => true) true Try.f8.params.toList args.toList ds p := hA0
  rw [Try.params8] at hA hval
  obtain ⟨v0, vs0, d0, ds0, p0, q0, hargs, rfl, rfl, h0, r0⟩ := trodAll_cons hA
  obtain ⟨rfl, rfl, rfl⟩ := trodAll_nil r0
  obtain rfl : args = #[v0] := by cases args; simp_all
  obtain ⟨rfl, rfl⟩ := trodVars_none hV
  have h0' := h0
  obtain ⟨b0, l0, e0, m0, a0, c0, rfl, hb0, hf0, hl0, he0, hg0, hm0, wa0⟩ := open_checked (hval 0 60 v0 rfl rfl) h0
  have hlt0 : ∀ x ∈ p0, x.block < W.heap.size := fun x hx => hW'.lt x (by simp [hx])
  clear hA0 hval0
  refine (sums_walk b0 e0 a0 c0 l0 m0 W hb0 hf0 hl0 he0 hg0 hm0 wa0).mono fun e W' ⟨he, hg⟩ => ?_
  subst he
  exact ⟨_, rfl, post_quiet (pa := (p0 ++ [])) (pv := []) hW' hg (fun _ _ _ => (trodAll_cons_mk (shut_bool Try.underlying4 _) trodAll_mk0)) (fun sp hsp => (trodAll_cons_mk (arg_stays (by kernel_rfl) (of_decide_eq_true (by kernel_rfl)) h0' hg hlt0 (fun x hx => hsp x (by simp [hx]))) trodAll_mk0)) (fun _ _ => rfl) (by simp) (ok_one (by kernel_rfl) rfl (okWide_bool_mk Try.underlying4 _))⟩

theorem sums_over : Rows.wireSumsRow.holds Try.pinned (OpenSpec.ofChange Rows.wireSumsSpec) :=
  OpenClaim.holds_of_wide 8 Try.f8 rfl rfl rfl rfl rfl rfl rfl ⟨rfl, rfl, rfl, rfl, rfl⟩ rfl rfl rfl rfl rfl (by kernel_rfl) Try.func8 (by kernel_rfl)
    (of_decide_eq_true (by kernel_rfl)) (by unfold Func.isWrapper; first | (rw [if_pos (by decide +kernel)]; kernel_rfl) | (rw [if_neg (by decide +kernel)]; exact ⟨rfl, rfl⟩))
    (fun os started H enc _ => sums_lifted os started H enc)

/-- The statement. -/
theorem sums_holds : Rows.WireSumsSaid :=
  sums_over
#print axioms sums_holds
end Go.Proofs.Ytboemljofdanfaa

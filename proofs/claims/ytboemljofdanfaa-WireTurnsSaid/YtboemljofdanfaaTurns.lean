/- WireTurns, for every input: it returns true, and its argument reads behind the call as it did: a box with one byte changed is none, nor bytes 0. No condition. -/
import Derived.Test.YtboemljofdanfaaLw
namespace Go.Proofs.Ytboemljofdanfaa
open Go.ChangeShapes Go.WideShapes Go.ChangeAt Go.RowKit Go.Deep Go.Maps
set_option linter.unusedSimpArgs false
set_option linter.unusedVariables false

theorem xor_u8 (c d : UInt8) : bits .xor .u8 (c.toNat : Int) (d.toNat : Int) = (((c ^^^ d).toNat : Nat) : Int) := by
  rw [bits_xor_nat .u8 8 rfl wraps_u8 c.toNat d.toNat c.toNat_lt d.toNat_lt, UInt8.toNat_xor]
theorem xor_ne (c d : UInt8) (h : d ≠ 0) : c ^^^ d ≠ c := fun e => h (by
  have h1 := congrArg (c ^^^ ·) e
  simpa [← UInt8.xor_assoc] using h1)
theorem BBlk.set {w : World} {g : Nat} {l : Sec} (h : BBlk w g l) (i : Nat) (c : UInt8) : BBlk (w.setCell ⟨g, i, none⟩ (.int .u8 c.toNat)) g (l.set i c) := by
  have := heap_cell (i := i) (.int .u8 c.toNat) h
  unfold BBlk
  rw [this]
  congr 2
  apply Array.ext_getElem?
  intro j
  rw [Array.getElem?_setIfInBounds, enc_get, enc_get, enc_size, List.getElem?_set]
  split <;> simp_all

set_option maxRecDepth 100000 in
set_option maxHeartbeats 1600000 in
theorem slips_any (size : Int) (v : Value) (at_ : Int) (d : UInt8) (l : Sec) (w : World) (hv : Bytes w v l) (hl : l.length ≤ maxLen) (hs : (Lit.int .i64 size).wf = true) (ha : (Lit.int .i64 at_).wf = true) :
    Calls Try.prog 27 #[.int .i64 size, v, .int .i64 at_, .int .u8 d.toNat] w fun e w' => e = .returned (.bool true) ∧ Only [] w w' := by
  have HV := Lib.hid hv
  obtain ⟨va, vc, rfl, -⟩ := id hv
  have hlm : l.length ≤ 9223372036854775807 := by unfold maxLen at hl; omega
  clear hv hl hs
  go_enter Try.func27, Try.ntmps27
  go_wp2_with fail
  refine (alive_any _).mono ?_
  rintro e w1 ⟨rfl, o1⟩
  go_wp2_with fail
  have HP := Lib.hid (parts_made (HV.out.kept o1 (clean_nil _)) rfl)
  have HO2 := Lib.hid (o1.trans ((Only.refl [] w1).alloc (.cells #[.slice va l.length vc] 22)) (by simp))
  clear o1
  generalize w1.alloc (.cells #[.slice va l.length vc] 22) = w2 at HP HO2 ⊢
  have q1 := iface_nerr
  have q2 := iface_ne
  by_cases hr : size < 6 ∨ 65536 < size
  · refine (Box_range size _ w2 hr).mono ?_
    rintro e w3 ⟨rfl, rfl⟩
    go_wp2
    go_ret
    exact ⟨rfl, HO2.out⟩
  · obtain ⟨n, rfl⟩ := Int.eq_ofNat_of_zero_le (show 0 ≤ size by omega)
    have h6 : 6 ≤ n := by omega
    have h7 : n ≤ 65536 := by omega
    clear hr
    have ht : total [l] = l.length := by simp [total]
    by_cases hbig : n - 6 < l.length
    · refine (Box_form n _ [l] w2 h6 h7 HP.out (by simp) (by simp; omega) (by omega)).mono ?_
      rintro e w3 ⟨rfl, rfl⟩
      clear ht
      go_wp2
      go_ret
      exact ⟨rfl, HO2.out⟩
    · refine (Box_any n _ [l] w2 h6 h7 HP.out (by simp) (by simp; omega) (by omega)).mono ?_
      rintro e w3 ⟨g, rfl, hb, hg, o3⟩
      have e1 : [l].flatten = l := by simp
      rw [e1] at hb
      have HB := Lib.hid hb
      have HO3 := Lib.hid (HO2.out.trans o3 (by simp))
      have HGE := Lib.hid (Nat.le_trans HO2.out.size hg)
      clear hb o3 e1 ht hg
      go_wp2_with (
        refine wpList_make_zero rfl (.tmp 32) (.tmp 32) rfl n (by rfl) (by rfl) (by omega) ?_
        intro w4 g4 hb4 hg4 ho4
        have HB4 := Lib.hid hb4
        have HO4 := Lib.hid (HO3.out.trans ho4 (by simp))
        have HBB := Lib.hid (HB.out.kept ho4 (by simp))
        clear hb4 ho4)
      have hz : (List.replicate n (0 : UInt8)).length = n := List.length_replicate
      have hby := HB4.out.bytes n
      rw [hz] at hby
      refine (Unbox_any _ (List.replicate n 0) w4 hby (fun a b c e => by cases e; unfold maxLen; omega) (by rw [hz]; omega)).mono ?_
      rintro e w5 ⟨hnone, _, o5⟩
      obtain rfl := hnone (unbox_zeros n)
      have HO5 := Lib.hid (HO4.out.trans o5 (by simp))
      have HB5 := Lib.hid (HBB.out.kept o5 (by simp))
      have q3 := err_44
      clear hby hnone o5 HO4 HBB hz
      by_cases hd : d = 0
      · have hd0 : ((d.toNat : Int) == 0) = true := by rw [hd]; rfl
        clear hd
        go_wp2
        go_ret
        exact ⟨rfl, HO5.out⟩
      · have hd0 : ((d.toNat : Int) == 0) = false := by
          rw [beq_eq_false_iff_ne]
          exact fun e => hd (UInt8.toNat_inj.1 (by show _ = 0; omega))
        have HD := Lib.hid hd
        clear hd
        obtain ⟨u, hu⟩ : ∃ u : Nat, IntKind.u64.wrap at_ = (u : Int) := ⟨(IntKind.u64.wrap at_).toNat, by rw [IntKind.wrap_u64]; omega⟩
        have hu2 : u < 18446744073709551616 := by rw [IntKind.wrap_u64] at hu; omega
        obtain ⟨i, hi⟩ : ∃ i : Nat, i = u % n := ⟨_, rfl⟩
        have hin : i < n := by rw [hi]; exact Nat.mod_lt _ (by omega)
        have hmod : (u : Int) % (n : Int) = (i : Int) := by rw [hi]; simp
        clear hi
        have hbl := boxOf_length h6 (show l.length ≤ n - 6 by omega)
        have hil : (boxOf n l)[i]? = some ((boxOf n l)[i]'(by omega)) := List.getElem?_eq_getElem (by omega)
        generalize (boxOf n l)[i]'(by omega) = c at hil
        have hcell := HB5.out.cell hil
        have hfree : w5.frozen? ⟨g, i, none⟩ = false := free_at i HB5.out
        have hxor := xor_u8 c d
        have HSL := Lib.hid (unbox_slip h6 h7 (show l.length ≤ n - 6 by omega) hil (xor_ne c d HD.out))
        have HBS := Lib.hid (HB5.out.set i (c ^^^ d))
        have HL := Lib.hid (show ((boxOf n l).set i (c ^^^ d)).length = n by simpa using hbl)
        have i0 : (0 : Int) ≤ (i : Int) := by omega
        have i1 : (i : Int) < (n : Int) := by omega
        clear hbl hil
        go_wp2_with fail
        rw [← UInt8.toNat_xor]
        have HO6 := Lib.hid (HO5.out.setCell (p := ⟨g, i, none⟩) (.inr HGE.out) (.int .u8 ((c ^^^ d).toNat : Nat)))
        generalize w5.setCell ⟨g, i, none⟩ (.int .u8 ((c ^^^ d).toNat : Nat)) = w6 at HBS HO6 ⊢
        have hby := HBS.out.bytes n
        rw [HL.out] at hby
        refine (Unbox_any _ _ w6 hby (fun a b c e => by cases e; unfold maxLen; omega) (by rw [HL.out]; omega)).mono ?_
        rintro e w7 ⟨hnone, _, o7⟩
        obtain rfl := hnone HSL.out
        have HO7 := Lib.hid (HO6.out.trans o7 (by simp))
        clear hby hnone o7 hcell hfree hxor hmod hu i0 i1
        go_wp2
        go_ret
        exact ⟨rfl, HO7.out⟩

set_option maxRecDepth 100000 in
theorem turns_walk (size : Int) (v : Value) (at_ : Int) (d : UInt8) (l : Sec) (w : World) (hs : (Lit.int .i64 size).wf = true) (hv : Bytes w v l) (_ : Fit v) (hl : l.length ≤ maxLen) (ha : (Lit.int .i64 at_).wf = true) :
    Calls Try.prog 7 #[.agg #[.int .i64 size, v, .int .i64 at_, .int .u8 d.toNat]] w fun e w' => e = .returned (.bool true) ∧ Only [] w w' := by
  have HV := Lib.hid hv
  have HL := Lib.hid hl
  have HS := Lib.hid hs
  have HA := Lib.hid ha
  obtain ⟨va, vc, rfl, -⟩ := id hv
  clear hv hl hs ha
  go_enter Try.func7, Try.ntmps7
  go_wp2_with fail
  have q1 : Only [] w (w.alloc (.cells #[.int .i64 size, .slice va l.length vc, .int .i64 at_, .int .u8 d.toNat] 56)) := (Only.refl [] w).alloc _
  refine (slips_any size _ at_ d l _ (HV.out.kept q1 (clean_nil _)) HL.out HS.out HA.out).mono ?_
  rintro e w2 ⟨rfl, o2⟩
  have HO := Lib.hid (q1.trans o2 (by simp))
  clear o2 q1
  go_wp2
  go_ret
  exact ⟨rfl, HO.out⟩

set_option maxRecDepth 100000 in
theorem turns_lifted (os : Os) (started : os.Started) (H : Type) (enc : TypeId × Value → H) :
    ReturnsInHanded {} Try.checked os 7 .any (Rows.wireTurnsSpec.pre6 enc Try.prog Try.f7 Rows.wireTurnsRow.domain false) (Rows.wireTurnsSpec.post enc Try.prog Try.f7 false true false false) := by
  refine returnsInHanded_of_change (C := Try.checked) law_own started (by kernel_rfl) Try.func7
    (ChangeSpec.witness6 (enc := enc) (C := Try.checked) false ⟨#[], #[.agg #[.int .i64 0, .slice none 0 0, .int .i64 0, .int .u8 0]], []⟩ 8 (by kernel_rfl) (by kernel_rfl) (by kernel_rfl) (by kernel_rfl)) ?_
  intro W base args ds gs before hval0 hW hcnd _
  have hval : ∀ (j : Nat) t v, Try.f7.params[j]? = some t → args[j]? = some v → Value.okWide Try.prog W .any base t v := hval0
  have hW' := hW
  obtain ⟨p, q, hA0, hV, rfl, hfz, hnd⟩ := hW
  have hA : DataW.TrodAll enc Try.prog W 0 (fun _ => true) true Try.f7.params.toList args.toList ds p := hA0
  rw [Try.params7] at hA hval
  obtain ⟨v0, vs0, d0, ds0, p0, q0, hargs, rfl, rfl, h0, r0⟩ := trodAll_cons hA
  obtain ⟨rfl, rfl, rfl⟩ := trodAll_nil r0
  obtain rfl : args = #[v0] := by cases args; simp_all
  obtain ⟨rfl, rfl⟩ := trodVars_none hV
  have h0' := h0
  obtain ⟨s0, b0, l0, a0, c0, rfl, ws0, hb0, hf0, hl0, wa0⟩ := open_slip (hval 0 56 v0 rfl rfl) h0
  have hlt0 : ∀ x ∈ p0, x.block < W.heap.size := fun x hx => hW'.lt x (by simp [hx])
  clear hA0 hval0
  refine (turns_walk s0 b0 a0 c0 l0 W ws0 hb0 hf0 hl0 wa0).mono fun e W' ⟨he, hg⟩ => ?_
  subst he
  exact ⟨_, rfl, post_quiet (pa := (p0 ++ [])) (pv := []) hW' hg (fun _ _ _ => (trodAll_cons_mk (shut_bool Try.underlying4 _) trodAll_mk0)) (fun sp hsp => (trodAll_cons_mk (arg_stays (by kernel_rfl) (of_decide_eq_true (by kernel_rfl)) h0' hg hlt0 (fun x hx => hsp x (by simp [hx]))) trodAll_mk0)) (fun _ _ => rfl) (by simp) (ok_one (by kernel_rfl) rfl (okWide_bool_mk Try.underlying4 _))⟩

theorem turns_over : Rows.wireTurnsRow.holds Try.pinned (OpenSpec.ofChange Rows.wireTurnsSpec) :=
  OpenClaim.holds_of_wide 7 Try.f7 rfl rfl rfl rfl rfl rfl rfl ⟨rfl, rfl, rfl, rfl, rfl⟩ rfl rfl rfl rfl rfl (by kernel_rfl) Try.func7 (by kernel_rfl)
    (of_decide_eq_true (by kernel_rfl)) (by unfold Func.isWrapper; first | (rw [if_pos (by decide +kernel)]; kernel_rfl) | (rw [if_neg (by decide +kernel)]; exact ⟨rfl, rfl⟩))
    (fun os started H enc _ => turns_lifted os started H enc)

/-- The statement. -/
theorem turns_holds : Rows.WireTurnsSaid :=
  turns_over
#print axioms turns_holds
end Go.Proofs.Ytboemljofdanfaa

/- PageTurns, for every input: it returns true, and its argument reads behind the call as it did: a page's sector with one byte changed is none. No condition. -/
import Derived.Test.YthacfanfhdjmbaaPA
namespace Go.Proofs.Ythacfanfhdjmbaa
open Go.ChangeShapes Go.WideShapes Go.ChangeAt Go.RowKit Go.Deep Go.Maps
set_option linter.unusedSimpArgs false
set_option linter.unusedVariables false

theorem wraps_u8' (n : Int) (h₀ : 0 ≤ n) (h₁ : n < 2 ^ 8) : IntKind.u8.wrap n = n := by rw [IntKind.wrap_u8]; omega
theorem xor_u8 (c d : UInt8) : bits .xor .u8 (c.toNat : Int) (d.toNat : Int) = (((c ^^^ d).toNat : Nat) : Int) := by
  rw [bits_xor_nat .u8 8 rfl wraps_u8' c.toNat d.toNat c.toNat_lt d.toNat_lt, UInt8.toNat_xor]
theorem xor_ne (c d : UInt8) (h : d ≠ 0) : c ^^^ d ≠ c := fun e => h (by
  have h1 := congrArg (c ^^^ ·) e
  simpa [← UInt8.xor_assoc] using h1)
theorem enc_size5 (l : Sec) : (enc l).size = l.length := by simp [enc]
theorem BBlk.set5 {w : World} {g : Nat} {l : Sec} (h : BBlk w g l) (i : Nat) (c : UInt8) : BBlk (w.setCell ⟨g, i, none⟩ (.int .u8 c.toNat)) g (l.set i c) := by
  have := heap_cell (i := i) (.int .u8 c.toNat) h
  unfold BBlk
  rw [this]
  congr 2
  apply Array.ext_getElem?
  intro j
  rw [Array.getElem?_setIfInBounds, enc_get, enc_get, enc_size5, List.getElem?_set]
  split <;> simp_all

set_option maxRecDepth 100000 in
set_option maxHeartbeats 1600000 in
theorem pslips_any (lsn : Int) (v : Value) (at_ : Int) (d : UInt8) (l : List Int) (w : World) (hv : IntsV w v l) (hl : l.length ≤ maxLen) (hs : (Lit.int .i64 lsn).wf = true) (ha : (Lit.int .i64 at_).wf = true) :
    Calls Try.prog 21 #[.int .i64 lsn, v, .int .i64 at_, .int .u8 d.toNat] w fun e w' => e = .returned (.bool true) ∧ Only [] w w' := by
  have hl' : l.length ≤ 9223372036854775807 := by unfold maxLen at hl; omega
  have hp : PForm lsn (filC l 60) := ⟨in64_wf hs, filC_length l 60, filC_in (ints_in hv) 60⟩
  obtain ⟨va, vc, rfl, -⟩ := id hv
  have HV := Lib.hid hv
  have HP := Lib.hid hp
  clear hv hl hs hp
  go_enter Try.func21, Try.ntmps21
  go_wp2_with fail
  refine (alive5_any _).mono ?_
  rintro e w1 ⟨rfl, o1⟩
  have HO1 := Lib.hid o1
  clear o1
  go_wp2_with fail
  refine (filled_any lsn _ l w1 (HV.out.kept HO1.out (by intro a n c e h; simp)) hl').mono ?_
  rintro e w2 ⟨rfl, o2⟩
  have HO2 := Lib.hid (HO1.out.trans o2 (by simp))
  clear o2 hl'
  obtain ⟨c, hc⟩ : ∃ c, c = filC l 60 := ⟨_, rfl⟩
  rw [← hc] at HP ⊢
  clear hc HO1
  go_wp2_with fail
  refine (Encode_any lsn c w2 HP.out).mono ?_
  rintro e w3 ⟨g, rfl, hb, hg, o3⟩
  have HB := Lib.hid hb
  have HGE := Lib.hid (Nat.le_trans HO2.out.size hg)
  have HO5 := Lib.hid (HO2.out.trans o3 (by simp))
  clear hb hg o3 HO2 HV
  have hpl := penc_length HP.out
  obtain ⟨u, hu⟩ : ∃ u : Nat, IntKind.u64.wrap at_ = (u : Int) := ⟨(IntKind.u64.wrap at_).toNat, by rw [IntKind.wrap_u64]; omega⟩
  have hu2 : u < 18446744073709551616 := by rw [IntKind.wrap_u64] at hu; omega
  obtain ⟨i, hi⟩ : ∃ i : Nat, i = u % 512 := ⟨_, rfl⟩
  have hin : i < 512 := by omega
  have hmod : (u : Int) % 512 = (i : Int) := by omega
  clear hi ha
  obtain ⟨x, hx⟩ : ∃ x, (penc lsn c)[i]? = some x := ⟨_, List.getElem?_eq_getElem (by omega)⟩
  have hcell := HB.out.cell hx
  have hfree : w3.frozen? ⟨g, i, none⟩ = false := free_at i HB.out
  have hxor := xor_u8 x d
  have HX := Lib.hid hx
  have HBS := Lib.hid (HB.out.set5 i (x ^^^ d))
  have HL := Lib.hid (show ((penc lsn c).set i (x ^^^ d)).length = 512 by simpa using hpl)
  have i0 : (0 : Int) ≤ (i : Int) := by omega
  have i1 : (i : Int) < 512 := by omega
  clear hpl hx
  go_wp2_with fail
  try rw [← UInt8.toNat_xor]
  have HO6 := Lib.hid (HO5.out.setCell (p := ⟨g, i, none⟩) (.inr HGE.out) (.int .u8 ((x ^^^ d).toNat : Nat)))
  generalize w3.setCell ⟨g, i, none⟩ (.int .u8 ((x ^^^ d).toNat : Nat)) = w6 at HBS HO6 ⊢
  have hby := HBS.out.bytes 512
  rw [HL.out] at hby
  refine (Decode_any _ _ w6 hby (fun a b c e => by cases e; unfold maxLen; omega) (by rw [HL.out]; omega)).mono ?_
  rintro e w7 ⟨o7, hs7, hn7⟩
  have HO7 := Lib.hid (HO6.out.trans o7 (by simp))
  clear hby o7 hcell hfree hxor hmod hu i0 i1 HBS HO5 HO6
  by_cases hd : d = 0
  · have hd0 : ((d.toNat : Int) == 0) = true := by rw [hd]; rfl
    have hset : (penc lsn c).set i (x ^^^ d) = penc lsn c := by
      rw [hd]
      have hx0 : x ^^^ 0 = x := by simp
      rw [hx0]
      apply List.ext_getElem?
      intro j
      rw [List.getElem?_set]
      split
      · rename_i hij
        subst hij
        split
        · exact HX.out.symm
        · rename_i hlt
          rw [List.getElem?_eq_none (by omega)]
      · rfl
    rw [hset] at hs7
    obtain rfl := hs7 lsn c (pdec_enc HP.out)
    have q1 := iface_nil
    have HCL := Lib.hid (show (lsn :: c).length = 61 by rw [List.length_cons, HP.out.len])
    clear hs7 hn7 hset hd
    have T1 := trivial
    go_wp2_with (first
      | (clear T1
         refine wpList_new_page rfl rfl ?_
         intro w8 g8 hb8 hg8 ho8
         have HB8 := Lib.hid hb8
         have HG8 := Lib.hid (Nat.le_trans HO7.out.size hg8)
         have HO8 := Lib.hid (HO7.out.trans ho8 (by simp))
         clear hb8 hg8 ho8)
      | (refine wpList_store_page rfl _ _ rfl g8 _ (by rfl) (by rfl) HCL.out _ HB8.out (by rfl) ?_
         intro w9 hb9 ho9
         have HO9 := Lib.hid (HO8.out.trans ho9 (by simp; exact HG8.out))
         clear hb9 ho9))
    go_ret
    exact ⟨rfl, HO9.out⟩
  · have hd0 : ((d.toNat : Int) == 0) = false := by
      rw [beq_eq_false_iff_ne]
      exact fun e => hd (UInt8.toNat_inj.1 (by show _ = 0; omega))
    have hdn : ¬ (d.toNat = 0) := fun e => hd (UInt8.toNat_inj.1 e)
    have hdi : ¬ ((d.toNat : Int) = 0) := by omega
    have hd1 : ((d.toNat : Int) != 0) = true := by simp [bne, hd0]
    obtain rfl := hn7 (pdec_slip HP.out HX.out (xor_ne x d hd))
    have q3 := err_44
    clear hs7 hn7 hd
    have T1 := trivial
    go_wp2_with (first
      | (clear T1
         refine wpList_new_page rfl rfl ?_
         intro w8 g8 hb8 hg8 ho8
         have HB8 := Lib.hid hb8
         have HG8 := Lib.hid (Nat.le_trans HO7.out.size hg8)
         have HO8 := Lib.hid (HO7.out.trans ho8 (by simp))
         clear hb8 hg8 ho8)
      | (refine wpList_store_page rfl _ _ rfl g8 _ (by rfl) (by rfl) (by rfl) _ HB8.out (by rfl) ?_
         intro w9 hb9 ho9
         have HO9 := Lib.hid (HO8.out.trans ho9 (by simp; exact HG8.out))
         clear hb9 ho9))
    go_ret
    exact ⟨rfl, HO9.out⟩

set_option maxRecDepth 100000 in
theorem pturns_walk (lsn : Int) (v : Value) (at_ : Int) (d : UInt8) (l : List Int) (w : World) (hs : (Lit.int .i64 lsn).wf = true) (hv : IntsV w v l) (_ : Fit v) (hl : l.length ≤ maxLen) (ha : (Lit.int .i64 at_).wf = true) :
    Calls Try.prog 7 #[.agg #[.int .i64 lsn, v, .int .i64 at_, .int .u8 d.toNat]] w fun e w' => e = .returned (.bool true) ∧ Only [] w w' := by
  have HV := Lib.hid hv
  have HL := Lib.hid hl
  have HS := Lib.hid hs
  have HA := Lib.hid ha
  obtain ⟨va, vc, rfl, -⟩ := id hv
  clear hv hl hs ha
  go_enter Try.func7, Try.ntmps7
  go_wp2_with fail
  have q1 : Only [] w (w.alloc (.cells #[.int .i64 lsn, .slice va l.length vc, .int .i64 at_, .int .u8 d.toNat] 52)) := (Only.refl [] w).alloc _
  refine (pslips_any lsn _ at_ d l _ (HV.out.kept q1 (by intro a n c e h; simp)) HL.out HS.out HA.out).mono ?_
  rintro e w2 ⟨rfl, o2⟩
  have HO := Lib.hid (q1.trans o2 (by simp))
  clear o2 q1
  go_wp2
  go_ret
  exact ⟨rfl, HO.out⟩

set_option maxRecDepth 100000 in
theorem pturns_lifted (os : Os) (started : os.Started) (H : Type) (enc : TypeId × Value → H) :
    ReturnsInHanded {} Try.checked os 7 .any (Rows.pageTurnsSpec.pre6 enc Try.prog Try.f7 Rows.pageTurnsRow.domain false) (Rows.pageTurnsSpec.post enc Try.prog Try.f7 false true false false) := by
  refine returnsInHanded_of_change (C := Try.checked) law_own started (by kernel_rfl) Try.func7
    (ChangeSpec.witness6 (enc := enc) (C := Try.checked) false ⟨#[], #[.agg #[.int .i64 0, .slice none 0 0, .int .i64 0, .int .u8 0]], []⟩ 8 (by kernel_rfl) (by kernel_rfl) (by kernel_rfl) (by kernel_rfl)) ?_
  intro W base args ds gs before hval0 hW hcnd _
  have hval : ∀ (j : Nat) t v, Try.f7.params[j]? = some t → args[j]? = some v → Value.okWide Try.prog W .any base t v := hval0
  have hW' := hW
  obtain ⟨p, q, hA0, hV, rfl, hfz, hnd⟩ := hW
  have hA : DataW.TrodAll enc Try.prog W 0 (fun _ => true) true Try.f7.params.toList args.toList ds p := hA0
  rw [Try.params7] at hA hval
  obtain ⟨v0, vs0, d0, ds0, p0, q0, hargs, rfl, rfl, h0, r0⟩ := trodAll_cons hA
  obtain ⟨rfl, rfl, rfl⟩ := trodAll_nil r0
  obtain rfl : args = #[v0] := by cases args; simp_all
  obtain ⟨rfl, rfl⟩ := trodVars_none hV
  have h0' := h0
  obtain ⟨s0, b0, l0, a0, c0, rfl, ws0, hb0, hf0, hl0, wa0⟩ := open_slip5 (hval 0 52 v0 rfl rfl) h0
  have hlt0 : ∀ x ∈ p0, x.block < W.heap.size := fun x hx => hW'.lt x (by simp [hx])
  clear hA0 hval0
  refine (pturns_walk s0 b0 a0 c0 l0 W ws0 hb0 hf0 hl0 wa0).mono fun e W' ⟨he, hg⟩ => ?_
  subst he
  exact ⟨_, rfl, post_quiet (pa := (p0 ++ [])) (pv := []) hW' hg (fun _ _ _ => (trodAll_cons_mk (shut_bool Try.underlying4 _) trodAll_mk0)) (fun sp hsp => (trodAll_cons_mk (arg_stays (by kernel_rfl) (of_decide_eq_true (by kernel_rfl)) h0' hg hlt0 (fun x hx => hsp x (by simp [hx]))) trodAll_mk0)) (fun _ _ => rfl) (by simp) (ok_one (by kernel_rfl) rfl (okWide_bool_mk Try.underlying4 _))⟩

theorem pturns_over : Rows.pageTurnsRow.holds Try.pinned (OpenSpec.ofChange Rows.pageTurnsSpec) :=
  OpenClaim.holds_of_wide 7 Try.f7 rfl rfl rfl rfl rfl rfl rfl ⟨rfl, rfl, rfl, rfl, rfl⟩ rfl rfl rfl rfl rfl (by kernel_rfl) Try.func7 (by kernel_rfl)
    (of_decide_eq_true (by kernel_rfl)) (by unfold Func.isWrapper; first | (rw [if_pos (by decide +kernel)]; kernel_rfl) | (rw [if_neg (by decide +kernel)]; exact ⟨rfl, rfl⟩))
    (fun os started H enc _ => pturns_lifted os started H enc)

/-- The statement. -/
theorem pturns_holds : Rows.PageTurnsSaid :=
  pturns_over
#print axioms pturns_holds
end Go.Proofs.Ythacfanfhdjmbaa

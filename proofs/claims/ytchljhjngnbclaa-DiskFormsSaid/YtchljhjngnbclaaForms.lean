/- DiskForms: whatever the size, the number and the bytes, the law returns true (which sectors there are, and how many bytes they take), and its arguments read as they did. No condition. -/
import Derived.Test.YtchljhjngnbclaaS
import Derived.Test.YtchljhjngnbclaaD9
import Derived.Test.YtchljhjngnbclaaD11
namespace Go.Proofs.Ytchljhjngnbclaa
open Go.ChangeShapes Go.WideShapes Go.ChangeAt Go.RowKit
set_option linter.unusedVariables false
set_option linter.unusedSimpArgs false

theorem parts_arg {w : World} {v : Value} {l : Sec} (hb : Bytes w v l) :
    Parts (w.alloc (.cells #[v] 34)) (.slice (some ⟨w.heap.size, 0, none⟩) 1 1) [l] := by
  refine ⟨_, 1, rfl, fun i x hi => ?_⟩
  obtain ⟨rfl, rfl⟩ : i = 0 ∧ x = l := by
    cases i with
    | zero => simp at hi; exact ⟨rfl, hi.symm⟩
    | succ i => simp at hi
  exact ⟨w.heap.size, 0, v, rfl, by simp, hb.kept ((Only.refl [] w).alloc _) (clean_nil _)⟩

set_option maxRecDepth 100000 in
theorem ints_same (v1 v2 : Value) (xs : List Int) (w : World) (h1 : IntsV w v1 xs) (h2 : IntsV w v2 xs) (hlen : xs.length ≤ 4611686018427387904) :
    Calls Try.prog 18 #[v1, v2] w fun e w' => e = .returned (.bool true) ∧ Only [] w w' := by
  have H1 := Lib.hid h1
  have H2 := Lib.hid h2
  obtain ⟨a1, c1, rfl, -⟩ := h1
  obtain ⟨a2, c2, rfl, -⟩ := h2
  go_enter Try.func18, Try.ntmps18
  go_wp2_with fail
  go_loopw [5, 13] (fun _ i wr => ∃ k : Nat, k ≤ xs.length ∧ i = .int .i64 k ∧ Only [] w wr) (fun _ i _ => xs.length - (intOf i).toNat)
  case atStart => exact ⟨0, by omega, rfl, Only.refl _ _⟩
  case round =>
    obtain ⟨k, hk, rfl, ho⟩ := hrel
    by_cases hlt : k < xs.length
    · have hkl : xs[k]? = some xs[k] := List.getElem?_eq_getElem hlt
      obtain ⟨_, b1, f1, p1, hv1, d1⟩ := (H1.out.kept ho (fun _ _ _ _ _ => by simp)).at_ hkl
      obtain ⟨_, b2, f2, p2, hv2, d2⟩ := (H2.out.kept ho (fun _ _ _ _ _ => by simp)).at_ hkl
      cases hv1
      cases hv2
      have k0 : (0 : Int) ≤ (k : Int) := by omega
      have k1 : (k : Int) < (xs.length : Int) := by omega
      clear hkl
      go_wp2_with fail
      go_quiet (fail)
      go_wp2_with fail
      go_roundw
      case rel => exact ⟨k + 1, by omega, by go_num, ⟨ho.os, ho.tape, ho.output, ho.size, ho.block⟩⟩
      case measure => simp [intOf]; omega
    · obtain rfl : k = xs.length := by omega
      go_wp2_with fail
      go_ret
      exact ⟨rfl, ho⟩

set_option maxRecDepth 100000 in
set_option maxHeartbeats 4000000 in
theorem forms_walk (size at_ : Int) (v : Value) (l : Sec) (w : World) (hs : (Lit.int .i64 size).wf = true) (ha : (Lit.int .i64 at_).wf = true) (hv : Bytes w v l) (hlen : l.length ≤ maxLen) :
    Calls Try.prog 6 #[.int .i64 size, .int .i64 at_, v] w fun e w' => e = .returned (.bool true) ∧ Only [] w w' := by
  have q1 := err_11
  have q2 := err_22
  have HV := Lib.hid hv
  have HA := Lib.hid ha
  have hlm : l.length ≤ 9223372036854775807 := by unfold maxLen at hlen; omega
  obtain ⟨va, vc, rfl, -⟩ := hv
  clear hs ha hlen
  by_cases hbad : size < 1 ∨ 4096 < size
  · have hsz : (decide (size < 1) || decide (4096 < size)) = true := by simpa using hbad
    go_enter Try.func6, Try.ntmps6
    go_wp2_with fail
    refine (alive_any _).mono ?_
    rintro e w1 ⟨rfl, o1⟩
    rcases hbad with hb | hb
    · go_wp2_with fail
      refine (New_bad size _ (.inl hb)).mono ?_
      rintro e w2 ⟨rfl, rfl⟩
      by_cases hbig : (65536 : Int) < l.length
      · go_wp2_with fail
        go_ret
        exact ⟨rfl, o1⟩
      · go_wp2_with fail
        go_ret
        exact ⟨rfl, o1⟩
    · have hb1 : ¬ size < 1 := by omega
      go_wp2_with fail
      refine (New_bad size _ (.inr hb)).mono ?_
      rintro e w2 ⟨rfl, rfl⟩
      by_cases hbig : (65536 : Int) < l.length
      · go_wp2_with fail
        go_ret
        exact ⟨rfl, o1⟩
      · go_wp2_with fail
        go_ret
        exact ⟨rfl, o1⟩
  · have h1 : 1 ≤ size := by omega
    have h2 : size ≤ 4096 := by omega
    clear hbad
    by_cases hbig : (65536 : Int) < l.length
    · go_enter Try.func6, Try.ntmps6
      go_wp2_with fail
      refine (alive_any _).mono ?_
      rintro e w1 ⟨rfl, o1⟩
      go_wp2_with fail
      refine (new_st size w1 h1 h2).mono ?_
      rintro e w2 ⟨a, rfl, s2⟩
      go_wp2_with fail
      go_ret
      exact ⟨rfl, o1.trans s2.only (by simp)⟩
    · have hle : l.length ≤ 65536 := by omega
      clear hbig
      go_enter Try.func6, Try.ntmps6
      go_wp2_with fail
      refine (alive_any _).mono ?_
      rintro e w1 ⟨rfl, o1⟩
      go_wp2_with fail
      refine (new_st size w1 h1 h2).mono ?_
      rintro e w2 ⟨a, rfl, s2⟩
      have HP := Lib.hid (parts_arg (HV.out.kept (o1.trans s2.only (by simp)) (clean_nil _)))
      have s3 := s2.quiet ((Only.refl [] w2).alloc (.cells #[.slice va l.length vc] 34))
      have hft : Fits [l] := ⟨by simp, fun x hx => by simp at hx; subst hx; omega⟩
      have HF := Lib.hid hft
      clear hft
      by_cases hin : inB at_ size = true
      · have hin' := inB_iff.1 hin
        have hlo : ¬ at_ < 0 := by omega
        have hhi : ¬ size ≤ at_ := by omega
        by_cases h512 : l.length = 512
        · have ht : total [l] = 512 := by simp [total, h512]
          have h5 : ((l.length : Int) != 512) = false := by simp [h512]
          clear h512
          have HT := Lib.hid ht
          clear ht
          go_wp2_with fail
          refine (Write_on a _ at_ _ [l] _ s3.dev hin HP.out HF.out HT.out rfl).mono ?_
          rintro e w4 ⟨rfl, d4, o4⟩
          have s4 := s3.step o4 d4
          have e1 : [l].flatten = l := by simp
          rw [e1] at s4
          go_wp2_with fail
          refine (read_st at_ s4 hin rfl _ rfl).mono ?_
          rintro e w5 ⟨g5, rfl, b5, _, s5, o5⟩
          clear s2 s3 s4 d4 o4 o5 b5
          go_wp2_with fail
          refine (steps_st s5 1 (by simp [Disk.write, Met.tick, Disk.fresh, Met.fresh, wrap64])).mono ?_
          rintro e w6 ⟨rfl, rfl⟩
          have hone : ∀ z, (((Disk.fresh size).write at_ l).old z).isSome = true ↔ z = at_ := fun z => by
            have hold : ((Disk.fresh size).write at_ l).old = upd (fun _ => none) at_ ((Disk.fresh size).get at_) := rfl
            rw [hold]
            by_cases e : z = at_
            · simp [upd, e]
            · simp [upd, e]
          go_wp2_with fail
          refine (unsynced_few a _ _ s5.dev (fun x y hx hy => by rw [hone] at hx hy; rw [hx, hy])).mono ?_
          rintro e w7 ⟨v7, xs, rfl, i7, hm, hnd, _, o7⟩
          have hxs : xs = [at_] := by
            have h0 : ∀ z, z ∈ xs ↔ z = at_ := fun z => (hm z).trans (hone z)
            cases xs with
            | nil => have := (h0 at_).2 rfl; simp at this
            | cons x r =>
              have hx := (h0 x).1 (by simp)
              subst hx
              cases r with
              | nil => rfl
              | cons y r =>
                have hy := (h0 y).1 (by simp)
                subst hy
                simp at hnd
          subst hxs
          have I7 := Lib.hid i7
          clear hm hnd i7 hone
          go_wp2_with fail
          refine (ints_same _ _ [at_] _ (I7.out.kept ((Only.refl [] _).alloc _) (fun _ _ _ _ _ => by simp)) (ints_one _ at_ HA.out) (by simp)).mono ?_
          rintro e w8 ⟨rfl, o8⟩
          go_wp2_with fail
          go_ret
          exact ⟨rfl, o1.trans (s5.only.trans (o7.trans (((Only.refl [] _).alloc _).trans o8 (by simp)) (by simp)) (by simp)) (by simp)⟩
        · have ht : total [l] ≠ 512 := by simpa [total] using h512
          have h5 : ((l.length : Int) != 512) = true := by simp; omega
          go_wp2_with fail
          refine (Write_form a _ at_ _ [l] _ s3.dev hin HP.out HF.out ht).mono ?_
          rintro e w4 ⟨rfl, rfl⟩
          go_wp2_with fail
          refine (read_st at_ s3 hin rfl _ rfl).mono ?_
          rintro e w5 ⟨g5, rfl, b5, _, s5, o5⟩
          go_wp2_with fail
          refine (steps_st s5 0 rfl).mono ?_
          rintro e w6 ⟨rfl, rfl⟩
          go_wp2_with fail
          go_ret
          exact ⟨rfl, o1.trans s5.only (by simp)⟩
      · have hin0 : inB at_ size = false := by simpa using hin
        have hor : at_ < 0 ∨ size ≤ at_ := by
          by_cases e : at_ < 0
          · exact .inl e
          · by_cases e2 : size ≤ at_
            · exact .inr e2
            · exact absurd (inB_iff.2 ⟨by omega, by omega⟩) hin
        go_wp2_with fail
        refine (Write_out a _ at_ _ _ s3.dev hin0).mono ?_
        rintro e w4 ⟨rfl, rfl⟩
        go_wp2_with fail
        refine (Read_out a _ at_ _ s3.dev hin0).mono ?_
        rintro e w4 ⟨rfl, rfl⟩
        rcases hor with ho | ho
        · go_wp2_with fail
          refine (steps_st s3 0 rfl).mono ?_
          rintro e w6 ⟨rfl, rfl⟩
          go_wp2_with fail
          go_ret
          exact ⟨rfl, o1.trans s3.only (by simp)⟩
        · by_cases hneg : at_ < 0
          · go_wp2_with fail
            refine (steps_st s3 0 rfl).mono ?_
            rintro e w6 ⟨rfl, rfl⟩
            go_wp2_with fail
            go_ret
            exact ⟨rfl, o1.trans s3.only (by simp)⟩
          · go_wp2_with fail
            refine (steps_st s3 0 rfl).mono ?_
            rintro e w6 ⟨rfl, rfl⟩
            go_wp2_with fail
            go_ret
            exact ⟨rfl, o1.trans s3.only (by simp)⟩

set_option maxRecDepth 100000 in
theorem forms_lifted (os : Os) (started : os.Started) (H : Type) (enc : TypeId × Value → H) :
    ReturnsInHanded {} Try.checked os 6 .any (Rows.diskFormsSpec.pre6 enc Try.prog Try.f6 Rows.diskFormsRow.domain false) (Rows.diskFormsSpec.post enc Try.prog Try.f6 false true false false) := by
  refine returnsInHanded_of_change (C := Try.checked) law_own started (by kernel_rfl) Try.func6
    (ChangeSpec.witness6 (enc := enc) (C := Try.checked) false ⟨#[], #[.int .i64 0, .int .i64 0, .slice none 0 0], []⟩ 8 (by kernel_rfl) (by kernel_rfl) (by kernel_rfl) (by kernel_rfl)) ?_
  intro W base args ds gs before hval0 hW hcnd _
  have hval : ∀ (j : Nat) t v, Try.f6.params[j]? = some t → args[j]? = some v → Value.okWide Try.prog W .any base t v := hval0
  have hW' := hW
  obtain ⟨p, q, hA0, hV, rfl, hfz, hnd⟩ := hW
  have hA : DataW.TrodAll enc Try.prog W 0 (fun _ => true) true Try.f6.params.toList args.toList ds p := hA0
  rw [Try.params6] at hA hval
  obtain ⟨v0, vs0, d0, ds0, p0, q0, hargs, rfl, rfl, h0, r0⟩ := trodAll_cons hA
  obtain ⟨v1, vs1, d1, ds1, p1, q1, rfl, rfl, rfl, h1, r1⟩ := trodAll_cons r0
  obtain ⟨v2, vs2, d2, ds2, p2, q2, rfl, rfl, rfl, h2, r2⟩ := trodAll_cons r1
  obtain ⟨rfl, rfl, rfl⟩ := trodAll_nil r2
  obtain rfl : args = #[v0, v1, v2] := by cases args; simp_all
  obtain ⟨rfl, rfl⟩ := trodVars_none hV
  obtain ⟨a0, rfl, rfl, rfl, w0⟩ := open_int Try.underlying3 (hval 0 3 v0 rfl rfl) h0
  obtain ⟨a1, rfl, rfl, rfl, w1⟩ := open_int Try.underlying3 (hval 1 3 v1 rfl rfl) h1
  obtain ⟨sa2, sl2, sc2, rfl⟩ := okWide_slice Try.underlying34 (hval 2 34 v2 rfl rfl)
  have h2' := h2
  obtain ⟨fuel2, hf2⟩ := h2
  obtain ⟨l2, hs2, hl2⟩ := open_bytes (v := .slice sa2 sl2 sc2) hf2
  have hlt2 : ∀ x ∈ p2, x.block < W.heap.size := fun x hx => hW'.lt x (by simp [hx])
  clear hA0 hval0
  refine (forms_walk a0 a1 _ l2 W w0 w1 hs2 hl2).mono fun e W' ⟨he, hg⟩ => ?_
  subst he
  exact ⟨_, rfl, post_quiet (pa := ([] ++ ([] ++ (p2 ++ [])))) (pv := []) hW' hg (fun _ _ _ => (trodAll_cons_mk (shut_bool Try.underlying4 _) trodAll_mk0)) (fun sp hsp => (trodAll_cons_mk (shut_int Try.underlying3 w0) (trodAll_cons_mk (shut_int Try.underlying3 w1) (trodAll_cons_mk (arg_stays (by kernel_rfl) (of_decide_eq_true (by kernel_rfl)) h2' hg hlt2 (fun x hx => hsp x (by simp [hx]))) trodAll_mk0)))) (fun _ _ => rfl) (by simp) (ok_one (by kernel_rfl) rfl (okWide_bool_mk Try.underlying4 _))⟩

theorem forms_over : Rows.diskFormsRow.holds Try.pinned (OpenSpec.ofChange Rows.diskFormsSpec) :=
  OpenClaim.holds_of_wide 6 Try.f6 rfl rfl rfl rfl rfl rfl rfl ⟨rfl, rfl, rfl, rfl, rfl⟩ rfl rfl rfl rfl rfl (by kernel_rfl) Try.func6 (by kernel_rfl)
    (of_decide_eq_true (by kernel_rfl)) (by unfold Func.isWrapper; first | (rw [if_pos (by decide +kernel)]; kernel_rfl) | (rw [if_neg (by decide +kernel)]; exact ⟨rfl, rfl⟩))
    (fun os started H enc _ => forms_lifted os started H enc)

/-- The statement. -/
theorem forms_holds : Rows.DiskFormsSaid :=
  forms_over
#print axioms forms_holds
end Go.Proofs.Ytchljhjngnbclaa

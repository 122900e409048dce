/- ScanNumbers, for every input: it returns true, and its arguments read behind the call as they did: which numbers there are. No condition but what the given card says of the library's own variables. -/
import Derived.Test.YtajkdkemnchfnaaDoorC10
import Derived.Test.YtajkdkemnchfnaaDoorCL
namespace Go.Proofs.YtajkdkemnchfnaaDoor
open Go.ChangeShapes Go.WideShapes Go.ChangeAt Go.RowKit Go.Maps
open Go.ChangeMaps (open_string shut_string)
set_option linter.unusedSimpArgs false
set_option linter.unusedVariables false

theorem ex_big1 : lex [57, 50, 50, 51, 51, 55, 50, 48, 51, 54, 56, 53, 52, 55, 55, 53, 56, 48, 56] = .error 0 := by kernel_rfl
theorem ex_big2 : lex [49, 48, 48, 48, 48, 48, 48, 48, 48, 48, 48, 48, 48, 48, 48, 48, 48, 48, 48, 48] = .error 0 := by kernel_rfl
theorem strOf_list (l : Sec) : (strOf l).data.toList = l := by simp [strOf]
theorem str_same {s : ByteArray} : (s.toList != s.toList) = false := by simp

/-- A text that is refused. -/
theorem Tokens_error (s : ByteArray) (p : Nat) (w : World) (hl : s.size ≤ 480) (h : lex s.data.toList = .error p) (he : Errs w) :
    Calls Tryd.prog 10 #[.string s] w fun e w' => ∃ g, e = .returned (.tuple #[.slice none 0 0, .iface 43 (.pointer (some ⟨g, 0, none⟩))]) ∧ Only [] w w' := by
  refine (Tokens_any s w (by omega) he).mono ?_
  rintro e w' ⟨v, ev, rfl, hr, ho⟩
  obtain ⟨rfl, g, rfl, -, -⟩ := hr.bad (by rw [bytesLen]; exact hl) h
  exact ⟨g, rfl, ho⟩

set_option maxRecDepth 100000 in
set_option maxHeartbeats 4000000 in
theorem numbers_pos (a : Int) (m : Nat) (z : Int) (u q : Nat) (w : World) (hm : m < 9223372036854775808) (ha : a = (m : Int)) (hu : IntKind.u64.wrap z = (u : Int)) (hq : (u : Int) % 5 = (q : Int)) (hq5 : q < 5) (he : Errs w) :
    Calls Tryd.prog 7 #[.int .i64 a, .int .i64 z] w fun e w' => e = .returned (.bool true) ∧ Only [] w w' := by
  subst ha
  have hb1 : 0 ≤ (m : Int) := by omega
  have hb2 : True := trivial
  have KA := alive6_any w he
  have KD0 := fun W => Decimal_any m W hm
  have HE := Lib.hid he
  clear he
  go_enter Tryd.func7, Tryd.ntmps7
  go_wp2_with fail
  refine KA.mono ?_
  rintro e w1 ⟨rfl, o1⟩
  have HO1 := Lib.hid o1
  have KD := KD0 w1
  clear o1 KA KD0
  go_wp2_with fail
  refine KD.mono ?_
  rintro e w2 ⟨rfl, o2⟩
  have HO2 := Lib.hid (HO1.out.trans o2 (by simp))
  clear o2 KD HO1
  have hml := dec_short hm
  have hsz : (strOf (decL m)).size ≤ 480 := by rw [strOf_len]; omega
  have hlx := lex_dec hm
  have K1 := Tokens_any (strOf (decL m)) w2 (by omega) (HE.out.kept HO2.out)
  clear hb1 hb2
  go_wp2_with fail
  refine K1.mono ?_
  rintro e w3 ⟨v, ev, rfl, hr, o3⟩
  rw [strOf_list] at hr
  obtain ⟨rfl, hown⟩ := hr.ok (by omega) hlx
  have HO3 := Lib.hid (HO2.out.trans o3 (by simp))
  obtain ⟨b, cap, hv, hcap, c0, c1, -⟩ := hown.tv.at_ (i := 0) (x := ⟨2, decL m, 0⟩) rfl
  simp only [List.length_cons, List.length_nil, Nat.reduceAdd, Nat.zero_mul] at hv hcap c0 c1
  obtain rfl := hv
  have HDG := Lib.hid (decL_dig _ m (Nat.lt_succ_self m))
  have HNE := Lib.hid (decL_ne m)
  have HT0 := Lib.hid (show (decL m).length ≤ 19 from hml)
  generalize decL m = t0 at c1 HDG HNE HT0 hsz
  have hsame := str_same (s := strOf t0)
  clear hr hown o3 K1 hlx hml HO2
  go_wp2_with fail
  clear c0 c1 hsame hcap
  obtain ⟨wo, hwo⟩ : ∃ wo : World, wo = w := ⟨_, rfl⟩
  have EK := fun (W : World) (h : Only [] wo W) => (show Errs W from HE.out.kept (by rw [← hwo]; exact h))
  have HEK := Lib.hid EK
  clear EK
  go_loopg [5, 8] q (fun gk s5 s8 wr => ∃ (k : Nat) (t : Sec), s8 = .int .i64 k ∧ k + gk = q ∧ s5 = .string (strOf t) ∧ Hid (∀ c ∈ t, isDig c = true) ∧ Hid (t ≠ []) ∧ t.length ≤ 19 + k ∧ Hid (Only [] wo wr))
  case atStart => exact ⟨0, t0, rfl, by omega, rfl, HDG, HNE, by have := HT0.out; omega, Lib.hid (by rw [hwo]; exact HO3.out)⟩
  case round =>
    clear HO3 HDG HNE HT0 hsz
    obtain ⟨k, t, rfl, hkg, rfl, HD, HN, hlt, HO⟩ := hrel
    by_cases hk : k < q
    · have hadd := fun W => add_str (a := [48]) (b := t) (c := 48 :: t) rfl (by simp; omega) (A := ⟨#[48]⟩) rfl rfl rfl W
      have hln := lex_nought HD.out HN.out
      have K := fun W he => Tokens_error (strOf (48 :: t)) 0 W (by rw [strOf_len]; simp; omega) (by rw [strOf_list]; exact hln) he
      have HD2 : Hid (∀ c ∈ (48 : UInt8) :: t, isDig c = true) := Lib.hid (fun c hc => by
        rcases List.mem_cons.1 hc with e | e
        · rw [e]; rfl
        · exact HD.out c e)
      have HN2 : Hid ((48 : UInt8) :: t ≠ []) := Lib.hid (by simp)
      have HK := Lib.hid K
      clear hln K HD HN
      generalize hTt : strOf (48 :: t) = T2 at hadd HK
      have HT2 := Lib.hid hTt
      generalize strOf t = T at hadd
      clear hTt
      go_wp2_with fail
      refine (HK.out wr (HEK.out wr HO.out)).mono ?_
      rintro e w4 ⟨g, rfl, o4⟩
      have HO4 := Lib.hid (HO.out.trans o4 (by simp))
      clear o4 HK HO hadd
      go_wp2_with fail
      go_roundg (q - (k + 1))
      case measure => omega
      case rel => exact ⟨k + 1, 48 :: t, by go_num, by omega, by rw [HT2.out], HD2, HN2, by simp; omega, HO4⟩
    · obtain rfl : k = q := by omega
      have K1 := Tokens_error ⟨#[57, 50, 50, 51, 51, 55, 50, 48, 51, 54, 56, 53, 52, 55, 55, 53, 56, 48, 56]⟩ 0 wr (by decide) ex_big1 (HEK.out wr HO.out)
      clear HD HN
      go_wp2_with fail
      refine K1.mono ?_
      rintro e w4 ⟨g, rfl, o4⟩
      have HO4 := Lib.hid (HO.out.trans o4 (by simp))
      clear o4 K1 HO
      have K2 := Tokens_error ⟨#[49, 48, 48, 48, 48, 48, 48, 48, 48, 48, 48, 48, 48, 48, 48, 48, 48, 48, 48, 48]⟩ 0 w4 (by decide) ex_big2 (HEK.out w4 HO4.out)
      go_wp2_with fail
      refine K2.mono ?_
      rintro e w5 ⟨g2, rfl, o5⟩
      have HO5 := Lib.hid (HO4.out.trans o5 (by simp))
      clear o5 K2 HO4
      go_wp2_with fail
      go_ret
      exact ⟨rfl, by rw [← hwo]; exact HO5.out⟩
set_option maxRecDepth 100000 in
set_option maxHeartbeats 4000000 in
theorem numbers_neg (a : Int) (m : Nat) (z : Int) (u q : Nat) (w : World) (hm : m < 9223372036854775808) (ha : -(a + 1) = (m : Int)) (hb1 : -9223372036854775808 ≤ a) (hb2 : a < 0) (hu : IntKind.u64.wrap z = (u : Int)) (hq : (u : Int) % 5 = (q : Int)) (hq5 : q < 5) (he : Errs w) :
    Calls Tryd.prog 7 #[.int .i64 a, .int .i64 z] w fun e w' => e = .returned (.bool true) ∧ Only [] w w' := by
  have KA := alive6_any w he
  have KD0 := fun W => Decimal_any m W hm
  have HE := Lib.hid he
  clear he
  go_enter Tryd.func7, Tryd.ntmps7
  go_wp2_with fail
  refine KA.mono ?_
  rintro e w1 ⟨rfl, o1⟩
  have HO1 := Lib.hid o1
  have KD := KD0 w1
  clear o1 KA KD0
  go_wp2_with fail
  refine KD.mono ?_
  rintro e w2 ⟨rfl, o2⟩
  have HO2 := Lib.hid (HO1.out.trans o2 (by simp))
  clear o2 KD HO1
  have hml := dec_short hm
  have hsz : (strOf (decL m)).size ≤ 480 := by rw [strOf_len]; omega
  have hlx := lex_dec hm
  have K1 := Tokens_any (strOf (decL m)) w2 (by omega) (HE.out.kept HO2.out)
  clear hb1 hb2
  go_wp2_with fail
  refine K1.mono ?_
  rintro e w3 ⟨v, ev, rfl, hr, o3⟩
  rw [strOf_list] at hr
  obtain ⟨rfl, hown⟩ := hr.ok (by omega) hlx
  have HO3 := Lib.hid (HO2.out.trans o3 (by simp))
  obtain ⟨b, cap, hv, hcap, c0, c1, -⟩ := hown.tv.at_ (i := 0) (x := ⟨2, decL m, 0⟩) rfl
  simp only [List.length_cons, List.length_nil, Nat.reduceAdd, Nat.zero_mul] at hv hcap c0 c1
  obtain rfl := hv
  have HDG := Lib.hid (decL_dig _ m (Nat.lt_succ_self m))
  have HNE := Lib.hid (decL_ne m)
  have HT0 := Lib.hid (show (decL m).length ≤ 19 from hml)
  generalize decL m = t0 at c1 HDG HNE HT0 hsz
  have hsame := str_same (s := strOf t0)
  clear hr hown o3 K1 hlx hml HO2
  go_wp2_with fail
  clear c0 c1 hsame hcap
  obtain ⟨wo, hwo⟩ : ∃ wo : World, wo = w := ⟨_, rfl⟩
  have EK := fun (W : World) (h : Only [] wo W) => (show Errs W from HE.out.kept (by rw [← hwo]; exact h))
  have HEK := Lib.hid EK
  clear EK
  go_loopg [5, 8] q (fun gk s5 s8 wr => ∃ (k : Nat) (t : Sec), s8 = .int .i64 k ∧ k + gk = q ∧ s5 = .string (strOf t) ∧ Hid (∀ c ∈ t, isDig c = true) ∧ Hid (t ≠ []) ∧ t.length ≤ 19 + k ∧ Hid (Only [] wo wr))
  case atStart => exact ⟨0, t0, rfl, by omega, rfl, HDG, HNE, by have := HT0.out; omega, Lib.hid (by rw [hwo]; exact HO3.out)⟩
  case round =>
    clear HO3 HDG HNE HT0 hsz
    obtain ⟨k, t, rfl, hkg, rfl, HD, HN, hlt, HO⟩ := hrel
    by_cases hk : k < q
    · have hadd := fun W => add_str (a := [48]) (b := t) (c := 48 :: t) rfl (by simp; omega) (A := ⟨#[48]⟩) rfl rfl rfl W
      have hln := lex_nought HD.out HN.out
      have K := fun W he => Tokens_error (strOf (48 :: t)) 0 W (by rw [strOf_len]; simp; omega) (by rw [strOf_list]; exact hln) he
      have HD2 : Hid (∀ c ∈ (48 : UInt8) :: t, isDig c = true) := Lib.hid (fun c hc => by
        rcases List.mem_cons.1 hc with e | e
        · rw [e]; rfl
        · exact HD.out c e)
      have HN2 : Hid ((48 : UInt8) :: t ≠ []) := Lib.hid (by simp)
      have HK := Lib.hid K
      clear hln K HD HN
      generalize hTt : strOf (48 :: t) = T2 at hadd HK
      have HT2 := Lib.hid hTt
      generalize strOf t = T at hadd
      clear hTt
      go_wp2_with fail
      refine (HK.out wr (HEK.out wr HO.out)).mono ?_
      rintro e w4 ⟨g, rfl, o4⟩
      have HO4 := Lib.hid (HO.out.trans o4 (by simp))
      clear o4 HK HO hadd
      go_wp2_with fail
      go_roundg (q - (k + 1))
      case measure => omega
      case rel => exact ⟨k + 1, 48 :: t, by go_num, by omega, by rw [HT2.out], HD2, HN2, by simp; omega, HO4⟩
    · obtain rfl : k = q := by omega
      have K1 := Tokens_error ⟨#[57, 50, 50, 51, 51, 55, 50, 48, 51, 54, 56, 53, 52, 55, 55, 53, 56, 48, 56]⟩ 0 wr (by decide) ex_big1 (HEK.out wr HO.out)
      clear HD HN
      go_wp2_with fail
      refine K1.mono ?_
      rintro e w4 ⟨g, rfl, o4⟩
      have HO4 := Lib.hid (HO.out.trans o4 (by simp))
      clear o4 K1 HO
      have K2 := Tokens_error ⟨#[49, 48, 48, 48, 48, 48, 48, 48, 48, 48, 48, 48, 48, 48, 48, 48, 48, 48, 48, 48]⟩ 0 w4 (by decide) ex_big2 (HEK.out w4 HO4.out)
      go_wp2_with fail
      refine K2.mono ?_
      rintro e w5 ⟨g2, rfl, o5⟩
      have HO5 := Lib.hid (HO4.out.trans o5 (by simp))
      clear o5 K2 HO4
      go_wp2_with fail
      go_ret
      exact ⟨rfl, by rw [← hwo]; exact HO5.out⟩
theorem numbers_walk (a z : Int) (w : World) (ha : (Lit.int .i64 a).wf = true) (hz : (Lit.int .i64 z).wf = true) (he : Errs w) :
    Calls Tryd.prog 7 #[.int .i64 a, .int .i64 z] w fun e w' => e = .returned (.bool true) ∧ Only [] w w' := by
  have hab : -9223372036854775808 ≤ a ∧ a < 9223372036854775808 := by
    have e1 : IntKind.i64.min = -9223372036854775808 := rfl
    have e2 : IntKind.i64.max = 9223372036854775807 := rfl
    simp [Lit.wf, e1, e2] at ha
    omega
  obtain ⟨u, hu⟩ : ∃ u : Nat, IntKind.u64.wrap z = (u : Int) := ⟨(IntKind.u64.wrap z).toNat, by rw [IntKind.wrap_u64]; omega⟩
  by_cases hn : a < 0
  · exact numbers_neg a (-(a + 1)).toNat z u (u % 5) w (by omega) (by omega) hab.1 hn hu (by omega) (by omega) he
  · exact numbers_pos a a.toNat z u (u % 5) w (by omega) (by omega) hu (by omega) (by omega) he

set_option maxRecDepth 100000 in
theorem numbers_lifted (os : Os) (started : os.Started) (H : Type) (enc : TypeId × Value → H) :
    ReturnsInHanded {} Tryd.checked os 7 .any (fun w args => (Rows.scanNumbersSpec.pre enc Tryd.prog Tryd.f7 Rows.scanNumbersRow.domain false w args ∧ laidMet Tryd.prog laid5 w) ∧ sizedMet enc Tryd.prog Tryd.f7 (OpenSpec.ofChange Rows.scanNumbersSpec) false w args)
      (Rows.scanNumbersSpec.post enc Tryd.prog Tryd.f7 false true false false) := by
  refine returnsInHanded_of_change_and (C := Tryd.checked) (X := (fun w _ => laidMet Tryd.prog laid5 w)) (fun _ _ _ hh h => h.of_heap hh) law_own started (by kernel_rfl) Tryd.func7
    (ChangeSpec.witness_at (enc := enc) (C := Tryd.checked) (os := os) (X := (fun w _ => laidMet Tryd.prog laid5 w)) false (laidWorld os) #[.int .i64 0, .int .i64 0] 8 rfl (by kernel_rfl) (by kernel_rfl) (by kernel_rfl) (by kernel_rfl) (by kernel_rfl) (laidWorld_met os _)) ?_
  intro W base args ds gs before hval0 hW hcnd hsz0 hL _
  have hE := errs_of_laid hL
  have hval : ∀ (j : Nat) t v, Tryd.f7.params[j]? = some t → args[j]? = some v → Value.okWide Tryd.prog W .any base t v := hval0
  have hW' := hW
  obtain ⟨p, q, hA0, hV, rfl, hfz, hnd⟩ := hW'
  have hA : DataW.TrodAll enc Tryd.prog W 0 (fun _ => true) true Tryd.f7.params.toList args.toList ds p := hA0
  rw [Tryd.params7] at hA hval
  obtain ⟨v0, vs0, d0, ds0, p0, q0, hargs, rfl, rfl, h0, r0⟩ := trodAll_cons hA
  obtain ⟨v1, vs1, d1, ds1, p1, q1, rfl, rfl, rfl, h1, r1⟩ := trodAll_cons r0
  obtain ⟨rfl, rfl, rfl⟩ := trodAll_nil r1
  obtain rfl : args = #[v0, v1] := by cases args; simp_all
  obtain ⟨rfl, rfl⟩ := trodVars_none hV
  obtain ⟨a0, rfl, rfl, rfl, w0⟩ := open_int Tryd.underlying3 (hval 0 3 v0 rfl rfl) h0
  obtain ⟨a1, rfl, rfl, rfl, w1⟩ := open_int Tryd.underlying3 (hval 1 3 v1 rfl rfl) h1
  clear hA0 hval0
  refine (numbers_walk a0 a1  W w0 w1 hE).mono fun e W' ⟨he, hg⟩ => ?_
  subst he
  exact ⟨_, rfl, post_quiet (pa := ([] ++ ([] ++ []))) (pv := []) hW hg (fun _ _ _ => (trodAll_cons_mk (shut_bool Tryd.underlying4 _) trodAll_mk0)) (fun sp hsp => (trodAll_cons_mk (shut_int Tryd.underlying3 w0) (trodAll_cons_mk (shut_int Tryd.underlying3 w1) trodAll_mk0))) (fun _ _ => rfl) (by simp) (ok_one (by kernel_rfl) rfl (okWide_bool_mk Tryd.underlying4 _))⟩

theorem numbers_over : Rows.scanNumbersRow.holds Tryd.pinned (OpenSpec.ofChange Rows.scanNumbersSpec) :=
  OpenClaim.holds_of_wide 7 Tryd.f7 rfl rfl rfl rfl rfl rfl rfl ⟨rfl, rfl, rfl, rfl, rfl⟩ rfl rfl rfl rfl rfl (by kernel_rfl) Tryd.func7 (by kernel_rfl)
    (of_decide_eq_true (by kernel_rfl)) (by unfold Func.isWrapper; first | (rw [if_pos (by decide +kernel)]; kernel_rfl) | (rw [if_neg (by decide +kernel)]; exact ⟨rfl, rfl⟩))
    (fun os started H enc _ => numbers_lifted os started H enc)

/-- The statement: the card. -/
theorem numbers_holds : Rows.ScanNumbersCardSaid :=
  Claim7.holds_tied_plain_at .later [] [.data, .data, .data, .sentinel, .sentinel] true (true, "fe9ae79661f9d8582860fffd84f4806e09c512767161fd4ad4c3463c3221bbf6") true
    numbers_over (fun _ h => by cases h) (by kernel_rfl) (fun _ h => by cases h) scanNumbers_row_tie rfl ⟨rfl, rfl⟩ (by kernel_rfl) rfl
    (fun f fn hf hfn => by
      obtain rfl : f = 7 := Option.some.inj ((show Tryd.prog.funcNamed Rows.scanNumbersRow.func = some 7 by kernel_rfl).symm.trans hf) |>.symm
      obtain rfl : fn = Tryd.f7 := (Option.some.inj (Tryd.func7.symm.trans hfn)).symm
      exact ⟨by kernel_rfl, fun j t ht => by
        rw [Tryd.params7] at ht
        rcases j with _ | _ | j
        · obtain rfl : t = 3 := by simpa using ht.symm
          exact (show Tryd.prog.wantsStandIn 3 = false by kernel_rfl)
        · obtain rfl : t = 3 := by simpa using ht.symm
          exact (show Tryd.prog.wantsStandIn 3 = false by kernel_rfl)
        · simp at ht⟩)
    (by kernel_rfl)
#print axioms numbers_holds

end Go.Proofs.YtajkdkemnchfnaaDoor

/- ScanTokens, for every input: it returns true, and its argument reads behind the call as it did: which tokens every text has, or its first fault. No condition but what the given card says of the library's own variables. -/
import Derived.Test.YtajkdkemnchfnaaDoorC14
import Derived.Test.YtajkdkemnchfnaaDoorC11
import Derived.Test.YtajkdkemnchfnaaDoorC8
import Derived.Test.YtajkdkemnchfnaaDoorCL
namespace Go.Proofs.YtajkdkemnchfnaaDoor
open Go.ChangeShapes Go.WideShapes Go.ChangeAt Go.RowKit Go.Maps
open Go.ChangeMaps (open_string shut_string)
set_option linter.unusedSimpArgs false
set_option linter.unusedVariables false

set_option maxRecDepth 100000 in
set_option maxHeartbeats 4000000 in
theorem tokens_walk (s : ByteArray) (w : World) (hs : s.size ≤ maxLen) (he : Errs w) :
    Calls Tryd.prog 3 #[.string s] w fun e w' => e = .returned (.bool true) ∧ Only [] w w' := by
  unfold maxLen at hs
  have KA := alive6_any w he
  have HE := Lib.hid he
  clear he
  go_enter Tryd.func3, Tryd.ntmps3
  go_wp2_with fail
  refine KA.mono ?_
  rintro e w1 ⟨rfl, o1⟩
  have HO1 := Lib.hid o1
  have K1 := Tokens_any s w1 hs (HE.out.kept o1)
  clear o1 KA
  go_wp2_with fail
  refine K1.mono ?_
  rintro e w2 ⟨v, ev, rfl, hr, o2⟩
  have HO2 := Lib.hid (HO1.out.trans o2 (by simp))
  have K2 := RTokens_any s w2 hs
  clear o2 K1 HO1
  go_wp2_with fail
  refine K2.mono ?_
  rintro e w3 ⟨v2, c, p, rfl, hq, o3⟩
  rcases hr with ⟨hl, rfl, hf⟩ | ⟨hl, k, hx, rfl, hf⟩ | ⟨hl, ts, hx, rfl, hown⟩
  · obtain ⟨rfl, rfl, rfl⟩ : v2 = .slice none 0 0 ∧ c = 2 ∧ p = 0 := by
      rcases hq with ⟨_, h⟩ | ⟨h, _⟩ | ⟨h, _⟩
      · exact h
      · omega
      · omega
    clear hl
    have K3 := Fault_is ev 2 0 w3 (hf.quiet o3)
    obtain ⟨g, rfl, -, -⟩ := hf
    have HO3 := Lib.hid (HO2.out.trans o3 (by simp))
    clear hq o3 HO2 K2
    go_wp2_with fail
    refine K3.mono ?_
    rintro e w4 ⟨rfl, o4⟩
    have HO4 := Lib.hid (HO3.out.trans o4 (by simp))
    clear o4 K3 HO3
    have K4 := Same_yes (.slice none 0 0) (.slice none 0 0) [] w4 (by simp) (TV.nil _) (TV.nil _)
    go_wp2_with (go_at_call 13; refine K4.mono ?_; rintro e w5 ⟨rfl, o5⟩; have HO5 := Lib.hid (HO4.out.trans o5 (by simp)); clear o5)
    go_ret
    exact ⟨rfl, HO5.out⟩
  · obtain ⟨rfl, rfl, rfl⟩ : v2 = .slice none 0 0 ∧ c = 7 ∧ p = k := by
      rcases hq with ⟨h, _⟩ | ⟨_, q, h, h1, h2, h3⟩ | ⟨_, us, h, _⟩
      · omega
      · rw [hx] at h
        cases h
        exact ⟨h1, h2, h3⟩
      · rw [hx] at h
        cases h
    clear hl hx
    have K3 := Fault_is ev 7 k w3 (hf.quiet o3)
    obtain ⟨g, rfl, -, -⟩ := hf
    have HO3 := Lib.hid (HO2.out.trans o3 (by simp))
    clear hq o3 HO2 K2
    go_wp2_with fail
    refine K3.mono ?_
    rintro e w4 ⟨rfl, o4⟩
    have HO4 := Lib.hid (HO3.out.trans o4 (by simp))
    clear o4 K3 HO3
    have K4 := Same_yes (.slice none 0 0) (.slice none 0 0) [] w4 (by simp) (TV.nil _) (TV.nil _)
    go_wp2_with (go_at_call 13; refine K4.mono ?_; rintro e w5 ⟨rfl, o5⟩; have HO5 := Lib.hid (HO4.out.trans o5 (by simp)); clear o5)
    go_ret
    exact ⟨rfl, HO5.out⟩
  · have hlen := lex_len hx
    obtain ⟨rfl, rfl, hown2⟩ : c = 0 ∧ p = 0 ∧ OTk w3 w2.heap.size v2 ts := by
      rcases hq with ⟨h, _⟩ | ⟨_, q, h, _⟩ | ⟨_, us, h, h1, h2, h3⟩
      · omega
      · rw [hx] at h
        cases h
      · rw [hx] at h
        cases h
        exact ⟨h1, h2, h3⟩
    have K3 := Fault_nil w3
    have K4 := Same_yes v v2 ts w3 (by omega) (hown.tv.quiet o3) hown2.tv
    have HO3 := Lib.hid (HO2.out.trans o3 (by simp))
    clear hq hown hown2 hx o3 HO2 K2 hl hlen
    go_wp2_with fail
    refine K3.mono ?_
    rintro e w4 ⟨rfl, rfl⟩
    clear K3
    go_wp2_with (go_at_call 13; refine K4.mono ?_; rintro e w5 ⟨rfl, o5⟩; have HO5 := Lib.hid (HO3.out.trans o5 (by simp)); clear o5)
    go_ret
    exact ⟨rfl, HO5.out⟩

set_option maxRecDepth 100000 in
theorem tokens_lifted (os : Os) (started : os.Started) (H : Type) (enc : TypeId × Value → H) :
    ReturnsInHanded {} Tryd.checked os 3 .any (fun w args => (Rows.scanTokensSpec.pre enc Tryd.prog Tryd.f3 Rows.scanTokensRow.domain false w args ∧ laidMet Tryd.prog laid5 w) ∧ sizedMet enc Tryd.prog Tryd.f3 (OpenSpec.ofChange Rows.scanTokensSpec) false w args)
      (Rows.scanTokensSpec.post enc Tryd.prog Tryd.f3 false true false false) := by
  refine returnsInHanded_of_change_and (C := Tryd.checked) (X := (fun w _ => laidMet Tryd.prog laid5 w)) (fun _ _ _ hh h => h.of_heap hh) law_own started (by kernel_rfl) Tryd.func3
    (ChangeSpec.witness_at (enc := enc) (C := Tryd.checked) (os := os) (X := (fun w _ => laidMet Tryd.prog laid5 w)) false (laidWorld os) #[.string ⟨#[]⟩] 8 rfl (by kernel_rfl) (by kernel_rfl) (by kernel_rfl) (by kernel_rfl) (by kernel_rfl) (laidWorld_met os _)) ?_
  intro W base args ds gs before hval0 hW hcnd hsz0 hL _
  have hE := errs_of_laid hL
  have hval : ∀ (j : Nat) t v, Tryd.f3.params[j]? = some t → args[j]? = some v → Value.okWide Tryd.prog W .any base t v := hval0
  have hW' := hW
  obtain ⟨p, q, hA0, hV, rfl, hfz, hnd⟩ := hW'
  have hA : DataW.TrodAll enc Tryd.prog W 0 (fun _ => true) true Tryd.f3.params.toList args.toList ds p := hA0
  rw [Tryd.params3] at hA hval
  obtain ⟨v0, vs0, d0, ds0, p0, q0, hargs, rfl, rfl, h0, r0⟩ := trodAll_cons hA
  obtain ⟨rfl, rfl, rfl⟩ := trodAll_nil r0
  obtain rfl : args = #[v0] := by cases args; simp_all
  obtain ⟨rfl, rfl⟩ := trodVars_none hV
  obtain ⟨a0, rfl, rfl, rfl, w0⟩ := open_string Tryd.underlying9 (hval 0 9 v0 rfl rfl) h0
  clear hA0 hval0
  refine (tokens_walk a0  W w0 hE).mono fun e W' ⟨he, hg⟩ => ?_
  subst he
  exact ⟨_, rfl, post_quiet (pa := ([] ++ [])) (pv := []) hW hg (fun _ _ _ => (trodAll_cons_mk (shut_bool Tryd.underlying4 _) trodAll_mk0)) (fun sp hsp => (trodAll_cons_mk (shut_string Tryd.underlying9 w0) trodAll_mk0)) (fun _ _ => rfl) (by simp) (ok_one (by kernel_rfl) rfl (okWide_bool_mk Tryd.underlying4 _))⟩

theorem tokens_over : Rows.scanTokensRow.holds Tryd.pinned (OpenSpec.ofChange Rows.scanTokensSpec) :=
  OpenClaim.holds_of_wide 3 Tryd.f3 rfl rfl rfl rfl rfl rfl rfl ⟨rfl, rfl, rfl, rfl, rfl⟩ rfl rfl rfl rfl rfl (by kernel_rfl) Tryd.func3 (by kernel_rfl)
    (of_decide_eq_true (by kernel_rfl)) (by unfold Func.isWrapper; first | (rw [if_pos (by decide +kernel)]; kernel_rfl) | (rw [if_neg (by decide +kernel)]; exact ⟨rfl, rfl⟩))
    (fun os started H enc _ => tokens_lifted os started H enc)

/-- The statement: the card. -/
theorem tokens_holds : Rows.ScanTokensCardSaid :=
  Claim7.holds_tied_plain_at .later [] [.data, .data, .data, .sentinel, .sentinel] true (true, "fe9ae79661f9d8582860fffd84f4806e09c512767161fd4ad4c3463c3221bbf6") true
    tokens_over (fun _ h => by cases h) (by kernel_rfl) (fun _ h => by cases h) scanTokens_row_tie rfl ⟨rfl, rfl⟩ (by kernel_rfl) rfl
    (fun f fn hf hfn => by
      obtain rfl : f = 3 := Option.some.inj ((show Tryd.prog.funcNamed Rows.scanTokensRow.func = some 3 by kernel_rfl).symm.trans hf) |>.symm
      obtain rfl : fn = Tryd.f3 := (Option.some.inj (Tryd.func3.symm.trans hfn)).symm
      exact ⟨by kernel_rfl, fun j t ht => by
        rw [Tryd.params3] at ht
        have h3 : t = 9 := by
          rcases j with _ | j
          · simpa using ht.symm
          · simp at ht
        subst h3
        exact (show Tryd.prog.wantsStandIn 9 = false by kernel_rfl)⟩)
    (by kernel_rfl)
#print axioms tokens_holds

end Go.Proofs.YtajkdkemnchfnaaDoor

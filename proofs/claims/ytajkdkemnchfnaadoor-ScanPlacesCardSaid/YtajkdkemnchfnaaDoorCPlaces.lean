/- ScanPlaces, for every input: it returns true, and its argument reads behind the call as it did: the tokens' texts stand in the text at their places. No condition but what the given card says of the library's own variables. -/
import Derived.Test.YtajkdkemnchfnaaDoorC17
import Derived.Test.YtajkdkemnchfnaaDoorC11
import Derived.Test.YtajkdkemnchfnaaDoorC8
import Derived.Test.YtajkdkemnchfnaaDoorCL
namespace Go.Proofs.YtajkdkemnchfnaaDoor
open Go.ChangeShapes Go.WideShapes Go.ChangeAt Go.RowKit Go.Maps
open Go.ChangeMaps (open_string shut_string)
set_option linter.unusedSimpArgs false
set_option linter.unusedVariables false

set_option maxRecDepth 100000 in
set_option maxHeartbeats 8000000 in
theorem places_walk (s : ByteArray) (w : World) (hs : s.size ≤ maxLen) (he : Errs w) :
    Calls Tryd.prog 4 #[.string s] w fun e w' => e = .returned (.bool true) ∧ Only [] w w' := by
  unfold maxLen at hs
  have KA := alive6_any w he
  have HE := Lib.hid he
  clear he
  go_enter Tryd.func4, Tryd.ntmps4
  go_wp2_with fail
  refine KA.mono ?_
  rintro e w1 ⟨rfl, o1⟩
  have HO1 := Lib.hid o1
  have K2 := Tokens_any s w1 hs (HE.out.kept o1)
  clear o1 KA
  go_wp2_with fail
  refine K2.mono ?_
  rintro e w2 ⟨v, ev, rfl, hr, o2⟩
  have HO2 := Lib.hid (HO1.out.trans o2 (by simp))
  clear o2 HO1
  rcases hr with ⟨hl, rfl, hf⟩ | ⟨hl, k, hx, rfl, hf⟩ | ⟨hl, ts, hx, rfl, hown⟩
  · rw [bytesLen] at hl
    have hl2 : (480 : Int) < s.size := by omega
    have K3 := Fault_is ev 2 0 w2 hf
    obtain ⟨g, rfl, -, -⟩ := hf
    clear HE K2
    go_wp2_with fail
    refine K3.mono ?_
    rintro e w3 ⟨rfl, o3⟩
    have HO3 := Lib.hid (HO2.out.trans o3 (by simp))
    clear o3 K3 HO2
    go_wp2_with fail
    go_ret
    exact ⟨rfl, HO3.out⟩
  · have hk := lex_err hx
    rw [bytesLen] at hk
    have hk2 : (k : Int) < s.size := by omega
    have hk3 : 0 ≤ (k : Int) := by omega
    clear hx
    have K3 := Fault_is ev 7 k w2 hf
    obtain ⟨g, rfl, -, -⟩ := hf
    clear HE K2
    go_wp2_with fail
    refine K3.mono ?_
    rintro e w3 ⟨rfl, o3⟩
    have HO3 := Lib.hid (HO2.out.trans o3 (by simp))
    clear o3 K3 HO2
    go_wp2_with fail
    go_ret
    exact ⟨rfl, HO3.out⟩
  · have hlen := lex_len hx
    rw [bytesLen] at hlen hl
    have HT := Lib.hid hown.tv
    obtain ⟨a, cap, hv, hcap, -⟩ := HT.out
    obtain rfl := hv
    obtain ⟨n, hn⟩ : ∃ n, n = ts.length := ⟨_, rfl⟩
    rw [← hn] at hlen hcap ⊢
    rw [← hn] at HT
    have HN := Lib.hid hn
    have hlx : lexG 0 (s.data.toList.drop 0) = .ok (ts.drop 0) := by rw [List.drop_zero, List.drop_zero, ← lex_eq]; exact hx
    have HLX := Lib.hid hlx
    have hne : ts ≠ [] := lexN_ne _ _ _ _ hx
    have hn0 : 0 < n := by rw [hn]; exact List.length_pos_iff.2 hne
    clear hx hown hn hlx hne K2
    go_wp2_with fail
    obtain ⟨wo, hwo⟩ : ∃ wo : World, wo = w2 := ⟨_, rfl⟩
    go_loopw [7, 56] (fun a7 a56 wr => ∃ i p : Nat, a7 = .int .i64 p ∧ a56 = .int .i64 i ∧ i ≤ n ∧ p ≤ s.size ∧ Hid (i < n → lexG p (s.data.toList.drop p) = .ok (ts.drop i)) ∧ (i = n → p = s.size) ∧ Hid (Only [] wo wr)) (fun _ i _ => n - (intOf i).toNat)
    case atStart => exact ⟨0, 0, rfl, rfl, Nat.zero_le _, Nat.zero_le _, Lib.hid (fun _ => HLX.out), fun h => by omega, Lib.hid (by rw [hwo]; exact Only.refl _ _)⟩
    case round =>
      clear HLX
      obtain ⟨i, p, rfl, rfl, hi, hp, HL, hpe, HO⟩ := hrel
      by_cases hlt : i < n
      · clear hpe
        obtain ⟨t, ht⟩ : ∃ t, ts[i]? = some t := ⟨_, List.getElem?_eq_getElem (by rw [← HN.out]; exact hlt)⟩
        obtain ⟨q1, q2, q3, q4, q5⟩ := place (by rw [bytesLen]; exact hp) (HL.out hlt) ht
        rw [bytesLen] at q2 q5
        rw [← HN.out] at q5
        obtain ⟨b1, d1, e1, -, p1, p2, p3⟩ := (HT.out.quiet (by rw [← hwo]; exact HO.out)).at_ ht
        injection e1 with e1 e1' e1''
        subst e1
        -- the token's text
        obtain ⟨T, hT⟩ : ∃ T, T = strOf t.text := ⟨_, rfl⟩
        have hTs : T.size = t.text.length := by rw [hT, strOf_len]
        rw [← hT] at p2
        have hX : s.extract t.pos (t.pos + T.size) = T := by
          rw [hT]
          apply str_eq_iff.2
          rw [Lib.extract_data, Nat.add_sub_cancel_left, strOf_len]
          exact q3
        have hsl : ∀ W, (Instr.slice 9 (.string s) (some (.int .i64 t.pos)) (some (.int .i64 ((t.pos : Int) + T.size))) none).run Tryd.prog W = .ok (.string T) W := fun W => by
          rw [run_slice_string W 9 s .i64 .i64 (t.pos : Int) ((t.pos : Int) + T.size) Tryd.underlying9 (by omega) (by omega) (by omega)]
          show Result.ok (Value.string (s.extract t.pos (t.pos + T.size))) W = _
          rw [hX]
        have hYd : (s.extract p t.pos).data.toList = (s.data.toList.drop p).take (t.pos - p) := Lib.extract_data _ _ _
        have hYs : (s.extract p t.pos).size = t.pos - p := by rw [← bytesLen, hYd, List.length_take, List.length_drop, bytesLen]; omega
        have KG := fun W => gap_any (s.extract p t.pos) W (by omega) (by rw [hYd, hYs]; exact q4)
        have hsl2 : ∀ W, (Instr.slice 9 (.string s) (some (.int .i64 p)) (some (.int .i64 t.pos)) none).run Tryd.prog W = .ok (.string (s.extract p t.pos)) W := fun W => by
          rw [run_slice_string W 9 s .i64 .i64 (p : Int) (t.pos : Int) Tryd.underlying9 (by omega) (by omega) (by omega)]
          rfl
        generalize s.extract p t.pos = Y at KG hsl2
        have hq2 : t.pos + T.size ≤ s.size := by rw [hTs]; exact q2
        have H5 := Lib.hid q5
        have HTS := Lib.hid hTs
        generalize hps : t.pos = ps at p3 hsl hsl2 q1 hq2 hX
        have HPS := Lib.hid hps
        generalize hkd : t.kind = kd at p1
        have HKD := Lib.hid hkd
        have HTX := Lib.hid hT
        clear hps hkd hT hTs hYd hYs q2 q3 q4 q5 ht e1' e1''
        -- what the tests reckon
        have b1' : (p : Int) ≤ (ps : Int) := by omega
        have b2' : (ps : Int) ≤ (s.size : Int) := by omega
        have b3' : (T.size : Int) ≤ (s.size : Int) - (ps : Int) := by omega
        have b4' : IntKind.i64.wrap ((s.size : Int) - (ps : Int)) = (s.size : Int) - (ps : Int) := IntWalk.i64_in _ (by omega)
        have b5' : IntKind.i64.wrap ((ps : Int) + (T.size : Int)) = (ps : Int) + (T.size : Int) := IntWalk.i64_in _ (by omega)
        have b6' : IntKind.i64.wrap ((n : Int) - 1) = (n : Int) - 1 := IntWalk.i64_in _ (by omega)
        have d1' : decide (ps < p) = false := by simp; omega
        have d2' : decide (s.size < ps) = false := by simp; omega
        have d3' : decide ((s.size : Int) - (ps : Int) < (T.size : Int)) = false := by simp; omega
        have b8' : (ps : Int) + (T.size : Int) ≤ (s.size : Int) := by omega
        have b9' : (ps : Int) ≤ (ps : Int) + (T.size : Int) := by omega
        have b10' : 0 ≤ (ps : Int) := by omega
        have b11' : ((ps : Int) + (T.size : Int)).toNat = ps + T.size := by omega
        have b7' : (T.toList != T.toList) = false := by simp
        have hi0 : 0 ≤ (i : Int) := by omega
        have hin : (i : Int) < (n : Int) := by omega
        have o3 : Only [] wr (wr.alloc (.cells #[.int .i64 kd, .string T, .int .i64 ps] 35)) := (Only.refl [] wr).alloc _
        have HO3 := Lib.hid (HO.out.trans o3 (by simp))
        clear o3 HO
        rcases H5.out with ⟨r1, r2, r3, r4⟩ | ⟨r1, r2, r3, r4⟩
        · have hkd : kd = 4 := by rw [← HKD.out]; exact r1
          have hTe : T = ⟨#[]⟩ := by rw [HTX.out, r3]; rfl
          have hemp : T.toList.isEmpty = true := by rw [ByteArray.toList_eq, hTe]; rfl
          have hTz : T.size = 0 := by rw [hTe]; rfl
          have HPE : Hid (ps + T.size = s.size) := Lib.hid (by rw [hTz, ← HPS.out]; exact r4)
          subst hkd
          clear hTe hTz
          have e1 : ((i : Int) == (n : Int) - 1) = true := by simp; omega
          have HR2 := Lib.hid r2
          clear r1 r2 r3 r4 H5 HKD HTX HTS
          go_wp2_with fail
          go_quiet (fail)
          have HO4 := Lib.hid (only_drewN (n := nq) HO3.out)
          go_wp2_with (go_at_call 14; refine (KG _).mono ?_; rintro e w' ⟨rfl, rfl⟩)
          go_roundw
          case rel => exact ⟨i + 1, ps + T.size, by go_num, by go_num, by omega, hq2, Lib.hid (fun h => absurd h (by have := HR2.out; omega)), fun _ => HPE.out, HO4⟩
          case measure => simp [intOf]; omega
        · have hk4 : ((kd : Int) == 4) = false := by
            rw [beq_eq_false_iff_ne, ← HKD.out]
            omega
          have hTn : T.size ≠ 0 := by rw [HTS.out]; exact fun e => r3 (List.eq_nil_of_length_eq_zero e)
          have hemp := str_full hTn
          have e1 : ((i : Int) == (n : Int) - 1) = false := by
            rw [beq_eq_false_iff_ne]
            omega
          have HL4 : Hid (i + 1 < n → lexG (ps + T.size) (s.data.toList.drop (ps + T.size)) = .ok (ts.drop (i + 1))) := Lib.hid (fun _ => by rw [HTS.out, ← HPS.out]; exact r4)
          clear r1 r3 r4 H5 HKD HTX hTn
          go_wp2_with fail
          go_quiet (fail)
          have HO4 := Lib.hid (only_drewN (n := nq) HO3.out)
          go_wp2_with (go_at_call 14; refine (KG _).mono ?_; rintro e w' ⟨rfl, rfl⟩)
          go_roundw
          case rel => exact ⟨i + 1, ps + T.size, by go_num, by go_num, by omega, hq2, HL4, fun h => by omega, HO4⟩
          case measure => simp [intOf]; omega
      · obtain rfl : i = n := by omega
        have hps : p = s.size := hpe rfl
        subst hps
        clear HL
        go_wp2_with fail
        go_ret
        exact ⟨rfl, HO2.out.trans (by rw [← hwo]; exact HO.out) (by simp)⟩

set_option maxRecDepth 100000 in
theorem places_lifted (os : Os) (started : os.Started) (H : Type) (enc : TypeId × Value → H) :
    ReturnsInHanded {} Tryd.checked os 4 .any (fun w args => (Rows.scanPlacesSpec.pre enc Tryd.prog Tryd.f4 Rows.scanPlacesRow.domain false w args ∧ laidMet Tryd.prog laid5 w) ∧ sizedMet enc Tryd.prog Tryd.f4 (OpenSpec.ofChange Rows.scanPlacesSpec) false w args)
      (Rows.scanPlacesSpec.post enc Tryd.prog Tryd.f4 false true false false) := by
  refine returnsInHanded_of_change_and (C := Tryd.checked) (X := (fun w _ => laidMet Tryd.prog laid5 w)) (fun _ _ _ hh h => h.of_heap hh) law_own started (by kernel_rfl) Tryd.func4
    (ChangeSpec.witness_at (enc := enc) (C := Tryd.checked) (os := os) (X := (fun w _ => laidMet Tryd.prog laid5 w)) false (laidWorld os) #[.string ⟨#[]⟩] 8 rfl (by kernel_rfl) (by kernel_rfl) (by kernel_rfl) (by kernel_rfl) (by kernel_rfl) (laidWorld_met os _)) ?_
  intro W base args ds gs before hval0 hW hcnd hsz0 hL _
  have hE := errs_of_laid hL
  have hval : ∀ (j : Nat) t v, Tryd.f4.params[j]? = some t → args[j]? = some v → Value.okWide Tryd.prog W .any base t v := hval0
  have hW' := hW
  obtain ⟨p, q, hA0, hV, rfl, hfz, hnd⟩ := hW'
  have hA : DataW.TrodAll enc Tryd.prog W 0 (fun _ => true) true Tryd.f4.params.toList args.toList ds p := hA0
  rw [Tryd.params4] at hA hval
  obtain ⟨v0, vs0, d0, ds0, p0, q0, hargs, rfl, rfl, h0, r0⟩ := trodAll_cons hA
  obtain ⟨rfl, rfl, rfl⟩ := trodAll_nil r0
  obtain rfl : args = #[v0] := by cases args; simp_all
  obtain ⟨rfl, rfl⟩ := trodVars_none hV
  obtain ⟨a0, rfl, rfl, rfl, w0⟩ := open_string Tryd.underlying9 (hval 0 9 v0 rfl rfl) h0
  clear hA0 hval0
  refine (places_walk a0  W w0 hE).mono fun e W' ⟨he, hg⟩ => ?_
  subst he
  exact ⟨_, rfl, post_quiet (pa := ([] ++ [])) (pv := []) hW hg (fun _ _ _ => (trodAll_cons_mk (shut_bool Tryd.underlying4 _) trodAll_mk0)) (fun sp hsp => (trodAll_cons_mk (shut_string Tryd.underlying9 w0) trodAll_mk0)) (fun _ _ => rfl) (by simp) (ok_one (by kernel_rfl) rfl (okWide_bool_mk Tryd.underlying4 _))⟩

theorem places_over : Rows.scanPlacesRow.holds Tryd.pinned (OpenSpec.ofChange Rows.scanPlacesSpec) :=
  OpenClaim.holds_of_wide 4 Tryd.f4 rfl rfl rfl rfl rfl rfl rfl ⟨rfl, rfl, rfl, rfl, rfl⟩ rfl rfl rfl rfl rfl (by kernel_rfl) Tryd.func4 (by kernel_rfl)
    (of_decide_eq_true (by kernel_rfl)) (by unfold Func.isWrapper; first | (rw [if_pos (by decide +kernel)]; kernel_rfl) | (rw [if_neg (by decide +kernel)]; exact ⟨rfl, rfl⟩))
    (fun os started H enc _ => places_lifted os started H enc)

/-- The statement: the card. -/
theorem places_holds : Rows.ScanPlacesCardSaid :=
  Claim7.holds_tied_plain_at .later [] [.data, .data, .data, .sentinel, .sentinel] true (true, "fe9ae79661f9d8582860fffd84f4806e09c512767161fd4ad4c3463c3221bbf6") true
    places_over (fun _ h => by cases h) (by kernel_rfl) (fun _ h => by cases h) scanPlaces_row_tie rfl ⟨rfl, rfl⟩ (by kernel_rfl) rfl
    (fun f fn hf hfn => by
      obtain rfl : f = 4 := Option.some.inj ((show Tryd.prog.funcNamed Rows.scanPlacesRow.func = some 4 by kernel_rfl).symm.trans hf) |>.symm
      obtain rfl : fn = Tryd.f4 := (Option.some.inj (Tryd.func4.symm.trans hfn)).symm
      exact ⟨by kernel_rfl, fun j t ht => by
        rw [Tryd.params4] at ht
        have h3 : t = 9 := by
          rcases j with _ | j
          · simpa using ht.symm
          · simp at ht
        subst h3
        exact (show Tryd.prog.wantsStandIn 9 = false by kernel_rfl)⟩)
    (by kernel_rfl)
#print axioms places_holds

end Go.Proofs.YtajkdkemnchfnaaDoor

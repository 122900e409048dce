/- ScanCuts, for every input: it returns true, and its arguments read behind the call as they did: a text that is cut where a token begins. No condition but what the given card says of the library's own variables. -/
import Derived.Test.YtajkdkemnchfnaaDoorC15
import Derived.Test.YtajkdkemnchfnaaDoorC16
import Derived.Test.YtajkdkemnchfnaaDoorC14
import Derived.Test.YtajkdkemnchfnaaDoorC8
import Derived.Test.YtajkdkemnchfnaaDoorCL
namespace Go.Proofs.YtajkdkemnchfnaaDoor
open Go.ChangeShapes Go.WideShapes Go.ChangeAt Go.RowKit Go.Maps
open Go.ChangeMaps (open_string shut_string)
set_option linter.unusedSimpArgs false
set_option linter.unusedVariables false

theorem lexN_ne : ∀ (n at_ : Nat) (l : Sec) (ts : List Tok), lexN n at_ l = .ok ts → ts ≠ []
  | 0, at_, l, ts, h => by
    simp only [lexN, Except.ok.injEq] at h
    rw [← h]
    simp
  | n + 1, at_, l, ts, h => by
    simp only [lexN] at h
    split at h
    · simp only [Except.ok.injEq] at h
      rw [← h]
      simp
    · split at h
      · cases h
      · cases hx : lexN n (at_ + (firstN l).2 + gapN false (l.drop (firstN l).2)) (l.drop ((firstN l).2 + gapN false (l.drop (firstN l).2))) with
        | error e =>
          rw [hx] at h
          cases h
        | ok us =>
          rw [hx] at h
          have h' : (Except.ok (⟨(firstN l).1, l.take (firstN l).2, at_⟩ :: us) : Except Nat (List Tok)) = .ok ts := h
          rw [← Except.ok.inj h']
          simp
theorem lex_ne {l : Sec} {ts : List Tok} (h : lex l = .ok ts) : ts ≠ [] := lexN_ne _ _ _ _ h
theorem quiet_more {P : Program} {f : FuncId} {args : Array Value} {w : World} {n : Nat} {v : Value} (h : Calls P f args (w.drewN n) fun e w' => e = .returned v ∧ ∃ m, w' = (w.drewN n).drewN m) : Calls P f args (w.drewN n) fun e w'' => e = .returned v ∧ ∃ m, w'' = w.drewN m :=
  h.mono fun _ _ ⟨he, m, hm⟩ => ⟨he, n + m, by rw [hm, World.drewN_drewN]⟩

set_option maxRecDepth 100000 in
set_option maxHeartbeats 4000000 in
theorem cuts_short (s : ByteArray) (z : Int) (w : World) (hs : s.size ≤ 480) (hz : (Lit.int .i64 z).wf = true) (he : Errs w) :
    Calls Tryd.prog 8 #[.string s, .int .i64 z] w fun e w' => e = .returned (.bool true) ∧ Only [] w w' := by
  have KA := alive6_any w he
  have HE := Lib.hid he
  obtain ⟨u, hu⟩ : ∃ u : Nat, IntKind.u64.wrap z = (u : Int) := ⟨(IntKind.u64.wrap z).toNat, by rw [IntKind.wrap_u64]; omega⟩
  have HU := Lib.hid hu
  clear he hz hu
  go_enter Tryd.func8, Tryd.ntmps8
  go_wp2_with fail
  refine KA.mono ?_
  rintro e w1 ⟨rfl, o1⟩
  have HO1 := Lib.hid o1
  have K1 := Tokens_any s w1 (by omega) (HE.out.kept o1)
  clear o1 KA
  go_wp2_with fail
  refine K1.mono ?_
  rintro e w2 ⟨v, ev, rfl, hr, o2⟩
  have HO2 := Lib.hid (HO1.out.trans o2 (by simp))
  have HE2 := Lib.hid (HE.out.kept HO2.out)
  clear o2 K1 HO1 HE
  rcases hr with ⟨hl, rfl, hf⟩ | ⟨hl, k, hx, rfl, hf⟩ | ⟨hl, ts, hx, rfl, hown⟩
  · rw [bytesLen] at hl
    omega
  · obtain ⟨g, rfl, -, -⟩ := hf
    clear hx
    go_wp2_with fail
    go_ret
    exact ⟨rfl, HO2.out⟩
  · have hlen := lex_len hx
    rw [bytesLen] at hlen hl
    have hne := List.length_pos_iff.2 (lex_ne hx)
    obtain ⟨n, hn⟩ : ∃ n, n = ts.length := ⟨_, rfl⟩
    have hq : u % n < n := Nat.mod_lt _ (by omega)
    obtain ⟨q, hqq⟩ : ∃ q, q = u % n := ⟨_, rfl⟩
    rw [← hqq] at hq
    obtain ⟨t, ht⟩ : ∃ t, ts[q]? = some t := ⟨_, List.getElem?_eq_getElem (by omega)⟩
    rw [lex_eq] at hx
    obtain ⟨-, hp, hcut⟩ := lexG_cut q 0 s.data.toList ts t hx ht
    rw [Nat.sub_zero, ← lex_eq] at hcut
    rw [bytesLen, Nat.zero_add] at hp
    have HT := Lib.hid hown.tv
    obtain ⟨b, cap, hv, hcap, -, -, c2⟩ := HT.out.at_ ht
    obtain rfl := hv
    rw [← hn] at hlen hcap hne ⊢
    rw [← hn] at HT
    have hmod : (u : Int) % (n : Int) = (q : Int) := by rw [hqq]; omega
    have hn0 : ¬ (n : Int) = 0 := by omega
    have hu := HU.out
    have hX : (s.extract 0 t.pos).data.toList = s.data.toList.take t.pos := by rw [Lib.extract_data, List.drop_zero, Nat.sub_zero]
    have hsl : ∀ W, (Instr.slice 9 (.string s) none (some (.int .i64 t.pos)) none).run Tryd.prog W = .ok (.string (s.extract 0 t.pos)) W := fun W => by
      rw [run_slice_string_to_if W 9 s .i64 _ Tryd.underlying9, if_pos ⟨by omega, by omega⟩]
      rfl
    have hXs : (s.extract 0 t.pos).size ≤ 480 := by rw [← bytesLen, hX, List.length_take, bytesLen]; omega
    have K2 := Tokens_any (s.extract 0 t.pos) w2 (by omega) HE2.out
    rw [hX] at K2
    have HCUT := Lib.hid hcut
    have HTL := Lib.hid ht
    have hXl : (s.data.toList.take t.pos).length ≤ 480 := by rw [← hX, bytesLen]; exact hXs
    have HXL := Lib.hid hXl
    have HN := Lib.hid hn
    generalize s.extract 0 t.pos = X at hsl K2
    obtain ⟨ps, hps⟩ : ∃ ps, ps = t.pos := ⟨_, rfl⟩
    rw [← hps] at c2 hsl
    have HPS := Lib.hid hps
    clear hX hXs hcut ht hx hqq hown hp hXl hps hn
    go_wp2_with fail
    refine K2.mono ?_
    rintro e w3 ⟨v3, ev3, rfl, hr3, o3⟩
    obtain ⟨rfl, hown3⟩ := hr3.ok HXL.out HCUT.out
    have HO3 := Lib.hid (HO2.out.trans o3 (by simp))
    have HT3 := Lib.hid (HT.out.quiet o3)
    have HM := Lib.hid hown3.tv
    have hqt : (ts.take q).length = q := by rw [List.length_take, ← HN.out]; omega
    have hml : (ts.take q ++ [(⟨4, [], t.pos⟩ : Tok)]).length = q + 1 := by rw [List.length_append, hqt]; rfl
    have hmq : (ts.take q ++ [(⟨4, [], t.pos⟩ : Tok)])[q]? = some ⟨4, [], t.pos⟩ := by
      rw [List.getElem?_append_right (by omega), hqt, Nat.sub_self]
      rfl
    have hmt : (ts.take q ++ [(⟨4, [], t.pos⟩ : Tok)]).take q = ts.take q := by
      rw [List.take_append_of_le_length (by omega), List.take_of_length_le (by omega)]
    obtain ⟨b3, cap3, hv3, hcap3, m0, m1, m2⟩ := HM.out.at_ hmq
    obtain rfl := hv3
    have c2' : w3.cell? ⟨b, q * 3 + 2, none⟩ = some (.int .i64 ps) := cell_kept o3 c2 (by simp)
    rw [hml] at hcap3
    rw [hml] at HM
    have T1 := HM.out.first q (by omega)
    rw [hmt] at T1
    have T2 := HT3.out.first q (by rw [← HN.out]; omega)
    have HT1 := Lib.hid T1
    have HT2 := Lib.hid T2
    rw [show strOf [] = ⟨#[]⟩ from rfl] at m1
    rw [← HPS.out] at m2
    rw [hml]
    have hqw : IntKind.i64.wrap ((q : Int) + 1) = (q : Int) + 1 := IntWalk.i64_in _ (by omega)
    have hq0 : 0 ≤ (q : Int) := by omega
    have hq1 : (q : Int) < ((q + 1 : Nat) : Int) := by omega
    have hqn : (q : Int) < (n : Int) := by omega
    clear K2 hr3 o3 hown3 hmod hu hsl hn0 T1 T2 hml hmq hmt hqt HCUT HTL HXL HU HO2 HT HM HT3 c2
    go_wp2_with fail
    go_quiet (fail)
    have S1 := HT1.out.quiet (only_drewN (n := nq) (Only.refl [] w3))
    have S2 := HT2.out.quiet (only_drewN (n := nq) (Only.refl [] w3))
    have HO4 := Lib.hid (only_drewN (n := nq) HO3.out)
    go_wp2_with fail
    clear c2' m0 m1 m2 hqw
    have hl2 : (ts.take q).length ≤ 1048576 := by rw [List.length_take]; omega
    have HS1 := Lib.hid S1
    have HS2 := Lib.hid S2
    generalize w3.drewN nq = w4 at HS1 HS2 HO4 ⊢
    clear S1 S2 HO3 HT1 HT2 hlen
    have hqc : (q : Int) ≤ (cap : Int) := by omega
    have hqc3 : (q : Int) ≤ (cap3 : Int) := by omega
    go_quiet ((go_at_call 13; exact quiet_more (Same_draws _ _ _ _ hl2 (HS1.out.quiet (only_drewN (Only.refl _ _))) (HS2.out.quiet (only_drewN (Only.refl _ _))))))
    go_wp2_with fail
    go_ret
    exact ⟨rfl, only_drewN HO4.out⟩
theorem cuts_walk (s : ByteArray) (z : Int) (w : World) (hs : s.size ≤ maxLen) (hz : (Lit.int .i64 z).wf = true) (he : Errs w) :
    Calls Tryd.prog 8 #[.string s, .int .i64 z] w fun e w' => e = .returned (.bool true) ∧ Only [] w w' := by
  unfold maxLen at hs
  by_cases h : s.size ≤ 480
  · exact cuts_short s z w h hz he
  · have KA := alive6_any w he
    go_enter Tryd.func8, Tryd.ntmps8
    go_wp2_with fail
    refine KA.mono ?_
    rintro e w1 ⟨rfl, o1⟩
    have HO1 := Lib.hid o1
    have K1 := Tokens_any s w1 hs (he.kept o1)
    clear o1 KA he
    go_wp2_with fail
    refine K1.mono ?_
    rintro e w2 ⟨v, ev, rfl, hr, o2⟩
    have HO2 := Lib.hid (HO1.out.trans o2 (by simp))
    clear o2 K1 HO1
    rcases hr with ⟨hl, rfl, hf⟩ | ⟨hl, k, hx, rfl, hf⟩ | ⟨hl, ts, hx, rfl, hown⟩
    · obtain ⟨g, rfl, -, -⟩ := hf
      go_wp2_with fail
      go_ret
      exact ⟨rfl, HO2.out⟩
    · rw [bytesLen] at hl
      omega
    · rw [bytesLen] at hl
      omega

set_option maxRecDepth 100000 in
theorem cuts_lifted (os : Os) (started : os.Started) (H : Type) (enc : TypeId × Value → H) :
    ReturnsInHanded {} Tryd.checked os 8 .any (fun w args => (Rows.scanCutsSpec.pre enc Tryd.prog Tryd.f8 Rows.scanCutsRow.domain false w args ∧ laidMet Tryd.prog laid5 w) ∧ sizedMet enc Tryd.prog Tryd.f8 (OpenSpec.ofChange Rows.scanCutsSpec) false w args)
      (Rows.scanCutsSpec.post enc Tryd.prog Tryd.f8 false true false false) := by
  refine returnsInHanded_of_change_and (C := Tryd.checked) (X := (fun w _ => laidMet Tryd.prog laid5 w)) (fun _ _ _ hh h => h.of_heap hh) law_own started (by kernel_rfl) Tryd.func8
    (ChangeSpec.witness_at (enc := enc) (C := Tryd.checked) (os := os) (X := (fun w _ => laidMet Tryd.prog laid5 w)) false (laidWorld os) #[.string ⟨#[]⟩, .int .i64 0] 8 rfl (by kernel_rfl) (by kernel_rfl) (by kernel_rfl) (by kernel_rfl) (by kernel_rfl) (laidWorld_met os _)) ?_
  intro W base args ds gs before hval0 hW hcnd hsz0 hL _
  have hE := errs_of_laid hL
  have hval : ∀ (j : Nat) t v, Tryd.f8.params[j]? = some t → args[j]? = some v → Value.okWide Tryd.prog W .any base t v := hval0
  have hW' := hW
  obtain ⟨p, q, hA0, hV, rfl, hfz, hnd⟩ := hW'
  have hA : DataW.TrodAll enc Tryd.prog W 0 (fun _ => true) true Tryd.f8.params.toList args.toList ds p := hA0
  rw [Tryd.params8] at hA hval
  obtain ⟨v0, vs0, d0, ds0, p0, q0, hargs, rfl, rfl, h0, r0⟩ := trodAll_cons hA
  obtain ⟨v1, vs1, d1, ds1, p1, q1, rfl, rfl, rfl, h1, r1⟩ := trodAll_cons r0
  obtain ⟨rfl, rfl, rfl⟩ := trodAll_nil r1
  obtain rfl : args = #[v0, v1] := by cases args; simp_all
  obtain ⟨rfl, rfl⟩ := trodVars_none hV
  obtain ⟨a0, rfl, rfl, rfl, w0⟩ := open_string Tryd.underlying9 (hval 0 9 v0 rfl rfl) h0
  obtain ⟨a1, rfl, rfl, rfl, w1⟩ := open_int Tryd.underlying3 (hval 1 3 v1 rfl rfl) h1
  clear hA0 hval0
  refine (cuts_walk a0 a1  W w0 w1 hE).mono fun e W' ⟨he, hg⟩ => ?_
  subst he
  exact ⟨_, rfl, post_quiet (pa := ([] ++ ([] ++ []))) (pv := []) hW hg (fun _ _ _ => (trodAll_cons_mk (shut_bool Tryd.underlying4 _) trodAll_mk0)) (fun sp hsp => (trodAll_cons_mk (shut_string Tryd.underlying9 w0) (trodAll_cons_mk (shut_int Tryd.underlying3 w1) trodAll_mk0))) (fun _ _ => rfl) (by simp) (ok_one (by kernel_rfl) rfl (okWide_bool_mk Tryd.underlying4 _))⟩

theorem cuts_over : Rows.scanCutsRow.holds Tryd.pinned (OpenSpec.ofChange Rows.scanCutsSpec) :=
  OpenClaim.holds_of_wide 8 Tryd.f8 rfl rfl rfl rfl rfl rfl rfl ⟨rfl, rfl, rfl, rfl, rfl⟩ rfl rfl rfl rfl rfl (by kernel_rfl) Tryd.func8 (by kernel_rfl)
    (of_decide_eq_true (by kernel_rfl)) (by unfold Func.isWrapper; first | (rw [if_pos (by decide +kernel)]; kernel_rfl) | (rw [if_neg (by decide +kernel)]; exact ⟨rfl, rfl⟩))
    (fun os started H enc _ => cuts_lifted os started H enc)

/-- The statement: the card. -/
theorem cuts_holds : Rows.ScanCutsCardSaid :=
  Claim7.holds_tied_plain_at .later [] [.data, .data, .data, .sentinel, .sentinel] true (true, "fe9ae79661f9d8582860fffd84f4806e09c512767161fd4ad4c3463c3221bbf6") true
    cuts_over (fun _ h => by cases h) (by kernel_rfl) (fun _ h => by cases h) scanCuts_row_tie rfl ⟨rfl, rfl⟩ (by kernel_rfl) rfl
    (fun f fn hf hfn => by
      obtain rfl : f = 8 := Option.some.inj ((show Tryd.prog.funcNamed Rows.scanCutsRow.func = some 8 by kernel_rfl).symm.trans hf) |>.symm
      obtain rfl : fn = Tryd.f8 := (Option.some.inj (Tryd.func8.symm.trans hfn)).symm
      exact ⟨by kernel_rfl, fun j t ht => by
        rw [Tryd.params8] at ht
        rcases j with _ | _ | j
        · obtain rfl : t = 9 := by simpa using ht.symm
          exact (show Tryd.prog.wantsStandIn 9 = false by kernel_rfl)
        · obtain rfl : t = 3 := by simpa using ht.symm
          exact (show Tryd.prog.wantsStandIn 3 = false by kernel_rfl)
        · simp at ht⟩)
    (by kernel_rfl)
#print axioms cuts_holds

end Go.Proofs.YtajkdkemnchfnaaDoor

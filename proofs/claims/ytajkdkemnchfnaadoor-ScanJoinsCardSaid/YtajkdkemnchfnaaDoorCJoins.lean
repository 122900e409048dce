/- ScanJoins, for every input: it returns true, and its arguments read behind the call as they did: the tokens' texts joined by blanks have the same tokens. No condition but what the given card says of the library's own variables. -/
import Derived.Test.YtajkdkemnchfnaaDoorC18
import Derived.Test.YtajkdkemnchfnaaDoorC11
import Derived.Test.YtajkdkemnchfnaaDoorC10
import Derived.Test.YtajkdkemnchfnaaDoorC8
import Derived.Test.YtajkdkemnchfnaaDoorCL
import Derived.Test.YtajkdkemnchfnaaDoorS2
namespace Go.Proofs.YtajkdkemnchfnaaDoor
open Go.ChangeShapes Go.WideShapes Go.ChangeAt Go.RowKit Go.Maps
open Go.ChangeMaps (open_string shut_string)
set_option linter.unusedSimpArgs false
set_option linter.unusedVariables false

def sepOf (n : Nat) : Sec := if n = 0 then [32] else if n = 1 then [9] else [32, 35, 120, 10]
def sepAt (bl : Sec) (i : Nat) : Sec := match bl[i]? with
  | some c => sepOf (c.toNat % 3)
  | none => [32]
theorem sepOf_ok (n : Nat) : Sep (sepOf n) := by
  unfold sepOf
  split
  · exact .inl rfl
  · split
    · exact .inr (.inl rfl)
    · exact .inr (.inr rfl)
theorem sepAt_ok (bl : Sec) (i : Nat) : Sep (sepAt bl i) := by
  unfold sepAt
  split
  · exact sepOf_ok _
  · exact .inl rfl
abbrev seps3 : Value := .agg #[.string ⟨#[32]⟩, .string ⟨#[9]⟩, .string ⟨#[32, 35, 120, 10]⟩]
theorem seps_0 (w : World) : (Instr.index 37 seps3 (.int .u8 0)).run Tryd.prog w = .ok (.string ⟨#[32]⟩) w := by kernel_rfl
theorem seps_1 (w : World) : (Instr.index 37 seps3 (.int .u8 1)).run Tryd.prog w = .ok (.string ⟨#[9]⟩) w := by kernel_rfl
theorem seps_2 (w : World) : (Instr.index 37 seps3 (.int .u8 2)).run Tryd.prog w = .ok (.string ⟨#[32, 35, 120, 10]⟩) w := by kernel_rfl
theorem seps_at (n : Nat) (hn : n < 3) (w : World) : (Instr.index 37 seps3 (.int .u8 (n : Int))).run Tryd.prog w = .ok (.string (strOf (sepOf n))) w := by
  rcases (by omega : n = 0 ∨ n = 1 ∨ n = 2) with rfl | rfl | rfl
  · exact seps_0 w
  · exact seps_1 w
  · exact seps_2 w

theorem strOf_list' (l : Sec) : (strOf l).data.toList = l := by simp [strOf]
set_option maxRecDepth 100000 in
set_option maxHeartbeats 8000000 in
theorem joins_short (s : ByteArray) (bv : Value) (bl : Sec) (w : World) (hs : s.size ≤ 480) (hbv : Bytes w bv bl) (hbl : bl.length ≤ 9223372036854775807) (he : Errs w) :
    Calls Tryd.prog 5 #[.string s, bv] w fun e w' => e = .returned (.bool true) ∧ Only [] w w' := by
  have KA := alive6_any w he
  have HE := Lib.hid he
  obtain ⟨ba, bc, rfl, -⟩ := id hbv
  have HB := Lib.hid hbv
  clear he hbv
  go_enter Tryd.func5, Tryd.ntmps5
  go_wp2_with fail
  refine KA.mono ?_
  rintro e w1 ⟨rfl, o1⟩
  have HO1 := Lib.hid o1
  have K2 := Tokens_any s w1 (by omega) (HE.out.kept o1)
  clear o1 KA
  go_wp2_with fail
  refine K2.mono ?_
  rintro e w2 ⟨v, ev, rfl, hr, o2⟩
  have HO2 := Lib.hid (HO1.out.trans o2 (by simp))
  clear o2 HO1
  rcases hr with ⟨hl, rfl, hf⟩ | ⟨hl, k, hx, rfl, hf⟩ | ⟨hl, ts, hx, rfl, hown⟩
  · rw [bytesLen] at hl
    omega
  · obtain ⟨g, rfl, -, -⟩ := hf
    clear hx HE K2 HB
    go_wp2_with fail
    go_ret
    exact ⟨rfl, HO2.out⟩
  · have hlen := lex_len hx
    rw [bytesLen] at hlen
    have HT := Lib.hid hown.tv
    obtain ⟨a, cap, hv, hcap, -⟩ := HT.out
    obtain rfl := hv
    obtain ⟨n, hn⟩ : ∃ n, n = ts.length := ⟨_, rfl⟩
    rw [← hn] at hlen hcap ⊢
    rw [← hn] at HT
    have HN := Lib.hid hn
    obtain ⟨hch, htx⟩ := chain_lex _ 0 s.data.toList ts (Nat.le_refl _) (by rw [← lex_eq]; exact hx)
    have HCH := Lib.hid hch
    have HTXT : Hid (∀ t ∈ ts, t.text.length ≤ 480) := Lib.hid (fun t ht => by have := htx t ht; rw [bytesLen] at this; omega)
    clear hx hown hn hch htx K2 hl
    go_wp2_with fail
    obtain ⟨wo, hwo⟩ : ∃ wo : World, wo = w2 := ⟨_, rfl⟩
    go_loopw [7, 24] (fun a7 a24 wr => ∃ (i : Nat) (J : ByteArray), a24 = .int .i64 i ∧ a7 = .string J ∧ i ≤ n ∧ Hid (J = strOf (jb (sepAt bl) ts i)) ∧ Hid (Only [] wo wr)) (fun _ i _ => n - (intOf i).toNat)
    case atStart => exact ⟨0, _, rfl, rfl, Nat.zero_le _, Lib.hid rfl, Lib.hid (by rw [hwo]; exact Only.refl _ _)⟩
    case round =>
      obtain ⟨i, J, rfl, rfl, hi, HJ, HO⟩ := hrel
      by_cases hlt : i < n
      · obtain ⟨t, ht⟩ : ∃ t, ts[i]? = some t := ⟨_, List.getElem?_eq_getElem (by rw [← HN.out]; exact hlt)⟩
        obtain ⟨b1, d1, e1, -, p1, p2, p3⟩ := (HT.out.quiet (by rw [← hwo]; exact HO.out)).at_ ht
        injection e1 with e1 e1' e1''
        subst e1
        obtain ⟨T, hT⟩ : ∃ T, T = strOf t.text := ⟨_, rfl⟩
        rw [← hT] at p2
        have hi0 : 0 ≤ (i : Int) := by omega
        have hin : (i : Int) < (n : Int) := by omega
        by_cases hb : i < bl.length
        · obtain ⟨c, hc⟩ : ∃ c, bl[i]? = some c := ⟨_, List.getElem?_eq_getElem hb⟩
          have HBr : Bytes wr (.slice ba bl.length bc) bl := HB.out.kept (HO2.out.trans (by rw [← hwo]; exact HO.out) (by simp)) (by intro _ _ _ _; simp)
          obtain ⟨ba', bc', eb, hcells⟩ := HBr
          injection eb with eb1 eb2 eb3
          subst eb1
          obtain ⟨bg, bo, rfl, hcell⟩ := hcells i c hc
          have hsp : sepAt bl i = sepOf (c.toNat % 3) := by unfold sepAt; rw [hc]
          have h3 : c.toNat % 3 < 3 := Nat.mod_lt _ (by omega)
          have hmod : (c.toNat : Int) % 3 = ((c.toNat % 3 : Nat) : Int) := by omega
          obtain ⟨SP, hSP⟩ : ∃ SP, SP = strOf (sepAt bl i) := ⟨_, rfl⟩
          have hsep := sep_len (sepAt_ok bl i)
          have hjl := jb_len (f := sepAt bl) (fun j => sepAt_ok bl j) HTXT.out i
          have htl := HTXT.out t (List.mem_of_getElem? ht)
          have ha1 := fun W => add_str (a := t.text) (b := sepAt bl i) (c := t.text ++ sepAt bl i) rfl (by rw [List.length_append]; omega) (A := T) (B := SP) hT hSP rfl W
          have hjn := jb_succ (f := sepAt bl) ht
          have ha2 := fun W => add_str (a := jb (sepAt bl) ts i) (b := t.text ++ sepAt bl i) (c := jb (sepAt bl) ts (i + 1)) hjn.symm (by rw [hjn, List.length_append, List.length_append]; omega) (A := J) (B := strOf (t.text ++ sepAt bl i)) HJ.out rfl rfl W
          generalize strOf (t.text ++ sepAt bl i) = M at ha1 ha2
          generalize hJ2 : strOf (jb (sepAt bl) ts (i + 1)) = J2 at ha2
          have HJ2 := Lib.hid hJ2.symm
          have o3 : Only [] wr (wr.alloc (.cells #[.int .i64 t.kind, .string T, .int .i64 t.pos] 35)) := (Only.refl [] wr).alloc _
          have HO3 := Lib.hid (HO.out.trans o3 (by simp))
          clear o3 hJ2 hjn hsep hjl htl
          have hidx := fun W => seps_at (c.toNat % 3) h3 W
          rw [← hsp, ← hSP] at hidx
          generalize c.toNat % 3 = r3 at hmod hidx h3
          have hcell2 := cell_kept ((Only.refl [] wr).alloc (.cells #[.int .i64 t.kind, .string T, .int .i64 t.pos] 35)) hcell (by simp)
          have hib : (i : Int) < (bl.length : Int) := by omega
          clear hsp hT hSP ht e1' e1'' eb2 eb3 hcells hc hcell
          go_wp2_with fail
          go_roundw
          case rel => exact ⟨i + 1, J2, by go_num, rfl, by omega, HJ2, HO3⟩
          case measure => simp [intOf]; omega
        · have hsp : sepAt bl i = [32] := by unfold sepAt; rw [List.getElem?_eq_none (by omega)]
          obtain ⟨SP, hSP⟩ : ∃ SP, SP = strOf (sepAt bl i) := ⟨_, rfl⟩
          have hsep := sep_len (sepAt_ok bl i)
          have hjl := jb_len (f := sepAt bl) (fun j => sepAt_ok bl j) HTXT.out i
          have htl := HTXT.out t (List.mem_of_getElem? ht)
          have ha1 := fun W => add_str (a := t.text) (b := sepAt bl i) (c := t.text ++ sepAt bl i) rfl (by rw [List.length_append]; omega) (A := T) (B := SP) hT hSP rfl W
          have hjn := jb_succ (f := sepAt bl) ht
          have ha2 := fun W => add_str (a := jb (sepAt bl) ts i) (b := t.text ++ sepAt bl i) (c := jb (sepAt bl) ts (i + 1)) hjn.symm (by rw [hjn, List.length_append, List.length_append]; omega) (A := J) (B := strOf (t.text ++ sepAt bl i)) HJ.out rfl rfl W
          generalize strOf (t.text ++ sepAt bl i) = M at ha1 ha2
          generalize hJ2 : strOf (jb (sepAt bl) ts (i + 1)) = J2 at ha2
          have HJ2 := Lib.hid hJ2.symm
          have o3 : Only [] wr (wr.alloc (.cells #[.int .i64 t.kind, .string T, .int .i64 t.pos] 35)) := (Only.refl [] wr).alloc _
          have HO3 := Lib.hid (HO.out.trans o3 (by simp))
          clear o3 hJ2 hjn hsep hjl htl
          rw [hsp, show strOf [32] = ⟨#[32]⟩ from rfl] at hSP
          subst hSP
          clear hsp hT ht e1' e1''
          have hib : ¬ (i : Int) < (bl.length : Int) := by omega
          go_wp2_with fail
          go_roundw
          case rel => exact ⟨i + 1, J2, by go_num, rfl, by omega, HJ2, HO3⟩
          case measure => simp [intOf]; omega
      · obtain rfl : i = n := by omega
        obtain ⟨us, hus, hmap⟩ := join_lex (sepAt bl) (fun j => sepAt_ok bl j) ts 0 0 HCH.out
        rw [← jb_all, ← HN.out, ← lex_eq] at hus
        have hJd : J.data.toList = jb (sepAt bl) ts i := by rw [HJ.out]; exact strOf_list' _
        rw [← hJd] at hus
        have hul : us.length = ts.length := by
          have := congrArg List.length hmap
          simpa using this
        by_cases h480 : J.size ≤ 480
        · have hu := fun (k : Nat) (t : Tok) (h : ts[k]? = some t) => (show ∃ x, us[k]? = some x ∧ x.kind = t.kind ∧ x.text = t.text from by
            have h1 := congrArg (fun l => l[k]?) hmap
            simp only [List.getElem?_map, h, Option.map_some] at h1
            obtain ⟨x, hx, hxe⟩ := Option.map_eq_some_iff.1 h1
            obtain ⟨e1, e2⟩ := Prod.mk.inj hxe
            exact ⟨x, hx, e1, e2⟩)
          have HU := Lib.hid hu
          have HUS := Lib.hid hus
          have K3 := Tokens_any J wr (by omega) (HE.out.kept (HO2.out.trans (by rw [← hwo]; exact HO.out) (by simp)))
          have HUL := Lib.hid (show us.length = i by rw [hul, ← HN.out])
          clear hu hus hmap hJd hul HJ HB HCH HTXT
          go_wp2_with fail
          refine K3.mono ?_
          rintro e w4 ⟨v4, ev4, rfl, hr4, o4⟩
          obtain ⟨rfl, hown4⟩ := hr4.ok (by rw [bytesLen]; exact h480) HUS.out
          have HT4 := Lib.hid hown4.tv
          obtain ⟨a4, c4, hv4, hc4, -⟩ := HT4.out
          obtain rfl := hv4
          rw [HUL.out] at hc4 ⊢
          rw [HUL.out] at HT4
          have HT5 := Lib.hid ((HT.out.quiet (show Only [] w2 wr by rw [← hwo]; exact HO.out)).quiet o4)
          have HO4 := Lib.hid (HO2.out.trans (show Only [] w2 w4 by rw [← hwo]; exact HO.out.trans o4 (by simp)) (by simp))
          clear K3 hr4 o4 hown4 HO HT
          go_wp2_with fail
          obtain ⟨wp, hwp⟩ : ∃ wp : World, wp = w4 := ⟨_, rfl⟩
          go_loopw [66] (fun a66 wq => ∃ k : Nat, a66 = .int .i64 k ∧ k ≤ i ∧ Hid (Only [] wp wq)) (fun a _ => i - (intOf a).toNat)
          case atStart => exact ⟨0, rfl, Nat.zero_le _, Lib.hid (by rw [hwp]; exact Only.refl _ _)⟩
          case round =>
            obtain ⟨k, rfl, hk, HQ⟩ := hrel
            by_cases hki : k < i
            · obtain ⟨t, ht⟩ : ∃ t, ts[k]? = some t := ⟨_, List.getElem?_eq_getElem (by rw [← HN.out]; exact hki)⟩
              obtain ⟨x, hx, hxk, hxt⟩ := HU.out k t ht
              obtain ⟨b1, d1, e1, -, p1, p2, -⟩ := (HT5.out.quiet (by rw [← hwp]; exact HQ.out)).at_ ht
              obtain ⟨b2, d2, e2, -, r1, r2, -⟩ := (HT4.out.quiet (by rw [← hwp]; exact HQ.out)).at_ hx
              rw [hxk] at r1
              rw [hxt] at r2
              injection e1 with e1 e1' e1''
              injection e2 with e2 e2' e2''
              subst e1 e2
              generalize strOf t.text = T at p2 r2
              generalize t.kind = kd at p1 r1
              have hk0 : 0 ≤ (k : Int) := by omega
              have hkn : (k : Int) < (i : Int) := by omega
              clear e1' e1'' e2' e2'' ht hx hxk hxt
              go_wp2_with fail
              go_quiet (fail)
              have HQ4 := Lib.hid (only_drewN (n := nq) HQ.out)
              go_wp2_with fail
              go_roundw
              case rel => exact ⟨k + 1, by go_num, by omega, HQ4⟩
              case measure => simp [intOf]; omega
            · obtain rfl : k = i := by omega
              go_wp2_with fail
              go_ret
              exact ⟨rfl, HO4.out.trans (by rw [← hwp]; exact HQ.out) (by simp)⟩
        · clear hus hmap hJd hul HJ
          go_wp2_with fail
          go_ret
          exact ⟨rfl, HO2.out.trans (by rw [← hwo]; exact HO.out) (by simp)⟩

theorem joins_walk (s : ByteArray) (bv : Value) (bl : Sec) (w : World) (hs : s.size ≤ maxLen) (hbv : Bytes w bv bl) (hbl : bl.length ≤ maxLen) (he : Errs w) :
    Calls Tryd.prog 5 #[.string s, bv] w fun e w' => e = .returned (.bool true) ∧ Only [] w w' := by
  unfold maxLen at hs hbl
  by_cases h : s.size ≤ 480
  · exact joins_short s bv bl w h hbv hbl he
  · have KA := alive6_any w he
    go_enter Tryd.func5, Tryd.ntmps5
    go_wp2_with fail
    refine KA.mono ?_
    rintro e w1 ⟨rfl, o1⟩
    have HO1 := Lib.hid o1
    have K1 := Tokens_any s w1 hs (he.kept o1)
    clear o1 KA he
    go_wp2_with fail
    refine K1.mono ?_
    rintro e w2 ⟨v, ev, rfl, hr, o2⟩
    have HO2 := Lib.hid (HO1.out.trans o2 (by simp))
    clear o2 K1 HO1 hbv
    rcases hr with ⟨hl, rfl, hf⟩ | ⟨hl, k, hx, rfl, hf⟩ | ⟨hl, ts, hx, rfl, hown⟩
    · obtain ⟨g, rfl, -, -⟩ := hf
      go_wp2_with fail
      go_ret
      exact ⟨rfl, HO2.out⟩
    · rw [bytesLen] at hl
      omega
    · rw [bytesLen] at hl
      omega

set_option maxRecDepth 100000 in
theorem joins_lifted (os : Os) (started : os.Started) (H : Type) (enc : TypeId × Value → H) :
    ReturnsInHanded {} Tryd.checked os 5 .any (fun w args => (Rows.scanJoinsSpec.pre enc Tryd.prog Tryd.f5 Rows.scanJoinsRow.domain false w args ∧ laidMet Tryd.prog laid5 w) ∧ sizedMet enc Tryd.prog Tryd.f5 (OpenSpec.ofChange Rows.scanJoinsSpec) false w args)
      (Rows.scanJoinsSpec.post enc Tryd.prog Tryd.f5 false true false false) := by
  refine returnsInHanded_of_change_and (C := Tryd.checked) (X := (fun w _ => laidMet Tryd.prog laid5 w)) (fun _ _ _ hh h => h.of_heap hh) law_own started (by kernel_rfl) Tryd.func5
    (ChangeSpec.witness_at (enc := enc) (C := Tryd.checked) (os := os) (X := (fun w _ => laidMet Tryd.prog laid5 w)) false (laidWorld os) #[.string ⟨#[]⟩, .slice none 0 0] 8 rfl (by kernel_rfl) (by kernel_rfl) (by kernel_rfl) (by kernel_rfl) (by kernel_rfl) (laidWorld_met os _)) ?_
  intro W base args ds gs before hval0 hW hcnd hsz0 hL _
  have hE := errs_of_laid hL
  have hval : ∀ (j : Nat) t v, Tryd.f5.params[j]? = some t → args[j]? = some v → Value.okWide Tryd.prog W .any base t v := hval0
  have hW' := hW
  obtain ⟨p, q, hA0, hV, rfl, hfz, hnd⟩ := hW'
  have hA : DataW.TrodAll enc Tryd.prog W 0 (fun _ => true) true Tryd.f5.params.toList args.toList ds p := hA0
  rw [Tryd.params5] at hA hval
  obtain ⟨v0, vs0, d0, ds0, p0, q0, hargs, rfl, rfl, h0, r0⟩ := trodAll_cons hA
  obtain ⟨v1, vs1, d1, ds1, p1, q1, rfl, rfl, rfl, h1, r1⟩ := trodAll_cons r0
  obtain ⟨rfl, rfl, rfl⟩ := trodAll_nil r1
  obtain rfl : args = #[v0, v1] := by cases args; simp_all
  obtain ⟨rfl, rfl⟩ := trodVars_none hV
  obtain ⟨a0, rfl, rfl, rfl, w0⟩ := open_string Tryd.underlying9 (hval 0 9 v0 rfl rfl) h0
  have h1' := h1
  obtain ⟨sa1, sl1, sc1, rfl⟩ := okWide_slice Tryd.underlying36 (hval 1 36 v1 rfl rfl)
  obtain ⟨fuel1, hf1⟩ := h1
  obtain ⟨l1, hs1, _, hl1⟩ := open_bytes (v := .slice sa1 sl1 sc1) hf1
  have hlt1 : ∀ x ∈ p1, x.block < W.heap.size := fun x hx => hW.lt x (by simp [hx])
  clear hA0 hval0
  refine (joins_walk a0 _ l1 W w0 hs1 hl1 hE).mono fun e W' ⟨he, hg⟩ => ?_
  subst he
  exact ⟨_, rfl, post_quiet (pa := ([] ++ (p1 ++ []))) (pv := []) hW hg (fun _ _ _ => (trodAll_cons_mk (shut_bool Tryd.underlying4 _) trodAll_mk0)) (fun sp hsp => (trodAll_cons_mk (shut_string Tryd.underlying9 w0) (trodAll_cons_mk (arg_stays (by kernel_rfl) (of_decide_eq_true (by kernel_rfl)) h1' hg hlt1 (fun x hx => hsp x (by simp [hx]))) trodAll_mk0))) (fun _ _ => rfl) (by simp) (ok_one (by kernel_rfl) rfl (okWide_bool_mk Tryd.underlying4 _))⟩

theorem joins_over : Rows.scanJoinsRow.holds Tryd.pinned (OpenSpec.ofChange Rows.scanJoinsSpec) :=
  OpenClaim.holds_of_wide 5 Tryd.f5 rfl rfl rfl rfl rfl rfl rfl ⟨rfl, rfl, rfl, rfl, rfl⟩ rfl rfl rfl rfl rfl (by kernel_rfl) Tryd.func5 (by kernel_rfl)
    (of_decide_eq_true (by kernel_rfl)) (by unfold Func.isWrapper; first | (rw [if_pos (by decide +kernel)]; kernel_rfl) | (rw [if_neg (by decide +kernel)]; exact ⟨rfl, rfl⟩))
    (fun os started H enc _ => joins_lifted os started H enc)

/-- The statement: the card. -/
theorem joins_holds : Rows.ScanJoinsCardSaid :=
  Claim7.holds_tied_plain_at .later [] [.data, .data, .data, .sentinel, .sentinel] true (true, "fe9ae79661f9d8582860fffd84f4806e09c512767161fd4ad4c3463c3221bbf6") true
    joins_over (fun _ h => by cases h) (by kernel_rfl) (fun _ h => by cases h) scanJoins_row_tie rfl ⟨rfl, rfl⟩ (by kernel_rfl) rfl
    (fun f fn hf hfn => by
      obtain rfl : f = 5 := Option.some.inj ((show Tryd.prog.funcNamed Rows.scanJoinsRow.func = some 5 by kernel_rfl).symm.trans hf) |>.symm
      obtain rfl : fn = Tryd.f5 := (Option.some.inj (Tryd.func5.symm.trans hfn)).symm
      exact ⟨by kernel_rfl, fun j t ht => by
        rw [Tryd.params5] at ht
        rcases j with _ | _ | j
        · obtain rfl : t = 9 := by simpa using ht.symm
          exact (show Tryd.prog.wantsStandIn 9 = false by kernel_rfl)
        · obtain rfl : t = 36 := by simpa using ht.symm
          exact (show Tryd.prog.wantsStandIn 36 = false by kernel_rfl)
        · simp at ht⟩)
    (by kernel_rfl)
#print axioms joins_holds

end Go.Proofs.YtajkdkemnchfnaaDoor

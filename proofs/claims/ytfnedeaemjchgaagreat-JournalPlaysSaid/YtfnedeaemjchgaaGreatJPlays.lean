/- JournalPlays: whatever the ring's sectors and the calls, with power that goes, crashes of which any sectors are kept, and openings, the law returns true: the journal holds and answers what the law's model does; the arguments read as they did. No condition. -/
import Derived.Test.YtfnedeaemjchgaaGreatJh
namespace Go.Proofs.YtfnedeaemjchgaaGreat
open Go.ChangeShapes Go.WideShapes Go.ChangeAt Go.RowKit Go.Maps Go.Deep
set_option linter.unusedVariables false
set_option linter.unusedSimpArgs false

set_option maxRecDepth 100000 in
set_option maxHeartbeats 4000000 in
theorem jplays_walk (nn : Int) (v : Value) (os : List Op4R) (w : World) (hw : (Lit.int .i64 nn).wf = true) (hs : Script4 w v os) (hl : os.length ≤ maxLen) :
    Calls Tryz.prog 3 #[.int .i64 nn, v] w fun e w' => e = .returned (.bool true) ∧ Only [] w w' := by
  have HS := Lib.hid hs
  have HL := Lib.hid hl
  obtain ⟨va, vcap, rfl, -⟩ := hs
  clear hl hw
  go_enter Tryz.func3, Tryz.ntmps3
  go_wp2_with fail
  refine (alive4_any _).mono ?_
  rintro e w1 ⟨rfl, o1⟩
  have O1 := Lib.hid o1
  clear o1
  by_cases hs0 : nn < 2
  · go_wp2_with fail
    go_ret
    exact ⟨rfl, O1.out⟩
  by_cases hs1 : (40 : Int) < nn
  · go_wp2_with fail
    go_ret
    exact ⟨rfl, O1.out⟩
  go_wp2_with fail
  refine (long4_any _ os w1 (HS.out.kept O1.out) HL.out).mono ?_
  rintro e w2 ⟨x, rfl, hx, o2⟩
  have O2 := Lib.hid (O1.out.trans o2 (by simp))
  clear o2
  cases x
  rotate_left
  · go_wp2_with fail
    go_ret
    exact ⟨rfl, O2.out⟩
  obtain ⟨n, rfl⟩ : ∃ n : Nat, nn = (n : Int) := ⟨nn.toNat, by omega⟩
  have HX := Lib.hid (hx rfl)
  have hlen : os.length ≤ 800 := HX.out.1
  clear hx O1
  go_wp2_with fail
  refine (begun_gs n w2 (by omega) (by omega)).mono ?_
  rintro e w3 ⟨m, a, rfl, g3⟩
  have G3 := Lib.hid g3
  clear g3
  go_wp2_with fail
  go_loopw [7, 26] (fun _ i wr => ∃ k : Nat, k ≤ os.length ∧ i = .int .i64 k ∧ Hid (GS w2 wr [] m a n k)) (fun _ i _ => os.length - (intOf i).toNat)
  case atStart => exact ⟨0, by omega, rfl, G3⟩
  case round =>
    clear G3
    obtain ⟨k, hk, rfl, G5⟩ := hrel
    by_cases hlt : k < os.length
    · have hkl : os[k]? = some os[k] := List.getElem?_eq_getElem hlt
      obtain ⟨a', cap', hv, hc⟩ := (HS.out.kept O2.out).kept G5.out.only
      obtain ⟨bb, off, ha, bv, kv, c0, c1, c2, c3, _⟩ := hc k _ hkl
      obtain ⟨a1, cap1, hv1, hc1⟩ := HS.out.kept O2.out
      obtain ⟨bb1, off1, ha1, bv1, kv1, d0, d1, d2, d3, hb, _, hkv, _, hwn, _⟩ := hc1 k _ hkl
      cases hv
      cases hv1
      subst ha
      cases ha1
      obtain rfl : bv = bv1 := Option.some.inj (c1.symm.trans (cell_kept G5.out.only d1 (by simp)))
      obtain rfl : kv = kv1 := Option.some.inj (c3.symm.trans (cell_kept G5.out.only d3 (by simp)))
      have HP := Lib.hid (And.intro hb (And.intro hkv (And.intro (wf_hi hwn) (HX.out.2 k _ hlt hkl))))
      clear hc hc1 hkl d0 d1 d2 d3 hb hkv hwn
      generalize os[k] = oo at c0 c1 c2 c3 HP
      obtain ⟨kind, lb, n1, ks⟩ := oo
      dsimp only at c0 c1 c2 c3 HP
      have hshb : ∃ (x1 : Option Addr) (q1 : Nat) (x2 : Option Addr) (n2 q2 : Nat), bv = .slice x1 lb.length q1 ∧ kv = .slice x2 n2 q2 := by
        obtain ⟨_, _, e1, _⟩ := HP.out.1
        obtain ⟨_, _, e2, _⟩ := HP.out.2.1
        exact ⟨_, _, _, _, _, e1, e2⟩
      obtain ⟨x1, q1, x2, n2, q2, rfl, rfl⟩ := hshb
      have k0 : (0 : Int) ≤ (k : Int) := by omega
      have k1 : (k : Int) < (os.length : Int) := by omega
      have G8 := Lib.hid (G5.out.quiet ((Only.refl [] wr).alloc (.cells #[.int .i64 kind, .slice x1 lb.length q1, .int .i64 n1, .slice x2 n2 q2] 30)))
      clear G5
      go_wp2_with fail
      refine (plays_all G8.out (by omega) (fun w' ho _ => HP.out.1.kept ho (clean_nil _)) (by have := HP.out.2.2.2.1; omega) HP.out.2.2.1 HP.out.2.1 (by have := HP.out.2.2.2.2; omega)).mono ?_
      rintro e w9 ⟨rfl, g9⟩
      have G9 := Lib.hid g9
      clear g9 G8 HP c0 c1 c2 c3
      go_wp2_with fail
      refine (same_all G9.out).mono ?_
      rintro e w10 ⟨rfl, g10⟩
      have G10 := Lib.hid g10
      clear g10 G9
      go_wp2_with fail
      go_roundw
      case rel => exact ⟨k + 1, by omega, by go_num, G10⟩
      case measure => simp [intOf]; omega
    · obtain rfl : k = os.length := by omega
      go_wp2_with fail
      go_ret
      exact ⟨rfl, O2.out.trans G5.out.only (by simp)⟩

set_option maxRecDepth 100000 in
theorem jplays_lifted (os : Os) (started : os.Started) (H : Type) (enc : TypeId × Value → H) :
    ReturnsInHanded {} Tryz.checked os 3 .any (Rows.journalPlaysSpec.pre6 enc Tryz.prog Tryz.f3 Rows.journalPlaysRow.domain false) (Rows.journalPlaysSpec.post enc Tryz.prog Tryz.f3 false true false false) := by
  refine returnsInHanded_of_change (C := Tryz.checked) law_own started (by kernel_rfl) Tryz.func3
    (ChangeSpec.witness6 (enc := enc) (C := Tryz.checked) false ⟨#[], #[.int .i64 0, .slice none 0 0], []⟩ 8 (by kernel_rfl) (by kernel_rfl) (by kernel_rfl) (by kernel_rfl)) ?_
  intro W base args ds gs before hval0 hW hcnd _
  have hval : ∀ (j : Nat) t v, Tryz.f3.params[j]? = some t → args[j]? = some v → Value.okWide Tryz.prog W .any base t v := hval0
  have hW' := hW
  obtain ⟨p, q, hA0, hV, rfl, hfz, hnd⟩ := hW
  have hA : DataW.TrodAll enc Tryz.prog W 0 (fun _ => true) true Tryz.f3.params.toList args.toList ds p := hA0
  rw [Tryz.params3] at hA hval
  obtain ⟨v0, vs0, d0, ds0, p0, q0, hargs, rfl, rfl, h0, r0⟩ := trodAll_cons hA
  obtain ⟨v1, vs1, d1, ds1, p1, q1, rfl, rfl, rfl, h1, r1⟩ := trodAll_cons r0
  obtain ⟨rfl, rfl, rfl⟩ := trodAll_nil r1
  obtain rfl : args = #[v0, v1] := by cases args; simp_all
  obtain ⟨rfl, rfl⟩ := trodVars_none hV
  obtain ⟨a0, rfl, rfl, rfl, w0⟩ := open_int Tryz.underlying3 (hval 0 3 v0 rfl rfl) h0
  have h1' := h1
  obtain ⟨sa1, sl1, sc1, rfl⟩ := okWide_slice Tryz.underlying22 (hval 1 22 v1 rfl rfl)
  obtain ⟨fuel1, hf1⟩ := h1
  obtain ⟨l1, hs1, hl1⟩ := open_script4 (v := .slice sa1 sl1 sc1) hf1
  have hlt1 : ∀ x ∈ p1, x.block < W.heap.size := fun x hx => hW'.lt x (by simp [hx])
  clear hA0 hval0
  refine (jplays_walk a0 _ l1 W w0 hs1 hl1).mono fun e W' ⟨he, hg⟩ => ?_
  subst he
  exact ⟨_, rfl, post_quiet (pa := ([] ++ (p1 ++ []))) (pv := []) hW' hg (fun _ _ _ => (trodAll_cons_mk (shut_bool Tryz.underlying4 _) trodAll_mk0)) (fun sp hsp => (trodAll_cons_mk (shut_int Tryz.underlying3 w0) (trodAll_cons_mk (arg_stays (by kernel_rfl) (of_decide_eq_true (by kernel_rfl)) h1' hg hlt1 (fun x hx => hsp x (by simp [hx]))) trodAll_mk0))) (fun _ _ => rfl) (by simp) (ok_one (by kernel_rfl) rfl (okWide_bool_mk Tryz.underlying4 _))⟩

theorem jplays_over : Rows.journalPlaysRow.holds Tryz.pinned (OpenSpec.ofChange Rows.journalPlaysSpec) :=
  OpenClaim.holds_of_wide 3 Tryz.f3 rfl rfl rfl rfl rfl rfl rfl ⟨rfl, rfl, rfl, rfl, rfl⟩ rfl rfl rfl rfl rfl (by kernel_rfl) Tryz.func3 (by kernel_rfl)
    (of_decide_eq_true (by kernel_rfl)) (by unfold Func.isWrapper; first | (rw [if_pos (by decide +kernel)]; kernel_rfl) | (rw [if_neg (by decide +kernel)]; exact ⟨rfl, rfl⟩))
    (fun os started H enc _ => jplays_lifted os started H enc)

/-- The statement. -/
theorem jplays_holds : Rows.JournalPlaysSaid :=
  jplays_over
#print axioms jplays_holds
end Go.Proofs.YtfnedeaemjchgaaGreat

/- CheckTexts, for every input: it returns true, and its argument reads behind the call as it did: what the program finds of a text is what the document's own checker finds of it. No condition. -/
import Derived.Test.YtjcpmfdgcomfgaaQc
import Derived.Test.YtjcpmfdgcomfgaaKa
import Derived.Test.YtjcpmfdgcomfgaaL
import Derived.ChangeMaps5
import Derived.ChangeKeysEq
namespace Go.Proofs.Ytjcpmfdgcomfgaa
open Go.ChangeShapes Go.WideShapes Go.ChangeAt Go.RowKit Go.Maps
set_option linter.unusedVariables false
set_option linter.unusedSimpArgs false

theorem fields_info : (Try.prog.fieldsOf 31).toList.map (fun f => (f.name == "_", f.type, f.offset)) = [(false, 3, 0), (false, 3, 1), (false, 3, 2), (false, 4, 3)] := by kernel_rfl
theorem info_eq (m s n : Int) (t : Bool) (w : World) : (binOp .eql 31 (.agg #[.int .i64 m, .int .i64 s, .int .i64 n, .bool t]) (.agg #[.int .i64 m, .int .i64 s, .int .i64 n, .bool t])).run Try.prog w = .ok (.bool true) w := by
  have p0 : ∀ w, (part 3 #[.int .i64 m, .int .i64 s, .int .i64 n, .bool t] 0).run Try.prog w = .ok (.int .i64 m) w := fun w => by simp [part, isAgg, run_underlying Try.underlying3]
  have p1 : ∀ w, (part 3 #[.int .i64 m, .int .i64 s, .int .i64 n, .bool t] 1).run Try.prog w = .ok (.int .i64 s) w := fun w => by simp [part, isAgg, run_underlying Try.underlying3]
  have p2 : ∀ w, (part 3 #[.int .i64 m, .int .i64 s, .int .i64 n, .bool t] 2).run Try.prog w = .ok (.int .i64 n) w := fun w => by simp [part, isAgg, run_underlying Try.underlying3]
  have p3 : ∀ w, (part 4 #[.int .i64 m, .int .i64 s, .int .i64 n, .bool t] 3).run Try.prog w = .ok (.bool t) w := fun w => by simp [part, isAgg, run_underlying Try.underlying4]
  rw [run_eql_struct, show (10000 : Nat) = 9998 + 2 from rfl, run_equalIn_struct w (9998 + 1) 31 _ _ (by kernel_rfl) (by kernel_rfl)]
  have hf := fields_info
  generalize (Try.prog.fieldsOf 31).toList = fs at hf ⊢
  rcases fs with _ | ⟨f0, _ | ⟨f1, _ | ⟨f2, _ | ⟨f3, _ | ⟨f4, r⟩⟩⟩⟩⟩
  · simp at hf
  · simp at hf
  · simp at hf
  · simp at hf
  · simp only [List.map_cons, List.map_nil, List.cons.injEq, Prod.mk.injEq, beq_eq_false_iff_ne, ne_eq, and_true] at hf
    obtain ⟨⟨a1, a2, a3⟩, ⟨b1, b2, b3⟩, ⟨c1, c2, c3⟩, d1, d2, d3⟩ := hf
    simp only [Op.eqFields, ne_eq, a1, b1, c1, d1, not_false_eq_true, if_true, a2, a3, b2, b3, c2, c3, d2, d3, Sem.run_bind, Sem.run_ite, p0, p1, p2, p3, Result.andThen_ok, run_equalIn_int w 9998 3 .i64 .i64 _ _ Try.underlying3, run_equalIn_bool w 9998 4 _ _ Try.underlying4]
    simp
  · simp at hf
theorem chkS_ok {l : Sec} {d : Df} (h : parseS l = .ok d) : chkS l = (chkD d, true) := by unfold chkS; rw [h]; rfl
set_option maxRecDepth 100000 in
set_option maxHeartbeats 4000000 in
theorem ktexts_walk (s : ByteArray) (w : World) (hs : s.size ≤ maxLen) : Calls Try.prog 3 #[.string s] w fun e w' => e = .returned (.bool true) ∧ Only [] w w' := by
  unfold maxLen at hs
  go_enter Try.func3, Try.ntmps3
  go_wp2_with fail
  refine (alive8_any w).mono ?_
  rintro e w1 ⟨rfl, o1⟩
  have HO := Lib.hid o1
  clear o1
  obtain ⟨R, hR⟩ : ∃ R, R = parseS s.data.toList := ⟨_, rfl⟩
  have K1 := rparse_any s w1 (by omega)
  rw [← hR] at K1
  have HR := Lib.hid hR
  clear hR
  go_wp2_with fail
  refine K1.mono ?_
  rintro e w2 ⟨sn, a1, a2, a3, a4, l1, l2, l3, l4, c1, c2, c3, c4, c, p, rfl, herr, hok, o2⟩
  replace HO := Lib.hid (HO.out.trans o2 (by simp))
  clear K1 o2
  cases R with
  | error q =>
    obtain ⟨k, p0⟩ := q
    obtain ⟨rfl, rfl⟩ := herr k p0 rfl
    have hk := parseS_code HR.out.symm
    have hk' : ((c : Int) != 0) = true := by simp; omega
    clear herr hok hk
    go_upto_region 4 with (fail)
    have o5 := (Only.refl [] w2).alloc (.cells #[.string sn, .slice a1 l1 c1, .slice a2 l2 c2, .slice a3 l3 c3, .slice a4 l4 c4] 27)
    generalize w2.alloc (.cells #[.string sn, .slice a1 l1 c1, .slice a2 l2 c2, .slice a3 l3 c3, .slice a4 l4 c4] 27) = w3 at o5 ⊢
    replace HO := Lib.hid (HO.out.trans o5 (by simp))
    clear o5
    go_wp2_with fail
    go_ret
    exact ⟨rfl, HO.out⟩
  | ok d =>
    obtain ⟨rfl, rfl, hdv⟩ := hok d rfl
    have hwh := parse_whole HR.out.symm
    have hpl := parse_plain HR.out.symm
    have hck := chkS_ok HR.out.symm
    obtain ⟨C, hC⟩ : ∃ C, C = chkD d := ⟨_, rfl⟩
    rw [← hC] at hck
    have HDV := Lib.hid hdv
    have HWH := Lib.hid hwh
    have HPL := Lib.hid hpl
    have HCK := Lib.hid hck
    have HC := Lib.hid hC
    clear herr hok hdv hwh hpl hck hC
    go_upto_region 4 with (fail)
    have o5 := (Only.refl [] w2).alloc (.cells #[.string sn, .slice a1 l1 c1, .slice a2 l2 c2, .slice a3 l3 c3, .slice a4 l4 c4] 27)
    have hX := heap_new w2 (.cells #[.string sn, .slice a1 l1 c1, .slice a2 l2 c2, .slice a3 l3 c3, .slice a4 l4 c4] 27)
    obtain ⟨gx, hgx⟩ : ∃ g, g = w2.heap.size := ⟨_, rfl⟩
    rw [← hgx] at hX ⊢
    generalize w2.alloc (.cells #[.string sn, .slice a1 l1 c1, .slice a2 l2 c2, .slice a3 l3 c3, .slice a4 l4 c4] 27) = w3 at o5 hX ⊢
    replace HO := Lib.hid (HO.out.trans o5 (by simp))
    replace HDV := Lib.hid (HDV.out.kept o5 (by simp) (fun _ h => h))
    have HX := Lib.hid hX
    clear o5 hX hgx
    have K2 := checked_any s w3 (by omega)
    rw [HCK.out] at K2
    go_wp2_with fail
    refine K2.mono ?_
    rintro e w4 ⟨rfl, o4⟩
    obtain ⟨⟨m, st, nm, tu⟩, cf, pf⟩ := C
    unfold infoV
    dsimp only
    replace HO := Lib.hid (HO.out.trans o4 (by simp))
    replace HDV := Lib.hid (HDV.out.kept o4 (by simp) (fun _ h => h))
    replace HX := Lib.hid (o4.heap HX.out (by simp))
    clear K2 o4
    obtain ⟨st', hst⟩ : ∃ x : Int, x = st := ⟨_, rfl⟩
    obtain ⟨nm', hnm⟩ : ∃ x : Int, x = nm := ⟨_, rfl⟩
    rw [← hst, ← hnm]
    have HST := Lib.hid (And.intro hst hnm)
    clear hst hnm
    go_upto_region 7 with (fail)
    have o5 := (Only.refl [] w4).alloc (.cells #[.int .i64 m, .int .i64 st', .int .i64 nm', .bool tu] 31)
    have hI := heap_new w4 (.cells #[.int .i64 m, .int .i64 st', .int .i64 nm', .bool tu] 31)
    obtain ⟨gq, hgq⟩ : ∃ g, g = w4.heap.size := ⟨_, rfl⟩
    rw [← hgq] at hI ⊢
    generalize w4.alloc (.cells #[.int .i64 m, .int .i64 st', .int .i64 nm', .bool tu] 31) = w5 at o5 hI ⊢
    replace HO := Lib.hid (HO.out.trans o5 (by simp))
    replace HDV := Lib.hid (HDV.out.kept o5 (by simp) (fun _ h => h))
    replace HX := Lib.hid (o5.heap HX.out (by simp))
    have HI := Lib.hid hI
    clear o5 hI hgq
    have y0 : w5.cell? ⟨gx, 0, none⟩ = some (.string sn) := cell_at 0 HX.out
    have y1 : w5.cell? ⟨gx, 1, none⟩ = some (.slice a1 l1 c1) := cell_at 1 HX.out
    have y2 : w5.cell? ⟨gx, 2, none⟩ = some (.slice a2 l2 c2) := cell_at 2 HX.out
    have y3 : w5.cell? ⟨gx, 3, none⟩ = some (.slice a3 l3 c3) := cell_at 3 HX.out
    have y4 : w5.cell? ⟨gx, 4, none⟩ = some (.slice a4 l4 c4) := cell_at 4 HX.out
    have K3 := rcheck_any HDV.out HWH.out HPL.out
    rw [← HC.out] at K3
    unfold infoV at K3
    dsimp only at K3
    rw [← HST.out.1, ← HST.out.2] at K3
    go_wp2_with fail
    refine K3.mono ?_
    rintro e w6 ⟨rfl, o6⟩
    replace HO := Lib.hid (HO.out.trans o6 (by simp))
    replace HI := Lib.hid (o6.heap HI.out (by simp))
    clear K3 o6 y0 y1 y2 y3 y4
    go_upto_region 8 with (fail)
    have o7 := (Only.refl [] w6).alloc (.cells #[.int .i64 m, .int .i64 st', .int .i64 nm', .bool tu] 31)
    have hJ := heap_new w6 (.cells #[.int .i64 m, .int .i64 st', .int .i64 nm', .bool tu] 31)
    obtain ⟨gr, hgr⟩ : ∃ g, g = w6.heap.size := ⟨_, rfl⟩
    rw [← hgr] at hJ ⊢
    generalize w6.alloc (.cells #[.int .i64 m, .int .i64 st', .int .i64 nm', .bool tu] 31) = w7 at o7 hJ ⊢
    replace HO := Lib.hid (HO.out.trans o7 (by simp))
    replace HI := Lib.hid (o7.heap HI.out (by simp))
    have x0 : w7.cell? ⟨gq, 0, none⟩ = some (.int .i64 m) := cell_at 0 HI.out
    have x1 : w7.cell? ⟨gq, 1, none⟩ = some (.int .i64 st') := cell_at 1 HI.out
    have x2 : w7.cell? ⟨gq, 2, none⟩ = some (.int .i64 nm') := cell_at 2 HI.out
    have x3 : w7.cell? ⟨gq, 3, none⟩ = some (.bool tu) := cell_at 3 HI.out
    have z0 : w7.cell? ⟨gr, 0, none⟩ = some (.int .i64 m) := cell_at 0 hJ
    have z1 : w7.cell? ⟨gr, 1, none⟩ = some (.int .i64 st') := cell_at 1 hJ
    have z2 : w7.cell? ⟨gr, 2, none⟩ = some (.int .i64 nm') := cell_at 2 hJ
    have z3 : w7.cell? ⟨gr, 3, none⟩ = some (.bool tu) := cell_at 3 hJ
    have q1 := info_eq m st' nm' tu
    clear o7 hJ hgr
    go_wp2_with fail
    go_ret
    exact ⟨rfl, HO.out⟩

set_option maxRecDepth 100000 in
theorem ktexts_lifted (os : Os) (started : os.Started) (H : Type) (enc : TypeId × Value → H) :
    ReturnsInHanded {} Try.checked os 3 .any (Rows.checkTextsSpec.pre6 enc Try.prog Try.f3 Rows.checkTextsRow.domain false) (Rows.checkTextsSpec.post enc Try.prog Try.f3 false true false false) := by
  refine returnsInHanded_of_change (C := Try.checked) law_own started (by kernel_rfl) Try.func3
    (ChangeSpec.witness6 (enc := enc) (C := Try.checked) false ⟨#[], #[.string ⟨#[]⟩], []⟩ 8 (by kernel_rfl) (by kernel_rfl) (by kernel_rfl) (by kernel_rfl)) ?_
  intro W base args ds gs before hval0 hW hcnd _
  have hval : ∀ (j : Nat) t v, Try.f3.params[j]? = some t → args[j]? = some v → Value.okWide Try.prog W .any base t v := hval0
  have hW' := hW
  obtain ⟨p, q, hA0, hV, rfl, hfz, hnd⟩ := hW
  have hA : DataW.TrodAll enc Try.prog W 0 (fun _ => true) true Try.f3.params.toList args.toList ds p := hA0
  rw [Try.params3] at hA hval
  obtain ⟨v0, vs0, d0, ds0, p0, q0, hargs, rfl, rfl, h0, r0⟩ := trodAll_cons hA
  obtain ⟨rfl, rfl, rfl⟩ := trodAll_nil r0
  obtain rfl : args = #[v0] := by cases args; simp_all
  obtain ⟨rfl, rfl⟩ := trodVars_none hV
  obtain ⟨a0, rfl, rfl, rfl, w0⟩ := Go.ChangeMaps.open_string Try.underlying9 (hval 0 9 v0 rfl rfl) h0
  clear hA0 hval0
  refine (ktexts_walk a0  W w0).mono fun e W' ⟨he, hg⟩ => ?_
  subst he
  exact ⟨_, rfl, post_quiet (pa := ([] ++ [])) (pv := []) hW' hg (fun _ _ _ => (trodAll_cons_mk (shut_bool Try.underlying4 _) trodAll_mk0)) (fun sp hsp => (trodAll_cons_mk (Go.ChangeMaps.shut_string Try.underlying9 w0) trodAll_mk0)) (fun _ _ => rfl) (by simp) (ok_one (by kernel_rfl) rfl (okWide_bool_mk Try.underlying4 _))⟩

theorem ktexts_over : Rows.checkTextsRow.holds Try.pinned (OpenSpec.ofChange Rows.checkTextsSpec) :=
  OpenClaim.holds_of_wide 3 Try.f3 rfl rfl rfl rfl rfl rfl rfl ⟨rfl, rfl, rfl, rfl, rfl⟩ rfl rfl rfl rfl rfl (by kernel_rfl) Try.func3 (by kernel_rfl)
    (of_decide_eq_true (by kernel_rfl)) (by unfold Func.isWrapper; first | (rw [if_pos (by decide +kernel)]; kernel_rfl) | (rw [if_neg (by decide +kernel)]; exact ⟨rfl, rfl⟩))
    (fun os started H enc _ => ktexts_lifted os started H enc)

/-- The statement. -/
theorem ktexts_holds : Rows.CheckTextsSaid :=
  ktexts_over
#print axioms ktexts_holds
end Go.Proofs.Ytjcpmfdgcomfgaa

/- WireBack, for every input: it returns true, and its arguments read behind the call as they did: numbers and a row that are put one behind the other are taken again, and the bytes behind them are left. No condition. -/
import Derived.Test.YtboemljofdanfaaLw
namespace Go.Proofs.Ytboemljofdanfaa
open Go.ChangeShapes Go.WideShapes Go.ChangeAt Go.RowKit Go.Deep Go.Maps
set_option linter.unusedSimpArgs false
set_option linter.unusedVariables false

set_option maxRecDepth 100000 in
set_option maxHeartbeats 1600000 in
theorem back_walk (nv rv mv : Value) (ns : List Int) (r m : Sec) (w : World) (hn : IntsV w nv ns) (_ : Fit nv) (hnl : ns.length ≤ maxLen) (hr : Bytes w rv r) (_ : Fit rv) (hrl : r.length ≤ maxLen) (hm : Bytes w mv m) (_ : Fit mv) (hml : m.length ≤ maxLen) :
    Calls Try.prog 5 #[nv, rv, mv] w fun e w' => e = .returned (.bool true) ∧ Only [] w w' := by
  have HN := Lib.hid hn
  have HR := Lib.hid hr
  have HM := Lib.hid hm
  obtain ⟨na, nc, rfl, -⟩ := id hn
  obtain ⟨ra, rc, rfl, -⟩ := id hr
  obtain ⟨ma, mc, rfl, -⟩ := id hm
  have hnl' : ns.length ≤ 9223372036854775807 := by unfold maxLen at hnl; omega
  have hrl' : r.length ≤ 9223372036854775807 := by unfold maxLen at hrl; omega
  have hml' : m.length ≤ 9223372036854775807 := by unfold maxLen at hml; omega
  clear hn hr hm hnl hrl hml
  go_enter Try.func5, Try.ntmps5
  go_wp2_with fail
  refine (alive_any _).mono ?_
  rintro e w1 ⟨rfl, o1⟩
  have HO1 := Lib.hid o1
  clear o1
  by_cases hbn : (4096 : Int) < ns.length
  · go_wp2_with fail
    go_ret
    exact ⟨rfl, HO1.out⟩
  · go_wp2_with fail
    have HP := parts_made2 (HR.out.kept HO1.out (clean_nil _)) (HM.out.kept HO1.out (clean_nil _)) rfl
    have q1 : Only [] w1 (w1.alloc (.cells #[.slice ra r.length rc, .slice ma m.length mc] 22)) := (Only.refl [] w1).alloc _
    have HO2 := Lib.hid (HO1.out.trans q1 (by simp))
    refine (large_any _ [r, m] _ HP (by simp) (by simp; omega)).mono ?_
    rintro e w2 ⟨rfl, rfl⟩
    clear HP q1
    generalize w1.alloc (.cells #[.slice ra r.length rc, .slice ma m.length mc] 22) = w2 at HO2 ⊢
    have ht : total [r, m] = r.length + m.length := by simp [total]
    rw [ht]
    clear ht
    by_cases hbig : 131072 < r.length + m.length
    · go_wp2_with fail
      go_ret
      exact ⟨rfl, HO2.out⟩
    · go_wp2_with fail
      have hall := ints_bounds HN.out
      have hnums := nums_len ns hall
      have HA := Lib.hid hall
      clear hall
      refine (Put_any (.slice none 0 0) [] _ ns w2 (bytes_nil _ _) (HN.out.kept HO2.out (fun _ _ _ _ _ => by simp)) (by simp) (by omega)).mono ?_
      rintro e w3 ⟨a3, c3, rfl, hw3, o3⟩
      have HO3 := Lib.hid (HO2.out.trans o3 (by simp))
      rw [List.nil_append] at hw3
      have HW3 := Lib.hid hw3
      clear hw3 o3
      go_wp2_with fail
      refine (PutRow_any _ (nums ns) _ r w3 (by simpa using HW3.out.bytes) (HR.out.kept HO3.out (clean_nil _)) (by omega) (by omega)).mono ?_
      rintro e w4 ⟨a4, c4, rfl, hw4, o4⟩
      have hrow := row_len r (by omega)
      have hrb : (rowB r).length = (num r.length).length + r.length := by simp [rowB]
      have HO4 := Lib.hid (HO3.out.trans o4 (by simp))
      have hsz := o4.size
      have HW4 := Lib.hid hw4
      have HRB := Lib.hid hrb
      have hn4 : (nums ns).length + (rowB r).length ≤ 70368744177664 := by omega
      obtain ⟨R, hR⟩ : ∃ R : Sec, R = rowB r ++ m := ⟨_, rfl⟩
      obtain ⟨B, hB⟩ : ∃ B : Sec, B = nums ns ++ R := ⟨_, rfl⟩
      have hRl : R.length = (rowB r).length + m.length := by rw [hR]; simp
      have hBl : B.length = (nums ns).length + R.length := by rw [hB]; simp
      have htk : takesN ns.length B = some (ns, R) := by rw [hB]; exact takesN_nums ns R HA.out
      have htr : takeR R = some (r, m) := by rw [hR]; exact takeR_row r m (by omega)
      have happ : nums ns ++ rowB r ++ m = B := by rw [hB, hR, List.append_assoc]
      have hB5 : B.length ≤ 262144 := by omega
      have hR5 : R.length ≤ 262144 := by omega
      have hsum : (nums ns ++ rowB r).length + m.length = B.length := by rw [← happ]; simp [Nat.add_assoc]
      have HTK := Lib.hid htk
      have HTR := Lib.hid htr
      have HAP := Lib.hid happ
      have HSU := Lib.hid hsum
      clear hw4 o4 hrb hR hB hRl hBl htk htr happ hsum
      go_wp2_with (
        refine wpList_append_any rfl (.tmp 26) (.tmp 27) rfl w3.heap.size _ (nums ns ++ rowB r) (by rfl) HW4.out _ m (by rfl) (HM.out.kept HO4.out (clean_nil _)) B.length HSU.out B HAP.out (by omega) hsz ?_
        intro a5 c5 w5 hw5 ho5)
      have HO5 := Lib.hid (Ext.fresh HO4.out HW4.out HO3.out.size ho5)
      have HW5 := Lib.hid hw5
      clear hw5 ho5 HW4 HW3
      refine (Takes_any _ B ns.length w5 HW5.out.bytes HW5.out.fit (by omega) (by omega)).mono ?_
      rintro e w6 ⟨_, hs6, o6⟩
      obtain ⟨a6, c6, a7, c7, rfl, hi6, hw6⟩ := hs6 ns R HTK.out
      have HO6 := Lib.hid (HO5.out.trans o6 (by simp))
      have HI6 := Lib.hid hi6.ints
      have HW6 := Lib.hid hw6
      have q1 := iface_ne
      clear hs6 hi6 hw6 o6 HW5 HO5
      go_wp2_with fail
      refine (ints_same _ _ ns w6 HI6.out (HN.out.kept HO6.out (fun _ _ _ _ _ => by simp)) (by omega)).mono ?_
      rintro e w7 ⟨rfl, o7⟩
      have HO7 := Lib.hid (HO6.out.trans o7 (by simp))
      have HW7 := Lib.hid (HW6.out.quiet o7)
      clear o7 q1 HO6 HW6 HI6
      go_wp2_with fail
      refine (TakeRow_some _ R w7 HW7.out.bytes HW7.out.fit (by omega) r m HTR.out).mono ?_
      rintro e w8 ⟨a8, c8, a9, c9, rfl, hw8, hw9, _, o8⟩
      have HO8 := HO7.out.trans o8 (by simp)
      obtain ⟨S1, hS1⟩ : ∃ S, S = strOf r := ⟨_, rfl⟩
      obtain ⟨S2, hS2⟩ : ∃ S, S = strOf m := ⟨_, rfl⟩
      have s1 := str_bytes hw8.bytes hS1
      have s2 := str_bytes (HR.out.kept HO8 (clean_nil _)) hS1
      have s3 := str_bytes hw9.bytes hS2
      have s4 := str_bytes (HM.out.kept HO8 (clean_nil _)) hS2
      have q2 := iface_nil
      have HO9 := Lib.hid HO8
      clear hw8 hw9 o8 HO8 hS1 hS2
      go_wp2
      go_ret
      exact ⟨rfl, HO9.out⟩

set_option maxRecDepth 100000 in
theorem back_lifted (os : Os) (started : os.Started) (H : Type) (enc : TypeId × Value → H) :
    ReturnsInHanded {} Try.checked os 5 .any (Rows.wireBackSpec.pre6 enc Try.prog Try.f5 Rows.wireBackRow.domain false) (Rows.wireBackSpec.post enc Try.prog Try.f5 false true false false) := by
  refine returnsInHanded_of_change (C := Try.checked) law_own started (by kernel_rfl) Try.func5
    (ChangeSpec.witness6 (enc := enc) (C := Try.checked) false ⟨#[], #[.slice none 0 0, .slice none 0 0, .slice none 0 0], []⟩ 8 (by kernel_rfl) (by kernel_rfl) (by kernel_rfl) (by kernel_rfl)) ?_
  intro W base args ds gs before hval0 hW hcnd _
  have hval : ∀ (j : Nat) t v, Try.f5.params[j]? = some t → args[j]? = some v → Value.okWide Try.prog W .any base t v := hval0
  have hW' := hW
  obtain ⟨p, q, hA0, hV, rfl, hfz, hnd⟩ := hW
  have hA : DataW.TrodAll enc Try.prog W 0 (fun _ => true) true Try.f5.params.toList args.toList ds p := hA0
  rw [Try.params5] at hA hval
  obtain ⟨v0, vs0, d0, ds0, p0, q0, hargs, rfl, rfl, h0, r0⟩ := trodAll_cons hA
  obtain ⟨v1, vs1, d1, ds1, p1, q1, rfl, rfl, rfl, h1, r1⟩ := trodAll_cons r0
  obtain ⟨v2, vs2, d2, ds2, p2, q2, rfl, rfl, rfl, h2, r2⟩ := trodAll_cons r1
  obtain ⟨rfl, rfl, rfl⟩ := trodAll_nil r2
  obtain rfl : args = #[v0, v1, v2] := by cases args; simp_all
  obtain ⟨rfl, rfl⟩ := trodVars_none hV
  have h0' := h0
  obtain ⟨sa0, sl0, sc0, rfl⟩ := okWide_slice Try.underlying23 (hval 0 23 v0 rfl rfl)
  obtain ⟨fuel0, hf0⟩ := h0
  obtain ⟨l0, hs0, hfit0, hl0⟩ := open_nums (v := .slice sa0 sl0 sc0) hf0
  have hlt0 : ∀ x ∈ p0, x.block < W.heap.size := fun x hx => hW'.lt x (by simp [hx])
  have h1' := h1
  obtain ⟨sa1, sl1, sc1, rfl⟩ := okWide_slice Try.underlying22 (hval 1 22 v1 rfl rfl)
  obtain ⟨fuel1, hf1⟩ := h1
  obtain ⟨l1, hs1, hfit1, hl1⟩ := open_bytes (v := .slice sa1 sl1 sc1) hf1
  have hlt1 : ∀ x ∈ p1, x.block < W.heap.size := fun x hx => hW'.lt x (by simp [hx])
  have h2' := h2
  obtain ⟨sa2, sl2, sc2, rfl⟩ := okWide_slice Try.underlying22 (hval 2 22 v2 rfl rfl)
  obtain ⟨fuel2, hf2⟩ := h2
  obtain ⟨l2, hs2, hfit2, hl2⟩ := open_bytes (v := .slice sa2 sl2 sc2) hf2
  have hlt2 : ∀ x ∈ p2, x.block < W.heap.size := fun x hx => hW'.lt x (by simp [hx])
  clear hA0 hval0
  refine (back_walk _ _ _ l0 l1 l2 W hs0 hfit0 hl0 hs1 hfit1 hl1 hs2 hfit2 hl2).mono fun e W' ⟨he, hg⟩ => ?_
  subst he
  exact ⟨_, rfl, post_quiet (pa := (p0 ++ (p1 ++ (p2 ++ [])))) (pv := []) hW' hg (fun _ _ _ => (trodAll_cons_mk (shut_bool Try.underlying4 _) trodAll_mk0)) (fun sp hsp => (trodAll_cons_mk (arg_stays (by kernel_rfl) (of_decide_eq_true (by kernel_rfl)) h0' hg hlt0 (fun x hx => hsp x (by simp [hx]))) (trodAll_cons_mk (arg_stays (by kernel_rfl) (of_decide_eq_true (by kernel_rfl)) h1' hg hlt1 (fun x hx => hsp x (by simp [hx]))) (trodAll_cons_mk (arg_stays (by kernel_rfl) (of_decide_eq_true (by kernel_rfl)) h2' hg hlt2 (fun x hx => hsp x (by simp [hx]))) trodAll_mk0)))) (fun _ _ => rfl) (by simp) (ok_one (by kernel_rfl) rfl (okWide_bool_mk Try.underlying4 _))⟩

theorem back_over : Rows.wireBackRow.holds Try.pinned (OpenSpec.ofChange Rows.wireBackSpec) :=
  OpenClaim.holds_of_wide 5 Try.f5 rfl rfl rfl rfl rfl rfl rfl ⟨rfl, rfl, rfl, rfl, rfl⟩ rfl rfl rfl rfl rfl (by kernel_rfl) Try.func5 (by kernel_rfl)
    (of_decide_eq_true (by kernel_rfl)) (by unfold Func.isWrapper; first | (rw [if_pos (by decide +kernel)]; kernel_rfl) | (rw [if_neg (by decide +kernel)]; exact ⟨rfl, rfl⟩))
    (fun os started H enc _ => back_lifted os started H enc)

/-- The statement. -/
theorem back_holds : Rows.WireBackSaid :=
  back_over
#print axioms back_holds
end Go.Proofs.Ytboemljofdanfaa

/- VmEnds, for every input: it returns true, and its argument reads behind the call as it did: a code that is no code is refused, and a good one, given as many numbers as it has parameters, ends within 65536 instructions. No condition. -/
import Derived.Test.YtcebchffcmpfeaaGreatVArgst
namespace Go.Proofs.YtcebchffcmpfeaaGreat
open Go.ChangeShapes Go.WideShapes Go.ChangeAt Go.RowKit Go.Maps
set_option linter.unusedVariables false
set_option linter.unusedSimpArgs false

theorem make_few : ∀ (n : Nat), n ≤ 8 → ∀ (w : World), (Instr.makeSlice 26 (.int .i64 (n : Int)) (.int .i64 (n : Int))).run Tryz.prog w = .ok (.slice (some ⟨w.heap.size, 0, none⟩) n n) (w.alloc (.cells (iv (List.replicate n 0)).toArray 3))
  | 0, _, w => by kernel_rfl
  | 1, _, w => by kernel_rfl
  | 2, _, w => by kernel_rfl
  | 3, _, w => by kernel_rfl
  | 4, _, w => by kernel_rfl
  | 5, _, w => by kernel_rfl
  | 6, _, w => by kernel_rfl
  | 7, _, w => by kernel_rfl
  | 8, _, w => by kernel_rfl
/-- What 'copy' leaves in a row of noughts of n cells. -/
def laidZ (n : Nat) (m : List Int) : List Int := m.take n ++ List.replicate (n - m.length) 0
theorem laidZ_len (n : Nat) (m : List Int) : (laidZ n m).length = n := by
  unfold laidZ
  rw [List.length_append, List.length_take, List.length_replicate]
  omega
theorem laidZ_in {n : Nat} {m : List Int} (h : ∀ z ∈ m, n64 z) : ∀ z ∈ laidZ n m, n64 z := by
  intro z hz
  rcases List.mem_append.1 hz with h1 | h1
  · exact h z (List.mem_of_mem_take h1)
  · obtain ⟨-, rfl⟩ := List.mem_replicate.1 h1
    unfold n64
    omega
section
variable {w : World} {ops : Array Oper} {rest : List Oper} {o : Oper} {a : Act} {Q : Exit → Act → World → Prop}
theorem wpList_make_few (hg : o.guard = none) (l : Operand) (hop : o.op = .makeSlice 26 l l) (n : Nat) (hl : a.eval l = .int .i64 (n : Int)) (hn : n ≤ 8)
    (h : ∀ w' g, w'.heap[g]? = some (.cells (iv (List.replicate n 0)).toArray 3 (0, 0)) → w.heap.size ≤ g → Only [] w w' → wpList Tryz.prog ops Q rest (a.put o.dst (.slice (some ⟨g, 0, none⟩) n n)) w') : wpList Tryz.prog ops Q (o :: rest) a w := by
  refine wpList_plain hg fun K' hK' => ?_
  unfold Oper.wp
  simp [execOp, hop, hl, make_few n hn, Result.andThen]
  exact hK' _ _ (h _ _ (ag w _) (Nat.le_refl _) ((Only.refl _ _).alloc _))
/-- 'copy(args, x.Args)', args a row of noughts of one's own. -/
theorem wpList_copy_few (hgd : o.guard = none) (d s : Operand) (ho : o.op = .call { callee := .builtin .copy, args := #[d, s], argTypes := #[26, 26] }) {n : Nat} {m : List Int}
    (g : Nat) (hg : w.heap[g]? = some (.cells (iv (List.replicate n 0)).toArray 3 (0, 0))) (hd : a.eval d = .slice (some ⟨g, 0, none⟩) n n) (aa : Option Addr) (La ca : Nat) (hs : a.eval s = .slice aa La ca) (hv : RV rZ w (.slice aa La ca) m)
    (h : ∀ w' k, w'.heap[g]? = some (.cells (iv (laidZ n m)).toArray 3 (0, 0)) → Only [g] w w' → wpList Tryz.prog ops Q rest (a.put o.dst (goInt k)) w') : wpList Tryz.prog ops Q (o :: rest) a w := by
  have hL := hv.len_
  by_cases h0 : m.length = 0 ∨ n = 0
  · have e : laidZ n m = List.replicate n 0 := by
      unfold laidZ
      rcases h0 with h0 | h0
      · rw [List.eq_nil_of_length_eq_zero h0]
        simp
      · subst h0
        simp
    refine wpList_copy_nothing hgd d s 26 26 ho 3 Tryz.underlying26 ol _ aa n n La ca hd hs (by rw [hL]; rcases h0 with h0 | h0 <;> simp [h0]) ?_
    exact h w 0 (by rw [e]; exact hg) (Only.refl _ _)
  · obtain ⟨b, o0, rfl, hc⟩ := hv.at_ (i := 0) (List.getElem?_eq_getElem (by omega))
    have hadd : ∀ j, (⟨b, o0, none⟩ : Addr).add j = ⟨b, o0 + j, none⟩ := fun j => by unfold Addr.add; split <;> simp_all
    have e1 : (iv (m.take n)).length = min n m.length := by rw [aB, List.length_take]
    have e3 : (iv (List.replicate n 0)).length = n := by rw [aB, List.length_replicate]
    refine wpList_copy_own hgd d s 26 26 ho 3 Tryz.underlying26 ol g 0 n n ⟨b, o0, none⟩ La ca hd hs _ _ hg (iv (m.take n)) (by rw [e1, hL]; exact Nat.min_comm _ _) ?_ (by
      rw [e1, List.size_toArray, e3]
      omega) ?_ ?_
    · intro j u hj
      rw [hadd]
      obtain ⟨z, hz, rfl⟩ := List.getElem?_map .. ▸ hj |> Option.map_eq_some_iff.1
      have hz' : m[j]? = some z := by
        rw [List.getElem?_take] at hz
        split at hz
        · exact hz
        · cases hz
      obtain ⟨b', o', e1, hcell⟩ := hv.at_ hz'
      injection e1 with e1
      injection e1 with e1 e2 _
      subst e1 e2
      have := hcell 0 _ rfl
      simpa [rZ] using this
    · intro u hu
      obtain ⟨z, -, rfl⟩ := List.mem_map.1 hu
      rfl
    · have er : ((iv (List.replicate n 0)).toArray.toList.take 0 ++ (iv (m.take n) ++ (iv (List.replicate n 0)).toArray.toList.drop (0 + (iv (m.take n)).length))) = iv (laidZ n m) := by
        rw [e1]
        show [] ++ (List.map (Value.int .i64) (m.take n) ++ List.drop (0 + min n m.length) (List.map (Value.int .i64) (List.replicate n 0))) = List.map (Value.int .i64) (laidZ n m)
        rw [← List.map_drop, List.drop_replicate, List.nil_append, ← List.map_append]
        unfold laidZ
        rw [show n - (0 + min n m.length) = n - m.length by omega]
      rw [er]
      exact h _ _ (iX _ hg) ((Only.refl _ _).setRow (by simp) _)
end
theorem rv_made {w : World} {g : Nat} {l : List Int} (h : w.heap[g]? = some (.cells (iv l).toArray 3 (0, 0))) : RV rZ w (.slice (some ⟨g, 0, none⟩) l.length l.length) l :=
  ⟨_, _, rfl, .inr ⟨g, 0, rfl, fun i x hi j u hu => by
    obtain rfl : j = 0 := by
      have := (List.getElem?_eq_some_iff.1 hu).1
      simpa [rZ] using this
    obtain rfl : u = .int .i64 x := by simpa [rZ] using hu.symm
    have h2 : w.cell? ⟨g, i, none⟩ = some (.int .i64 x) := by
      rw [ab _ h]
      simp [iv, hi]
    simpa [rZ] using h2⟩⟩
theorem goSteps_end {c : Cd} (h : em c = true) (pg args : List Int) (ha : (args.length : Int) = c.params) : ∃ k : Nat, k ≤ 65536 ∧ qt c pg args = ((k : Int), .nilIface) := by
  refine ⟨(oY c pg args).1.n, ?_, ?_⟩
  · have := runM_n c 65536 (inM pg args)
    show (rE c 65536 (inM pg args)).1.n ≤ 65536
    have e : (inM pg args).n = 0 := rfl
    omega
  · unfold qt
    rw [if_neg (by rw [h]; decide), if_neg (by simpa using ha)]
set_option maxRecDepth 100000 in
set_option maxHeartbeats 4000000 in
theorem vends_walk (c : Cd) (l m : List Int) (xa : Option Addr) (xb : Nat) (xc : Option Addr) (xd : Nat) (xe : Option Addr) (xf : Nat) (xg : Option Addr) (xh : Nat) (w : World) (ha : RV rI w (.slice xa c.ins.length xb) c.ins) (hb : c.ins.length ≤ xb) (hc : ∀ x ∈ c.ins, n64 x.1 ∧ n64 x.2)
    (hd : RV rL w (.slice xc c.loops.length xd) c.loops) (he : c.loops.length ≤ xd) (hf : RV rZ w (.slice xe l.length xf) l) (hg : ∀ z ∈ l, n64 z) (hh : l.length ≤ xf) (hj : xf ≤ maxLen) (hk : RV rZ w (.slice xg m.length xh) m) (hl : ∀ z ∈ m, n64 z) (hm : m.length ≤ xh) (hn : xh ≤ maxLen) (ho : n64 c.params) (hp : n64 c.locals) :
    Calls Tryz.prog 4 #[xT c xa xb xc xd xe l.length xf xg m.length xh] w fun e w' => e = .returned (.bool true) ∧ Only [] w w' := by
  unfold xT
  obtain ⟨n1, hn1⟩ : ∃ n, n = c.ins.length := ⟨_, rfl⟩
  obtain ⟨n2, hn2⟩ : ∃ n, n = c.loops.length := ⟨_, rfl⟩
  obtain ⟨n3, hn3⟩ : ∃ n, n = l.length := ⟨_, rfl⟩
  obtain ⟨n4, hn4⟩ : ∃ n, n = m.length := ⟨_, rfl⟩
  obtain ⟨P, hP⟩ : ∃ n, n = c.params := ⟨_, rfl⟩
  obtain ⟨L, hL⟩ : ∃ n, n = c.locals := ⟨_, rfl⟩
  rw [← hn3] at hf
  rw [← hn4] at hk
  rw [← hn1] at ha
  rw [← hn2] at hd
  have HF := Hd (And.intro (hf.ints hg) (cw_fil12 hg))
  have HM := Hd hk
  have HA := Hd ha
  have HDD := Hd hd
  have HC := Hd hc
  have HL := Hd hl
  have hm4 : n4 ≤ 9223372036854775807 := by
    have : maxLen = 9223372036854775807 := by rfl
    omega
  have hm3 : n3 ≤ 9223372036854775807 := by
    have : maxLen = 9223372036854775807 := by rfl
    omega
  have HX := Hd (show n1 ≤ xb ∧ n2 ≤ xd ∧ n4 ≤ 9223372036854775807 ∧ n3 ≤ 9223372036854775807 from ⟨by omega, by omega, hm4, hm3⟩)
  rw [← hn1, ← hn2, ← hn3, ← hn4, ← hP, ← hL]
  have HN := Hd (show n1 = c.ins.length ∧ n2 = c.loops.length ∧ n3 = l.length ∧ n4 = m.length ∧ P = c.params ∧ L = c.locals from ⟨hn1, hn2, hn3, hn4, hP, hL⟩)
  clear hn1 hn2 hn3 hn4 hP hL ha hb hc hd he hf hg hh hj hk hl hm hn ho hp hm4 hm3
  go_enter Tryz.func4, Tryz.ntmps4
  go_upto_region 1 with (fail)
  obtain ⟨w1, q9, o1, hB, -⟩ := nb w (.cells #[.int .i64 P, .int .i64 L, .slice xa n1 xb, .slice xc n2 xd, .slice xe n3 xf, .slice xg n4 xh] 28)
  rw [← q9]
  clear q9
  obtain ⟨gB, hgB⟩ : ∃ g, g = w.heap.size := ⟨_, rfl⟩
  rw [← hgB] at hB ⊢
  have HB := Hd hB
  have HO := Hd o1
  clear hB o1 hgB
  go_wp2_with fail
  refine (qC w1).mono ?_
  rintro e w2 ⟨rfl, o2⟩
  replace HB := Hd (o2.heap HB.out (by simp))
  replace HO := Hd (HO.out.trans o2 (by simp))
  clear o2
  have k0 : w2.cell? ⟨gB, 0, none⟩ = some (.int .i64 P) := ab 0 HB.out
  have k1 : w2.cell? ⟨gB, 1, none⟩ = some (.int .i64 L) := ab 1 HB.out
  have k2 : w2.cell? ⟨gB, 2, none⟩ = some (.slice xa n1 xb) := ab 2 HB.out
  have k3 : w2.cell? ⟨gB, 3, none⟩ = some (.slice xc n2 xd) := ab 3 HB.out
  by_cases hb1 : (5000 : Int) < n1
  · go_wp2_with fail
    go_ret
    exact ⟨rfl, HO.out⟩
  by_cases hb2 : (100 : Int) < n2
  · go_wp2_with fail
    go_ret
    exact ⟨rfl, HO.out⟩
  have HCV := Hd (show CV w c xa n1 xb xc n2 xd from ⟨HA.out, HDD.out, HN.out.1, HN.out.2.1, by omega, by omega, HX.out.1, HX.out.2.1⟩)
  have HNP := Hd HN.out.2.2.2.2
  have h60 := HF.out.2.len
  have KC := fa (HCV.out.quiet HO.out)
  rw [← HNP.out.1, ← HNP.out.2] at KC
  go_wp2_with fail
  refine KC.mono ?_
  rintro e w3 ⟨rfl, o3⟩
  replace HB := Hd (o3.heap HB.out (by simp))
  replace HO := Hd (HO.out.trans o3 (by simp))
  clear KC o3 k0 k1 k2 k3
  have e1 := jc
  have e2 := jb
  have e3 := rO
  have e4 := rN
  have k0 : w3.cell? ⟨gB, 0, none⟩ = some (.int .i64 P) := ab 0 HB.out
  have k1 : w3.cell? ⟨gB, 1, none⟩ = some (.int .i64 L) := ab 1 HB.out
  have k2 : w3.cell? ⟨gB, 2, none⟩ = some (.slice xa n1 xb) := ab 2 HB.out
  have k3 : w3.cell? ⟨gB, 3, none⟩ = some (.slice xc n2 xd) := ab 3 HB.out
  have k4 : w3.cell? ⟨gB, 4, none⟩ = some (.slice xe n3 xf) := ab 4 HB.out
  have k5 : w3.cell? ⟨gB, 5, none⟩ = some (.slice xg n4 xh) := ab 5 HB.out
  cases hgd : em c with
  | false =>
    rw [show tB c = err 13 by unfold tB; rw [if_neg (by rw [hgd]; decide)]]
    have KV := rJ (q := 0) (pg := blankP) (args := m) (HCV.out.quiet HO.out) (fun i hi => (HC.out i hi).2) gN (HM.out.quiet HO.out) HL.out HX.out.2.2.1
    rw [show j6 0 c blankP m = (0 :: blankP, 0, err 13) by unfold j6; rw [if_pos hgd]] at KV
    rw [← HNP.out.1, ← HNP.out.2] at KV
    clear HCV HF HM HA HDD HC HL HX HN HNP h60
    go_wp2_with (refine cr rfl [] rfl (0 :: blankP) cf ?_)
    refine KV.mono ?_
    rintro e w4 ⟨rfl, o4⟩
    replace HO := Hd (HO.out.trans o4 (by simp))
    clear KV o4 k0 k1 k2 k3 k4 k5 HB hgd
    have T1 := trivial
    go_wp2_with (first
      | (clear T1
         refine aJ rfl rfl ?_; intro w7 g4 hb3 hg3 ho3; have HB3 := Hd hb3; have HG3 := Hd (Nat.le_trans HO.out.size hg3); replace HO := Hd (HO.out.trans ho3 (by simp)); clear hb3 hg3 ho3)
      | (refine aw rfl _ _ rfl g4 (0 :: blankP) (by rfl) (by rfl) (by rfl) _ HB3.out (by rfl) ?_; intro w8 hb ho; replace HO := Hd (HO.out.trans ho (by simp; exact HG3.out)); clear hb ho HB3))
    go_ret
    exact ⟨rfl, HO.out⟩
  | true =>
    rw [show tB c = .nilIface by unfold tB; rw [if_pos hgd]]
    obtain ⟨hp0, hp8, -⟩ := (rF hgd).1.fit
    rw [← HNP.out.1] at hp0 hp8
    obtain ⟨p, rfl⟩ : ∃ p : Nat, P = (p : Int) := ⟨P.toNat, by omega⟩
    have hp9 : p ≤ 8 := by omega
    have T1 := trivial
    go_upto_region 10 with (first
      | (clear T1
         refine wpList_make_few rfl _ rfl p (by rfl) hp9 ?_; intro w4 g4 hb4 hg4 ho4; have HB4 := Hd hb4; have HG4 := Hd (Nat.le_trans HO.out.size hg4); have HNE := Hd (show gB ≠ g4 by have := ak HB.out; omega); replace HB := Hd (ho4.heap HB.out (by simp)); replace HO := Hd (HO.out.trans ho4 (by simp)); clear hb4 hg4 ho4 k0 k1 k2 k3 k4 k5
         have k5 : w4.cell? ⟨gB, 5, none⟩ = some (.slice xg n4 xh) := ab 5 HB.out)
      | (refine wpList_copy_few rfl _ _ rfl g4 HB4.out (by rfl) _ _ _ (by rfl) (HM.out.quiet HO.out) ?_; intro w5 kk hb ho; have HB5 := Hd hb; replace HB := Hd (ho.heap HB.out (by simpa using HNE.out)); replace HO := Hd (HO.out.trans ho (by simp; exact HG4.out)); clear hb ho HB4 k5))
    have hA := rv_made HB5.out
    rw [laidZ_len] at hA
    have HAR := Hd hA
    have HAI := Hd (laidZ_in (n := p) HL.out)
    have HAL := Hd (laidZ_len p m)
    clear hA HM HB5 HG4 HNE
    generalize laidZ p m = ag at HAR HAI HAL
    obtain ⟨k, hk, hgo⟩ := goSteps_end hgd (iR l 60) ag (by rw [HAL.out, ← HNP.out.1])
    have oD : Only [] w5 w5.drew := (Only.refl [] w5).drew
    replace HB := Hd (oD.heap HB.out (by simp))
    replace HO := Hd (HO.out.trans oD (by simp))
    replace HAR := Hd (HAR.out.quiet oD)
    refine wp_region_held_drew (S := fun w' => w'.cell? ⟨gB, 0, none⟩ = some (.int .i64 (p : Int)) ∧ w'.cell? ⟨gB, 1, none⟩ = some (.int .i64 L) ∧ w'.cell? ⟨gB, 2, none⟩ = some (.slice xa n1 xb) ∧ w'.cell? ⟨gB, 3, none⟩ = some (.slice xc n2 xd) ∧ w'.cell? ⟨gB, 4, none⟩ = some (.slice xe n3 xf)) (by kernel_rfl) ⟨ab 0 HB.out, ab 1 HB.out, ab 2 HB.out, ab 3 HB.out, ab 4 HB.out⟩ (fun hH => ?_)
    clear oD
    generalize w5.drew = wd at HB HO HAR hH ⊢
    refine tk 0 hH ?_
    refine tk 1 hH ?_
    refine tk 2 hH ?_
    refine tk 3 hH ?_
    refine tk 5 hH ?_
    refine rd 4 (fun K hK => ?_)
    go_simp
    refine (qG _ l _ (HF.out.1.kept HO.out (fun _ _ _ _ _ => by simp)) (by have := HN.out.2.2.1; have := HX.out.2.2.2; omega)).mono ?_
    rintro e w6 ⟨rfl, o6⟩
    replace HB := Hd (o6.heap HB.out (by simp))
    replace HO := Hd (HO.out.trans o6 (by simp))
    replace HAR := Hd (HAR.out.quiet o6)
    refine hK.out _ _ ⟨ab 0 HB.out, ab 1 HB.out, ab 2 HB.out, ab 3 HB.out, ab 4 HB.out⟩ (fun hH => ?_)
    clear hK K o6
    have KS := vsteps_any (q := 5) (pg := iR l 60) (args := ag) (HCV.out.quiet HO.out) (fun i hi => (HC.out i hi).2) HF.out.2 HAR.out HAI.out (by omega)
    rw [hgo, ← HNP.out.1, ← HNP.out.2] at KS
    clear hgo HF HA HDD HC HL HCV HNP h60
    generalize iR l 60 = F at KS hH ⊢
    refine rd 6 (fun K hK => ?_)
    go_simp
    refine KS.mono ?_
    rintro e w7 ⟨rfl, o7⟩
    replace HB := Hd (o7.heap HB.out (by simp))
    replace HO := Hd (HO.out.trans o7 (by simp))
    refine hK.out _ _ ⟨ab 0 HB.out, ab 1 HB.out, ab 2 HB.out, ab 3 HB.out, ab 4 HB.out⟩ (fun hH => ?_)
    clear hK K o7 KS
    refine tk 7 hH ?_
    refine tk 8 hH ?_
    refine tk 9 hH ?_
    refine tk 10 hH ?_
    refine tk 11 hH ?_
    refine wpAnyH_done (by kernel_rfl) ?_ _
    clear hH
    have hk0 : (0 : Int) ≤ (k : Int) := by omega
    have hk1 : (k : Int) ≤ 65536 := by omega
    go_wp2_with fail
    go_ret
    exact ⟨rfl, HO.out⟩

set_option maxRecDepth 100000 in
theorem vends_lifted (os : Os) (started : os.Started) (H : Type) (enc : TypeId × Value → H) :
    ReturnsInHanded {} Tryz.checked os 4 .any (Rows.vmEndsSpec.pre6 enc Tryz.prog Tryz.f4 Rows.vmEndsRow.domain false) (Rows.vmEndsSpec.post enc Tryz.prog Tryz.f4 false true false false) := by
  refine returnsInHanded_of_change (C := Tryz.checked) law_own started (by kernel_rfl) Tryz.func4
    (ChangeSpec.witness6 (enc := enc) (C := Tryz.checked) false ⟨#[], #[.agg #[.int .i64 0, .int .i64 0, .slice none 0 0, .slice none 0 0, .slice none 0 0, .slice none 0 0]], []⟩ 8 (by kernel_rfl) (by kernel_rfl) (by kernel_rfl) (by kernel_rfl)) ?_
  intro W base args ds gs before hval0 hW hcnd _
  have hval : ∀ (j : Nat) t v, Tryz.f4.params[j]? = some t → args[j]? = some v → Value.okWide Tryz.prog W .any base t v := hval0
  have hW' := hW
  obtain ⟨p, q, hA0, hV, rfl, hfz, hnd⟩ := hW
  have hA : DataW.TrodAll enc Tryz.prog W 0 (fun _ => true) true Tryz.f4.params.toList args.toList ds p := hA0
  rw [Tryz.params4] at hA hval
  obtain ⟨v0, vs0, d0, ds0, p0, q0, hargs, rfl, rfl, h0, r0⟩ := trodAll_cons hA
  obtain ⟨rfl, rfl, rfl⟩ := trodAll_nil r0
  obtain rfl : args = #[v0] := by cases args; simp_all
  obtain ⟨rfl, rfl⟩ := trodVars_none hV
  have h0' := h0
  obtain ⟨c0, l0, m0, xa0, xb0, xc0, xd0, xe0, xf0, xg0, xh0, rfl, ha0, hb0, hc0, hd0, he0, hf0, hg0, hh0, hj0, hk0, hl0, hm0, hn0, ho0, hp0⟩ := tT (hval 0 28 v0 rfl rfl) h0
  have hlt0 : ∀ x ∈ p0, x.block < W.heap.size := fun x hx => hW'.lt x (by simp [hx])
  clear hA0 hval0
  refine (vends_walk c0 l0 m0 xa0 xb0 xc0 xd0 xe0 xf0 xg0 xh0  W ha0 hb0 hc0 hd0 he0 hf0 hg0 hh0 hj0 hk0 hl0 hm0 hn0 ho0 hp0).mono fun e W' ⟨he, hg⟩ => ?_
  subst he
  exact ⟨_, rfl, rV (pa := (p0 ++ [])) (pv := []) hW' hg (fun _ _ _ => (trodAll_cons_mk (shut_bool Tryz.underlying4 _) trodAll_mk0)) (fun sp hsp => (trodAll_cons_mk (ud (by kernel_rfl) (of_decide_eq_true (by kernel_rfl)) h0' hg hlt0 (fun x hx => hsp x (by simp [hx]))) trodAll_mk0)) (fun _ _ => rfl) (by simp) (ok_one (by kernel_rfl) rfl (okWide_bool_mk Tryz.underlying4 _))⟩

theorem vends_over : Rows.vmEndsRow.holds Tryz.pinned (OpenSpec.ofChange Rows.vmEndsSpec) :=
  OpenClaim.holds_of_wide 4 Tryz.f4 rfl rfl rfl rfl rfl rfl rfl ⟨rfl, rfl, rfl, rfl, rfl⟩ rfl rfl rfl rfl rfl (by kernel_rfl) Tryz.func4 (by kernel_rfl)
    (of_decide_eq_true (by kernel_rfl)) (by unfold Func.isWrapper; first | (rw [if_pos (by decide +kernel)]; kernel_rfl) | (rw [if_neg (by decide +kernel)]; exact ⟨rfl, rfl⟩))
    (fun os started H enc _ => vends_lifted os started H enc)

/-- The statement. -/
theorem vends_holds : Rows.VmEndsSaid :=
  vends_over
#print axioms vends_holds
end Go.Proofs.YtcebchffcmpfeaaGreat

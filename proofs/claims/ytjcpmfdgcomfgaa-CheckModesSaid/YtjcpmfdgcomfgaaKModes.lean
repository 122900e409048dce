/- CheckModes, for every input: it returns true, and its argument reads behind the call as it did: what only reads has no statement that changes a cell, and what adds reads no cell. No condition. -/
import Derived.Test.YtjcpmfdgcomfgaaQa
import Derived.Test.YtjcpmfdgcomfgaaKa
import Derived.Test.YtjcpmfdgcomfgaaL
import Derived.ChangeMaps5
namespace Go.Proofs.Ytjcpmfdgcomfgaa
open Go.ChangeShapes Go.WideShapes Go.ChangeAt Go.RowKit Go.Maps
set_option linter.unusedVariables false
set_option linter.unusedSimpArgs false

theorem zz_eq (w : World) : (binOp .eql 31 (.agg #[.int .i64 0, .int .i64 0, .int .i64 0, .bool false]) (.agg #[.int .i64 0, .int .i64 0, .int .i64 0, .bool false])).run Try.prog w = .ok (.bool true) w := by kernel_rfl
set_option maxRecDepth 100000 in
set_option maxHeartbeats 16000000 in
theorem kmodes_walk (s : ByteArray) (w : World) (hs : s.size ≤ maxLen) : Calls Try.prog 5 #[.string s] w fun e w' => e = .returned (.bool true) ∧ Only [] w w' := by
  unfold maxLen at hs
  go_enter Try.func5, Try.ntmps5
  go_wp2_with fail
  refine (alive8_any w).mono ?_
  rintro e w1 ⟨rfl, o1⟩
  have HO := Lib.hid o1
  clear o1
  obtain ⟨R, hR⟩ : ∃ R, R = parseS s.data.toList := ⟨_, rfl⟩
  have K1 := checked_any s w1 (by omega)
  rw [show chkS s.data.toList = chkR R by rw [hR]; rfl] at K1
  have HR := Lib.hid hR
  clear hR
  go_wp2_with fail
  refine K1.mono ?_
  rintro e w2 ⟨rfl, o2⟩
  replace HO := Lib.hid (HO.out.trans o2 (by simp))
  clear K1 o2
  cases R with
  | error q =>
    rw [show chkR (.error q : Except (Nat × Nat) Df) = ((infoZ, 0, 0), false) from rfl]
    dsimp only
    unfold infoV infoZ
    dsimp only
    go_upto_region 5 with (fail)
    have hX := heap_new w2 (.cells #[.int .i64 0, .int .i64 0, .int .i64 0, .bool false] 31)
    have oX := (Only.refl [] w2).alloc (.cells #[.int .i64 0, .int .i64 0, .int .i64 0, .bool false] 31)
    generalize w2.alloc (.cells #[.int .i64 0, .int .i64 0, .int .i64 0, .bool false] 31) = w3 at hX oX ⊢
    have x0 : w3.cell? ⟨w2.heap.size, 0, none⟩ = some (.int .i64 0) := cell_at 0 hX
    have x1 : w3.cell? ⟨w2.heap.size, 1, none⟩ = some (.int .i64 0) := cell_at 1 hX
    have x2 : w3.cell? ⟨w2.heap.size, 2, none⟩ = some (.int .i64 0) := cell_at 2 hX
    have x3 : w3.cell? ⟨w2.heap.size, 3, none⟩ = some (.bool false) := cell_at 3 hX
    have q := zz_eq
    replace HO := Lib.hid (HO.out.trans oX (by simp))
    clear hX oX
    go_wp2_with fail
    go_ret
    exact ⟨rfl, HO.out⟩
  | ok d =>
    have hw := parse_whole HR.out.symm
    have hp := parse_plain HR.out.symm
    rw [show chkR (.ok d : Except (Nat × Nat) Df) = (chkD d, true) from rfl]
    cases hf : (opS CS.new d).flt with
    | some x =>
      obtain ⟨xc, xp⟩ := x
      rw [show chkD d = (infoZ, xc, xp) by unfold chkD; rw [hf]]
      have hxc : (xc != 0) = true := by simpa using code_ne hw hf
      dsimp only
      unfold infoV infoZ
      dsimp only
      go_upto_region 5 with (fail)
      have hX := heap_new w2 (.cells #[.int .i64 0, .int .i64 0, .int .i64 0, .bool false] 31)
      have oX := (Only.refl [] w2).alloc (.cells #[.int .i64 0, .int .i64 0, .int .i64 0, .bool false] 31)
      generalize w2.alloc (.cells #[.int .i64 0, .int .i64 0, .int .i64 0, .bool false] 31) = w3 at hX oX ⊢
      have x0 : w3.cell? ⟨w2.heap.size, 0, none⟩ = some (.int .i64 0) := cell_at 0 hX
      have x1 : w3.cell? ⟨w2.heap.size, 1, none⟩ = some (.int .i64 0) := cell_at 1 hX
      have x2 : w3.cell? ⟨w2.heap.size, 2, none⟩ = some (.int .i64 0) := cell_at 2 hX
      have x3 : w3.cell? ⟨w2.heap.size, 3, none⟩ = some (.bool false) := cell_at 3 hX
      have q := zz_eq
      replace HO := Lib.hid (HO.out.trans oX (by simp))
      clear hX oX
      go_wp2_with fail
      go_ret
      exact ⟨rfl, HO.out⟩
    | none =>
      obtain ⟨hi, hst, hnm⟩ := info_of hw hp hf
      rw [show chkD d = (opI CS.new d, 0, 0) by unfold chkD; rw [hf], hi]
      unfold infoV
      dsimp only
      obtain ⟨m, hm⟩ : ∃ m, m = modeF d := ⟨_, rfl⟩
      obtain ⟨st, hst'⟩ : ∃ st, st = stD d := ⟨_, rfl⟩
      obtain ⟨nm, hnm'⟩ : ∃ nm, nm = (opG CS.new d).decl.length := ⟨_, rfl⟩
      rw [← hst'] at hst ⊢
      rw [← hnm'] at hnm ⊢
      have st0 : (0 : Int) ≤ (st : Int) := by omega
      have st1 : (st : Int) ≤ 2048 := by omega
      have nm1 : (nm : Int) ≤ 16 := by omega
      have hsz := hw.size
      obtain ⟨b25, h25⟩ : ∃ b, b = hasB 2 5 d.body := ⟨_, rfl⟩
      obtain ⟨b22, h22⟩ : ∃ b, b = hasB 2 2 d.body := ⟨_, rfl⟩
      obtain ⟨b55, h55⟩ : ∃ b, b = hasB 5 5 d.body := ⟨_, rfl⟩
      obtain ⟨rb, hrb⟩ : ∃ b, b = readB d.body := ⟨_, rfl⟩
      obtain ⟨cn, hcn⟩ : ∃ b, b = cellL d.needs := ⟨_, rfl⟩
      obtain ⟨cg, hcg⟩ : ∃ b, b = cellL d.give := ⟨_, rfl⟩
      have C25 : ∀ w v B, SsV w B v d.body → Calls Try.prog 16 #[v, .int .i64 2, .int .i64 5] w fun en w' => en = .returned (.bool b25) ∧ Only [] w w' := fun w v B h => by rw [h25]; exact chas_all 2 5 1000000 (Nat.le_refl _) d.body (by omega) w v B h
      have C22 : ∀ w v B, SsV w B v d.body → Calls Try.prog 16 #[v, .int .i64 2, .int .i64 2] w fun en w' => en = .returned (.bool b22) ∧ Only [] w w' := fun w v B h => by rw [h22]; exact chas_all 2 2 1000000 (Nat.le_refl _) d.body (by omega) w v B h
      have C55 : ∀ w v B, SsV w B v d.body → Calls Try.prog 16 #[v, .int .i64 5, .int .i64 5] w fun en w' => en = .returned (.bool b55) ∧ Only [] w w' := fun w v B h => by rw [h55]; exact chas_all 5 5 1000000 (Nat.le_refl _) d.body (by omega) w v B h
      have Crb : ∀ w v B, SsV w B v d.body → Calls Try.prog 17 #[v] w fun en w' => en = .returned (.bool rb) ∧ Only [] w w' := fun w v B h => by rw [hrb]; exact cread_all 1000000 (Nat.le_refl _) d.body (by omega) w v B h
      have Ccn : ∀ w v B, EsV w B v d.needs → Calls Try.prog 18 #[v] w fun en w' => en = .returned (.bool cn) ∧ Only [] w w' := fun w v B h => by rw [hcn]; exact ccell_all 1000000 (Nat.le_refl _) d.needs (by omega) w v B h
      have Ccg : ∀ w v B, EsV w B v d.give → Calls Try.prog 18 #[v] w fun en w' => en = .returned (.bool cg) ∧ Only [] w w' := fun w v B h => by rw [hcg]; exact ccell_all 1000000 (Nat.le_refl _) d.give (by omega) w v B h
      have hm2 : m = if b25 = false then 1 else if b22 = false ∧ b55 = false ∧ rb = false ∧ cn = false ∧ cg = false then 2 else 3 := by rw [hm, h25, h22, h55, hrb, hcn, hcg]; rfl
      rw [← hm, ← h22, ← hrb]
      have HM := Lib.hid hm2
      have H25 := Lib.hid C25
      have H22 := Lib.hid C22
      have H55 := Lib.hid C55
      have Hrb := Lib.hid Crb
      have Hcn := Lib.hid Ccn
      have Hcg := Lib.hid Ccg
      clear hw hp hf hi hm hst' hnm' hst hnm hsz h25 h22 h55 hrb hcn hcg C25 C22 C55 Crb Ccn Ccg hm2
      obtain ⟨tu, htu⟩ : ∃ t, t = (!b22 && !rb) := ⟨_, rfl⟩
      rw [← htu]
      have HTU := Lib.hid htu
      clear htu
      go_upto_region 4 with (fail)
      have hX := heap_new w2 (.cells #[.int .i64 m, .int .i64 st, .int .i64 nm, .bool tu] 31)
      have oX := (Only.refl [] w2).alloc (.cells #[.int .i64 m, .int .i64 st, .int .i64 nm, .bool tu] 31)
      generalize w2.alloc (.cells #[.int .i64 m, .int .i64 st, .int .i64 nm, .bool tu] 31) = w3 at hX oX ⊢
      replace HO := Lib.hid (HO.out.trans oX (by simp))
      have HX := Lib.hid hX
      have K2 := rparse_any s w3 (by omega)
      rw [← HR.out] at K2
      clear hX oX
      go_wp2_with fail
      refine K2.mono ?_
      rintro e w4 ⟨sn, a1, a2, a3, a4, l1, l2, l3, l4, c1, c2, c3, c4, c, p, rfl, herr, hok, o4⟩
      obtain ⟨rfl, rfl, hdv⟩ := hok d rfl
      obtain ⟨v1, v2, v3, v4, hcs, -, hv2, hv3, hv4⟩ := hdv
      injection hcs with e0 hcs
      injection hcs with e1 hcs
      injection hcs with e2 hcs
      injection hcs with e3 hcs
      injection hcs with e4 hcs
      subst e2 e3 e4
      replace HO := Lib.hid (HO.out.trans o4 (by simp))
      replace HX := Lib.hid (o4.heap HX.out (by simp))
      have HV2 := Lib.hid hv2
      have HV3 := Lib.hid hv3
      have HV4 := Lib.hid hv4
      clear K2 herr hok o4 hv2 hv3 hv4 e0 e1 hcs
      go_upto_region 7 with (fail)
      have hD := heap_new w4 (.cells #[.string sn, .slice a1 l1 c1, .slice a2 l2 c2, .slice a3 l3 c3, .slice a4 l4 c4] 27)
      have oD := (Only.refl [] w4).alloc (.cells #[.string sn, .slice a1 l1 c1, .slice a2 l2 c2, .slice a3 l3 c3, .slice a4 l4 c4] 27)
      generalize w4.alloc (.cells #[.string sn, .slice a1 l1 c1, .slice a2 l2 c2, .slice a3 l3 c3, .slice a4 l4 c4] 27) = w5 at hD oD ⊢
      replace HO := Lib.hid (HO.out.trans oD (by simp))
      replace HX := Lib.hid (oD.heap HX.out (by simp))
      replace HV2 := Lib.hid (HV2.out.quiet oD)
      replace HV3 := Lib.hid (HV3.out.quiet oD)
      replace HV4 := Lib.hid (HV4.out.quiet oD)
      have HD := Lib.hid hD
      have d3 : w5.cell? ⟨w4.heap.size, 3, none⟩ = some (.slice a3 l3 c3) := cell_at 3 hD
      have K := H25.out w5 _ _ HV3.out
      clear hD oD
      go_wp2_with fail
      refine K.mono ?_
      rintro e w6 ⟨rfl, o⟩
      replace HO := Lib.hid (HO.out.trans o (by simp))
      replace HX := Lib.hid (o.heap HX.out (by simp))
      replace HD := Lib.hid (o.heap HD.out (by simp))
      replace HV2 := Lib.hid (HV2.out.quiet o)
      replace HV3 := Lib.hid (HV3.out.quiet o)
      replace HV4 := Lib.hid (HV4.out.quiet o)
      clear K o
      clear d3
      have d3 : w6.cell? ⟨w4.heap.size, 3, none⟩ = some (.slice a3 l3 c3) := cell_at 3 HD.out
      have K := Hrb.out w6 _ _ HV3.out
      go_wp2_with fail
      refine K.mono ?_
      rintro e w7 ⟨rfl, o⟩
      replace HO := Lib.hid (HO.out.trans o (by simp))
      replace HX := Lib.hid (o.heap HX.out (by simp))
      replace HD := Lib.hid (o.heap HD.out (by simp))
      replace HV2 := Lib.hid (HV2.out.quiet o)
      replace HV3 := Lib.hid (HV3.out.quiet o)
      replace HV4 := Lib.hid (HV4.out.quiet o)
      clear K o
      clear d3
      cases rb
      · have d2 : w7.cell? ⟨w4.heap.size, 2, none⟩ = some (.slice a2 l2 c2) := cell_at 2 HD.out
        have K := Hcn.out w7 _ _ HV2.out
        go_wp2_with fail
        refine K.mono ?_
        rintro e w8 ⟨rfl, o⟩
        replace HO := Lib.hid (HO.out.trans o (by simp))
        replace HX := Lib.hid (o.heap HX.out (by simp))
        replace HD := Lib.hid (o.heap HD.out (by simp))
        replace HV2 := Lib.hid (HV2.out.quiet o)
        replace HV3 := Lib.hid (HV3.out.quiet o)
        replace HV4 := Lib.hid (HV4.out.quiet o)
        clear K o
        clear d2
        cases cn
        · have d4 : w8.cell? ⟨w4.heap.size, 4, none⟩ = some (.slice a4 l4 c4) := cell_at 4 HD.out
          have K := Hcg.out w8 _ _ HV4.out
          go_wp2_with fail
          refine K.mono ?_
          rintro e w9 ⟨rfl, o⟩
          replace HO := Lib.hid (HO.out.trans o (by simp))
          replace HX := Lib.hid (o.heap HX.out (by simp))
          replace HD := Lib.hid (o.heap HD.out (by simp))
          replace HV2 := Lib.hid (HV2.out.quiet o)
          replace HV3 := Lib.hid (HV3.out.quiet o)
          replace HV4 := Lib.hid (HV4.out.quiet o)
          clear K o
          clear d4
          cases cg
          · skip
            cases b25 <;> cases b22 <;> cases b55
            · obtain rfl : m = 1 := by have := HM.out; simpa using this
              obtain rfl : tu = true := by have := HTU.out; simpa using this
              have x0 : w9.cell? ⟨w2.heap.size, 0, none⟩ = some (.int .i64 1) := cell_at 0 HX.out
              have x1 : w9.cell? ⟨w2.heap.size, 1, none⟩ = some (.int .i64 st) := cell_at 1 HX.out
              have x2 : w9.cell? ⟨w2.heap.size, 2, none⟩ = some (.int .i64 nm) := cell_at 2 HX.out
              have x3 : w9.cell? ⟨w2.heap.size, 3, none⟩ = some (.bool true) := cell_at 3 HX.out
              have d3 : w9.cell? ⟨w4.heap.size, 3, none⟩ = some (.slice a3 l3 c3) := cell_at 3 HD.out
              have K := H22.out w9 _ _ HV3.out
              go_wp2_with fail
              refine K.mono ?_
              rintro e wb ⟨rfl, o⟩
              clear x0 x1 x2 x3 d3
              replace HO := Lib.hid (HO.out.trans o (by simp))
              replace HX := Lib.hid (o.heap HX.out (by simp))
              replace HD := Lib.hid (o.heap HD.out (by simp))
              replace HV2 := Lib.hid (HV2.out.quiet o)
              replace HV3 := Lib.hid (HV3.out.quiet o)
              replace HV4 := Lib.hid (HV4.out.quiet o)
              clear K o
              go_wp2_with fail
              go_ret
              exact ⟨rfl, HO.out⟩
            · obtain rfl : m = 1 := by have := HM.out; simpa using this
              obtain rfl : tu = true := by have := HTU.out; simpa using this
              have x0 : w9.cell? ⟨w2.heap.size, 0, none⟩ = some (.int .i64 1) := cell_at 0 HX.out
              have x1 : w9.cell? ⟨w2.heap.size, 1, none⟩ = some (.int .i64 st) := cell_at 1 HX.out
              have x2 : w9.cell? ⟨w2.heap.size, 2, none⟩ = some (.int .i64 nm) := cell_at 2 HX.out
              have x3 : w9.cell? ⟨w2.heap.size, 3, none⟩ = some (.bool true) := cell_at 3 HX.out
              have d3 : w9.cell? ⟨w4.heap.size, 3, none⟩ = some (.slice a3 l3 c3) := cell_at 3 HD.out
              have K := H22.out w9 _ _ HV3.out
              go_wp2_with fail
              refine K.mono ?_
              rintro e wb ⟨rfl, o⟩
              clear x0 x1 x2 x3 d3
              replace HO := Lib.hid (HO.out.trans o (by simp))
              replace HX := Lib.hid (o.heap HX.out (by simp))
              replace HD := Lib.hid (o.heap HD.out (by simp))
              replace HV2 := Lib.hid (HV2.out.quiet o)
              replace HV3 := Lib.hid (HV3.out.quiet o)
              replace HV4 := Lib.hid (HV4.out.quiet o)
              clear K o
              go_wp2_with fail
              go_ret
              exact ⟨rfl, HO.out⟩
            · obtain rfl : m = 1 := by have := HM.out; simpa using this
              obtain rfl : tu = false := by have := HTU.out; simpa using this
              have x0 : w9.cell? ⟨w2.heap.size, 0, none⟩ = some (.int .i64 1) := cell_at 0 HX.out
              have x1 : w9.cell? ⟨w2.heap.size, 1, none⟩ = some (.int .i64 st) := cell_at 1 HX.out
              have x2 : w9.cell? ⟨w2.heap.size, 2, none⟩ = some (.int .i64 nm) := cell_at 2 HX.out
              have x3 : w9.cell? ⟨w2.heap.size, 3, none⟩ = some (.bool false) := cell_at 3 HX.out
              have d3 : w9.cell? ⟨w4.heap.size, 3, none⟩ = some (.slice a3 l3 c3) := cell_at 3 HD.out
              go_wp2_with fail
              go_ret
              exact ⟨rfl, HO.out⟩
            · obtain rfl : m = 1 := by have := HM.out; simpa using this
              obtain rfl : tu = false := by have := HTU.out; simpa using this
              have x0 : w9.cell? ⟨w2.heap.size, 0, none⟩ = some (.int .i64 1) := cell_at 0 HX.out
              have x1 : w9.cell? ⟨w2.heap.size, 1, none⟩ = some (.int .i64 st) := cell_at 1 HX.out
              have x2 : w9.cell? ⟨w2.heap.size, 2, none⟩ = some (.int .i64 nm) := cell_at 2 HX.out
              have x3 : w9.cell? ⟨w2.heap.size, 3, none⟩ = some (.bool false) := cell_at 3 HX.out
              have d3 : w9.cell? ⟨w4.heap.size, 3, none⟩ = some (.slice a3 l3 c3) := cell_at 3 HD.out
              go_wp2_with fail
              go_ret
              exact ⟨rfl, HO.out⟩
            · obtain rfl : m = 2 := by have := HM.out; simpa using this
              obtain rfl : tu = true := by have := HTU.out; simpa using this
              have x0 : w9.cell? ⟨w2.heap.size, 0, none⟩ = some (.int .i64 2) := cell_at 0 HX.out
              have x1 : w9.cell? ⟨w2.heap.size, 1, none⟩ = some (.int .i64 st) := cell_at 1 HX.out
              have x2 : w9.cell? ⟨w2.heap.size, 2, none⟩ = some (.int .i64 nm) := cell_at 2 HX.out
              have x3 : w9.cell? ⟨w2.heap.size, 3, none⟩ = some (.bool true) := cell_at 3 HX.out
              have d3 : w9.cell? ⟨w4.heap.size, 3, none⟩ = some (.slice a3 l3 c3) := cell_at 3 HD.out
              have K := H55.out w9 _ _ HV3.out
              go_wp2_with fail
              refine K.mono ?_
              rintro e wa ⟨rfl, o⟩
              clear x0 x1 x2 x3 d3
              replace HO := Lib.hid (HO.out.trans o (by simp))
              replace HX := Lib.hid (o.heap HX.out (by simp))
              replace HD := Lib.hid (o.heap HD.out (by simp))
              replace HV2 := Lib.hid (HV2.out.quiet o)
              replace HV3 := Lib.hid (HV3.out.quiet o)
              replace HV4 := Lib.hid (HV4.out.quiet o)
              clear K o
              have x0 : wa.cell? ⟨w2.heap.size, 0, none⟩ = some (.int .i64 2) := cell_at 0 HX.out
              have x1 : wa.cell? ⟨w2.heap.size, 1, none⟩ = some (.int .i64 st) := cell_at 1 HX.out
              have x2 : wa.cell? ⟨w2.heap.size, 2, none⟩ = some (.int .i64 nm) := cell_at 2 HX.out
              have x3 : wa.cell? ⟨w2.heap.size, 3, none⟩ = some (.bool true) := cell_at 3 HX.out
              have d3 : wa.cell? ⟨w4.heap.size, 3, none⟩ = some (.slice a3 l3 c3) := cell_at 3 HD.out
              have K := H22.out wa _ _ HV3.out
              go_wp2_with fail
              refine K.mono ?_
              rintro e wb ⟨rfl, o⟩
              clear x0 x1 x2 x3 d3
              replace HO := Lib.hid (HO.out.trans o (by simp))
              replace HX := Lib.hid (o.heap HX.out (by simp))
              replace HD := Lib.hid (o.heap HD.out (by simp))
              replace HV2 := Lib.hid (HV2.out.quiet o)
              replace HV3 := Lib.hid (HV3.out.quiet o)
              replace HV4 := Lib.hid (HV4.out.quiet o)
              clear K o
              go_wp2_with fail
              go_ret
              exact ⟨rfl, HO.out⟩
            · obtain rfl : m = 3 := by have := HM.out; simpa using this
              obtain rfl : tu = true := by have := HTU.out; simpa using this
              have x0 : w9.cell? ⟨w2.heap.size, 0, none⟩ = some (.int .i64 3) := cell_at 0 HX.out
              have x1 : w9.cell? ⟨w2.heap.size, 1, none⟩ = some (.int .i64 st) := cell_at 1 HX.out
              have x2 : w9.cell? ⟨w2.heap.size, 2, none⟩ = some (.int .i64 nm) := cell_at 2 HX.out
              have x3 : w9.cell? ⟨w2.heap.size, 3, none⟩ = some (.bool true) := cell_at 3 HX.out
              have d3 : w9.cell? ⟨w4.heap.size, 3, none⟩ = some (.slice a3 l3 c3) := cell_at 3 HD.out
              have K := H22.out w9 _ _ HV3.out
              go_wp2_with fail
              refine K.mono ?_
              rintro e wb ⟨rfl, o⟩
              clear x0 x1 x2 x3 d3
              replace HO := Lib.hid (HO.out.trans o (by simp))
              replace HX := Lib.hid (o.heap HX.out (by simp))
              replace HD := Lib.hid (o.heap HD.out (by simp))
              replace HV2 := Lib.hid (HV2.out.quiet o)
              replace HV3 := Lib.hid (HV3.out.quiet o)
              replace HV4 := Lib.hid (HV4.out.quiet o)
              clear K o
              go_wp2_with fail
              go_ret
              exact ⟨rfl, HO.out⟩
            · obtain rfl : m = 3 := by have := HM.out; simpa using this
              obtain rfl : tu = false := by have := HTU.out; simpa using this
              have x0 : w9.cell? ⟨w2.heap.size, 0, none⟩ = some (.int .i64 3) := cell_at 0 HX.out
              have x1 : w9.cell? ⟨w2.heap.size, 1, none⟩ = some (.int .i64 st) := cell_at 1 HX.out
              have x2 : w9.cell? ⟨w2.heap.size, 2, none⟩ = some (.int .i64 nm) := cell_at 2 HX.out
              have x3 : w9.cell? ⟨w2.heap.size, 3, none⟩ = some (.bool false) := cell_at 3 HX.out
              have d3 : w9.cell? ⟨w4.heap.size, 3, none⟩ = some (.slice a3 l3 c3) := cell_at 3 HD.out
              go_wp2_with fail
              go_ret
              exact ⟨rfl, HO.out⟩
            · obtain rfl : m = 3 := by have := HM.out; simpa using this
              obtain rfl : tu = false := by have := HTU.out; simpa using this
              have x0 : w9.cell? ⟨w2.heap.size, 0, none⟩ = some (.int .i64 3) := cell_at 0 HX.out
              have x1 : w9.cell? ⟨w2.heap.size, 1, none⟩ = some (.int .i64 st) := cell_at 1 HX.out
              have x2 : w9.cell? ⟨w2.heap.size, 2, none⟩ = some (.int .i64 nm) := cell_at 2 HX.out
              have x3 : w9.cell? ⟨w2.heap.size, 3, none⟩ = some (.bool false) := cell_at 3 HX.out
              have d3 : w9.cell? ⟨w4.heap.size, 3, none⟩ = some (.slice a3 l3 c3) := cell_at 3 HD.out
              go_wp2_with fail
              go_ret
              exact ⟨rfl, HO.out⟩
          · skip
            cases b25 <;> cases b22 <;> cases b55
            · obtain rfl : m = 1 := by have := HM.out; simpa using this
              obtain rfl : tu = true := by have := HTU.out; simpa using this
              have x0 : w9.cell? ⟨w2.heap.size, 0, none⟩ = some (.int .i64 1) := cell_at 0 HX.out
              have x1 : w9.cell? ⟨w2.heap.size, 1, none⟩ = some (.int .i64 st) := cell_at 1 HX.out
              have x2 : w9.cell? ⟨w2.heap.size, 2, none⟩ = some (.int .i64 nm) := cell_at 2 HX.out
              have x3 : w9.cell? ⟨w2.heap.size, 3, none⟩ = some (.bool true) := cell_at 3 HX.out
              have d3 : w9.cell? ⟨w4.heap.size, 3, none⟩ = some (.slice a3 l3 c3) := cell_at 3 HD.out
              have K := H22.out w9 _ _ HV3.out
              go_wp2_with fail
              refine K.mono ?_
              rintro e wb ⟨rfl, o⟩
              clear x0 x1 x2 x3 d3
              replace HO := Lib.hid (HO.out.trans o (by simp))
              replace HX := Lib.hid (o.heap HX.out (by simp))
              replace HD := Lib.hid (o.heap HD.out (by simp))
              replace HV2 := Lib.hid (HV2.out.quiet o)
              replace HV3 := Lib.hid (HV3.out.quiet o)
              replace HV4 := Lib.hid (HV4.out.quiet o)
              clear K o
              go_wp2_with fail
              go_ret
              exact ⟨rfl, HO.out⟩
            · obtain rfl : m = 1 := by have := HM.out; simpa using this
              obtain rfl : tu = true := by have := HTU.out; simpa using this
              have x0 : w9.cell? ⟨w2.heap.size, 0, none⟩ = some (.int .i64 1) := cell_at 0 HX.out
              have x1 : w9.cell? ⟨w2.heap.size, 1, none⟩ = some (.int .i64 st) := cell_at 1 HX.out
              have x2 : w9.cell? ⟨w2.heap.size, 2, none⟩ = some (.int .i64 nm) := cell_at 2 HX.out
              have x3 : w9.cell? ⟨w2.heap.size, 3, none⟩ = some (.bool true) := cell_at 3 HX.out
              have d3 : w9.cell? ⟨w4.heap.size, 3, none⟩ = some (.slice a3 l3 c3) := cell_at 3 HD.out
              have K := H22.out w9 _ _ HV3.out
              go_wp2_with fail
              refine K.mono ?_
              rintro e wb ⟨rfl, o⟩
              clear x0 x1 x2 x3 d3
              replace HO := Lib.hid (HO.out.trans o (by simp))
              replace HX := Lib.hid (o.heap HX.out (by simp))
              replace HD := Lib.hid (o.heap HD.out (by simp))
              replace HV2 := Lib.hid (HV2.out.quiet o)
              replace HV3 := Lib.hid (HV3.out.quiet o)
              replace HV4 := Lib.hid (HV4.out.quiet o)
              clear K o
              go_wp2_with fail
              go_ret
              exact ⟨rfl, HO.out⟩
            · obtain rfl : m = 1 := by have := HM.out; simpa using this
              obtain rfl : tu = false := by have := HTU.out; simpa using this
              have x0 : w9.cell? ⟨w2.heap.size, 0, none⟩ = some (.int .i64 1) := cell_at 0 HX.out
              have x1 : w9.cell? ⟨w2.heap.size, 1, none⟩ = some (.int .i64 st) := cell_at 1 HX.out
              have x2 : w9.cell? ⟨w2.heap.size, 2, none⟩ = some (.int .i64 nm) := cell_at 2 HX.out
              have x3 : w9.cell? ⟨w2.heap.size, 3, none⟩ = some (.bool false) := cell_at 3 HX.out
              have d3 : w9.cell? ⟨w4.heap.size, 3, none⟩ = some (.slice a3 l3 c3) := cell_at 3 HD.out
              go_wp2_with fail
              go_ret
              exact ⟨rfl, HO.out⟩
            · obtain rfl : m = 1 := by have := HM.out; simpa using this
              obtain rfl : tu = false := by have := HTU.out; simpa using this
              have x0 : w9.cell? ⟨w2.heap.size, 0, none⟩ = some (.int .i64 1) := cell_at 0 HX.out
              have x1 : w9.cell? ⟨w2.heap.size, 1, none⟩ = some (.int .i64 st) := cell_at 1 HX.out
              have x2 : w9.cell? ⟨w2.heap.size, 2, none⟩ = some (.int .i64 nm) := cell_at 2 HX.out
              have x3 : w9.cell? ⟨w2.heap.size, 3, none⟩ = some (.bool false) := cell_at 3 HX.out
              have d3 : w9.cell? ⟨w4.heap.size, 3, none⟩ = some (.slice a3 l3 c3) := cell_at 3 HD.out
              go_wp2_with fail
              go_ret
              exact ⟨rfl, HO.out⟩
            · obtain rfl : m = 3 := by have := HM.out; simpa using this
              obtain rfl : tu = true := by have := HTU.out; simpa using this
              have x0 : w9.cell? ⟨w2.heap.size, 0, none⟩ = some (.int .i64 3) := cell_at 0 HX.out
              have x1 : w9.cell? ⟨w2.heap.size, 1, none⟩ = some (.int .i64 st) := cell_at 1 HX.out
              have x2 : w9.cell? ⟨w2.heap.size, 2, none⟩ = some (.int .i64 nm) := cell_at 2 HX.out
              have x3 : w9.cell? ⟨w2.heap.size, 3, none⟩ = some (.bool true) := cell_at 3 HX.out
              have d3 : w9.cell? ⟨w4.heap.size, 3, none⟩ = some (.slice a3 l3 c3) := cell_at 3 HD.out
              have K := H22.out w9 _ _ HV3.out
              go_wp2_with fail
              refine K.mono ?_
              rintro e wb ⟨rfl, o⟩
              clear x0 x1 x2 x3 d3
              replace HO := Lib.hid (HO.out.trans o (by simp))
              replace HX := Lib.hid (o.heap HX.out (by simp))
              replace HD := Lib.hid (o.heap HD.out (by simp))
              replace HV2 := Lib.hid (HV2.out.quiet o)
              replace HV3 := Lib.hid (HV3.out.quiet o)
              replace HV4 := Lib.hid (HV4.out.quiet o)
              clear K o
              go_wp2_with fail
              go_ret
              exact ⟨rfl, HO.out⟩
            · obtain rfl : m = 3 := by have := HM.out; simpa using this
              obtain rfl : tu = true := by have := HTU.out; simpa using this
              have x0 : w9.cell? ⟨w2.heap.size, 0, none⟩ = some (.int .i64 3) := cell_at 0 HX.out
              have x1 : w9.cell? ⟨w2.heap.size, 1, none⟩ = some (.int .i64 st) := cell_at 1 HX.out
              have x2 : w9.cell? ⟨w2.heap.size, 2, none⟩ = some (.int .i64 nm) := cell_at 2 HX.out
              have x3 : w9.cell? ⟨w2.heap.size, 3, none⟩ = some (.bool true) := cell_at 3 HX.out
              have d3 : w9.cell? ⟨w4.heap.size, 3, none⟩ = some (.slice a3 l3 c3) := cell_at 3 HD.out
              have K := H22.out w9 _ _ HV3.out
              go_wp2_with fail
              refine K.mono ?_
              rintro e wb ⟨rfl, o⟩
              clear x0 x1 x2 x3 d3
              replace HO := Lib.hid (HO.out.trans o (by simp))
              replace HX := Lib.hid (o.heap HX.out (by simp))
              replace HD := Lib.hid (o.heap HD.out (by simp))
              replace HV2 := Lib.hid (HV2.out.quiet o)
              replace HV3 := Lib.hid (HV3.out.quiet o)
              replace HV4 := Lib.hid (HV4.out.quiet o)
              clear K o
              go_wp2_with fail
              go_ret
              exact ⟨rfl, HO.out⟩
            · obtain rfl : m = 3 := by have := HM.out; simpa using this
              obtain rfl : tu = false := by have := HTU.out; simpa using this
              have x0 : w9.cell? ⟨w2.heap.size, 0, none⟩ = some (.int .i64 3) := cell_at 0 HX.out
              have x1 : w9.cell? ⟨w2.heap.size, 1, none⟩ = some (.int .i64 st) := cell_at 1 HX.out
              have x2 : w9.cell? ⟨w2.heap.size, 2, none⟩ = some (.int .i64 nm) := cell_at 2 HX.out
              have x3 : w9.cell? ⟨w2.heap.size, 3, none⟩ = some (.bool false) := cell_at 3 HX.out
              have d3 : w9.cell? ⟨w4.heap.size, 3, none⟩ = some (.slice a3 l3 c3) := cell_at 3 HD.out
              go_wp2_with fail
              go_ret
              exact ⟨rfl, HO.out⟩
            · obtain rfl : m = 3 := by have := HM.out; simpa using this
              obtain rfl : tu = false := by have := HTU.out; simpa using this
              have x0 : w9.cell? ⟨w2.heap.size, 0, none⟩ = some (.int .i64 3) := cell_at 0 HX.out
              have x1 : w9.cell? ⟨w2.heap.size, 1, none⟩ = some (.int .i64 st) := cell_at 1 HX.out
              have x2 : w9.cell? ⟨w2.heap.size, 2, none⟩ = some (.int .i64 nm) := cell_at 2 HX.out
              have x3 : w9.cell? ⟨w2.heap.size, 3, none⟩ = some (.bool false) := cell_at 3 HX.out
              have d3 : w9.cell? ⟨w4.heap.size, 3, none⟩ = some (.slice a3 l3 c3) := cell_at 3 HD.out
              go_wp2_with fail
              go_ret
              exact ⟨rfl, HO.out⟩
        · skip
          cases b25 <;> cases b22 <;> cases b55
          · obtain rfl : m = 1 := by have := HM.out; simpa using this
            obtain rfl : tu = true := by have := HTU.out; simpa using this
            have x0 : w8.cell? ⟨w2.heap.size, 0, none⟩ = some (.int .i64 1) := cell_at 0 HX.out
            have x1 : w8.cell? ⟨w2.heap.size, 1, none⟩ = some (.int .i64 st) := cell_at 1 HX.out
            have x2 : w8.cell? ⟨w2.heap.size, 2, none⟩ = some (.int .i64 nm) := cell_at 2 HX.out
            have x3 : w8.cell? ⟨w2.heap.size, 3, none⟩ = some (.bool true) := cell_at 3 HX.out
            have d3 : w8.cell? ⟨w4.heap.size, 3, none⟩ = some (.slice a3 l3 c3) := cell_at 3 HD.out
            have K := H22.out w8 _ _ HV3.out
            go_wp2_with fail
            refine K.mono ?_
            rintro e wb ⟨rfl, o⟩
            clear x0 x1 x2 x3 d3
            replace HO := Lib.hid (HO.out.trans o (by simp))
            replace HX := Lib.hid (o.heap HX.out (by simp))
            replace HD := Lib.hid (o.heap HD.out (by simp))
            replace HV2 := Lib.hid (HV2.out.quiet o)
            replace HV3 := Lib.hid (HV3.out.quiet o)
            replace HV4 := Lib.hid (HV4.out.quiet o)
            clear K o
            go_wp2_with fail
            go_ret
            exact ⟨rfl, HO.out⟩
          · obtain rfl : m = 1 := by have := HM.out; simpa using this
            obtain rfl : tu = true := by have := HTU.out; simpa using this
            have x0 : w8.cell? ⟨w2.heap.size, 0, none⟩ = some (.int .i64 1) := cell_at 0 HX.out
            have x1 : w8.cell? ⟨w2.heap.size, 1, none⟩ = some (.int .i64 st) := cell_at 1 HX.out
            have x2 : w8.cell? ⟨w2.heap.size, 2, none⟩ = some (.int .i64 nm) := cell_at 2 HX.out
            have x3 : w8.cell? ⟨w2.heap.size, 3, none⟩ = some (.bool true) := cell_at 3 HX.out
            have d3 : w8.cell? ⟨w4.heap.size, 3, none⟩ = some (.slice a3 l3 c3) := cell_at 3 HD.out
            have K := H22.out w8 _ _ HV3.out
            go_wp2_with fail
            refine K.mono ?_
            rintro e wb ⟨rfl, o⟩
            clear x0 x1 x2 x3 d3
            replace HO := Lib.hid (HO.out.trans o (by simp))
            replace HX := Lib.hid (o.heap HX.out (by simp))
            replace HD := Lib.hid (o.heap HD.out (by simp))
            replace HV2 := Lib.hid (HV2.out.quiet o)
            replace HV3 := Lib.hid (HV3.out.quiet o)
            replace HV4 := Lib.hid (HV4.out.quiet o)
            clear K o
            go_wp2_with fail
            go_ret
            exact ⟨rfl, HO.out⟩
          · obtain rfl : m = 1 := by have := HM.out; simpa using this
            obtain rfl : tu = false := by have := HTU.out; simpa using this
            have x0 : w8.cell? ⟨w2.heap.size, 0, none⟩ = some (.int .i64 1) := cell_at 0 HX.out
            have x1 : w8.cell? ⟨w2.heap.size, 1, none⟩ = some (.int .i64 st) := cell_at 1 HX.out
            have x2 : w8.cell? ⟨w2.heap.size, 2, none⟩ = some (.int .i64 nm) := cell_at 2 HX.out
            have x3 : w8.cell? ⟨w2.heap.size, 3, none⟩ = some (.bool false) := cell_at 3 HX.out
            have d3 : w8.cell? ⟨w4.heap.size, 3, none⟩ = some (.slice a3 l3 c3) := cell_at 3 HD.out
            go_wp2_with fail
            go_ret
            exact ⟨rfl, HO.out⟩
          · obtain rfl : m = 1 := by have := HM.out; simpa using this
            obtain rfl : tu = false := by have := HTU.out; simpa using this
            have x0 : w8.cell? ⟨w2.heap.size, 0, none⟩ = some (.int .i64 1) := cell_at 0 HX.out
            have x1 : w8.cell? ⟨w2.heap.size, 1, none⟩ = some (.int .i64 st) := cell_at 1 HX.out
            have x2 : w8.cell? ⟨w2.heap.size, 2, none⟩ = some (.int .i64 nm) := cell_at 2 HX.out
            have x3 : w8.cell? ⟨w2.heap.size, 3, none⟩ = some (.bool false) := cell_at 3 HX.out
            have d3 : w8.cell? ⟨w4.heap.size, 3, none⟩ = some (.slice a3 l3 c3) := cell_at 3 HD.out
            go_wp2_with fail
            go_ret
            exact ⟨rfl, HO.out⟩
          · obtain rfl : m = 3 := by have := HM.out; simpa using this
            obtain rfl : tu = true := by have := HTU.out; simpa using this
            have x0 : w8.cell? ⟨w2.heap.size, 0, none⟩ = some (.int .i64 3) := cell_at 0 HX.out
            have x1 : w8.cell? ⟨w2.heap.size, 1, none⟩ = some (.int .i64 st) := cell_at 1 HX.out
            have x2 : w8.cell? ⟨w2.heap.size, 2, none⟩ = some (.int .i64 nm) := cell_at 2 HX.out
            have x3 : w8.cell? ⟨w2.heap.size, 3, none⟩ = some (.bool true) := cell_at 3 HX.out
            have d3 : w8.cell? ⟨w4.heap.size, 3, none⟩ = some (.slice a3 l3 c3) := cell_at 3 HD.out
            have K := H22.out w8 _ _ HV3.out
            go_wp2_with fail
            refine K.mono ?_
            rintro e wb ⟨rfl, o⟩
            clear x0 x1 x2 x3 d3
            replace HO := Lib.hid (HO.out.trans o (by simp))
            replace HX := Lib.hid (o.heap HX.out (by simp))
            replace HD := Lib.hid (o.heap HD.out (by simp))
            replace HV2 := Lib.hid (HV2.out.quiet o)
            replace HV3 := Lib.hid (HV3.out.quiet o)
            replace HV4 := Lib.hid (HV4.out.quiet o)
            clear K o
            go_wp2_with fail
            go_ret
            exact ⟨rfl, HO.out⟩
          · obtain rfl : m = 3 := by have := HM.out; simpa using this
            obtain rfl : tu = true := by have := HTU.out; simpa using this
            have x0 : w8.cell? ⟨w2.heap.size, 0, none⟩ = some (.int .i64 3) := cell_at 0 HX.out
            have x1 : w8.cell? ⟨w2.heap.size, 1, none⟩ = some (.int .i64 st) := cell_at 1 HX.out
            have x2 : w8.cell? ⟨w2.heap.size, 2, none⟩ = some (.int .i64 nm) := cell_at 2 HX.out
            have x3 : w8.cell? ⟨w2.heap.size, 3, none⟩ = some (.bool true) := cell_at 3 HX.out
            have d3 : w8.cell? ⟨w4.heap.size, 3, none⟩ = some (.slice a3 l3 c3) := cell_at 3 HD.out
            have K := H22.out w8 _ _ HV3.out
            go_wp2_with fail
            refine K.mono ?_
            rintro e wb ⟨rfl, o⟩
            clear x0 x1 x2 x3 d3
            replace HO := Lib.hid (HO.out.trans o (by simp))
            replace HX := Lib.hid (o.heap HX.out (by simp))
            replace HD := Lib.hid (o.heap HD.out (by simp))
            replace HV2 := Lib.hid (HV2.out.quiet o)
            replace HV3 := Lib.hid (HV3.out.quiet o)
            replace HV4 := Lib.hid (HV4.out.quiet o)
            clear K o
            go_wp2_with fail
            go_ret
            exact ⟨rfl, HO.out⟩
          · obtain rfl : m = 3 := by have := HM.out; simpa using this
            obtain rfl : tu = false := by have := HTU.out; simpa using this
            have x0 : w8.cell? ⟨w2.heap.size, 0, none⟩ = some (.int .i64 3) := cell_at 0 HX.out
            have x1 : w8.cell? ⟨w2.heap.size, 1, none⟩ = some (.int .i64 st) := cell_at 1 HX.out
            have x2 : w8.cell? ⟨w2.heap.size, 2, none⟩ = some (.int .i64 nm) := cell_at 2 HX.out
            have x3 : w8.cell? ⟨w2.heap.size, 3, none⟩ = some (.bool false) := cell_at 3 HX.out
            have d3 : w8.cell? ⟨w4.heap.size, 3, none⟩ = some (.slice a3 l3 c3) := cell_at 3 HD.out
            go_wp2_with fail
            go_ret
            exact ⟨rfl, HO.out⟩
          · obtain rfl : m = 3 := by have := HM.out; simpa using this
            obtain rfl : tu = false := by have := HTU.out; simpa using this
            have x0 : w8.cell? ⟨w2.heap.size, 0, none⟩ = some (.int .i64 3) := cell_at 0 HX.out
            have x1 : w8.cell? ⟨w2.heap.size, 1, none⟩ = some (.int .i64 st) := cell_at 1 HX.out
            have x2 : w8.cell? ⟨w2.heap.size, 2, none⟩ = some (.int .i64 nm) := cell_at 2 HX.out
            have x3 : w8.cell? ⟨w2.heap.size, 3, none⟩ = some (.bool false) := cell_at 3 HX.out
            have d3 : w8.cell? ⟨w4.heap.size, 3, none⟩ = some (.slice a3 l3 c3) := cell_at 3 HD.out
            go_wp2_with fail
            go_ret
            exact ⟨rfl, HO.out⟩
      · skip
        cases b25 <;> cases b22 <;> cases b55
        · obtain rfl : m = 1 := by have := HM.out; simpa using this
          obtain rfl : tu = false := by have := HTU.out; simpa using this
          have x0 : w7.cell? ⟨w2.heap.size, 0, none⟩ = some (.int .i64 1) := cell_at 0 HX.out
          have x1 : w7.cell? ⟨w2.heap.size, 1, none⟩ = some (.int .i64 st) := cell_at 1 HX.out
          have x2 : w7.cell? ⟨w2.heap.size, 2, none⟩ = some (.int .i64 nm) := cell_at 2 HX.out
          have x3 : w7.cell? ⟨w2.heap.size, 3, none⟩ = some (.bool false) := cell_at 3 HX.out
          have d3 : w7.cell? ⟨w4.heap.size, 3, none⟩ = some (.slice a3 l3 c3) := cell_at 3 HD.out
          go_wp2_with fail
          go_ret
          exact ⟨rfl, HO.out⟩
        · obtain rfl : m = 1 := by have := HM.out; simpa using this
          obtain rfl : tu = false := by have := HTU.out; simpa using this
          have x0 : w7.cell? ⟨w2.heap.size, 0, none⟩ = some (.int .i64 1) := cell_at 0 HX.out
          have x1 : w7.cell? ⟨w2.heap.size, 1, none⟩ = some (.int .i64 st) := cell_at 1 HX.out
          have x2 : w7.cell? ⟨w2.heap.size, 2, none⟩ = some (.int .i64 nm) := cell_at 2 HX.out
          have x3 : w7.cell? ⟨w2.heap.size, 3, none⟩ = some (.bool false) := cell_at 3 HX.out
          have d3 : w7.cell? ⟨w4.heap.size, 3, none⟩ = some (.slice a3 l3 c3) := cell_at 3 HD.out
          go_wp2_with fail
          go_ret
          exact ⟨rfl, HO.out⟩
        · obtain rfl : m = 1 := by have := HM.out; simpa using this
          obtain rfl : tu = false := by have := HTU.out; simpa using this
          have x0 : w7.cell? ⟨w2.heap.size, 0, none⟩ = some (.int .i64 1) := cell_at 0 HX.out
          have x1 : w7.cell? ⟨w2.heap.size, 1, none⟩ = some (.int .i64 st) := cell_at 1 HX.out
          have x2 : w7.cell? ⟨w2.heap.size, 2, none⟩ = some (.int .i64 nm) := cell_at 2 HX.out
          have x3 : w7.cell? ⟨w2.heap.size, 3, none⟩ = some (.bool false) := cell_at 3 HX.out
          have d3 : w7.cell? ⟨w4.heap.size, 3, none⟩ = some (.slice a3 l3 c3) := cell_at 3 HD.out
          go_wp2_with fail
          go_ret
          exact ⟨rfl, HO.out⟩
        · obtain rfl : m = 1 := by have := HM.out; simpa using this
          obtain rfl : tu = false := by have := HTU.out; simpa using this
          have x0 : w7.cell? ⟨w2.heap.size, 0, none⟩ = some (.int .i64 1) := cell_at 0 HX.out
          have x1 : w7.cell? ⟨w2.heap.size, 1, none⟩ = some (.int .i64 st) := cell_at 1 HX.out
          have x2 : w7.cell? ⟨w2.heap.size, 2, none⟩ = some (.int .i64 nm) := cell_at 2 HX.out
          have x3 : w7.cell? ⟨w2.heap.size, 3, none⟩ = some (.bool false) := cell_at 3 HX.out
          have d3 : w7.cell? ⟨w4.heap.size, 3, none⟩ = some (.slice a3 l3 c3) := cell_at 3 HD.out
          go_wp2_with fail
          go_ret
          exact ⟨rfl, HO.out⟩
        · obtain rfl : m = 3 := by have := HM.out; simpa using this
          obtain rfl : tu = false := by have := HTU.out; simpa using this
          have x0 : w7.cell? ⟨w2.heap.size, 0, none⟩ = some (.int .i64 3) := cell_at 0 HX.out
          have x1 : w7.cell? ⟨w2.heap.size, 1, none⟩ = some (.int .i64 st) := cell_at 1 HX.out
          have x2 : w7.cell? ⟨w2.heap.size, 2, none⟩ = some (.int .i64 nm) := cell_at 2 HX.out
          have x3 : w7.cell? ⟨w2.heap.size, 3, none⟩ = some (.bool false) := cell_at 3 HX.out
          have d3 : w7.cell? ⟨w4.heap.size, 3, none⟩ = some (.slice a3 l3 c3) := cell_at 3 HD.out
          go_wp2_with fail
          go_ret
          exact ⟨rfl, HO.out⟩
        · obtain rfl : m = 3 := by have := HM.out; simpa using this
          obtain rfl : tu = false := by have := HTU.out; simpa using this
          have x0 : w7.cell? ⟨w2.heap.size, 0, none⟩ = some (.int .i64 3) := cell_at 0 HX.out
          have x1 : w7.cell? ⟨w2.heap.size, 1, none⟩ = some (.int .i64 st) := cell_at 1 HX.out
          have x2 : w7.cell? ⟨w2.heap.size, 2, none⟩ = some (.int .i64 nm) := cell_at 2 HX.out
          have x3 : w7.cell? ⟨w2.heap.size, 3, none⟩ = some (.bool false) := cell_at 3 HX.out
          have d3 : w7.cell? ⟨w4.heap.size, 3, none⟩ = some (.slice a3 l3 c3) := cell_at 3 HD.out
          go_wp2_with fail
          go_ret
          exact ⟨rfl, HO.out⟩
        · obtain rfl : m = 3 := by have := HM.out; simpa using this
          obtain rfl : tu = false := by have := HTU.out; simpa using this
          have x0 : w7.cell? ⟨w2.heap.size, 0, none⟩ = some (.int .i64 3) := cell_at 0 HX.out
          have x1 : w7.cell? ⟨w2.heap.size, 1, none⟩ = some (.int .i64 st) := cell_at 1 HX.out
          have x2 : w7.cell? ⟨w2.heap.size, 2, none⟩ = some (.int .i64 nm) := cell_at 2 HX.out
          have x3 : w7.cell? ⟨w2.heap.size, 3, none⟩ = some (.bool false) := cell_at 3 HX.out
          have d3 : w7.cell? ⟨w4.heap.size, 3, none⟩ = some (.slice a3 l3 c3) := cell_at 3 HD.out
          go_wp2_with fail
          go_ret
          exact ⟨rfl, HO.out⟩
        · obtain rfl : m = 3 := by have := HM.out; simpa using this
          obtain rfl : tu = false := by have := HTU.out; simpa using this
          have x0 : w7.cell? ⟨w2.heap.size, 0, none⟩ = some (.int .i64 3) := cell_at 0 HX.out
          have x1 : w7.cell? ⟨w2.heap.size, 1, none⟩ = some (.int .i64 st) := cell_at 1 HX.out
          have x2 : w7.cell? ⟨w2.heap.size, 2, none⟩ = some (.int .i64 nm) := cell_at 2 HX.out
          have x3 : w7.cell? ⟨w2.heap.size, 3, none⟩ = some (.bool false) := cell_at 3 HX.out
          have d3 : w7.cell? ⟨w4.heap.size, 3, none⟩ = some (.slice a3 l3 c3) := cell_at 3 HD.out
          go_wp2_with fail
          go_ret
          exact ⟨rfl, HO.out⟩

set_option maxRecDepth 100000 in
theorem kmodes_lifted (os : Os) (started : os.Started) (H : Type) (enc : TypeId × Value → H) :
    ReturnsInHanded {} Try.checked os 5 .any (Rows.checkModesSpec.pre6 enc Try.prog Try.f5 Rows.checkModesRow.domain false) (Rows.checkModesSpec.post enc Try.prog Try.f5 false true false false) := by
  refine returnsInHanded_of_change (C := Try.checked) law_own started (by kernel_rfl) Try.func5
    (ChangeSpec.witness6 (enc := enc) (C := Try.checked) false ⟨#[], #[.string ⟨#[]⟩], []⟩ 8 (by kernel_rfl) (by kernel_rfl) (by kernel_rfl) (by kernel_rfl)) ?_
  intro W base args ds gs before hval0 hW hcnd _
  have hval : ∀ (j : Nat) t v, Try.f5.params[j]? = some t → args[j]? = some v → Value.okWide Try.prog W .any base t v := hval0
  have hW' := hW
  obtain ⟨p, q, hA0, hV, rfl, hfz, hnd⟩ := hW
  have hA : DataW.TrodAll enc Try.prog W 0 (fun _ => true) true Try.f5.params.toList args.toList ds p := hA0
  rw [Try.params5] at hA hval
  obtain ⟨v0, vs0, d0, ds0, p0, q0, hargs, rfl, rfl, h0, r0⟩ := trodAll_cons hA
  obtain ⟨rfl, rfl, rfl⟩ := trodAll_nil r0
  obtain rfl : args = #[v0] := by cases args; simp_all
  obtain ⟨rfl, rfl⟩ := trodVars_none hV
  obtain ⟨a0, rfl, rfl, rfl, w0⟩ := Go.ChangeMaps.open_string Try.underlying9 (hval 0 9 v0 rfl rfl) h0
  clear hA0 hval0
  refine (kmodes_walk a0  W w0).mono fun e W' ⟨he, hg⟩ => ?_
  subst he
  exact ⟨_, rfl, post_quiet (pa := ([] ++ [])) (pv := []) hW' hg (fun _ _ _ => (trodAll_cons_mk (shut_bool Try.underlying4 _) trodAll_mk0)) (fun sp hsp => (trodAll_cons_mk (Go.ChangeMaps.shut_string Try.underlying9 w0) trodAll_mk0)) (fun _ _ => rfl) (by simp) (ok_one (by kernel_rfl) rfl (okWide_bool_mk Try.underlying4 _))⟩

theorem kmodes_over : Rows.checkModesRow.holds Try.pinned (OpenSpec.ofChange Rows.checkModesSpec) :=
  OpenClaim.holds_of_wide 5 Try.f5 rfl rfl rfl rfl rfl rfl rfl ⟨rfl, rfl, rfl, rfl, rfl⟩ rfl rfl rfl rfl rfl (by kernel_rfl) Try.func5 (by kernel_rfl)
    (of_decide_eq_true (by kernel_rfl)) (by unfold Func.isWrapper; first | (rw [if_pos (by decide +kernel)]; kernel_rfl) | (rw [if_neg (by decide +kernel)]; exact ⟨rfl, rfl⟩))
    (fun os started H enc _ => kmodes_lifted os started H enc)

/-- The statement. -/
theorem kmodes_holds : Rows.CheckModesSaid :=
  kmodes_over
#print axioms kmodes_holds
end Go.Proofs.Ytjcpmfdgcomfgaa

/- CheckNames, for every input: it returns true, and its argument reads behind the call as it did: with other names in their place what is found is the same. No condition. -/
import Derived.Test.YtjcpmfdgcomfgaaYa
import Derived.Test.YtjcpmfdgcomfgaaKa
import Derived.Test.YtjcpmfdgcomfgaaC10
import Derived.Test.YtjcpmfdgcomfgaaL
import Derived.ChangeMaps5
import Derived.ChangeKeysEq
namespace Go.Proofs.Ytjcpmfdgcomfgaa
open Go.ChangeShapes Go.WideShapes Go.ChangeAt Go.RowKit Go.Maps
set_option linter.unusedVariables false
set_option linter.unusedSimpArgs false

theorem fields_info : (Try.prog.fieldsOf 31).toList.map (fun f => (f.name == "_", f.type, f.offset)) = [(false, 3, 0), (false, 3, 1), (false, 3, 2), (false, 4, 3)] := by kernel_rfl
theorem info_eq (m s n : Int) (t : Bool) (w : World) : (binOp .eql 31 (.agg #[.int .i64 m, .int .i64 s, .int .i64 n, .bool t]) (.agg #[.int .i64 m, .int .i64 s, .int .i64 n, .bool t])).run Try.prog w = .ok (.bool true) w := by
  have p0 : ∀ w, (part 3 #[.int .i64 m, .int .i64 s, .int .i64 n, .bool t] 0).run Try.prog w = .ok (.int .i64 m) w := fun w => by simp [part, isAgg, run_underlying Try.underlying3]
  have p1 : ∀ w, (part 3 #[.int .i64 m, .int .i64 s, .int .i64 n, .bool t] 1).run Try.prog w = .ok (.int .i64 s) w := fun w => by simp [part, isAgg, run_underlying Try.underlying3]
  have p2 : ∀ w, (part 3 #[.int .i64 m, .int .i64 s, .int .i64 n, .bool t] 2).run Try.prog w = .ok (.int .i64 n) w := fun w => by simp [part, isAgg, run_underlying Try.underlying3]
  have p3 : ∀ w, (part 4 #[.int .i64 m, .int .i64 s, .int .i64 n, .bool t] 3).run Try.prog w = .ok (.bool t) w := fun w => by simp [part, isAgg, run_underlying Try.underlying4]
  rw [run_eql_struct, show (10000 : Nat) = 9998 + 2 from rfl, run_equalIn_struct w (9998 + 1) 31 _ _ (by kernel_rfl) (by kernel_rfl)]
  have hf := fields_info
  generalize (Try.prog.fieldsOf 31).toList = fs at hf ⊢
  rcases fs with _ | ⟨f0, _ | ⟨f1, _ | ⟨f2, _ | ⟨f3, _ | ⟨f4, r⟩⟩⟩⟩⟩
  · simp at hf
  · simp at hf
  · simp at hf
  · simp at hf
  · simp only [List.map_cons, List.map_nil, List.cons.injEq, Prod.mk.injEq, beq_eq_false_iff_ne, ne_eq, and_true] at hf
    obtain ⟨⟨a1, a2, a3⟩, ⟨b1, b2, b3⟩, ⟨c1, c2, c3⟩, d1, d2, d3⟩ := hf
    simp only [Op.eqFields, ne_eq, a1, b1, c1, d1, not_false_eq_true, if_true, a2, a3, b2, b3, c2, c3, d2, d3, Sem.run_bind, Sem.run_ite, p0, p1, p2, p3, Result.andThen_ok, run_equalIn_int w 9998 3 .i64 .i64 _ _ Try.underlying3, run_equalIn_bool w 9998 4 _ _ Try.underlying4]
    simp
  · simp at hf
abbrev F1 : Nat → Sec := fun _ => [32]
theorem jb_len2 {ts : List Tok} {M : Nat} (h : ∀ t ∈ ts, t.text.length ≤ M) : ∀ i, (jb F1 ts i).length ≤ i * (M + 1)
  | 0 => by simp [jb]
  | i + 1 => by
    have ih := jb_len2 h i
    have h2 : ((ts[i]?.map Tok.text).getD []).length ≤ M := by
      cases e : ts[i]? with
      | none => simp
      | some t => simpa using h t (List.mem_of_getElem? e)
    show (jb F1 ts i ++ (((ts[i]?.map Tok.text).getD []) ++ [32])).length ≤ _
    rw [List.length_append, List.length_append, List.length_singleton, Nat.succ_mul]
    omega
theorem rnT_len (t : Tok) : t.text.length ≤ (rnT qn t).text.length ∧ (rnT qn t).text.length ≤ t.text.length + 2 := by
  unfold rnT qn
  split
  · dsimp only
    split <;> (simp; try omega)
  · simp
theorem jb_le (ts : List Tok) : ∀ i, (jb F1 ts i).length ≤ (jb F1 (ts.map (rnT qn)) i).length
  | 0 => by simp [jb]
  | i + 1 => by
    have ih := jb_le ts i
    show (jb F1 ts i ++ (((ts[i]?.map Tok.text).getD []) ++ [32])).length ≤ (jb F1 (ts.map (rnT qn)) i ++ ((((ts.map (rnT qn))[i]?.map Tok.text).getD []) ++ [32])).length
    have h2 : ((ts[i]?.map Tok.text).getD []).length ≤ ((((ts.map (rnT qn))[i]?.map Tok.text).getD [])).length := by
      rw [List.getElem?_map]
      cases e : ts[i]? with
      | none => simp
      | some t => simpa using (rnT_len t).1
    simp only [List.length_append, List.length_singleton]
    omega
theorem parseS_ok {l : Sec} {d : Df} (h : parseS l = .ok d) : l.length ≤ 480 ∧ ∃ ts, lex l = .ok ts ∧ parseR ts = .ok d := by
  unfold parseS at h
  split at h
  · cases h
  · cases e1 : lex l with
    | error q => rw [e1] at h; cases h
    | ok ts =>
      rw [e1] at h
      dsimp only at h
      cases e2 : parseR ts with
      | error q => rw [e2] at h; cases h
      | ok d' =>
        rw [e2] at h
        cases h
        exact ⟨by omega, ts, rfl, e2⟩
theorem strOf_l (l : Sec) : (strOf l).data.toList = l := by simp [strOf]
theorem jn_chk {ρ : Sec → Sec} (hr : Ren ρ) {ts : List Tok} {d : Df} {J : ByteArray} (hc : Chain ts) (hd : parseR ts = .ok d) (hc2 : Chain (ts.map (rnT ρ))) (hJ : J = strOf (jb F1 (ts.map (rnT ρ)) ts.length)) (h480 : J.size ≤ 480) :
    ∃ p, chkS J.data.toList = (((chkD d).1, (chkD d).2.1, p), true) := by
  have hl : J.data.toList = jn F1 (ts.map (rnT ρ)) 0 := by
    rw [hJ, strOf_l, show ts.length = (ts.map (rnT ρ)).length by rw [List.length_map], jb_all]
  obtain ⟨d', h1, h2, h3⟩ := join_chk hr hc hd hc2 hl (by rw [hJ, strOf_l]; rw [hJ, strOf_len] at h480; exact h480)
  exact ⟨(chkD d').2.2, by rw [h1, ← h2, ← h3]⟩
set_option maxRecDepth 100000 in
set_option maxHeartbeats 8000000 in
theorem knames_walk (s : ByteArray) (w : World) (hs : s.size ≤ maxLen) : Calls Try.prog 4 #[.string s] w fun e w' => e = .returned (.bool true) ∧ Only [] w w' := by
  unfold maxLen at hs
  go_enter Try.func4, Try.ntmps4
  go_wp2_with fail
  refine (alive8_any w).mono ?_
  rintro e w1 ⟨rfl, o1⟩
  have HO := Lib.hid o1
  clear o1
  have K1 := RTokens_any s w1 (by omega)
  go_wp2_with fail
  refine K1.mono ?_
  rintro e w2 ⟨v, cT, pT, rfl, hr, o2⟩
  replace HO := Lib.hid (HO.out.trans o2 (by simp))
  have HR0 := Lib.hid hr
  clear K1 o2 hr
  obtain ⟨R, hR⟩ : ∃ R, R = parseS s.data.toList := ⟨_, rfl⟩
  have K2 := checked_any s w2 (by omega)
  rw [show chkS s.data.toList = chkR R by rw [hR]; rfl] at K2
  have HR := Lib.hid hR
  clear hR
  go_wp2_with fail
  refine K2.mono ?_
  rintro e w3 ⟨rfl, o3⟩
  replace HO := Lib.hid (HO.out.trans o3 (by simp))
  cases R with
  | error q =>
    rw [show chkR (.error q : Except (Nat × Nat) Df) = ((infoZ, 0, 0), false) from rfl]
    unfold infoV infoZ
    dsimp only
    clear K2 o3 HR0 HR
    go_upto_region 5 with (fail)
    have o5 := (Only.refl [] w3).alloc (.cells #[.int .i64 0, .int .i64 ((0 : Nat) : Int), .int .i64 ((0 : Nat) : Int), .bool false] 31)
    generalize w3.alloc _ = w4 at o5 ⊢
    replace HO := Lib.hid (HO.out.trans o5 (by simp))
    clear o5
    rcases Bool.eq_false_or_eq_true (cT != 0) with hc | hc
    · go_wp2_with fail
      go_ret
      exact ⟨rfl, HO.out⟩
    · go_wp2_with fail
      go_ret
      exact ⟨rfl, HO.out⟩
  | ok d =>
    obtain ⟨h480, ts, hlex, hpar⟩ := parseS_ok HR.out.symm
    rcases HR0.out with ⟨hl, -⟩ | ⟨-, q, he, -⟩ | ⟨-, ts', he, rfl, rfl, hown⟩
    · omega
    · rw [hlex] at he; cases he
    rw [hlex] at he
    obtain rfl : ts = ts' := by injection he
    rw [show chkR (.ok d : Except (Nat × Nat) Df) = (chkD d, true) from rfl]
    obtain ⟨C, hC⟩ : ∃ C, C = chkD d := ⟨_, rfl⟩
    rw [← hC]
    obtain ⟨⟨m, st, nm, tu⟩, cf, pf⟩ := C
    unfold infoV
    dsimp only
    obtain ⟨st', hst⟩ : ∃ x : Int, x = st := ⟨_, rfl⟩
    obtain ⟨nm', hnm⟩ : ∃ x : Int, x = nm := ⟨_, rfl⟩
    rw [← hst, ← hnm]
    have HST := Lib.hid (And.intro hst hnm)
    have HC := Lib.hid hC
    have HPAR := Lib.hid hpar
    have HCH := Lib.hid (lex_chain hlex)
    have htx := (chain_lex _ 0 s.data.toList ts (Nat.le_refl _) (by rw [← lex_eq]; exact hlex)).2
    have HTXT : Hid (∀ t ∈ ts, t.text.length ≤ 480) := Lib.hid (fun t ht => by have := htx t ht; omega)
    have HT := Lib.hid (hown.tv.quiet o3)
    have hlen := lex_len hlex
    obtain ⟨a, cap, hv, hcap, -⟩ := HT.out
    obtain rfl := hv
    obtain ⟨n, hn⟩ : ∃ n, n = ts.length := ⟨_, rfl⟩
    rw [← hn] at hlen hcap ⊢
    rw [← hn] at HT
    have HN := Lib.hid hn
    have hn1 : n ≤ 482 := by omega
    clear K2 o3 HR0 HR hst hnm hC hpar htx hlex he hown hn
    go_upto_region 5 with (fail)
    have o5 := (Only.refl [] w3).alloc (.cells #[.int .i64 m, .int .i64 st', .int .i64 nm', .bool tu] 31)
    have hI := heap_new w3 (.cells #[.int .i64 m, .int .i64 st', .int .i64 nm', .bool tu] 31)
    obtain ⟨gx, hgx⟩ : ∃ g, g = w3.heap.size := ⟨_, rfl⟩
    rw [← hgx] at hI ⊢
    generalize w3.alloc (.cells #[.int .i64 m, .int .i64 st', .int .i64 nm', .bool tu] 31) = w4 at o5 hI ⊢
    replace HO := Lib.hid (HO.out.trans o5 (by simp))
    replace HT := Lib.hid (HT.out.quiet o5)
    have HI := Lib.hid hI
    clear o5 hI hgx
    go_wp2_with fail
    obtain ⟨wo, hwo⟩ : ∃ wo : World, wo = w4 := ⟨_, rfl⟩
    go_loopw [10, 11, 44] (fun a10 a11 a44 wr => ∃ (i : Nat) (J O : ByteArray), a44 = .int .i64 i ∧ a10 = .string J ∧ a11 = .string O ∧ i ≤ n ∧ Hid (J = strOf (jb F1 ts i)) ∧ Hid (O = strOf (jb F1 (ts.map (rnT qn)) i)) ∧ Hid (Only [] wo wr) ∧ Hid (∀ (j : Nat) t, j < i → ts[j]? = some t → t.kind = 1 → t.text ∉ kws → t.text.length ≤ 13)) (fun _ _ i _ => n - (intOf i).toNat)
    case atStart => exact ⟨0, _, _, rfl, rfl, rfl, Nat.zero_le _, Lib.hid rfl, Lib.hid rfl, Lib.hid (by rw [hwo]; exact Only.refl _ _), Lib.hid (fun j t h => by omega)⟩
    case round =>
      obtain ⟨i, J, O, rfl, rfl, rfl, hi, HJ, HQ, HW, H13⟩ := hrel
      by_cases hlt : i < n
      · obtain ⟨t, ht⟩ : ∃ t, ts[i]? = some t := ⟨_, List.getElem?_eq_getElem (by rw [← HN.out]; exact hlt)⟩
        obtain ⟨b1, d1, e1, -, p1, p2, p3⟩ := (HT.out.quiet (by rw [← hwo]; exact HW.out)).at_ ht
        injection e1 with e1 e1' e1''
        subst e1
        obtain ⟨T, hT⟩ : ∃ T, T = strOf t.text := ⟨_, rfl⟩
        rw [← hT] at p2
        have hi0 : 0 ≤ (i : Int) := by omega
        have hin : (i : Int) < (n : Int) := by omega
        have htl := HTXT.out t (List.mem_of_getElem? ht)
        have htz : T.size = t.text.length := by rw [hT, strOf_len]
        have hjl := jb_len2 (M := 480) HTXT.out i
        have hql := jb_len2 (ts := ts.map (rnT qn)) (M := 482) (fun x hx => by
          obtain ⟨y, hy, rfl⟩ := List.mem_map.1 hx
          have := HTXT.out y hy
          have := (rnT_len y).2
          omega) i
        have hjs := jb_succ (f := F1) ht
        have hqs := jb_succ (f := F1) (show (ts.map (rnT qn))[i]? = some (rnT qn t) by rw [List.getElem?_map, ht]; rfl)
        have ha1 := fun W => add_str (a := t.text) (b := [32]) (c := t.text ++ [32]) rfl (by rw [List.length_append, List.length_singleton]; omega) (A := T) (B := ⟨#[32]⟩) hT rfl rfl W
        have ha2 := fun W => add_str (a := jb F1 ts i) (b := t.text ++ [32]) (c := jb F1 ts (i + 1)) hjs.symm (by rw [hjs, List.length_append, List.length_append, List.length_singleton]; omega) (A := J) (B := strOf (t.text ++ [32])) HJ.out rfl rfl W
        generalize hJ2 : strOf (jb F1 ts (i + 1)) = J2 at ha2
        have HJ2 := Lib.hid hJ2.symm
        have HTX := Lib.hid hT
        have HTT := Lib.hid ht
        clear hJ2 hjs hT e1' e1''
        go_upto_region 11 with (fail)
        have o6 := (Only.refl [] wr).alloc (.cells #[.int .i64 t.kind, .string T, .int .i64 t.pos] 41)
        have hK := heap_new wr (.cells #[.int .i64 t.kind, .string T, .int .i64 t.pos] 41)
        obtain ⟨gt, hgt⟩ : ∃ g, g = wr.heap.size := ⟨_, rfl⟩
        rw [← hgt] at hK ⊢
        generalize wr.alloc (.cells #[.int .i64 t.kind, .string T, .int .i64 t.pos] 41) = w6 at o6 hK ⊢
        have HW6 := Lib.hid (HW.out.trans o6 (by simp))
        have r0 : w6.cell? ⟨gt, 0, none⟩ = some (.int .i64 t.kind) := cell_at 0 hK
        have r1 : w6.cell? ⟨gt, 1, none⟩ = some (.string T) := cell_at 1 hK
        clear o6 hK hgt p1 p2 p3
        by_cases hk : t.kind = 1
        · have hk' : ((t.kind : Int) == 1) = true := by simp [hk]
          have K5 := RKeyword_any T w6
          by_cases hkw : t.text ∈ kws
          · rw [show kws.contains T.data.toList = true by rw [HTX.out, strOf_l]; simpa using hkw] at K5
            have hrn : (rnT qn t).text = t.text := by unfold rnT; rw [if_pos hk]; exact qn_key hkw
            rw [hrn] at hqs
            have ha3 := fun W => add_str (a := jb F1 (ts.map (rnT qn)) i) (b := t.text ++ [32]) (c := jb F1 (ts.map (rnT qn)) (i + 1)) hqs.symm (by rw [hqs, List.length_append, List.length_append, List.length_singleton]; omega) (A := O) (B := strOf (t.text ++ [32])) HQ.out rfl rfl W
            generalize hQ2 : strOf (jb F1 (ts.map (rnT qn)) (i + 1)) = O2 at ha3
            have HQ2 := Lib.hid hQ2.symm
            generalize strOf (t.text ++ [32]) = M at ha1 ha2 ha3
            have H132 : Hid (∀ (j : Nat) x, j < i + 1 → ts[j]? = some x → x.kind = 1 → x.text ∉ kws → x.text.length ≤ 13) := Lib.hid (fun j x hj hx h1 h2 => by
              by_cases e : j = i
              · subst e; rw [HTT.out] at hx; cases hx; exact absurd hkw h2
              · exact H13.out j x (by omega) hx h1 h2)
            clear hQ2 hqs hrn hjl hql ht
            go_wp2_with fail
            refine K5.mono ?_
            rintro e w7 ⟨rfl, rfl⟩
            go_wp2_with fail
            go_roundw
            case rel => exact ⟨i + 1, J2, O2, by go_num, rfl, rfl, by omega, HJ2, HQ2, HW6, H132⟩
            case measure => simp [intOf]; omega
          · rw [show kws.contains T.data.toList = false by rw [HTX.out, strOf_l]; simpa using hkw] at K5
            by_cases h13 : 13 < T.size
            · have h13' : (13 : Int) < (T.size : Int) := by omega
              generalize strOf (t.text ++ [32]) = M at ha1 ha2
              have HOf := Lib.hid (HO.out.trans (show Only [] w4 w6 by rw [← hwo]; exact HW6.out) (by simp))
              clear hqs hjl hql ht
              go_wp2_with fail
              refine K5.mono ?_
              rintro e w7 ⟨rfl, rfl⟩
              go_wp2_with fail
              go_ret
              exact ⟨rfl, HOf.out⟩
            · have h13' : ¬ (13 : Int) < (T.size : Int) := by omega
              have hrn : (rnT qn t).text = [81, 95] ++ t.text := by unfold rnT; rw [if_pos hk]; exact qn_new hkw
              rw [hrn] at hqs
              have ha3 := fun W => add_str (a := [81, 95]) (b := t.text) (c := [81, 95] ++ t.text) rfl (by rw [List.length_append, show ([81, 95] : Sec).length = 2 from rfl]; omega) (A := ⟨#[81, 95]⟩) (B := T) rfl HTX.out rfl W
              have ha4 := fun W => add_str (a := [81, 95] ++ t.text) (b := [32]) (c := [81, 95] ++ t.text ++ [32]) rfl (by rw [List.length_append, List.length_append, show ([81, 95] : Sec).length = 2 from rfl, List.length_singleton]; omega) (A := strOf ([81, 95] ++ t.text)) (B := ⟨#[32]⟩) rfl rfl rfl W
              have ha5 := fun W => add_str (a := jb F1 (ts.map (rnT qn)) i) (b := [81, 95] ++ t.text ++ [32]) (c := jb F1 (ts.map (rnT qn)) (i + 1)) hqs.symm (by rw [hqs, List.length_append, List.length_append, List.length_append, show ([81, 95] : Sec).length = 2 from rfl, List.length_singleton]; omega) (A := O) (B := strOf ([81, 95] ++ t.text ++ [32])) HQ.out rfl rfl W
              generalize hQ2 : strOf (jb F1 (ts.map (rnT qn)) (i + 1)) = O2 at ha5
              have HQ2 := Lib.hid hQ2.symm
              generalize strOf (t.text ++ [32]) = M at ha1 ha2
              generalize strOf ([81, 95] ++ t.text ++ [32]) = M3 at ha4 ha5
              generalize strOf ([81, 95] ++ t.text) = M2 at ha3 ha4
              have H132 : Hid (∀ (j : Nat) x, j < i + 1 → ts[j]? = some x → x.kind = 1 → x.text ∉ kws → x.text.length ≤ 13) := Lib.hid (fun j x hj hx h1 h2 => by
                by_cases e : j = i
                · subst e; rw [HTT.out] at hx; cases hx; omega
                · exact H13.out j x (by omega) hx h1 h2)
              clear hQ2 hqs hrn hjl hql ht
              go_wp2_with fail
              refine K5.mono ?_
              rintro e w7 ⟨rfl, rfl⟩
              go_wp2_with fail
              go_roundw
              case rel => exact ⟨i + 1, J2, O2, by go_num, rfl, rfl, by omega, HJ2, HQ2, HW6, H132⟩
              case measure => simp [intOf]; omega
        · have hk' : ((t.kind : Int) == 1) = false := by simp; omega
          have hrn : (rnT qn t).text = t.text := by unfold rnT; rw [if_neg hk]
          rw [hrn] at hqs
          have ha3 := fun W => add_str (a := jb F1 (ts.map (rnT qn)) i) (b := t.text ++ [32]) (c := jb F1 (ts.map (rnT qn)) (i + 1)) hqs.symm (by rw [hqs, List.length_append, List.length_append, List.length_singleton]; omega) (A := O) (B := strOf (t.text ++ [32])) HQ.out rfl rfl W
          generalize hQ2 : strOf (jb F1 (ts.map (rnT qn)) (i + 1)) = O2 at ha3
          have HQ2 := Lib.hid hQ2.symm
          generalize strOf (t.text ++ [32]) = M at ha1 ha2 ha3
          have H132 : Hid (∀ (j : Nat) x, j < i + 1 → ts[j]? = some x → x.kind = 1 → x.text ∉ kws → x.text.length ≤ 13) := Lib.hid (fun j x hj hx h1 h2 => by
            by_cases e : j = i
            · subst e; rw [HTT.out] at hx; cases hx; exact absurd h1 hk
            · exact H13.out j x (by omega) hx h1 h2)
          clear hQ2 hqs hrn hjl hql ht
          go_wp2_with fail
          go_roundw
          case rel => exact ⟨i + 1, J2, O2, by go_num, rfl, rfl, by omega, HJ2, HQ2, HW6, H132⟩
          case measure => simp [intOf]; omega
      · obtain rfl : i = n := by omega
        have hge : ¬ (i : Int) < (i : Int) := by omega
        have HOr := Lib.hid (HO.out.trans (show Only [] w4 wr by rw [← hwo]; exact HW.out) (by simp))
        by_cases hbig : 480 < O.size
        · have hbig' : (480 : Int) < (O.size : Int) := by omega
          go_wp2_with fail
          go_ret
          exact ⟨rfl, HOr.out⟩
        · have hbig' : ¬ (480 : Int) < (O.size : Int) := by omega
          have hle := jb_le ts i
          have hO := HQ.out
          have hJ := HJ.out
          have hJs : J.size ≤ 480 := by
            have e1 : O.size = (jb F1 (ts.map (rnT qn)) i).length := by rw [hO, strOf_len]
            have e2 : J.size = (jb F1 ts i).length := by rw [hJ, strOf_len]
            omega
          rw [HN.out] at hO hJ
          have hc2 : Chain (ts.map (rnT qn)) := chain_ren ts HCH.out (fun t ht h1 h2 => by
            obtain ⟨j, hj, e⟩ := List.getElem_of_mem ht
            exact H13.out j t (by rw [HN.out]; exact hj) (by rw [List.getElem?_eq_getElem hj, e]) h1 h2)
          obtain ⟨q1, h1⟩ := jn_chk ren_qn HCH.out HPAR.out hc2 hO (by omega)
          obtain ⟨q2, h2⟩ := jn_chk Ren.id HCH.out HPAR.out (by rw [rnT_id]; exact HCH.out) (by rw [rnT_id]; exact hJ) hJs
          rw [← HC.out] at h1 h2
          have K6 := checked_any O wr (by omega)
          rw [h1] at K6
          have K7 := fun W => checked_any J W (by omega)
          rw [h2] at K7
          unfold infoV at K6 K7
          dsimp only at K6 K7
          rw [← HST.out.1, ← HST.out.2] at K6 K7
          have HI2 := Lib.hid ((show Only [] w4 wr by rw [← hwo]; exact HW.out).heap HI.out (by simp))
          clear hle hO hJ hc2 h1 h2
          go_wp2_with fail
          refine K6.mono ?_
          rintro e w6 ⟨rfl, o6⟩
          replace HOr := Lib.hid (HOr.out.trans o6 (by simp))
          replace HI2 := Lib.hid (o6.heap HI2.out (by simp))
          clear K6 o6
          go_upto_region 21 with (fail)
          have o7 := (Only.refl [] w6).alloc (.cells #[.int .i64 m, .int .i64 st', .int .i64 nm', .bool tu] 31)
          have hJ2 := heap_new w6 (.cells #[.int .i64 m, .int .i64 st', .int .i64 nm', .bool tu] 31)
          obtain ⟨gy, hgy⟩ : ∃ g, g = w6.heap.size := ⟨_, rfl⟩
          rw [← hgy] at hJ2 ⊢
          generalize w6.alloc (.cells #[.int .i64 m, .int .i64 st', .int .i64 nm', .bool tu] 31) = w7 at o7 hJ2 ⊢
          replace HOr := Lib.hid (HOr.out.trans o7 (by simp))
          replace HI2 := Lib.hid (o7.heap HI2.out (by simp))
          have HY := Lib.hid hJ2
          clear o7 hJ2 hgy
          go_wp2_with fail
          refine (K7 _).mono ?_
          rintro e w8 ⟨rfl, o8⟩
          replace HOr := Lib.hid (HOr.out.trans o8 (by simp))
          replace HI2 := Lib.hid (o8.heap HI2.out (by simp))
          replace HY := Lib.hid (o8.heap HY.out (by simp))
          clear o8
          go_upto_region 22 with (fail)
          have o9 := (Only.refl [] w8).alloc (.cells #[.int .i64 m, .int .i64 st', .int .i64 nm', .bool tu] 31)
          have hZ := heap_new w8 (.cells #[.int .i64 m, .int .i64 st', .int .i64 nm', .bool tu] 31)
          obtain ⟨gz, hgz⟩ : ∃ g, g = w8.heap.size := ⟨_, rfl⟩
          rw [← hgz] at hZ ⊢
          generalize w8.alloc (.cells #[.int .i64 m, .int .i64 st', .int .i64 nm', .bool tu] 31) = w9 at o9 hZ ⊢
          replace HOr := Lib.hid (HOr.out.trans o9 (by simp))
          have x0 : w9.cell? ⟨gx, 0, none⟩ = some (.int .i64 m) := cell_at 0 (o9.heap HI2.out (by simp))
          have x1 : w9.cell? ⟨gx, 1, none⟩ = some (.int .i64 st') := cell_at 1 (o9.heap HI2.out (by simp))
          have x2 : w9.cell? ⟨gx, 2, none⟩ = some (.int .i64 nm') := cell_at 2 (o9.heap HI2.out (by simp))
          have x3 : w9.cell? ⟨gx, 3, none⟩ = some (.bool tu) := cell_at 3 (o9.heap HI2.out (by simp))
          have y0 : w9.cell? ⟨gy, 0, none⟩ = some (.int .i64 m) := cell_at 0 (o9.heap HY.out (by simp))
          have y1 : w9.cell? ⟨gy, 1, none⟩ = some (.int .i64 st') := cell_at 1 (o9.heap HY.out (by simp))
          have y2 : w9.cell? ⟨gy, 2, none⟩ = some (.int .i64 nm') := cell_at 2 (o9.heap HY.out (by simp))
          have y3 : w9.cell? ⟨gy, 3, none⟩ = some (.bool tu) := cell_at 3 (o9.heap HY.out (by simp))
          have z0 : w9.cell? ⟨gz, 0, none⟩ = some (.int .i64 m) := cell_at 0 hZ
          have z1 : w9.cell? ⟨gz, 1, none⟩ = some (.int .i64 st') := cell_at 1 hZ
          have z2 : w9.cell? ⟨gz, 2, none⟩ = some (.int .i64 nm') := cell_at 2 hZ
          have z3 : w9.cell? ⟨gz, 3, none⟩ = some (.bool tu) := cell_at 3 hZ
          have q1 := info_eq m st' nm' tu
          clear o9 hZ hgz
          go_wp2_with fail
          go_ret
          exact ⟨rfl, HOr.out⟩

set_option maxRecDepth 100000 in
theorem knames_lifted (os : Os) (started : os.Started) (H : Type) (enc : TypeId × Value → H) :
    ReturnsInHanded {} Try.checked os 4 .any (Rows.checkNamesSpec.pre6 enc Try.prog Try.f4 Rows.checkNamesRow.domain false) (Rows.checkNamesSpec.post enc Try.prog Try.f4 false true false false) := by
  refine returnsInHanded_of_change (C := Try.checked) law_own started (by kernel_rfl) Try.func4
    (ChangeSpec.witness6 (enc := enc) (C := Try.checked) false ⟨#[], #[.string ⟨#[]⟩], []⟩ 8 (by kernel_rfl) (by kernel_rfl) (by kernel_rfl) (by kernel_rfl)) ?_
  intro W base args ds gs before hval0 hW hcnd _
  have hval : ∀ (j : Nat) t v, Try.f4.params[j]? = some t → args[j]? = some v → Value.okWide Try.prog W .any base t v := hval0
  have hW' := hW
  obtain ⟨p, q, hA0, hV, rfl, hfz, hnd⟩ := hW
  have hA : DataW.TrodAll enc Try.prog W 0 (fun _ => true) true Try.f4.params.toList args.toList ds p := hA0
  rw [Try.params4] at hA hval
  obtain ⟨v0, vs0, d0, ds0, p0, q0, hargs, rfl, rfl, h0, r0⟩ := trodAll_cons hA
  obtain ⟨rfl, rfl, rfl⟩ := trodAll_nil r0
  obtain rfl : args = #[v0] := by cases args; simp_all
  obtain ⟨rfl, rfl⟩ := trodVars_none hV
  obtain ⟨a0, rfl, rfl, rfl, w0⟩ := Go.ChangeMaps.open_string Try.underlying9 (hval 0 9 v0 rfl rfl) h0
  clear hA0 hval0
  refine (knames_walk a0  W w0).mono fun e W' ⟨he, hg⟩ => ?_
  subst he
  exact ⟨_, rfl, post_quiet (pa := ([] ++ [])) (pv := []) hW' hg (fun _ _ _ => (trodAll_cons_mk (shut_bool Try.underlying4 _) trodAll_mk0)) (fun sp hsp => (trodAll_cons_mk (Go.ChangeMaps.shut_string Try.underlying9 w0) trodAll_mk0)) (fun _ _ => rfl) (by simp) (ok_one (by kernel_rfl) rfl (okWide_bool_mk Try.underlying4 _))⟩

theorem knames_over : Rows.checkNamesRow.holds Try.pinned (OpenSpec.ofChange Rows.checkNamesSpec) :=
  OpenClaim.holds_of_wide 4 Try.f4 rfl rfl rfl rfl rfl rfl rfl ⟨rfl, rfl, rfl, rfl, rfl⟩ rfl rfl rfl rfl rfl (by kernel_rfl) Try.func4 (by kernel_rfl)
    (of_decide_eq_true (by kernel_rfl)) (by unfold Func.isWrapper; first | (rw [if_pos (by decide +kernel)]; kernel_rfl) | (rw [if_neg (by decide +kernel)]; exact ⟨rfl, rfl⟩))
    (fun os started H enc _ => knames_lifted os started H enc)

/-- The statement. -/
theorem knames_holds : Rows.CheckNamesSaid :=
  knames_over
#print axioms knames_holds
end Go.Proofs.Ytjcpmfdgcomfgaa

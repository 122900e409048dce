/- page: the document's Decode. -/
import Derived.Test.YthacfanfhdjmbaaPR1
namespace Go.Proofs.Ythacfanfhdjmbaa
open Go.RowKit Go.Maps
set_option linter.unusedSimpArgs false
set_option linter.unusedVariables false

section
variable {w : World} {o : Oper} {a : Act} {K : Act → World → Prop} {Q : Exit → Act → World → Prop} {E : Prop} {ops : Array Oper}
theorem step_page_store (hg : o.guard = none) (x y : Operand) (ho : o.op = .store 27 x y) (g : Nat) (m : List Int) (hx : a.eval x = .pointer (some ⟨g, 0, none⟩)) (hy : a.eval y = .agg (ivA m)) (hm : m.length = 61) (l : List Int) (hb : PB w g 27 l) (hl : l.length = 61)
    (h : ∀ w', PB w' g 27 m → Only [g] w w' → K (a.put o.dst undef) w') : if Region.wanted o (yielded ops a.tmps) = true then Oper.wp Try.prog o a w K Q else E := by
  have hw : Region.wanted o (yielded ops a.tmps) = true := by simp [Region.wanted, hg]
  rw [if_pos hw]
  exact wp_store_row _ x y ho g _ hx hy _ _ hb (size_page m hm) (by rw [ivA_size, ivA_size]; omega) (ivA_one m) (h _ (hb.row m) ((Only.refl [g] w).setRow (.inl (by simp)) _))
end
def blankTo (l : Sec) (i : Nat) : Bool := (l.take i).all (· == 0)
theorem blankTo_zero (l : Sec) : blankTo l 0 = true := by simp [blankTo]
theorem blankTo_succ (l : Sec) (i : Nat) (x : UInt8) (h : l[i]? = some x) : blankTo l (i + 1) = (blankTo l i && (x == 0)) := by
  unfold blankTo
  rw [List.take_add_one, h, List.all_append]
  simp
theorem blankTo_all (l : Sec) (h : l.length = 512) : blankTo l 512 = decide (l = zeros) := by
  have h1 : blankTo l 512 = isBlank l := by unfold blankTo isBlank; rw [List.take_of_length_le (by omega)]
  rw [h1, Bool.eq_iff_iff, isBlank_iff, h, decide_eq_true_eq]
  exact Iff.rfl
theorem val_from (l : Sec) : ∀ acc : Nat, l.foldl (fun n c => n * 256 + c.toNat) acc < (acc + 1) * 256 ^ l.length := by
  induction l with
  | nil => intro acc; simp
  | cons c l ih =>
    intro acc
    have h := ih (acc * 256 + c.toNat)
    have hc := c.toNat_lt
    rw [List.foldl_cons, List.length_cons, Nat.pow_succ]
    refine Nat.lt_of_lt_of_le h ?_
    have h2 : acc * 256 + c.toNat + 1 ≤ (acc + 1) * 256 := by omega
    calc (acc * 256 + c.toNat + 1) * 256 ^ l.length ≤ (acc + 1) * 256 * 256 ^ l.length := Nat.mul_le_mul_right _ h2
      _ = (acc + 1) * (256 ^ l.length * 256) := by rw [Nat.mul_assoc, Nat.mul_comm 256]
theorem val_small (l : Sec) (j : Nat) (h : l.length ≤ j) : val l < 256 ^ j := by
  have h1 := val_from l 0
  refine Nat.lt_of_lt_of_le h1 ?_
  rw [Nat.zero_add, Nat.one_mul]
  exact Nat.pow_le_pow_right (by decide) h
def RDecodePost (l : Sec) (w : World) (e : Ending) (w' : World) : Prop :=
  Only [] w w' ∧ (∀ n c, pdec l = some (n, c) → e = .returned (.tuple #[.agg (ivA (n :: c)), .bool true])) ∧ (pdec l = none → e = .returned (.tuple #[.agg (ivA (0 :: blankP)), .bool false]))

set_option maxRecDepth 100000 in
set_option maxHeartbeats 2000000 in
theorem RDecode_any (v : Value) (l : Sec) (w : World) (hv : Bytes w v l) (hf : Fit v) (hl : l.length ≤ 17592186044416) :
    Calls Try.prog 13 #[v] w (RDecodePost l w) := by
  have HF := Lib.hid hf
  have HV := Lib.hid hv
  obtain ⟨va, vc, rfl, -⟩ := id hv
  clear hv hf
  go_enter Try.func13, Try.ntmps13
  by_cases h512 : l.length = 512
  · have HV5 : Hid (Bytes w (.slice va 512 vc) l) := Lib.hid (by have := HV.out; rwa [h512] at this)
    have HF5 : Hid (Fit (.slice va 512 vc)) := Lib.hid (by have := HF.out; rwa [h512] at this)
    have H512 := Lib.hid h512
    rw [h512]
    clear h512 HV HF
    have HZ := Lib.hid (blankTo_all l H512.out)
    go_wp2_with (
      refine wpList_new_page rfl rfl ?_
      intro w1 g1 hb1 hg1 ho1
      have HB1 := Lib.hid hb1
      have HG1 := Lib.hid hg1
      have HO1 := Lib.hid ho1
      clear hb1 hg1 ho1)
    go_loop [4, 5] (fun s i => ∃ k : Nat, k ≤ 512 ∧ i = .int .i64 k ∧ s = .bool (blankTo l k)) (fun _ i => 512 - (intOf i).toNat)
    case atStart => exact ⟨0, by omega, rfl, by rw [blankTo_zero]⟩
    case round =>
      obtain ⟨k, hk, rfl, rfl⟩ := hrel
      by_cases hlt : k < 512
      · obtain ⟨x, hx⟩ : ∃ x, l[k]? = some x := ⟨_, List.getElem?_eq_getElem (by rw [H512.out]; exact hlt)⟩
        obtain ⟨a', cap', e1, hcells⟩ := HV5.out.kept HO1.out (clean_nil _)
        rw [H512.out] at e1
        cases e1
        obtain ⟨b, off, rfl, hcell⟩ := hcells k x hx
        have hsucc := blankTo_succ l k x hx
        have hx0 : ((x.toNat : Int) == 0) = (x == 0) := by
          rw [Bool.eq_iff_iff]
          simp only [beq_iff_eq]
          constructor
          · intro h
            exact UInt8.toNat_inj.1 (by show x.toNat = 0; omega)
          · rintro rfl
            rfl
        clear hcells hx
        cases hbt : blankTo l k with
        | true =>
          rw [hbt, Bool.true_and] at hsucc
          have HSU := Lib.hid hsucc
          clear hsucc
          go_wp2_with fail
          go_round
          case rel => exact ⟨k + 1, by omega, by go_num, by rw [HSU.out]⟩
          case measure => simp [intOf]; omega
        | false =>
          rw [hbt, Bool.false_and] at hsucc
          have HSU := Lib.hid hsucc
          clear hsucc
          go_wp2_with fail
          go_round
          case rel => exact ⟨k + 1, by omega, by go_num, by rw [HSU.out]⟩
          case measure => simp [intOf]; omega
      · obtain rfl : k = 512 := by omega
        rw [HZ.out]
        by_cases hz : l = zeros
        · have hd : decide (l = zeros) = true := by simp [hz]
          have HN : Hid (pdec l = some (0, blankP)) := Lib.hid (pdec_zeros hz)
          rw [hd]
          clear hz hd
          go_wp2_with (first
            | (refine wpList_built rfl [] rfl (0 :: blankP) built_none ?_)
            | (refine wpList_store_page rfl _ _ rfl g1 (0 :: blankP) (by rfl) (by rfl) (by rfl) _ HB1.out (by rfl) ?_
               intro w9 hb9 ho9
               have HB9 := Lib.hid hb9
               have HO9 := Lib.hid (HO1.out.trans ho9 (by simp; exact HG1.out))
               clear hb9 ho9))
          refine bodyPost_ret (results_page2 rfl _ _ g1 _ _ (by rfl) (by rfl) HB9.out (by rfl)) rfl ⟨HO9.out, fun n c h => ?_, fun h => ?_⟩
          · rw [HN.out] at h
            cases h
            rfl
          · rw [HN.out] at h
            cases h
        have hd : decide (l = zeros) = false := by simp [hz]
        have HNZ := Lib.hid hz
        rw [hd]
        clear hz hd HZ
        go_wp2_with fail
        refine (RUnbox_any _ l w1 (HV5.out.kept HO1.out (clean_nil _)) HF5.out hl).mono ?_
        rintro e w4 ⟨hn, hs, ho4⟩
        have HB4 := Lib.hid (HB1.out.kept ho4 (by simp))
        have HO4 := Lib.hid (HO1.out.trans ho4 (by simp))
        cases hu : unbox l with
        | none =>
          have HN : Hid (pdec l = none) := Lib.hid (pdec_u HNZ.out hu)
          obtain rfl := hn hu
          clear hn hs hu ho4 HB1 HO1
          go_wp2_with (first
            | (refine wpList_built rfl [] rfl (0 :: blankP) built_none ?_)
            | (refine wpList_store_page rfl _ _ rfl g1 (0 :: blankP) (by rfl) (by rfl) (by rfl) _ HB4.out (by rfl) ?_
               intro w9 hb9 ho9
               have HB9 := Lib.hid hb9
               have HO9 := Lib.hid (HO4.out.trans ho9 (by simp; exact HG1.out))
               clear hb9 ho9))
          refine bodyPost_ret (results_page2 rfl _ _ g1 _ _ (by rfl) (by rfl) HB9.out (by rfl)) rfl ⟨HO9.out, fun n c h => ?_, fun _ => rfl⟩
          rw [HN.out] at h
          cases h
        | some d =>
          obtain ⟨a4, c4, rfl, h4⟩ := hs d hu
          have hdl : d.length ≤ 506 := by have := (unbox_iff.1 hu).2.2.1; have := H512.out; omega
          have H4 := Lib.hid h4
          have HU := Lib.hid hu
          clear hn hs hu ho4 h4
          go_wp2_with fail
          refine (RTake_any _ d w4 H4.out.bytes H4.out.fit (by omega)).mono ?_
          rintro e w5 ⟨rfl, ho5⟩
          have HB5 := Lib.hid (HB4.out.kept ho5 (by simp))
          have HO5 := Lib.hid (HO4.out.trans ho5 (by simp))
          have H5 := Lib.hid (H4.out.quiet ho5)
          clear ho5 HB4 HO4 H4 HB1 HO1
          cases ht : takeN d with
          | none =>
            have HN : Hid (pdec l = none) := Lib.hid (pdec_t HNZ.out HU.out ht)
            have e1 := takeN_none ht
            rw [e1]
            dsimp only
            clear e1 ht
            go_wp2_with (first
              | (refine wpList_built rfl [] rfl (0 :: blankP) built_none ?_)
              | (refine wpList_store_page rfl _ _ rfl g1 (0 :: blankP) (by rfl) (by rfl) (by rfl) _ HB5.out (by rfl) ?_
                 intro w9 hb9 ho9
                 have HB9 := Lib.hid hb9
                 have HO9 := Lib.hid (HO5.out.trans ho9 (by simp; exact HG1.out))
                 clear hb9 ho9))
            refine bodyPost_ret (results_page2 rfl _ _ g1 _ _ (by rfl) (by rfl) HB9.out (by rfl)) rfl ⟨HO9.out, fun n c h => ?_, fun _ => rfl⟩
            rw [HN.out] at h
            cases h
          | some nk =>
            obtain ⟨n, k⟩ := nk
            have e1 := takeN_some ht
            obtain ⟨t1, t2, t3, t4, t5⟩ := takeN_inv ht
            rw [e1]
            dsimp only
            clear e1 t1
            by_cases h480 : d.length - k = 480
            · have hP := pdec_y HNZ.out H512.out HU.out ht h480
              have HN := Lib.hid hP
              have HINV := Lib.hid (pdec_inv hP)
              clear ht hP
              have k1 : ((k : Int) == 0) = false := by rw [beq_eq_false_iff_ne]; omega
              have hn9 : ((d.length : Int) != (k : Int) + 480) = false := by
                have : (d.length : Int) = (k : Int) + 480 := by omega
                rw [this]
                simp
              have HD := Lib.hid (show d.length = k + 480 by omega)
              have hk26 : k ≤ 26 := by omega
              clear h480 hdl
              obtain ⟨L, hL⟩ : ∃ L, L = d.drop k := ⟨_, rfl⟩
              rw [← hL] at HN HINV
              have HLL := Lib.hid hL
              have HLN : Hid (L.length = 480) := Lib.hid (by rw [hL, List.length_drop, HD.out]; omega)
              clear hL
              have T3 := trivial
              go_wp2_with (first
                | (clear T3
                   refine wpList_new_page rfl rfl ?_
                   intro w6 g6 hb6 hg6 ho6
                   have hne6 : g6 ≠ g1 := by have := HB5.out.lt; omega
                   have HB6 := Lib.hid (HB5.out.kept ho6 (by simp))
                   have HC6 := Lib.hid hb6
                   have HG6 := Lib.hid (Nat.le_trans HO5.out.size hg6)
                   have HO6 := Lib.hid (HO5.out.trans ho6 (by simp))
                   have HX6 := Lib.hid hg6
                   have HY6 := Lib.hid ho6
                   clear hb6 hg6 ho6)
                | (refine wpList_built rfl [_] rfl (n :: blankP) (built_num n) ?_)
                | (refine wpList_store_page rfl _ _ rfl g6 (n :: blankP) (by rfl) (by rfl) (by rfl) _ HC6.out (by rfl) ?_
                   intro w7 hb7 ho7
                   have HB7 := Lib.hid (HB6.out.kept ho7 (by simp; omega))
                   have HC7 := Lib.hid hb7
                   have HO7 := Lib.hid (HO6.out.trans ho7 (by simp; exact HG6.out))
                   have H7 := Lib.hid (H5.out.quiet (HY6.out.trans ho7 (by simp; exact HX6.out)))
                   clear hb7 ho7))
              clear HB6 HC6 HO6 HX6 HY6 HB5 HO5 H5 k1 hn9
              have hG6 : w.heap.size ≤ g6 := HG6.out
              have HZ0 : Hid (atk L 0 = blankP) := Lib.hid (by unfold atk; rw [if_neg (by decide), mid_zero]; rfl)
              go_loopw [11, 12, 13] (fun i _ _ wr => ∃ q : Nat, q ≤ 60 ∧ i = .int .i64 q ∧ PB wr g6 27 (n :: atk L q) ∧ PB wr g1 27 (List.replicate 61 0) ∧ Bytes wr (.slice a4 d.length c4) d ∧ Only [] w wr) (fun i _ _ _ => 60 - (intOf i).toNat)
              case atStart => exact ⟨0, by omega, rfl, by rw [HZ0.out]; exact HC7.out, HB7.out, H7.out.bytes, HO7.out⟩
              case round =>
                clear HC7 HB7 H7 HO7
                obtain ⟨q, hq, rfl, hb, hb', hby, ho⟩ := hrel
                by_cases hlt : q < 60
                · have hD : ((L.drop (8 * q)).take 8).length = 8 := by rw [List.length_take, List.length_drop, HLN.out]; omega
                  have hstep := atk_step L q hlt
                  have hat : atk L q = mid L q 0 := by unfold atk; rw [if_neg (by omega)]
                  have hDD : ∀ j, j < 8 → ((L.drop (8 * q)).take 8)[j]? = d[k + 8 * q + j]? := by
                    intro j hj
                    rw [List.getElem?_take_of_lt hj, List.getElem?_drop, HLL.out, List.getElem?_drop, Nat.add_assoc]
                  obtain ⟨D, hDd⟩ : ∃ D, D = (L.drop (8 * q)).take 8 := ⟨_, rfl⟩
                  rw [← hDd] at hD hstep hDD
                  rw [hat] at hb
                  have HST := Lib.hid hstep
                  have HDD := Lib.hid hDD
                  have HB := Lib.hid hb
                  have HB' := Lib.hid hb'
                  have HY := Lib.hid hby
                  have HO := Lib.hid ho
                  have HDN := Lib.hid hD
                  clear hstep hDD hb hb' hby ho hat hDd hD
                  have hd8 : decide ((q : Int) < 60) = true := by simp; omega
                  go_wp2_with fail
                  go_loop [12, 13] (fun u j => ∃ m : Nat, m ≤ 8 ∧ j = .int .i64 m ∧ u = .int .u64 (val (D.take m) : Nat)) (fun _ j => 8 - (intOf j).toNat)
                  case atStart => exact ⟨0, by omega, rfl, by simp [val]⟩
                  case round =>
                    obtain ⟨m, hm, rfl, rfl⟩ := hrel
                    by_cases hmt : m < 8
                    · obtain ⟨x, hx⟩ : ∃ x, D[m]? = some x := ⟨_, List.getElem?_eq_getElem (by rw [HDN.out]; exact hmt)⟩
                      obtain ⟨a', cap', e1, hcells⟩ := HY.out
                      cases e1
                      obtain ⟨b, off, rfl, hcell⟩ := hcells (k + 8 * q + m) x (by rw [← HDD.out m hmt]; exact hx)
                      have hsn : val (D.take (m + 1)) = val (D.take m) * 256 + x.toNat := by
                        rw [List.take_add_one, hx]
                        exact val_snoc _ _
                      have hvl := val_small (D.take m) 7 (by rw [List.length_take]; omega)
                      obtain ⟨V, hV⟩ : ∃ V, V = val (D.take m) := ⟨_, rfl⟩
                      rw [← hV] at hsn hvl ⊢
                      have hvl' : V < 72057594037927936 := hvl
                      have hx256 := x.toNat_lt
                      have HSN := Lib.hid hsn
                      have i0 : (0 : Int) ≤ (k : Int) + 8 * (q : Int) + (m : Int) := by omega
                      have i1 : (k : Int) + 8 * (q : Int) + (m : Int) < (d.length : Int) := by have := HD.out; omega
                      clear hcells hx hsn hvl hV
                      go_wp2_with fail
                      go_round
                      case rel => exact ⟨m + 1, by omega, by go_num, by rw [HSN.out]; go_num⟩
                      case measure => simp [intOf]; omega
                    · obtain rfl : m = 8 := by omega
                      have hD8 : D.take 8 = D := List.take_of_length_le (by rw [HDN.out]; omega)
                      have hvl := val_small D 8 (by rw [HDN.out]; omega)
                      rw [hD8]
                      obtain ⟨V, hV⟩ : ∃ V, V = val D := ⟨_, rfl⟩
                      have hcI : cellI D = IntKind.i64.wrap (V : Int) := by rw [hV]; rfl
                      rw [← hV] at hvl ⊢
                      have hvl' : V < 18446744073709551616 := hvl
                      have w64 : wrap64 (V : Int) = IntKind.i64.wrap (V : Int) := by rw [wrap_i64, wrap64]; split <;> omega
                      rw [← hcI] at w64
                      obtain ⟨y, hy⟩ : ∃ y, y = cellI D := ⟨_, rfl⟩
                      rw [← hy] at HST w64 hcI
                      have hml := mid_length L q 0 hlt
                      have hmg := mid_get L q 0
                      have hms := mid_set L q 0 y
                      have hcx : wr.cell? ⟨g6, 1 + q, none⟩ = some (.int .i64 0) := HB.out.cell (by rw [Nat.add_comm, List.getElem?_cons_succ]; exact hmg)
                      have hfx : wr.frozen? ⟨g6, 1 + q, none⟩ = false := HB.out.free _
                      have hb5 : PB (wr.setCell ⟨g6, 1 + q, none⟩ (.int .i64 y)) g6 27 (n :: atk L (q + 1)) := by
                        have e2 : (n :: mid L q 0).set (1 + q) y = n :: atk L (q + 1) := by rw [Nat.add_comm, List.set_cons_succ, hms, HST.out]
                        rw [← e2]
                        exact HB.out.set (1 + q) y
                      have oset : Only [g6] wr (wr.setCell ⟨g6, 1 + q, none⟩ (.int .i64 y)) := (Only.refl [g6] wr).setCell (.inl (by simp)) _
                      have hb6 : PB (wr.setCell ⟨g6, 1 + q, none⟩ (.int .i64 y)) g1 27 (List.replicate 61 0) := HB'.out.kept oset (by simp; omega)
                      have hy6 : Bytes (wr.setCell ⟨g6, 1 + q, none⟩ (.int .i64 y)) (.slice a4 d.length c4) d := by
                        obtain ⟨a', cap', e1, hcells⟩ := HY.out
                        refine ⟨a', cap', e1, fun i c hi => ?_⟩
                        obtain ⟨b, off, e3, hcell⟩ := hcells i c hi
                        refine ⟨b, off, e3, cell_kept oset hcell ?_⟩
                        intro hmem
                        have hbg : b = g6 := by simpa using hmem
                        subst hbg
                        rw [cell_at _ HB.out, ivA_get] at hcell
                        cases hmm : (n :: mid L q 0)[off + i]? with
                        | none => rw [hmm] at hcell; simp at hcell
                        | some zz => rw [hmm] at hcell; simp at hcell
                      have ho5 : Only [] w (wr.setCell ⟨g6, 1 + q, none⟩ (.int .i64 y)) := HO.out.setCell (Or.inr hG6) _
                      have HB5 := Lib.hid hb5
                      have HB6 := Lib.hid hb6
                      have HY6 := Lib.hid hy6
                      have HO5 := Lib.hid ho5
                      have hcI' : IntKind.i64.wrap (V : Int) = y := hcI.symm
                      clear hb5 hb6 hy6 ho5 oset hms hml hmg hvl hV hD8 HB HB' HY HO hcI hy
                      go_wp2_with fail
                      go_roundw
                      case rel => exact ⟨q + 1, by omega, by go_num, HB5.out, HB6.out, HY6.out, HO5.out⟩
                      case measure => simp [intOf]; omega
                · obtain rfl : q = 60 := by omega
                  have e60 : atk L 60 = cellsI 60 L := by unfold atk; rw [if_pos rfl]
                  rw [e60] at hb
                  have hcl := cellsI_length 60 L
                  obtain ⟨cc, hcc⟩ : ∃ cc, cc = cellsI 60 L := ⟨_, rfl⟩
                  rw [← hcc] at hb hcl HN HINV
                  have HCL : Hid ((n :: cc).length = 61) := Lib.hid (by rw [List.length_cons, hcl])
                  have HB := Lib.hid hb
                  have HB' := Lib.hid hb'
                  have HO := Lib.hid ho
                  clear hb hb' hby ho hcc hcl e60
                  obtain ⟨hpf, -, hor⟩ := HINV.out
                  have HPF := Lib.hid hpf
                  have hen : penc n cc = l := by
                    rcases hor with ⟨h1, -⟩ | ⟨-, h2⟩
                    · exact absurd h1 HNZ.out
                    · exact h2
                  have HEN := Lib.hid hen
                  clear hpf hor hen HINV
                  have hG1 : w.heap.size ≤ g1 := HG1.out
                  go_wp2_with fail
                  have o8 : Only [] wr wr.drew := (Only.refl [] wr).drew
                  have HB8 := Lib.hid (HB.out.kept o8 (by simp))
                  have HC8 := Lib.hid (HB'.out.kept o8 (by simp))
                  have HO8 := Lib.hid (HO.out.trans o8 (by simp))
                  obtain ⟨S2, hS2⟩ : ∃ S, S = strOf l := ⟨_, rfl⟩
                  have HS2 := Lib.hid hS2
                  have s8 := str_bytes (HV5.out.kept HO8.out (clean_nil _)) hS2
                  refine wp_region_held_drew (S := fun w' => PB w' g6 27 (n :: cc) ∧ (convert 23 9 (.slice va 512 vc)).run Try.prog w' = .ok (.string S2) w') (by kernel_rfl) ⟨HB8.out, s8⟩ (fun hH => ?_)
                  clear o8 s8 hS2 HB HB' HO
                  generalize wr.drew = w8 at HB8 HC8 HO8 hH ⊢
                  refine take_list (i := 0) (v := .agg (ivA (n :: cc))) rfl (by kernel_rfl) (by kernel_rfl) (by kernel_rfl) (fun _ _ _ h => h) (Or.inl ⟨by rfl, ?_⟩) hH ?_
                  · intro w hw
                    have h1 := hw.1
                    simp [execOp, Act.eval, Instr.loadAt, Instr.sureAddr, load_page h1 HCL.out, Result.andThen]
                  simp only [Act.put, List.setIfInBounds_toArray, List.set_cons_zero, List.set_cons_succ]
                  refine take_list (i := 1) (v := .agg (ivA (n :: cc))) rfl (by kernel_rfl) (by kernel_rfl) (by kernel_rfl) (fun _ _ _ h => h) (Or.inl ⟨by rfl, ?_⟩) hH ?_
                  · intro w hw
                    have h1 := hw.1
                    simp [execOp, Act.eval, Instr.loadAt, Instr.sureAddr, load_page h1 HCL.out, Result.andThen]
                  simp only [Act.put, List.setIfInBounds_toArray, List.set_cons_zero, List.set_cons_succ]
                  refine take_list (i := 4) (v := ?_) rfl (by kernel_rfl) (by kernel_rfl) (by kernel_rfl) (fun _ _ _ h => h) (Or.inl ⟨by rfl, ?_⟩) hH ?_
                  rotate_left
                  · ((intro w hSw; (try dsimp only at hSw); go_simp); try with_reducible rfl)
                  simp only [Act.put, List.setIfInBounds_toArray, List.set_cons_zero, List.set_cons_succ]
                  refine take_list (i := 5) (v := .string S2) rfl (by kernel_rfl) (by kernel_rfl) (by kernel_rfl) (fun _ _ _ h => h) (Or.inl ⟨by rfl, ?_⟩) hH ?_
                  · intro w hSw
                    have hc2 := hSw.2
                    clear hSw hH
                    go_simp
                  simp only [Act.put, List.setIfInBounds_toArray, List.set_cons_zero, List.set_cons_succ]
                  refine wpAnyH_ready (rs := [2]) (by kernel_rfl) (by simp) ?_
                  refine ready_list rfl (fun K hK => ?_)
                  go_simp
                  refine (REncode_any n cc w8 HPF.out).mono ?_
                  rintro e w9 ⟨a9, c9, rfl, h9, o9⟩
                  have hpl := penc_length HPF.out
                  obtain ⟨S1, hS1⟩ : ∃ S, S = strOf (penc n cc) := ⟨_, rfl⟩
                  have HS1 := Lib.hid hS1
                  have hby9 := h9.bytes
                  have HV9 := Lib.hid h9
                  have hg8 : g1 < w8.heap.size := HC8.out.lt
                  have s9 := str_bytes hby9 hS1
                  have HB9 := Lib.hid (HB8.out.kept o9 (by simp))
                  have HC9 := Lib.hid (HC8.out.kept o9 (by simp))
                  have HO9 := Lib.hid (HO8.out.trans o9 (by simp))
                  have t9 := str_bytes (HV5.out.kept HO9.out (clean_nil _)) HS2.out
                  have hq : (S1.toList == S2.toList) = true := by rw [str_eq HS1.out HS2.out, HEN.out]; simp
                  clear hH h9 o9 hby9 hS1 HB8 HC8 HO8
                  refine hK.out _ _ ⟨HB9.out, t9⟩ (fun hH => ?_)
                  clear hK K hH
                  refine wpAnyH_sharpen (S' := fun w' => (PB w' g6 27 (n :: cc) ∧ (convert 23 9 (.slice va 512 vc)).run Try.prog w' = .ok (.string S2) w') ∧ (convert 23 9 (.slice a9 512 c9)).run Try.prog w' = .ok (.string S1) w') (fun w h => h.1) ?_
                  have hH : (PB w9 g6 27 (n :: cc) ∧ (convert 23 9 (.slice va 512 vc)).run Try.prog w9 = .ok (.string S2) w9) ∧ (convert 23 9 (.slice a9 512 c9)).run Try.prog w9 = .ok (.string S1) w9 := ⟨⟨HB9.out, t9⟩, s9⟩
                  clear s9 t9
                  refine take_list (i := 3) (v := .string S1) rfl (by kernel_rfl) (by kernel_rfl) (by kernel_rfl) (fun _ _ _ h => h) (Or.inl ⟨by rfl, ?_⟩) hH ?_
                  · intro w hSw
                    have hc2 := hSw.2
                    clear hSw hH
                    go_simp
                  simp only [Act.put, List.setIfInBounds_toArray, List.set_cons_zero, List.set_cons_succ]
                  refine take_list (i := 6) (v := ?_) rfl (by kernel_rfl) (by kernel_rfl) (by kernel_rfl) (fun _ _ _ h => h) (Or.inl ⟨by rfl, ?_⟩) hH ?_
                  rotate_left
                  · ((intro w hSw; (try dsimp only at hSw); go_simp); try with_reducible rfl)
                  simp only [Act.put, List.setIfInBounds_toArray, List.set_cons_zero, List.set_cons_succ]
                  refine wpAnyH_ready (rs := [7]) (by kernel_rfl) (by simp) ?_
                  refine ready_list rfl (fun K hK => ?_)
                  refine step_page_store rfl (.tmp 2) (.tmp 83) rfl g1 (n :: cc) (by rfl) (by rfl) HCL.out _ HC9.out (by rfl) ?_
                  intro w10 hb10 ho10
                  have HP10 := Lib.hid hb10
                  have HB10 := Lib.hid (HB9.out.kept ho10 (by simp; omega))
                  have ho11 := HO9.out.trans ho10 (by simp; exact hG1)
                  have HO10 := Lib.hid ho11
                  simp only [Act.put, List.setIfInBounds_toArray, List.set_cons_zero, List.set_cons_succ]
                  refine hK.out _ _ ⟨⟨HB10.out, str_bytes (HV5.out.kept HO10.out (clean_nil _)) HS2.out⟩, ?_⟩ (fun hH => ?_)
                  · refine str_bytes (HV9.out.kept ho10 (fun k hk he => ?_)).bytes HS1.out
                    have hk1 : k = g1 := by simpa using hk
                    have := (HV9.out.lt he).1
                    omega
                  clear hK K
                  refine take_list (i := 8) (v := ?_) rfl (by kernel_rfl) (by kernel_rfl) (by kernel_rfl) (fun _ _ _ h => h) (Or.inl ⟨by rfl, ?_⟩) hH ?_
                  rotate_left
                  · ((intro w hSw; (try dsimp only at hSw); go_simp); try with_reducible rfl)
                  simp only [Act.put, List.setIfInBounds_toArray, List.set_cons_zero, List.set_cons_succ]
                  refine wpAnyH_done (by kernel_rfl) ?_ _
                  clear hH hq
                  go_wp2_with fail
                  refine bodyPost_ret (results_page2 rfl _ _ g1 _ _ (by rfl) (by rfl) HP10.out HCL.out) rfl ⟨HO10.out, fun n' c' h => ?_, fun h => ?_⟩
                  · rw [HN.out] at h
                    cases h
                    rfl
                  · rw [HN.out] at h
                    cases h
            · have HN : Hid (pdec l = none) := Lib.hid (pdec_w HNZ.out HU.out ht h480)
              have k0 : ¬ (k : Int) = 0 := by omega
              have k1 : ((k : Int) == 0) = false := by rw [beq_eq_false_iff_ne]; exact k0
              have hne8 : (d.length : Int) ≠ (k : Int) + 480 := by omega
              have hne9 : ((d.length : Int) != (k : Int) + 480) = true := by rw [bne_iff_ne]; exact hne8
              clear ht
              go_wp2_with (first
                | (refine wpList_built rfl [] rfl (0 :: blankP) built_none ?_)
                | (refine wpList_store_page rfl _ _ rfl g1 (0 :: blankP) (by rfl) (by rfl) (by rfl) _ HB5.out (by rfl) ?_
                   intro w9 hb9 ho9
                   have HB9 := Lib.hid hb9
                   have HO9 := Lib.hid (HO5.out.trans ho9 (by simp; exact HG1.out))
                   clear hb9 ho9))
              refine bodyPost_ret (results_page2 rfl _ _ g1 _ _ (by rfl) (by rfl) HB9.out (by rfl)) rfl ⟨HO9.out, fun n c h => ?_, fun _ => rfl⟩
              rw [HN.out] at h
              cases h
  · have HN : Hid (pdec l = none) := Lib.hid (pdec_long h512)
    have hl5 : (l.length : Int) ≠ 512 := by omega
    have T1 := trivial
    go_wp2_with (first
      | (clear T1
         refine wpList_new_page rfl rfl ?_
         intro w1 g1 hb1 hg1 ho1
         have HB1 := Lib.hid hb1
         have HG1 := Lib.hid hg1
         have HO1 := Lib.hid ho1
         clear hb1 hg1 ho1)
      | (refine wpList_built rfl [] rfl (0 :: blankP) built_none ?_)
      | (refine wpList_store_page rfl _ _ rfl g1 (0 :: blankP) (by rfl) (by rfl) (by rfl) _ HB1.out (by rfl) ?_
         intro w9 hb9 ho9
         have HB9 := Lib.hid hb9
         have HO9 := Lib.hid (HO1.out.trans ho9 (by simp; exact HG1.out))
         clear hb9 ho9))
    refine bodyPost_ret (results_page2 rfl _ _ g1 _ _ (by rfl) (by rfl) HB9.out (by rfl)) rfl ⟨HO9.out, fun n c h => ?_, fun _ => rfl⟩
    rw [HN.out] at h
    cases h

end Go.Proofs.Ythacfanfhdjmbaa

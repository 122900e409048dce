/- page: takeCells. -/
import Derived.Test.YthacfanfhdjmbaaP7
namespace Go.Proofs.Ythacfanfhdjmbaa
open Go.RowKit Go.Maps
set_option linter.unusedSimpArgs false
set_option linter.unusedVariables false

theorem ofInt_wrap (x : Int) : BitVec.ofInt 64 (IntKind.i64.wrap x) = BitVec.ofInt 64 x := by
  apply BitVec.eq_of_toNat_eq
  rw [BitVec.toNat_ofInt, BitVec.toNat_ofInt, wrap_i64]
  have e : ((2 ^ 64 : Nat) : Int) = 18446744073709551616 := by decide
  rw [e]
  congr 1
  split <;> omega
theorem or_byte (x : Int) (d : Nat) (hd : d < 256) : bits .or .i64 (IntKind.i64.wrap (x * 256)) (d : Int) = IntKind.i64.wrap (x * 256 + d) := by
  have h1 : BitVec.ofInt 64 (x * 256) = BitVec.ofInt 64 x <<< 8 := by
    rw [BitVec.shiftLeft_eq_mul_twoPow, BitVec.ofInt_mul]
    rfl
  have h2 : BitVec.ofInt 64 (x * 256) &&& BitVec.ofInt 64 (d : Int) = 0 := by
    rw [h1, BitVec.ofInt_natCast]
    apply BitVec.eq_of_getLsbD_eq
    intro i hi
    simp only [BitVec.getLsbD_and, BitVec.getLsbD_shiftLeft, BitVec.getLsbD_ofNat, BitVec.getLsbD_zero]
    by_cases h8 : i < 8
    · simp [h8]
    · have : d.testBit i = false := Nat.testBit_lt_two_pow (Nat.lt_of_lt_of_le hd (Nat.pow_le_pow_right (n := 2) (by decide) (show 8 ≤ i by omega)))
      simp [this]
  have h3 : BitVec.ofInt 64 (x * 256) ||| BitVec.ofInt 64 (d : Int) = BitVec.ofInt 64 (x * 256 + d) := by
    rw [BitVec.ofInt_add, BitVec.add_eq_or_of_and_eq_zero _ _ h2]
  show IntKind.i64.wrap ((BitVec.ofInt 64 (IntKind.i64.wrap (x * 256)) ||| BitVec.ofInt 64 (d : Int)).toNat) = _
  rw [ofInt_wrap, h3, BitVec.toNat_ofInt, wrap_i64, wrap_i64]
  have e : ((2 ^ 64 : Nat) : Int) = 18446744073709551616 := by decide
  rw [e]
  split <;> split <;> omega

/-- What the cells are while the k-th one is z. -/
def mid (l : Sec) (k : Nat) (z : Int) : List Int := cellsI k l ++ z :: List.replicate (59 - k) 0
theorem mid_length (l : Sec) (k : Nat) (z : Int) (hk : k < 60) : (mid l k z).length = 60 := by simp [mid, cellsI_length]; omega
theorem mid_get (l : Sec) (k : Nat) (z : Int) : (mid l k z)[k]? = some z := by
  unfold mid
  rw [List.getElem?_append_right (by rw [cellsI_length]; exact Nat.le_refl _), cellsI_length, Nat.sub_self]
  rfl
theorem mid_set (l : Sec) (k : Nat) (z y : Int) : (mid l k z).set k y = mid l k y := by
  unfold mid
  rw [List.set_append_right _ _ (by rw [cellsI_length]; omega), cellsI_length, Nat.sub_self]
  rfl
theorem mid_zero (l : Sec) : mid l 0 0 = List.replicate 60 0 := by
  unfold mid cellsI
  rfl
theorem mid_next (l : Sec) (k : Nat) (hk : k < 59) : mid l k (cellI ((l.drop (8 * k)).take 8)) = mid l (k + 1) 0 := by
  unfold mid
  rw [cellsI_succ, List.append_assoc]
  have e : 59 - k = (59 - (k + 1)) + 1 := by omega
  rw [e, List.replicate_succ]
  rfl
theorem mid_last (l : Sec) : mid l 59 (cellI ((l.drop (8 * 59)).take 8)) = cellsI 60 l := by
  unfold mid
  rw [cellsI_succ]
  rfl
/-- The cells ahead of the k-th round. -/
def atk (l : Sec) (k : Nat) : List Int := if k = 60 then cellsI 60 l else mid l k 0
theorem atk_step (l : Sec) (k : Nat) (hk : k < 60) : mid l k (cellI ((l.drop (8 * k)).take 8)) = atk l (k + 1) := by
  unfold atk
  by_cases h : k = 59
  · subst h
    rw [if_pos rfl, mid_last]
  · rw [if_neg (by omega), mid_next l k (by omega)]
/-- A cell behind j of its bytes. -/
def part8 (D : Sec) (j : Nat) : Int := IntKind.i64.wrap (val (D.take j) : Int)
theorem part8_zero (D : Sec) : part8 D 0 = 0 := by
  unfold part8
  rw [List.take_zero]
  decide
theorem part8_step (D : Sec) (j : Nat) (d : UInt8) (h : D[j]? = some d) : bits .or .i64 (IntKind.i64.wrap (part8 D j * 256)) (d.toNat : Int) = part8 D (j + 1) := by
  rw [or_byte _ _ (UInt8.toNat_lt d)]
  unfold part8
  have e : D.take (j + 1) = D.take j ++ [d] := by rw [List.take_add_one, h]; rfl
  rw [e, val_snoc, wrap_i64, wrap_i64, wrap_i64]
  have e2 : ((val (D.take j) * 256 + d.toNat : Nat) : Int) = (val (D.take j) : Int) * 256 + (d.toNat : Int) := by simp
  rw [e2]
  split <;> split <;> split <;> omega
theorem part8_all (D : Sec) (h : D.length = 8) : part8 D 8 = cellI D := by
  unfold part8 cellI
  rw [List.take_of_length_le (by omega)]

set_option maxRecDepth 100000 in
theorem takeCells_any (v : Value) (l : Sec) (w : World) (hv : Bytes w v l) (hf : Fit v) (hl : l.length = 480) :
    Calls Try.prog 26 #[v] w fun e w' => e = .returned (.agg (ivA (cellsI 60 l))) ∧ Only [] w w' := by
  obtain ⟨va, vc, rfl, -⟩ := id hv
  have hfc := (hf _ _ _ rfl).1
  have hfm := (hf _ _ _ rfl).2
  unfold maxLen at hfm
  have HV := Lib.hid hv
  clear hv hf
  rw [hl] at HV hfc ⊢
  have T1 := trivial
  have T2 := trivial
  go_enter Try.func26, Try.ntmps26
  go_wp2_with (first
    | (clear T1
       refine wpList_new_cells rfl rfl ?_
       intro w1 g1 hb1 hg1 ho1
       have HB1 := Lib.hid hb1
       have HG1 := Lib.hid hg1
       have HO1 := Lib.hid ho1
       clear hb1 hg1 ho1)
    | (clear T2
       refine wpList_new_cells rfl rfl ?_
       intro w2 g2 hb2 hg2 ho2
       have HO2 := Lib.hid (HO1.out.trans ho2 (by simp))
       have HB1' := Lib.hid (HB1.out.kept ho2 (by simp))
       have hne : g1 ≠ g2 := by have := HB1.out.lt; omega
       have HG2 := Lib.hid (Nat.le_trans HO1.out.size hg2)
       have HB2 := Lib.hid hb2
       clear hb2 hg2 ho2 HB1 HO1))
  have HG2' : w.heap.size ≤ g2 := HG2.out
  have HZ : Hid (atk l 0 = List.replicate 60 0) := Lib.hid (by unfold atk; rw [if_neg (by decide), mid_zero])
  have hb0 := HB2.out
  rw [← HZ.out] at hb0
  go_loopw [4, 6, 7, 18] (fun _ _ i _ wr => ∃ k : Nat, k ≤ 60 ∧ i = .int .i64 k ∧ PB wr g2 25 (atk l k) ∧ PB wr g1 25 (List.replicate 60 0) ∧ Only [] w wr) (fun _ _ i _ _ => 60 - (intOf i).toNat)
  case atStart => exact ⟨0, by omega, rfl, hb0, HB1'.out, HO2.out⟩
  case round =>
    clear hb0
    obtain ⟨k, hk, rfl, hb, hb', ho⟩ := hrel
    by_cases hlt : k < 60
    · obtain ⟨b8, hrun, hby⟩ := slice_mid (w := w) (va := va) (vc := vc) (l := l) (by rw [hl]; exact HV.out) (by omega) (k * 8) ((k + 1) * 8) (by omega) (by omega) .i64 .i64
      have e8 : (k + 1) * 8 - k * 8 = 8 := by omega
      rw [e8, hl] at hrun
      rw [e8] at hby
      have hrun' : ∀ w, (Instr.sliceAt 23 (.slice va 480 vc) (some (.int .i64 ((k : Int) * 8))) (some (.int .i64 (((k : Int) + 1) * 8))) none).run Try.prog w = .ok (.slice b8 8 (vc - k * 8)) w := by
        intro w
        have := hrun w
        simpa using this
      have hD : ((l.drop (k * 8)).take 8).length = 8 := by rw [List.length_take, List.length_drop]; omega
      have hstep := atk_step l k hlt
      rw [Nat.mul_comm 8 k, ← part8_all _ hD] at hstep
      have hat : atk l k = mid l k (part8 ((l.drop (k * 8)).take 8) 0) := by unfold atk; rw [if_neg (by omega), part8_zero]
      rw [hat] at hb
      obtain ⟨D, hDd⟩ : ∃ D, D = (l.drop (k * 8)).take 8 := ⟨_, rfl⟩
      rw [← hDd] at hD hstep hby hb
      have HST := Lib.hid hstep
      have HBY := Lib.hid hby
      have HB := Lib.hid hb
      have HB' := Lib.hid hb'
      have HO := Lib.hid ho
      clear hrun hat hstep hby hb hb' ho hDd e8
      have hd8 : decide ((k : Int) < 60) = true := by simp; omega
      go_wp2_with fail
      clear hrun'
      go_loopw [6, 18] (fun _ i wr => ∃ j : Nat, j ≤ 8 ∧ i = .int .i64 j ∧ PB wr g2 25 (mid l k (part8 D j)) ∧ PB wr g1 25 (List.replicate 60 0) ∧ Only [] w wr) (fun _ i _ => 8 - (intOf i).toNat)
      case atStart => exact ⟨0, by omega, rfl, HB.out, HB'.out, HO.out⟩
      case round =>
        obtain ⟨j, hj, rfl, hb, hb', ho⟩ := hrel
        by_cases hjt : j < 8
        · obtain ⟨d, hd⟩ : ∃ d, D[j]? = some d := ⟨_, List.getElem?_eq_getElem (by omega)⟩
          obtain ⟨a', cap', e1, hcells⟩ := HBY.out.kept ho (clean_nil _)
          rw [hD] at e1
          cases e1
          obtain ⟨b, off, rfl, hcell⟩ := hcells j d hd
          have hpart := part8_step D j d hd
          have hml := mid_length l k (part8 D j) hlt
          have hmg := mid_get l k (part8 D j)
          have hms : ∀ y, (mid l k (part8 D j)).set k y = mid l k y := fun y => mid_set l k _ y
          obtain ⟨z, hz⟩ : ∃ z, z = part8 D j := ⟨_, rfl⟩
          rw [← hz] at hpart hb hml hmg hms
          have hc2 : wr.cell? ⟨g2, k, none⟩ = some (.int .i64 z) := hb.cell hmg
          have hf2 : wr.frozen? ⟨g2, k, none⟩ = false := hb.free _
          have HP := Lib.hid hpart
          have HM := Lib.hid hms
          have HB := Lib.hid hb
          have HB' := Lib.hid hb'
          have HO := Lib.hid ho
          clear hpart hms hb hb' ho hml hmg hz hd hcells
          go_wp2_with fail
          have w64 : ∀ x : Int, wrap64 x = IntKind.i64.wrap x := fun x => by rw [wrap_i64, wrap64]; split <;> omega
          have hdl := d.toNat_lt
          have hwd : IntKind.i64.wrap (d.toNat : Int) = d.toNat := by rw [wrap_i64]; split <;> omega
          have hval : bits .or .i64 (wrap64 (z * 256)) (wrap64 (d.toNat : Int)) = part8 D (j + 1) := by rw [w64, w64, hwd, HP.out]
          go_roundw
          rw [hval]
          have hb5 := HB.out.set k (part8 D (j + 1))
          rw [HM.out] at hb5
          case rel => exact ⟨j + 1, by omega, by go_num, hb5, HB'.out.kept ((Only.refl [g2] wr).setCell (.inl (by simp)) _) (by simpa using hne), HO.out.setCell (Or.inr HG2') _⟩
          case measure => simp [intOf]; omega
        · obtain rfl : j = 8 := by omega
          rw [HST.out] at hb
          have HB := Lib.hid hb
          have HB' := Lib.hid hb'
          have HO := Lib.hid ho
          clear hb hb' ho
          go_wp2_with fail
          go_roundw
          case rel => exact ⟨k + 1, by omega, by go_num, HB.out, HB'.out, HO.out⟩
          case measure => simp [intOf]; omega
    · obtain rfl : k = 60 := by omega
      have e60 : atk l 60 = cellsI 60 l := by unfold atk; rw [if_pos rfl]
      rw [e60] at hb
      have HO := Lib.hid ho
      clear ho e60
      go_wp2_with (first
        | (refine wpList_load_cells rfl _ rfl g2 (by rfl) _ hb (by simp [cellsI_length]) ?_)
        | (refine wpList_store_cells rfl _ _ rfl g1 (cellsI 60 l) (by rfl) (by rfl) (by simp [cellsI_length]) _ hb' (by rfl) ?_
           intro w5 hb5 ho5))
      exact bodyPost_ret (results_cells rfl _ _ g1 _ (by rfl) hb5 (by simp [cellsI_length])) rfl ⟨rfl, HO.out.trans ho5 (by simp; exact HG1.out)⟩

end Go.Proofs.Ythacfanfhdjmbaa

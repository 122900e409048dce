/- wire: Box. -/
import Derived.Test.YtfnedeaemjchgaaGreatN3
import Derived.Test.YtfnedeaemjchgaaGreatN6
namespace Go.Proofs.YtfnedeaemjchgaaGreat
open Go.RowKit Go.Maps
set_option linter.unusedSimpArgs false
set_option linter.unusedVariables false

theorem made_zeros (n : Nat) : madeCells #[Value.int .u8 0] n = enc (List.replicate n 0) := by
  apply Array.ext_getElem?
  intro i
  rw [enc_get, List.getElem?_replicate]
  simp [madeCells, Nat.mod_one]
  split <;> simp_all
section
variable {w : World} {ops : Array Oper} {rest : List Oper} {o : Oper} {a : Act} {Q : Exit → Act → World → Prop}
/-- 'make([]byte, n)'. -/
theorem wpList_make_zero (hg : o.guard = none) (l c : Operand) (hop : o.op = Op.makeSlice 27 l c) (n : Nat) (hl : a.eval l = .int .i64 (n : Int)) (hc : a.eval c = .int .i64 (n : Int)) (hn : n ≤ 70368744177664)
    (hK : ∀ w' g, BBlk w' g (List.replicate n 0) → w.heap.size ≤ g → Only [] w w' → wpList Tryz.prog ops Q rest (a.put o.dst (.slice (some ⟨g, 0, none⟩) n n)) w') : wpList Tryz.prog ops Q (o :: rest) a w := by
  obtain ⟨i, hi, hz⟩ := Option.map_eq_some_iff.1 info_u8'
  simp only [Prod.mk.injEq] at hz
  obtain ⟨z1, z2, z3⟩ := hz
  refine wpList_make_row w hg l c 27 hop 5 i (.int .u8 0) Tryz.underlying27 hi z1 z2 rfl .i64 .i64 n hl hc (by rw [z3]; omega) (by omega) ?_
  rw [made_zeros]
  exact hK _ _ (heap_new w _) (Nat.le_refl _) ((Only.refl _ _).alloc _)
end
theorem box_from (g size n : Nat) (hn : n ≤ size) (kk : IntKind) :
    ∃ q, (n < size → q = n) ∧ ∀ w, (Instr.sliceAt 27 (.slice (some ⟨g, 0, none⟩) size size) (some (.int kk (n : Int))) none none).run Tryz.prog w = .ok (.slice (some ⟨g, q, none⟩) (size - n) (size - n)) w := by
  refine ⟨if size = n then 0 else n, fun h => if_neg (by omega), fun w => ?_⟩
  rw [run_sliceAt_slice w _ _ _ _ _ elem_bytes, run_slice_l w _ _ _ _ elem_bytes kk (n : Int) (by omega) (by omega), size_u8]
  by_cases e : size = n
  · subst e; simp [Result.andThen, sliced]
  · simp [Result.andThen, sliced, e, Addr.add_lit]
theorem box_part (g size i j : Nat) (hi : i < j) (hj : j ≤ size) (ki kj : IntKind) (w : World) :
    (Instr.sliceAt 27 (.slice (some ⟨g, 0, none⟩) size size) (some (.int ki (i : Int))) (some (.int kj (j : Int))) none).run Tryz.prog w = .ok (.slice (some ⟨g, i, none⟩) (j - i) (size - i)) w := by
  rw [run_sliceAt_slice w _ _ _ _ _ elem_bytes, run_slice_lh w _ _ _ _ elem_bytes ki kj (i : Int) (j : Int) (by omega) (by omega) (by omega), size_u8]
  simp [Result.andThen, sliced, show ¬ size = i by omega, Addr.add_lit]
theorem box_to (g size j : Nat) (h0 : 0 < size) (hj : j ≤ size) (kj : IntKind) (w : World) :
    (Instr.sliceAt 27 (.slice (some ⟨g, 0, none⟩) size size) none (some (.int kj (j : Int))) none).run Tryz.prog w = .ok (.slice (some ⟨g, 0, none⟩) j size) w := by
  rw [run_sliceAt_slice w _ _ _ _ _ elem_bytes, run_slice_h w _ _ _ _ elem_bytes kj (j : Int) (by omega) (by omega), size_u8]
  simp [Result.andThen, sliced, show ¬ size = 0 by omega, Addr.add_lit]

theorem spl_more (z : Sec) (p : Nat) (a b : Sec) (h : p + a.length + b.length ≤ z.length) : spl (spl z p a) (p + a.length) b = spl z p (a ++ b) := by
  unfold spl
  have e1 : (z.take p ++ a).length = p + a.length := by simp; omega
  rw [← e1, List.take_left, List.drop_append, List.drop_eq_nil_of_le (by omega)]
  simp only [List.nil_append, List.drop_drop, List.append_assoc, List.length_append]
  congr 4
  simp
  omega
theorem spl_nil (z : Sec) (p : Nat) : spl z p [] = z := by simp [spl]
theorem BBlk.from_ {w : World} {g : Nat} {l : Sec} (h : BBlk w g l) (k n c : Nat) (hk : k ≤ l.length) (hn : n = l.length - k) : Bytes w (.slice (some ⟨g, k, none⟩) n c) (l.drop k) := by
  subst hn
  have := (h.bytes l.length).part k l.length c (some ⟨g, k, none⟩) (fun g' off e _ => by cases e; simp) (Nat.le_refl _)
  rwa [List.take_length] at this
theorem parts_made {w : World} {s : Value} {l : Sec} (h : Bytes w s l) {v : Value} (hv : v = .slice (some ⟨w.heap.size, 0, none⟩) 1 1) : Parts (w.alloc (.cells #[s] 27)) v [l] := by
  subst hv
  refine ⟨_, 1, rfl, fun i x hi => ?_⟩
  obtain ⟨rfl, rfl⟩ : i = 0 ∧ x = l := by
    cases i with
    | zero => simp at hi; exact ⟨rfl, hi.symm⟩
    | succ i => simp at hi
  exact ⟨w.heap.size, 0, s, rfl, by simp, h.kept ((Only.refl [] w).alloc _) (clean_nil _)⟩
theorem parts_made2 {w : World} {s t : Value} {l m : Sec} (h : Bytes w s l) (k : Bytes w t m) {v : Value} (hv : v = .slice (some ⟨w.heap.size, 0, none⟩) 2 2) : Parts (w.alloc (.cells #[s, t] 27)) v [l, m] := by
  subst hv
  refine ⟨_, 2, rfl, fun i x hi => ?_⟩
  match i, hi with
  | 0, hi =>
    simp at hi
    subst hi
    exact ⟨w.heap.size, 0, s, rfl, by simp, h.kept ((Only.refl [] w).alloc _) (clean_nil _)⟩
  | 1, hi =>
    simp at hi
    subst hi
    exact ⟨w.heap.size, 0, t, rfl, by simp, k.kept ((Only.refl [] w).alloc _) (clean_nil _)⟩
  | i + 2, hi => simp at hi
def zs (n : Nat) : Sec := List.replicate n 0
theorem zs_length (n : Nat) : (zs n).length = n := List.length_replicate
theorem box_body (size : Nat) (D : Sec) (h6 : 6 ≤ size) (h : D.length ≤ size - 6) : (spl (spl (zs size) 6 D) 4 (be2 D.length)).drop 4 = body size D := by
  have e1 : spl (zs size) 6 D = List.replicate 4 0 ++ (List.replicate 2 0 ++ (D ++ List.replicate (size - 6 - D.length) 0)) := by
    unfold spl zs
    rw [List.take_replicate, List.drop_replicate, Nat.min_eq_left h6]
    have e2 : (List.replicate 6 (0 : UInt8)) = List.replicate 4 0 ++ List.replicate 2 0 := by rw [List.replicate_append_replicate]
    rw [e2, show size - (6 + D.length) = size - 6 - D.length by omega]
    simp only [List.append_assoc]
  rw [e1]
  have e3 : ∀ (a : Sec), a.length = 4 → ∀ b : Sec, (spl (a ++ (List.replicate 2 0 ++ b)) 4 (be2 D.length)).drop 4 = be2 D.length ++ b := fun a ha b => by
    unfold spl
    have e4 : (a ++ (List.replicate 2 0 ++ b)).take 4 = a := by rw [← ha, List.take_left]
    have e5 : (a ++ (List.replicate 2 (0 : UInt8) ++ b)).drop (4 + (be2 D.length).length) = b := by
      rw [← List.append_assoc]
      have : 4 + (be2 D.length).length = (a ++ List.replicate 2 (0 : UInt8)).length := by simp [ha, be2]
      rw [this, List.drop_left]
    rw [e4, e5, List.append_assoc, ← ha, List.drop_left]
  rw [e3 _ (by simp)]
  simp [body]
theorem box_whole (size : Nat) (D : Sec) (h6 : 6 ≤ size) (h : D.length ≤ size - 6) : spl (spl (spl (zs size) 6 D) 4 (be2 D.length)) 0 (be4 (crc (body size D))) = boxOf size D := by
  rw [spl, List.take_zero, List.nil_append, Nat.zero_add]
  have e : (be4 (crc (body size D))).length = 4 := rfl
  rw [e, box_body size D h6 h, boxOf]

set_option maxRecDepth 100000 in
theorem Box_range (size : Int) (v : Value) (w : World) (h : size < 6 ∨ 65536 < size) :
    Calls Tryz.prog 68 #[.int .i64 size, v] w fun e w' => e = .returned (.tuple #[.slice none 0 0, err 1]) ∧ w = w' := by
  by_cases h0 : size < 6
  · clear h
    go_enter Tryz.func68, Tryz.ntmps68
    go_wp2_with fail
    go_ret2
    exact ⟨rfl, rfl⟩
  · have h1 : 65536 < size := by omega
    clear h
    go_enter Tryz.func68, Tryz.ntmps68
    go_wp2_with fail
    go_ret2
    exact ⟨rfl, rfl⟩
set_option maxRecDepth 100000 in
theorem Box_form (size : Nat) (v : Value) (ls : List Sec) (w : World) (h6 : 6 ≤ size) (hs : size ≤ 65536) (h : Parts w v ls) (hlen : ls.length ≤ 4611686018427387904) (hmax : ∀ l ∈ ls, l.length ≤ 9223372036854775807) (hbig : size - 6 < total ls) :
    Calls Tryz.prog 68 #[.int .i64 size, v] w fun e w' => e = .returned (.tuple #[.slice none 0 0, err 2]) ∧ w = w' := by
  have n0 : ¬ (size : Int) < 6 := by omega
  have n1 : ¬ (65536 : Int) < (size : Int) := by omega
  have hd : decide ((total ls : Int) ≤ (size : Int) - 6) = false := by simp; omega
  have HD := Lib.hid hd
  clear hd
  go_enter Tryz.func68, Tryz.ntmps68
  go_wp2_with fail
  refine (fits_any ((size : Int) - 6) v ls w h (by omega) (by omega) hlen hmax).mono ?_
  rw [HD.out]
  rintro e w1 ⟨rfl, rfl⟩
  go_wp2_with fail
  go_ret2
  exact ⟨rfl, rfl⟩
set_option maxRecDepth 100000 in
set_option maxHeartbeats 1600000 in
theorem Box_any (size : Nat) (v : Value) (ls : List Sec) (w : World) (h6 : 6 ≤ size) (hs : size ≤ 65536) (h : Parts w v ls) (hlen : ls.length ≤ 4611686018427387904) (hmax : ∀ l ∈ ls, l.length ≤ 9223372036854775807) (hfit : total ls ≤ size - 6) :
    Calls Tryz.prog 68 #[.int .i64 size, v] w fun e w' => ∃ g, e = .returned (.tuple #[.slice (some ⟨g, 0, none⟩) size size, .nilIface]) ∧ BBlk w' g (boxOf size ls.flatten) ∧ w.heap.size ≤ g ∧ Only [] w w' := by
  have n0 : ¬ (size : Int) < 6 := by omega
  have n1 : ¬ (65536 : Int) < (size : Int) := by omega
  have hd : decide ((total ls : Int) ≤ (size : Int) - 6) = true := by simp; omega
  have HD := Lib.hid hd
  have HP := Lib.hid h
  have HM := Lib.hid hmax
  obtain ⟨va, vc, rfl, -⟩ := id h
  clear hd h hmax
  have hmn : ∀ l ∈ ls, l.length ≤ size - 6 := fun l hl => by
    obtain ⟨k, hk⟩ := List.mem_iff_getElem?.1 hl
    have h1 := total_take_succ ls k l hk
    have h2 := total_take_le ls (k + 1)
    omega
  have HMN := Lib.hid hmn
  clear hmn
  go_enter Tryz.func68, Tryz.ntmps68
  go_wp2_with fail
  refine (fits_any ((size : Int) - 6) _ ls w HP.out (by omega) (by omega) hlen HM.out).mono ?_
  rw [HD.out]
  rintro e w1 ⟨rfl, rfl⟩
  clear HM HD
  go_wp2_with (
    refine wpList_make_zero rfl (.tmp 23) (.tmp 23) rfl size (by rfl) (by rfl) (by omega) ?_
    intro w1 g hg1 hge1 ho1)
  have HG := Lib.hid (hg1 : BBlk w1 g (zs size))
  have HO := Lib.hid ho1
  clear hg1 ho1 n0 n1
  go_loopw [7, 9, 27] (fun en _ i wr => ∃ k : Nat, k ≤ ls.length ∧ i = .int .i64 k ∧ en = .int .i64 ((6 + total (ls.take k) : Nat) : Int) ∧ BBlk wr g (spl (zs size) 6 (ls.take k).flatten) ∧ Only [] w wr) (fun _ _ i _ => ls.length - (intOf i).toNat)
  case atStart => exact ⟨0, by omega, rfl, rfl, by rw [List.take_zero, List.flatten_nil, spl_nil]; exact HG.out, HO.out⟩
  case round =>
    clear HG HO
    obtain ⟨k, hk, rfl, rfl, hb, ho⟩ := hrel
    have hle := total_take_le ls k
    have hcl : (spl (zs size) 6 (ls.take k).flatten).length = size := by rw [spl_length _ _ _ (by rw [zs_length, ← total_flatten]; omega), zs_length]
    by_cases hlt : k < ls.length
    · have hkl : ls[k]? = some ls[k] := List.getElem?_eq_getElem hlt
      have hm := HMN.out _ (List.mem_of_getElem? hkl)
      have hts := total_take_succ ls k _ hkl
      have hle' := total_take_le ls (k + 1)
      have HF := Lib.hid (flat_take_succ ls k _ hkl)
      obtain ⟨b, off, cap, a', cap', hv, hcell, hbytes⟩ := (HP.out.kept ho (clean_nil _)).part hkl
      cases hv
      clear hkl
      generalize ls[k] = l at *
      have hft : (ls.take k).flatten.length = total (ls.take k) := (total_flatten _).symm
      have hmore := spl_more (zs size) 6 (ls.take k).flatten l (by rw [zs_length, hft]; omega)
      rw [hft, ← HF.out] at hmore
      generalize total (ls.take k) = t at *
      have HT := Lib.hid hts
      have HB := Lib.hid hb
      have HY := Lib.hid hbytes
      have HC := Lib.hid hcl
      have HS := Lib.hid hmore
      have HO := Lib.hid ho
      have hsum : 6 + t + l.length ≤ size := by omega
      obtain ⟨q, hq, hsl⟩ := box_from g size (6 + t) (by omega) .i64
      have HQ := Lib.hid hq
      have hsum2 : (6 + (t : Int)) + (l.length : Int) ≤ 65536 := by omega
      clear hts hb hbytes hcl hmore ho hq hft
      rw [show ((6 + t : Nat) : Int) = 6 + (t : Int) by omega] at hsl ⊢
      go_wp2_with (
        refine wpList_copy_bytes rfl (.tmp 34) (.tmp 35) rfl (spl (zs size) 6 (ls.take k).flatten) l g (6 + t) _ HB.out _ _ _ (by rfl) (fun h0 => by rw [HQ.out (by omega)]) (by omega) (by rw [HC.out]; omega) _ (by rfl) HY.out ?_
        intro w5 h5 o5)
      exact ⟨⟨k + 1, by omega, by go_num, by rw [HT.out]; congr 1; omega, HS.out ▸ h5, HO.out.trans o5 (by simp; omega)⟩, by simp [intOf]; omega⟩
    · obtain rfl : k = ls.length := by omega
      rw [List.take_length] at hb hcl ⊢
      have hD : ls.flatten.length = total ls := (total_flatten _).symm
      have h46 : ∀ w, (Instr.sliceAt 27 (.slice (some ⟨g, 0, none⟩) size size) (some (.int .i64 4)) (some (.int .i64 6)) none).run Tryz.prog w = .ok (.slice (some ⟨g, 4, none⟩) 2 (size - 4)) w := fun w => box_part g size 4 6 (by omega) h6 .i64 .i64 w
      have hto : ∀ w, (Instr.sliceAt 27 (.slice (some ⟨g, 0, none⟩) size size) none (some (.int .i64 4)) none).run Tryz.prog w = .ok (.slice (some ⟨g, 0, none⟩) 4 size) w := fun w => box_to g size 4 (by omega) (by omega) .i64 w
      obtain ⟨q, hq, hfr⟩ := box_from g size 4 (by omega) .i64
      obtain rfl := hq (by omega)
      have hfrom : ∀ w, (Instr.sliceAt 27 (.slice (some ⟨g, 0, none⟩) size size) (some (.int .i64 4)) none none).run Tryz.prog w = .ok (.slice (some ⟨g, 4, none⟩) (size - 4) (size - 4)) w := hfr
      have hwb := box_body size ls.flatten h6 (by omega)
      have hww := box_whole size ls.flatten h6 (by omega)
      rw [hD] at hwb hww
      generalize total ls = t at *
      generalize hDD : ls.flatten = D at *
      have HDD := Lib.hid hDD
      clear hDD
      have HB := Lib.hid hb
      have HO := Lib.hid ho
      have HC := Lib.hid hcl
      have HW := Lib.hid hwb
      have HWW := Lib.hid hww
      clear hq hfr hb ho hcl hwb hww hD HP HMN hle
      rw [show ((6 + t : Nat) : Int) = 6 + (t : Int) by omega]
      go_wp2_with fail
      rw [show (6 + (t : Int) - 6) = (t : Int) by omega]
      refine (putHigh_any g 4 2 (size - 4) _ t _ HB.out (by omega) (by rw [HC.out]; omega) (by omega)).mono ?_
      rw [beN_two]
      rintro e w2 ⟨rfl, hb2, ho2⟩
      have hl2 : (spl (spl (zs size) 6 D) 4 (be2 t)).length = size := by rw [spl_length _ _ _ (by rw [HC.out]; simp [be2]; omega), HC.out]
      have hby := hb2.from_ 4 (size - 4) (size - 4) (by omega) (by omega)
      rw [HW.out] at hby
      have hcr := crc_lt (body size D)
      have HY := Lib.hid hby
      have HB2 := Lib.hid hb2
      have HL2 := Lib.hid hl2
      have HO2 := Lib.hid (HO.out.trans ho2 (by simp; omega))
      clear hby hb2 hl2 ho2
      go_wp2_with fail
      refine wp_region_held_drew (S := fun _ => True) (by kernel_rfl) trivial (fun hH => ?_)
      refine take_list (i := 0) (v := ?_) rfl (by kernel_rfl) (by kernel_rfl) (by kernel_rfl) (fun _ _ _ h => h) (Or.inl ⟨by rfl, ?_⟩) hH ?_
      rotate_left
      · ((intro w hSw; (try dsimp only at hSw); go_simp); try with_reducible rfl)
      simp only [Act.put, List.setIfInBounds_toArray, List.set_cons_zero, List.set_cons_succ]
      refine take_list (i := 1) (v := ?_) rfl (by kernel_rfl) (by kernel_rfl) (by kernel_rfl) (fun _ _ _ h => h) (Or.inl ⟨by rfl, ?_⟩) hH ?_
      rotate_left
      · ((intro w hSw; (try dsimp only at hSw); go_simp); try with_reducible rfl)
      simp only [Act.put, List.setIfInBounds_toArray, List.set_cons_zero, List.set_cons_succ]
      refine take_list (i := 2) (v := ?_) rfl (by kernel_rfl) (by kernel_rfl) (by kernel_rfl) (fun _ _ _ h => h) (Or.inl ⟨by rfl, ?_⟩) hH ?_
      rotate_left
      · ((intro w hSw; (try dsimp only at hSw); go_simp); try with_reducible rfl)
      simp only [Act.put, List.setIfInBounds_toArray, List.set_cons_zero, List.set_cons_succ]
      refine take_list (i := 3) (v := ?_) rfl (by kernel_rfl) (by kernel_rfl) (by kernel_rfl) (fun _ _ _ h => h) (Or.inl ⟨by rfl, ?_⟩) hH ?_
      rotate_left
      · ((intro w hSw; (try dsimp only at hSw); go_simp); try with_reducible rfl)
      simp only [Act.put, List.setIfInBounds_toArray, List.set_cons_zero, List.set_cons_succ]
      refine wpAnyH_ready (rs := [4]) (by kernel_rfl) (by simp) ?_
      refine ready_list rfl (fun K hK => ?_)
      go_simp
      have HP3 := Lib.hid ((parts_made HY.out rfl).kept ((Only.refl [] _).drew) (clean_nil _))
      have q3 : Only [] w2 (w2.alloc (.cells #[.slice (some ⟨g, 4, none⟩) (size - 4) (size - 4)] 27)).drew := ((Only.refl [] w2).alloc _).drew
      have HB3 := Lib.hid (HB2.out.kept q3 (by simp))
      have HO3 := Lib.hid (HO2.out.trans q3 (by simp))
      clear q3 HB2 HO2 HY
      refine hK.out _ _ trivial (fun hH => ?_)
      clear hK K
      refine wpAnyH_ready (rs := [5]) (by kernel_rfl) (by simp) ?_
      refine ready_list rfl (fun K hK => ?_)
      go_simp
      have e5 : [body size D].flatten = body size D := by simp
      refine (Check_any _ [body size D] _ HP3.out (by simp) (fun l hl => ?_)).mono ?_
      · rw [List.mem_singleton.1 hl, ← HW.out, List.length_drop, HL2.out]
        omega
      rw [e5]
      rintro e w3 ⟨rfl, rfl⟩
      refine hK.out _ _ trivial (fun hH => ?_)
      clear hK K
      refine wpAnyH_ready (rs := [6]) (by kernel_rfl) (by simp) ?_
      refine ready_list rfl (fun K hK => ?_)
      go_simp
      with_reducible refine (putHigh_any g 0 4 size _ (crc (body size D)) _ HB3.out (by omega) (by rw [HL2.out]; omega) hcr).mono ?_
      rw [beN_four]
      rintro e w4 ⟨rfl, hb4, ho4⟩
      rw [HWW.out] at hb4
      have HB4 := Lib.hid hb4
      have HO4 := Lib.hid (HO3.out.trans ho4 (by simp; omega))
      clear hb4 ho4
      refine hK.out _ _ trivial (fun hH => ?_)
      clear hK K
      refine wpAnyH_done (by kernel_rfl) ?_ _
      go_wp2
      go_ret2
      exact ⟨g, rfl, by rw [HDD.out]; exact HB4.out, hge1, HO4.out⟩
end Go.Proofs.YtfnedeaemjchgaaGreat

/- wire: numbers and rows are put. -/
import Derived.Test.YtfnedeaemjchgaaGreatB2
import Derived.Test.YtfnedeaemjchgaaGreatM1
import Derived.Test.YtfnedeaemjchgaaGreatN0
namespace Go.Proofs.YtfnedeaemjchgaaGreat
open Go.RowKit Go.Maps
set_option linter.unusedSimpArgs false
set_option linter.unusedVariables false

theorem ret_u64 {a b : Int} (h : a = b) : Ending.returned (.int .u64 a) = .returned (.int .u64 b) := by rw [h]
theorem ret_i64 {a b : Int} (h : a = b) : Ending.returned (.int .i64 a) = .returned (.int .i64 b) := by rw [h]

theorem turn_any (n : Int) (w : World) (h0 : -9223372036854775808 ≤ n) (h1 : n ≤ 9223372036854775807) :
    Calls Tryz.prog 95 #[.int .i64 n] w fun e w' => e = .returned (.int .u64 (turnN n)) ∧ w = w' := by
  by_cases hn : n < 0
  · go_enter Tryz.func95, Tryz.ntmps95
    go_wp2
    go_ret
    refine ⟨ret_u64 ?_, rfl⟩
    have e : IntKind.u64.wrap (IntKind.u64.wrap n * 2) = 18446744073709551616 + 2 * n := by
      rw [IntKind.wrap_u64, IntKind.wrap_u64]
      omega
    rw [e, not_u64 _ (by omega) (by omega)]
    unfold turnN
    rw [if_pos hn]
    omega
  · go_enter Tryz.func95, Tryz.ntmps95
    go_wp2
    go_ret
    refine ⟨ret_u64 ?_, rfl⟩
    unfold turnN
    rw [if_neg (by omega)]
    show n * 2 = _
    omega
theorem turnBack_any (u : Nat) (w : World) (h1 : u < 18446744073709551616) :
    Calls Tryz.prog 92 #[.int .u64 u] w fun e w' => e = .returned (.int .i64 (backN u)) ∧ w = w' := by
  have e1 := and1_u64 (u : Int) (by omega) (by omega)
  have e2 := not_i64 ((u : Int) / 2) (by omega) (by omega)
  unfold backN
  by_cases h : u % 2 = 1
  · have h2 : (bits .and .u64 (u : Int) 1 == 1) = true := by rw [e1]; simp; omega
    rw [if_pos h]
    have H2 := Lib.hid e2
    clear e1 e2 h
    go_enter Tryz.func92, Tryz.ntmps92
    go_wp2
    go_ret
    exact ⟨ret_i64 (by rw [H2.out]), rfl⟩
  · have h2 : (bits .and .u64 (u : Int) 1 == 1) = false := by rw [e1]; simp; omega
    rw [if_neg h]
    clear e1 e2 h
    go_enter Tryz.func92, Tryz.ntmps92
    go_wp2
    go_ret
    exact ⟨ret_i64 (by omega), rfl⟩
theorem ends_any (i : Nat) (c : UInt8) (w : World) (h1 : i ≤ 9) :
    Calls Tryz.prog 91 #[.int .i64 i, .int .u8 c.toNat] w fun e w' => e = .returned (.bool (endsB i c)) ∧ w = w' := by
  have q1 : ((c.toNat : Int) == 1) = decide (c = 1) := by
    rw [Bool.eq_iff_iff]
    simp only [beq_iff_eq, decide_eq_true_eq]
    exact ⟨fun h => UInt8.toNat_inj.1 (by show _ = 1; omega), fun h => by rw [h]; rfl⟩
  have q0 : ((c.toNat : Int) != 0) = decide (c ≠ 0) := by
    rw [Bool.eq_iff_iff]
    simp only [bne_iff_ne, decide_eq_true_eq]
    exact ⟨fun h e => h (by rw [e]; rfl), fun h e => h (UInt8.toNat_inj.1 (by show _ = 0; omega))⟩
  unfold endsB
  have H1 := Lib.hid q1
  have H0 := Lib.hid q0
  clear q1 q0
  by_cases h9 : i = 9
  · subst h9
    rw [if_pos rfl]
    go_enter Tryz.func91, Tryz.ntmps91
    go_wp2
    go_ret
    exact ⟨ret_bool H1.out, rfl⟩
  · rw [if_neg h9]
    have b9 : ((i : Int) == 9) = false := by simp; omega
    by_cases hz : i = 0
    · subst hz
      go_enter Tryz.func91, Tryz.ntmps91
      go_wp2
      go_ret
      exact ⟨rfl, rfl⟩
    · have b0 : ((i : Int) == 0) = false := by simp; omega
      have bz : decide (i = 0) = false := by simp [hz]
      rw [bz, Bool.false_or]
      clear h9 hz bz
      go_enter Tryz.func91, Tryz.ntmps91
      go_wp2
      go_ret
      exact ⟨ret_bool H0.out, rfl⟩
theorem nil_yes (n c : Nat) (w : World) : (binOp .eql 27 (.slice none n c) (.slice none 0 0)).run Tryz.prog w = .ok (.bool true) w := by kernel_rfl
theorem nil_no (ad : Addr) (n c : Nat) (w : World) : (binOp .eql 27 (.slice (some ad) n c) (.slice none 0 0)).run Tryz.prog w = .ok (.bool false) w := by kernel_rfl
theorem clone_any (v : Value) (l : Sec) (w : World) (hv : Bytes w v l) (hl : l.length ≤ 70368744177664) :
    Calls Tryz.prog 49 #[v] w fun e w' => ∃ a cap, e = .returned (.slice a l.length cap) ∧ Own w' w.heap.size (.slice a l.length cap) l ∧ Only [] w w' := by
  have HV := Lib.hid hv
  obtain ⟨va, vc, rfl, hc⟩ := hv
  cases va with
  | none =>
    cases l with
    | nil =>
      clear hc
      have q := nil_yes 0 vc
      go_enter Tryz.func49, Tryz.ntmps49
      go_wp2
      go_ret
      exact ⟨none, 0, rfl, Own.nil _ _, Only.refl _ _⟩
    | cons x t =>
      obtain ⟨b, off, h, _⟩ := hc 0 x rfl
      cases h
  | some ad =>
    clear hc
    have q := nil_no ad l.length vc
    go_enter Tryz.func49, Tryz.ntmps49
    go_wp2_with (refine wpList_append_any rfl (.tmp 5) (.tmp 6) rfl w.heap.size _ [] (by rfl) (Own.made w [] #[] rfl (Nat.le_refl _) (by simp)) _ l (by rfl) (HV.out.kept ((Only.refl [] w).alloc _) (clean_nil _)) l.length (by simp) l rfl (by omega) (by simp) ?_; intro a' cap w2 h2 e2)
    go_ret
    exact ⟨a', cap, rfl, h2, Ext.fresh ((Only.refl [] w).alloc _) (Own.made w [] #[] rfl (Nat.le_refl _) (by simp)) (Nat.le_refl _) e2⟩

set_option maxRecDepth 100000 in
theorem putOne_any (v : Value) (l : Sec) (n : Int) (base : Nat) (w : World) (hv : Own w base v l) (hb : base ≤ w.heap.size) (h0 : -9223372036854775808 ≤ n) (h1 : n ≤ 9223372036854775807) (hl : l.length ≤ 35184372088832) :
    Calls Tryz.prog 82 #[v, .int .i64 n] w fun e w' => ∃ a cap, e = .returned (.slice a (l.length + (num n).length) cap) ∧ Own w' base (.slice a (l.length + (num n).length) cap) (l ++ num n) ∧ Ext w v w' (.slice a (l.length + (num n).length) cap) := by
  have HV := Lib.hid hv
  obtain ⟨va, vc, rfl, hc⟩ := hv.shape
  clear hv
  have hten := num_ten h0 h1
  have htl := turnN_lt h0 h1
  unfold num at *
  go_enter Tryz.func82, Tryz.ntmps82
  go_wp2_with fail
  refine (turn_any n w h0 h1).mono ?_
  rintro e w1 ⟨rfl, rfl⟩
  generalize hu0 : turnN n = u0 at *
  have HU := Lib.hid hu0
  clear hu0
  go_wp2_with fail
  go_loopw [0, 5] (fun v u wr => ∃ (l' : Sec) (u' : Nat) (a : Option Addr) (cap : Nat), v = .slice a (l.length + l'.length) cap ∧ u = .int .u64 (u' : Int) ∧ u' < 18446744073709551616 ∧ l' ++ dig u' = dig u0 ∧ Own wr base (.slice a (l.length + l'.length) cap) (l ++ l') ∧ Ext w (.slice va l.length vc) wr (.slice a (l.length + l'.length) cap)) (fun _ u _ => (intOf u).toNat)
  case atStart => exact ⟨[], u0, va, vc, by simp, rfl, htl, rfl, by simpa using HV.out, by simpa using Ext.refl _ _⟩
  case round =>
    clear HV
    obtain ⟨l', u', a, cap, rfl, rfl, hu, hd, hown, ho⟩ := hrel
    have hlen : l'.length + (dig u').length ≤ 10 := by rw [← List.length_append, hd]; exact hten
    have hdp := dig_pos u'
    have hbw := Nat.le_trans hb ho.only.size
    have HD := Lib.hid hd
    have HW := Lib.hid hown
    have HO := Lib.hid ho
    clear hd hown ho
    by_cases hlt : 128 ≤ u'
    · have hor := or128_u8 ((u' : Int) % 256) (by omega) (by omega)
      have hdh := dig_high hlt
      have hc1 : bits .or .u8 ((u' : Int) % 256) 128 = ((UInt8.ofNat (u' % 128 + 128)).toNat : Int) := by
        rw [hor, u8_ofNat (by omega)]
        omega
      have HR := Lib.hid hc1
      have HH := Lib.hid hdh
      clear hor hdh hc1
      go_wp2_with (
        refine wpList_append_any rfl (.tmp 10) (.tmp 14) rfl base _ (l ++ l') (by rfl) (HW.out.quiet ((Only.refl [] wr).alloc _)) _ [UInt8.ofNat (u' % 128 + 128)] (by rfl) (bytes_one wr _ _ HR.out) (l.length + l'.length + 1) (by simp) (l ++ (l' ++ [UInt8.ofNat (u' % 128 + 128)])) (by simp) (by omega) (by simp; omega) ?_
        intro a2 cap2 w2 hw2 ho2)
      refine ⟨⟨l' ++ [UInt8.ofNat (u' % 128 + 128)], u' / 128, a2, cap2, by simp [Nat.add_assoc], by simp, by omega, by rw [← HD.out, HH.out]; simp, by simpa [Nat.add_assoc] using hw2, ?_⟩, by simp [intOf]; omega⟩
      have := HO.out.trans (ho2.before ((Only.refl [] wr).alloc _))
      simpa [Nat.add_assoc] using this
    · have hdl := dig_low (show u' < 128 by omega)
      have HH := Lib.hid hdl
      have hc1 : (u' : Int) = ((UInt8.ofNat u').toNat : Int) := by rw [u8_ofNat (by omega)]
      have HR := Lib.hid hc1
      clear hdl hc1
      have hfin : l'.length + 1 = (dig u0).length := by rw [← HD.out, HH.out]; simp
      have HF := Lib.hid hfin
      clear hfin
      go_wp2_with (
        refine wpList_append_any rfl (.tmp 18) (.tmp 21) rfl base _ (l ++ l') (by rfl) (HW.out.quiet ((Only.refl [] wr).alloc _)) _ [UInt8.ofNat u'] (by rfl) (bytes_one wr _ _ HR.out) (l.length + (dig u0).length) (by rw [← HF.out]; simp; omega) (l ++ dig u0) (by rw [← HD.out, HH.out]; simp) (by omega) (by simp; omega) ?_
        intro a2 cap2 w2 hw2 ho2)
      go_ret
      rw [HU.out]
      exact ⟨a2, cap2, rfl, hw2, HO.out.trans (ho2.before ((Only.refl [] wr).alloc _))⟩

theorem ints_one' (w : World) (k : Int) {v : Value} (hv : v = .slice (some ⟨w.heap.size, 0, none⟩) 1 1) (hk : (Lit.int .i64 k).wf = true) : IntsV (w.alloc (.cells #[.int .i64 k] 3)) v [k] := by
  subst hv
  refine ⟨_, 1, rfl, fun i x hi => ?_⟩
  obtain ⟨rfl, rfl⟩ : i = 0 ∧ x = k := by
    cases i with
    | zero => simp at hi; exact ⟨rfl, hi.symm⟩
    | succ i => simp at hi
  exact ⟨hk, w.heap.size, 0, rfl, by simp⟩
theorem ints_bounds {w : World} {v : Value} {ns : List Int} (h : IntsV w v ns) : ∀ n ∈ ns, -9223372036854775808 ≤ n ∧ n ≤ 9223372036854775807 := by
  intro n hn
  obtain ⟨i, hi⟩ := List.mem_iff_getElem?.1 hn
  have := (h.at_ hi).1
  have e1 : IntKind.i64.min = -9223372036854775808 := by decide
  have e2 : IntKind.i64.max = 9223372036854775807 := by decide
  simpa [Lit.wf, e1, e2] using this

set_option maxRecDepth 100000 in
theorem Put_any (v : Value) (l : Sec) (nv : Value) (ns : List Int) (w : World) (hv : Bytes w v l) (hn : IntsV w nv ns) (hl : l.length ≤ 17592186044416) (hnl : ns.length ≤ 1099511627776) :
    Calls Tryz.prog 65 #[v, nv] w fun e w' => ∃ a cap, e = .returned (.slice a (l.length + (nums ns).length) cap) ∧ Own w' w.heap.size (.slice a (l.length + (nums ns).length) cap) (l ++ nums ns) ∧ Only [] w w' := by
  have hall := ints_bounds hn
  have HN := Lib.hid hn
  have HA := Lib.hid hall
  obtain ⟨na, nc, rfl, -⟩ := id hn
  clear hn hall
  have hlen := nums_len ns HA.out
  go_enter Tryz.func65, Tryz.ntmps65
  go_wp2_with fail
  refine (clone_any v l w hv (by omega)).mono ?_
  rintro e w1 ⟨a1, cap1, rfl, hw1, ho1⟩
  clear hv
  go_wp2_with fail
  go_loopw [5, 7, 12] (fun b _ i wr => ∃ (k : Nat) (a : Option Addr) (cap : Nat), k ≤ ns.length ∧ i = .int .i64 k ∧ b = .slice a (l.length + (nums (ns.take k)).length) cap ∧ Own wr w.heap.size (.slice a (l.length + (nums (ns.take k)).length) cap) (l ++ nums (ns.take k)) ∧ Only [] w wr) (fun _ _ i _ => ns.length - (intOf i).toNat)
  case atStart => exact ⟨0, a1, cap1, by omega, rfl, by simp [nums], by simpa [nums] using hw1, ho1⟩
  case round =>
    clear hw1 ho1
    obtain ⟨k, a, cap, hk, rfl, rfl, hw, ho⟩ := hrel
    have HW := Lib.hid hw
    have HO := Lib.hid ho
    clear hw ho
    have hbd := nums_len (ns.take k) (fun n hn => HA.out n (List.mem_of_mem_take hn))
    rw [List.length_take, Nat.min_eq_left hk] at hbd
    by_cases hlt : k < ns.length
    · have hkl : ns[k]? = some ns[k] := List.getElem?_eq_getElem hlt
      have hts : ns.take (k + 1) = ns.take k ++ [ns[k]] := by rw [List.take_add_one, hkl]; rfl
      have HT := Lib.hid hts
      clear hts
      obtain ⟨hwf, b, off, cap', hv', hcell⟩ := (HN.out.kept HO.out (fun _ _ _ _ _ => by simp)).at_ hkl
      cases hv'
      have hb2 := HA.out _ (List.mem_of_getElem? hkl)
      clear hkl
      generalize ns[k] = n at *
      go_wp2_with fail
      refine (putOne_any _ _ n w.heap.size wr HW.out HO.out.size hb2.1 hb2.2 (by simp; omega)).mono ?_
      rintro e w2 ⟨a2, cap2, rfl, hw2, ho2⟩
      have ho3 := Ext.fresh HO.out HW.out (Nat.le_refl _) ho2
      clear hcell
      go_wp2_with fail
      go_roundw
      case rel => exact ⟨k + 1, a2, cap2, by omega, by go_num, by rw [HT.out, nums_snoc]; simp [Nat.add_assoc], by rw [HT.out, nums_snoc]; simpa [Nat.add_assoc] using hw2, ho3⟩
      case measure => simp [intOf]; omega
    · obtain rfl : k = ns.length := by omega
      go_wp2_with fail
      go_ret
      have e1 : ns.take ns.length = ns := List.take_length
      exact ⟨a, cap, by rw [e1]; rfl, by simpa [e1] using HW.out, HO.out⟩

theorem row_len (r : Sec) (h : r.length ≤ 17592186044416) : (num r.length).length ≤ 10 := num_ten (by omega) (by omega)
set_option maxRecDepth 100000 in
theorem PutRow_any (v : Value) (l : Sec) (rv : Value) (r : Sec) (w : World) (hv : Bytes w v l) (hr : Bytes w rv r) (hl : l.length ≤ 17592186044416) (hrl : r.length ≤ 17592186044416) :
    Calls Tryz.prog 81 #[v, rv] w fun e w' => ∃ a cap, e = .returned (.slice a (l.length + (rowB r).length) cap) ∧ Own w' w.heap.size (.slice a (l.length + (rowB r).length) cap) (l ++ rowB r) ∧ Only [] w w' := by
  have HV := Lib.hid hv
  have HR := Lib.hid hr
  obtain ⟨ra, rc, rfl, -⟩ := id hr
  clear hv hr
  have hten := row_len r hrl
  go_enter Tryz.func81, Tryz.ntmps81
  go_wp2_with fail
  have qa : Only [] w (w.alloc (.cells #[.int .i64 r.length] 3)) := (Only.refl [] w).alloc _
  refine (Put_any v l _ [(r.length : Int)] _ (HV.out.kept qa (clean_nil _)) (ints_one' w _ (by rfl) (WalkArith.wf_i64 (by omega))) hl (by simp)).mono ?_
  rintro e w1 ⟨a1, cap1, rfl, hw1, ho1⟩
  have e1 : nums [(r.length : Int)] = num r.length := by simp [nums]
  rw [e1] at hw1 ⊢
  have HO := Lib.hid (qa.trans ho1 (by simp))
  have HW := Lib.hid (hw1.mono (base' := w.heap.size) (by simp))
  have hwz := HO.out.size
  clear hw1 ho1 e1
  go_wp2_with (
    refine wpList_append_any rfl (.tmp 9) (.tmp 10) rfl _ _ _ (by rfl) HW.out _ r (by rfl) (HR.out.kept HO.out (clean_nil _)) (l.length + (rowB r).length) (by simp [rowB, Nat.add_assoc]) (l ++ rowB r) (by unfold rowB; simp) (by simp [rowB]; omega) hwz ?_
    intro a2 cap2 w2 hw2 ho2)
  go_ret
  exact ⟨a2, cap2, rfl, hw2, Ext.fresh HO.out HW.out (Nat.le_refl _) ho2⟩
end Go.Proofs.YtfnedeaemjchgaaGreat

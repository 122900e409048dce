/- The document's own answer for wire: what is in a box. -/
import Derived.Test.YthacfanfhdjmbaaRB
namespace Go.Proofs.Ythacfanfhdjmbaa
open Go.RowKit Go.Maps
set_option linter.unusedSimpArgs false
set_option linter.unusedVariables false

def inN (l : Sec) : Nat := val ((l.drop 4).take 2)
theorem unbox_some {l d : Sec} (h : unbox l = some d) : 6 ≤ l.length ∧ l.length ≤ 65536 ∧ inN l ≤ l.length - 6 ∧ d = (l.drop 6).take (inN l) := by
  have h0 := unbox_inv h
  unfold unbox at h
  split at h
  · cases h
  split at h
  · cases h
  split at h
  · cases h
  rename_i h3
  split at h
  · cases h
  injection h with h
  exact ⟨h0.1, h0.2.1, by unfold inN; omega, h.symm⟩
theorem inN_bytes {l : Sec} {a b : UInt8} (ha : l[4]? = some a) (hb : l[5]? = some b) : inN l = 256 * a.toNat + b.toNat := by
  unfold inN
  have e : l.drop 4 = a :: b :: l.drop 6 := by rw [drop_at ha, drop_at hb]
  rw [e]
  simp [val]
  omega
theorem strOf_inj {a b : Sec} (h : strOf a = strOf b) : a = b := by
  have := congrArg (fun x => x.data.toList) h
  simpa [strOf] using this

theorem str_ne {A B : ByteArray} {a b : Sec} (hA : A = strOf a) (hB : B = strOf b) (h : a ≠ b) : (A.toList == B.toList) = false := by
  subst hA; subst hB
  unfold strOf
  rw [ByteArray.toList_mk, ByteArray.toList_mk, beq_eq_false_iff_ne]
  exact h

def RUnboxPost (w : World) (l : Sec) (e : Ending) (w' : World) : Prop :=
  (unbox l = none → e = .returned (.tuple #[.slice none 0 0, .bool false])) ∧
  (∀ d, unbox l = some d → ∃ a c, e = .returned (.tuple #[.slice a d.length c, .bool true]) ∧ Own w' w.heap.size (.slice a d.length c) d) ∧
  Only [] w w'
theorem RUnboxPost.none {w w' : World} {l : Sec} {v : Value} (h : unbox l = none) (hv : v = .tuple #[.slice none 0 0, .bool false]) (ho : Only [] w w') : RUnboxPost w l (.returned v) w' :=
  ⟨(fun _ => by rw [hv]), (fun d hd => by rw [h] at hd; cases hd), ho⟩

set_option maxRecDepth 100000 in
theorem RUnbox_short (v : Value) (l : Sec) (w : World) (hv : Bytes w v l) (h : l.length < 6) : Calls Try.prog 27 #[v] w (RUnboxPost w l) := by
  have HU : Hid (unbox l = none) := Lib.hid (by unfold unbox; rw [if_pos (.inl h)])
  obtain ⟨va, vc, rfl, -⟩ := id hv
  clear hv
  have h1 : (l.length : Int) < 6 := by omega
  clear h
  go_enter Try.func27, Try.ntmps27
  go_wp2_with fail
  go_ret2
  exact RUnboxPost.none HU.out rfl (Only.refl _ _)
set_option maxRecDepth 100000 in
theorem RUnbox_big (v : Value) (l : Sec) (w : World) (hv : Bytes w v l) (h6 : 6 ≤ l.length) (hl : l.length ≤ 17592186044416) (hbig : l.length - 6 < inN l) : Calls Try.prog 27 #[v] w (RUnboxPost w l) := by
  have HU : Hid (unbox l = none) := Lib.hid (by
    cases h : unbox l with
    | none => rfl
    | some d => have := unbox_some h; omega)
  obtain ⟨a, ha⟩ : ∃ a, l[4]? = some a := ⟨l[4]'(by omega), List.getElem?_eq_getElem (by omega)⟩
  obtain ⟨b, hb⟩ : ∃ b, l[5]? = some b := ⟨l[5]'(by omega), List.getElem?_eq_getElem (by omega)⟩
  have hn := inN_bytes ha hb
  have ha0 := a.toNat_lt
  have hb0 := b.toNat_lt
  have HV := Lib.hid hv
  obtain ⟨va, vc, rfl, hc⟩ := hv
  obtain ⟨g, off, rfl, hca⟩ := hc 4 a ha
  obtain ⟨g', off', e0, hcb⟩ := hc 5 b hb
  cases e0
  generalize inN l = n at *
  have a1 : IntKind.i64.wrap (256 * (a.toNat : Int)) = 256 * (a.toNat : Int) := IntWalk.i64_in _ (by omega)
  have a2 : IntKind.i64.wrap (256 * (a.toNat : Int) + (b.toNat : Int)) = (n : Int) := by rw [IntWalk.i64_in _ (by omega)]; omega
  have n6 : ¬ (l.length : Int) < 6 := by omega
  have hn0 : n < 65536 := by omega
  have i4 : (4 : Int) < (l.length : Int) := by omega
  have i5 : (5 : Int) < (l.length : Int) := by omega
  clear ha hb hn hc
  go_enter Try.func27, Try.ntmps27
  go_wp2_with fail
  go_quiet (fail)
  have HO1 := Lib.hid (Only.mk rfl rfl rfl (Nat.le_refl _) (fun _ _ _ => rfl) : Only [] w (w.drewN nq))
  generalize w.drewN nq = w1 at HO1 ⊢
  clear a1 a2 hca hcb i4 i5
  have t1 : (l.length : Int) - 6 < (n : Int) := by omega
  go_wp2_with fail
  go_ret2
  exact RUnboxPost.none HU.out rfl HO1.out
set_option maxRecDepth 100000 in
theorem RUnbox_long (v : Value) (l : Sec) (w : World) (hv : Bytes w v l) (hf : Fit v) (h6 : 65536 < l.length) (hl : l.length ≤ 17592186044416) (hfit : inN l ≤ l.length - 6) : Calls Try.prog 27 #[v] w (RUnboxPost w l) := by
  have HU : Hid (unbox l = none) := Lib.hid (by unfold unbox; rw [if_pos (.inr h6)])
  have HF := Lib.hid hf
  clear hf
  obtain ⟨a, ha⟩ : ∃ a, l[4]? = some a := ⟨l[4]'(by omega), List.getElem?_eq_getElem (by omega)⟩
  obtain ⟨b, hb⟩ : ∃ b, l[5]? = some b := ⟨l[5]'(by omega), List.getElem?_eq_getElem (by omega)⟩
  have hn := inN_bytes ha hb
  have ha0 := a.toNat_lt
  have hb0 := b.toNat_lt
  have HV := Lib.hid hv
  obtain ⟨va, vc, rfl, hc⟩ := hv
  obtain ⟨g, off, rfl, hca⟩ := hc 4 a ha
  obtain ⟨g', off', e0, hcb⟩ := hc 5 b hb
  cases e0
  generalize inN l = n at *
  have a1 : IntKind.i64.wrap (256 * (a.toNat : Int)) = 256 * (a.toNat : Int) := IntWalk.i64_in _ (by omega)
  have a2 : IntKind.i64.wrap (256 * (a.toNat : Int) + (b.toNat : Int)) = (n : Int) := by rw [IntWalk.i64_in _ (by omega)]; omega
  have n6 : ¬ (l.length : Int) < 6 := by omega
  have hn0 : n < 65536 := by omega
  have i4 : (4 : Int) < (l.length : Int) := by omega
  have i5 : (5 : Int) < (l.length : Int) := by omega
  clear ha hb hn hc
  go_enter Try.func27, Try.ntmps27
  go_wp2_with fail
  go_quiet (fail)
  have HO1 := Lib.hid (Only.mk rfl rfl rfl (Nat.le_refl _) (fun _ _ _ => rfl) : Only [] w (w.drewN nq))
  generalize w.drewN nq = w1 at HO1 ⊢
  clear a1 a2 hca hcb i4 i5
  obtain ⟨hf1, hf2⟩ := HF.out _ _ _ rfl
  obtain ⟨b6, hs6, hb6⟩ := slice_mid HV.out hf1 6 (6 + n) (by omega) (by omega) .i64 .i64
  rw [Nat.add_sub_cancel_left, show ((6 + n : Nat) : Int) = 6 + (n : Int) by omega] at hs6
  rw [Nat.add_sub_cancel_left] at hb6
  have s6 : ∀ w, (Instr.sliceAt 23 (.slice (some ⟨g, off, none⟩) l.length vc) (some (.int .i64 6)) (some (.int .i64 (6 + (n : Int)))) none).run Try.prog w = .ok (.slice b6 n (vc - 6)) w := hs6
  have B6 := Lib.hid hb6
  have t1 : ¬ (l.length : Int) - 6 < (n : Int) := by omega
  clear hs6 hb6
  go_wp2_with fail
  refine (RBox_range (l.length : Int) _ w1 (by omega)).mono ?_
  rintro e w2 ⟨rfl, rfl⟩
  go_wp2_with fail
  go_ret2
  exact RUnboxPost.none HU.out rfl HO1.out
set_option maxRecDepth 100000 in
set_option maxHeartbeats 1600000 in
theorem RUnbox_mid (v : Value) (l : Sec) (w : World) (hv : Bytes w v l) (hf : Fit v) (h6 : 6 ≤ l.length) (hl : l.length ≤ 65536) (hfit : inN l ≤ l.length - 6) : Calls Try.prog 27 #[v] w (RUnboxPost w l) := by
  have HF := Lib.hid hf
  clear hf
  obtain ⟨d, hd⟩ : ∃ d : Sec, d = (l.drop 6).take (inN l) := ⟨_, rfl⟩
  have hdl : d.length = inN l := by rw [hd]; simp; omega
  have hsome : unbox l = some d ↔ l = boxOf l.length d := by
    constructor
    · intro h
      exact (unbox_inv h).2.2.2
    · intro h
      rw [unbox_iff]
      exact ⟨h6, hl, by omega, h⟩
  have hnone : l ≠ boxOf l.length d → unbox l = none := fun hne => by
    cases h : unbox l with
    | none => rfl
    | some d' =>
      have h1 := (unbox_some h).2.2.2
      rw [← hd] at h1
      subst h1
      exact absurd (hsome.1 h) hne
  have HSOME := Lib.hid hsome
  have HNONE := Lib.hid hnone
  have HD := Lib.hid hd
  have HDL := Lib.hid hdl
  clear hsome hnone hd hdl
  obtain ⟨a, ha⟩ : ∃ a, l[4]? = some a := ⟨l[4]'(by omega), List.getElem?_eq_getElem (by omega)⟩
  obtain ⟨b, hb⟩ : ∃ b, l[5]? = some b := ⟨l[5]'(by omega), List.getElem?_eq_getElem (by omega)⟩
  have hn := inN_bytes ha hb
  have ha0 := a.toNat_lt
  have hb0 := b.toNat_lt
  have HV := Lib.hid hv
  obtain ⟨va, vc, rfl, hc⟩ := hv
  obtain ⟨g, off, rfl, hca⟩ := hc 4 a ha
  obtain ⟨g', off', e0, hcb⟩ := hc 5 b hb
  cases e0
  generalize inN l = n at *
  have a1 : IntKind.i64.wrap (256 * (a.toNat : Int)) = 256 * (a.toNat : Int) := IntWalk.i64_in _ (by omega)
  have a2 : IntKind.i64.wrap (256 * (a.toNat : Int) + (b.toNat : Int)) = (n : Int) := by rw [IntWalk.i64_in _ (by omega)]; omega
  have n6 : ¬ (l.length : Int) < 6 := by omega
  have hn0 : n < 65536 := by omega
  have i4 : (4 : Int) < (l.length : Int) := by omega
  have i5 : (5 : Int) < (l.length : Int) := by omega
  clear ha hb hn hc
  go_enter Try.func27, Try.ntmps27
  go_wp2_with fail
  go_quiet (fail)
  have HO1 := Lib.hid (Only.mk rfl rfl rfl (Nat.le_refl _) (fun _ _ _ => rfl) : Only [] w (w.drewN nq))
  generalize w.drewN nq = w1 at HO1 ⊢
  clear a1 a2 hca hcb i4 i5
  obtain ⟨hf1, hf2⟩ := HF.out _ _ _ rfl
  obtain ⟨b6, hs6, hb6⟩ := slice_mid HV.out hf1 6 (6 + n) (by omega) (by omega) .i64 .i64
  rw [Nat.add_sub_cancel_left, show ((6 + n : Nat) : Int) = 6 + (n : Int) by omega] at hs6
  rw [Nat.add_sub_cancel_left] at hb6
  have s6 : ∀ w, (Instr.sliceAt 23 (.slice (some ⟨g, off, none⟩) l.length vc) (some (.int .i64 6)) (some (.int .i64 (6 + (n : Int)))) none).run Try.prog w = .ok (.slice b6 n (vc - 6)) w := hs6
  have B6 := Lib.hid hb6
  have t1 : ¬ (l.length : Int) - 6 < (n : Int) := by omega
  clear hs6 hb6
  go_wp2_with fail
  have hB6 : Bytes w (.slice b6 n (vc - 6)) d := by rw [HD.out]; exact B6.out
  refine (RBox_any l.length _ d w1 h6 hl (hB6.kept HO1.out (clean_nil _)) (by have := HDL.out; omega)).mono ?_
  rintro e w2 ⟨a3, c3, rfl, hw3, o3⟩
  have HO3 := Lib.hid (HO1.out.trans o3 (by simp))
  have hwsz := HO3.out.size
  by_cases hq : l = boxOf l.length d
  · obtain ⟨S, hS⟩ : ∃ S, S = strOf l := ⟨_, rfl⟩
    have s1 := str_bytes hw3.bytes (S := S) (by rw [hS]; exact congrArg strOf hq)
    have s2 := str_bytes (HV.out.kept HO3.out (clean_nil _)) hS
    have HU := Lib.hid (HSOME.out.2 hq)
    have HB6 := Lib.hid hB6
    clear hq hw3 o3 hS hB6 HSOME HNONE
    have hno := Own.made (base := w2.heap.size) w2 [] #[] rfl (Nat.le_refl _) (by simp)
    have HNO := Lib.hid hno
    clear hno
    go_wp2_with (
      refine wpList_append_any rfl (.tmp 44) (.tmp 48) rfl w2.heap.size _ [] (by rfl) HNO.out _ d (by rfl) (HB6.out.kept (HO3.out.trans ((Only.refl [] w2).alloc _) (by simp)) (clean_nil _)) n (by rw [HDL.out]; simp) d rfl (by omega) (by simp) ?_
      intro a4 c4 w4 hw4 e4)
    have ho4 := Ext.fresh ((Only.refl [] w2).alloc (.cells #[] 5)) HNO.out (Nat.le_refl _) e4
    go_ret2
    refine ⟨(fun h => by rw [HU.out] at h; cases h), (fun d' hd' => ?_), HO3.out.trans ho4 (by simp)⟩
    rw [HU.out] at hd'
    cases hd'
    exact ⟨a4, c4, by rw [HDL.out]; rfl, by rw [HDL.out]; exact hw4.mono hwsz⟩
  · obtain ⟨S1, hS1⟩ : ∃ S, S = strOf (boxOf l.length d) := ⟨_, rfl⟩
    obtain ⟨S2, hS2⟩ : ∃ S, S = strOf l := ⟨_, rfl⟩
    have s1 := str_bytes hw3.bytes hS1
    have s2 := str_bytes (HV.out.kept HO3.out (clean_nil _)) hS2
    have hne : (S1.toList == S2.toList) = false := str_ne hS1 hS2 (fun e => hq e.symm)
    have HU := Lib.hid (HNONE.out hq)
    clear hq hw3 o3 hS1 hS2 hB6 HSOME HNONE
    go_wp2_with fail
    go_ret2
    exact RUnboxPost.none HU.out rfl HO3.out
theorem RUnbox_any (v : Value) (l : Sec) (w : World) (hv : Bytes w v l) (hf : Fit v) (hl : l.length ≤ 17592186044416) : Calls Try.prog 27 #[v] w (RUnboxPost w l) := by
  by_cases h6 : l.length < 6
  · exact RUnbox_short v l w hv h6
  · by_cases hn : l.length - 6 < inN l
    · exact RUnbox_big v l w hv (by omega) hl hn
    · by_cases hb : 65536 < l.length
      · exact RUnbox_long v l w hv hf hb hl (by omega)
      · exact RUnbox_mid v l w hv hf (by omega) (by omega) (by omega)
end Go.Proofs.Ythacfanfhdjmbaa

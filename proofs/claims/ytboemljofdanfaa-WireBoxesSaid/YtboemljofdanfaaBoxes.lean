/- WireBoxes, for every input: it returns true, and its arguments read behind the call as they did: which boxes there are, and what is in them. No condition. -/
import Derived.Test.YtboemljofdanfaaRU
namespace Go.Proofs.Ytboemljofdanfaa
open Go.ChangeShapes Go.WideShapes Go.ChangeAt Go.RowKit Go.Deep Go.Maps
set_option linter.unusedSimpArgs false
set_option linter.unusedVariables false

theorem CopyB.fit {g : Nat} {l : Sec} (hl : l.length ≤ 1099511627776) : Fit (.slice (some ⟨g, 0, none⟩) l.length (l.length + 2)) := fun a n c e => by
  cases e
  unfold maxLen
  omega

set_option maxRecDepth 100000 in
set_option maxHeartbeats 4000000 in
theorem boxes_walk (size : Int) (av bv : Value) (a b : Sec) (w : World) (hs : (Lit.int .i64 size).wf = true) (ha : Bytes w av a) (hfa : Fit av) (hal : a.length ≤ maxLen) (hb : Bytes w bv b) (_ : Fit bv) (hbl : b.length ≤ maxLen) :
    Calls Try.prog 4 #[.int .i64 size, av, bv] w fun e w' => e = .returned (.bool true) ∧ Only [] w w' := by
  have HA := Lib.hid ha
  have HB := Lib.hid hb
  have HFA := Lib.hid hfa
  obtain ⟨aa, ac, rfl, -⟩ := id ha
  obtain ⟨ba, bc, rfl, -⟩ := id hb
  have hal' : a.length ≤ 9223372036854775807 := by unfold maxLen at hal; omega
  have hbl' : b.length ≤ 9223372036854775807 := by unfold maxLen at hbl; omega
  clear hs ha hb hfa hal hbl
  go_enter Try.func4, Try.ntmps4
  go_wp2_with fail
  refine (alive_any _).mono ?_
  rintro e w1 ⟨rfl, o1⟩
  have HO1 := Lib.hid o1
  clear o1
  go_wp2_with fail
  have HP := parts_made2 (HA.out.kept HO1.out (clean_nil _)) (HB.out.kept HO1.out (clean_nil _)) rfl
  have q1 : Only [] w1 (w1.alloc (.cells #[.slice aa a.length ac, .slice ba b.length bc] 22)) := (Only.refl [] w1).alloc _
  have HO2 := Lib.hid (HO1.out.trans q1 (by simp))
  refine (large_any _ [a, b] _ HP (by simp) (by simp; omega)).mono ?_
  rintro e w2 ⟨rfl, rfl⟩
  clear HP q1
  generalize w1.alloc (.cells #[.slice aa a.length ac, .slice ba b.length bc] 22) = w2 at HO2 ⊢
  have ht : total [a, b] = a.length + b.length := by simp [total]
  rw [ht]
  by_cases hbig : 131072 < a.length + b.length
  · clear ht
    go_wp2
    go_ret
    exact ⟨rfl, HO2.out⟩
  · have ha1 : a.length ≤ 131072 := by omega
    have hb1 : b.length ≤ 131072 := by omega
    clear hal' hbl'
    go_wp2_with fail
    refine (Copy_any _ a w2 (HA.out.kept HO2.out (clean_nil _)) (by omega)).mono ?_
    rintro e w3 ⟨g3, rfl, hc3, hg3, o3⟩
    have HO3 := Lib.hid (HO2.out.trans o3 (by simp))
    have HC3 := Lib.hid hc3
    clear hc3 hg3 o3
    go_wp2_with fail
    refine (Copy_any _ b w3 (HB.out.kept HO3.out (clean_nil _)) (by omega)).mono ?_
    rintro e w4 ⟨g4, rfl, hc4, hg4, o4⟩
    have HO4 := Lib.hid (HO3.out.trans o4 (by simp))
    have HC4 := Lib.hid hc4
    have HD4 := Lib.hid (HC3.out.kept o4 (by simp))
    clear hc4 hg4 o4 HC3
    go_wp2_with fail
    have HP5 := Lib.hid (parts_made2 HD4.out.bytes HC4.out.bytes rfl)
    have q5 : Only [] w4 (w4.alloc (.cells #[.slice (some ⟨g3, 0, none⟩) a.length (a.length + 2), .slice (some ⟨g4, 0, none⟩) b.length (b.length + 2)] 22)) := (Only.refl [] w4).alloc _
    have HO5 := Lib.hid (HO4.out.trans q5 (by simp))
    have HC5 := Lib.hid (HC4.out.kept q5 (by simp))
    have HD5 := Lib.hid (HD4.out.kept q5 (by simp))
    clear q5 HO4 HC4 HD4
    generalize w4.alloc (.cells #[.slice (some ⟨g3, 0, none⟩) a.length (a.length + 2), .slice (some ⟨g4, 0, none⟩) b.length (b.length + 2)] 22) = w5 at HP5 HO5 HC5 HD5 ⊢
    obtain ⟨l, hl⟩ : ∃ l : Sec, l = a ++ b := ⟨_, rfl⟩
    obtain ⟨n, hn⟩ : ∃ n : Nat, n = l.length := ⟨_, rfl⟩
    have hab : a.length + b.length = n := by rw [hn, hl]; simp
    have hn1 : n ≤ 131072 := by omega
    have HL := Lib.hid hl.symm
    have HLN := Lib.hid hab
    have HNL := Lib.hid hn
    have hfl : ([a, b] : List Sec).flatten = l := by rw [hl]; simp
    have HFL := Lib.hid hfl
    have HT := Lib.hid (ht.trans hab)
    clear hl hn hab hfl ht
    have sn := str_none
    by_cases hr : size < 6 ∨ 65536 < size
    · have HR := Lib.hid hr
      clear hr
      refine (Box_range size _ w5 HR.out).mono ?_
      rintro e w6 ⟨rfl, rfl⟩
      have HO6 := HO5
      generalize w5 = w6 at HO6 HC5 HD5 ⊢
      go_wp2_with (first
        | (refine wpList_append_any rfl (.tmp 37) (.tmp 38) rfl w6.heap.size _ [] (by rfl) (Own.made w6 [] #[] rfl (Nat.le_refl _) (by simp)) _ a (by rfl) (HA.out.kept (HO6.out.trans ((Only.refl [] w6).alloc _) (by simp)) (clean_nil _)) a.length (by simp) a rfl (by omega) (by simp) ?_
           intro a7 c7 w7 hw7 e7
           have HW7 := Lib.hid hw7
           have ho7 := Ext.fresh ((Only.refl [] w6).alloc _) (Own.made w6 [] #[] rfl (Nat.le_refl _) (by simp)) (Nat.le_refl _) e7
           have hsz7 := ho7.size
           have HO7 := Lib.hid ho7
           clear hw7 e7 ho7)
        | (refine wpList_append_any rfl (.tmp 39) (.tmp 40) rfl w6.heap.size _ a (by rfl) HW7.out _ b (by rfl) (HB.out.kept (HO6.out.trans HO7.out (by simp)) (clean_nil _)) n HLN.out l HL.out (by omega) hsz7 ?_
           intro a8 c8 w8 hw8 e8
           have HW8 := Lib.hid hw8
           have HO8 := Lib.hid (Ext.fresh HO7.out HW7.out (Nat.le_refl _) e8)
           clear hw8 e8 HW7 HO7 hsz7))
      refine (RBox_range size _ w8 HR.out).mono ?_
      rintro e w9 ⟨rfl, rfl⟩
      have HO9 := Lib.hid (HO6.out.trans HO8.out (by simp))
      have HC9 := Lib.hid (HC5.out.kept HO8.out (by simp))
      have HD9 := Lib.hid (HD5.out.kept HO8.out (by simp))
      clear HO6 HO8 HC5 HD5 HW8 HO5
      generalize w8 = w9 at HO9 HC9 HD9 ⊢
      go_wp2_with fail
      refine (num_err 1 w9 (by decide)).mono ?_
      rintro e w10 ⟨rfl, rfl⟩
      go_wp2_with fail
      refine (Kept_any g3 _ a w9 HD9.out (HA.out.kept HO9.out (clean_nil _)) (by omega)).mono ?_
      rintro e w10 ⟨rfl, o10⟩
      have HO10 := Lib.hid (HO9.out.trans o10 (by simp))
      have HC10 := Lib.hid (HC9.out.kept o10 (by simp))
      have HD10 := Lib.hid (HD9.out.kept o10 (by simp))
      skip
      clear o10 HO9 HC9 HD9 HP5
      go_wp2_with fail
      refine (Kept_any g4 _ b w10 HC10.out (HB.out.kept HO10.out (clean_nil _)) (by omega)).mono ?_
      rintro e w11 ⟨rfl, o11⟩
      have HO11 := Lib.hid (HO10.out.trans o11 (by simp))
      have HD11 := Lib.hid (HD10.out.kept o11 (by simp))
      skip
      clear o11 HO10 HC10 HD10
      go_wp2_with fail
      refine (Unbox_any _ a w11 HD11.out.bytes (CopyB.fit (by omega)) (by omega)).mono ?_
      rintro e w12 ⟨hn12, hs12, o12⟩
      have HO12 := Lib.hid (HO11.out.trans o12 (by simp))
      skip
      cases hu : unbox a with
      | none =>
        obtain rfl := hn12 hu
        have HU := Lib.hid hu
        clear hn12 hs12 o12 HO11 HD11 hu
        go_wp2_with fail
        refine (RUnbox_any _ a w12 (HA.out.kept HO12.out (clean_nil _)) HFA.out (by omega)).mono ?_
        rintro e w13 ⟨hn13, _, o13⟩
        obtain rfl := hn13 HU.out
        have HO13 := Lib.hid (HO12.out.trans o13 (by simp))
        skip
        have q1 := iface_err 4
        have q2 := err_n44
        clear hn13 o13 HO12
        have q3 := iface_nerr
        go_wp2
        go_ret
        exact ⟨rfl, HO13.out⟩
      | some d =>
        obtain ⟨a12, c12, rfl, hw12⟩ := hs12 d hu
        have HU := Lib.hid hu
        have HW12 := Lib.hid hw12
        clear hn12 hs12 o12 HO11 HD11 hu hw12
        go_wp2_with fail
        refine (RUnbox_any _ a w12 (HA.out.kept HO12.out (clean_nil _)) HFA.out (by omega)).mono ?_
        rintro e w13 ⟨_, hs13, o13⟩
        obtain ⟨a13, c13, rfl, hw13⟩ := hs13 d HU.out
        have HO13 := Lib.hid (HO12.out.trans o13 (by simp))
        skip
        have q1 := iface_nil
        obtain ⟨SD, hSD⟩ : ∃ S, S = strOf d := ⟨_, rfl⟩
        have s12 := str_bytes (HW12.out.quiet o13).bytes hSD
        have s13 := str_bytes hw13.bytes hSD
        clear hs13 o13 HO12 HW12 hw13 hSD
        have q3 := iface_nerr
        go_wp2
        go_ret
        exact ⟨rfl, HO13.out⟩
    · obtain ⟨m, rfl⟩ := Int.eq_ofNat_of_zero_le (show 0 ≤ size by omega)
      have h6 : 6 ≤ m := by omega
      have h7 : m ≤ 65536 := by omega
      clear hr
      by_cases hfit : m - 6 < n
      · refine (Box_form m _ [a, b] w5 h6 h7 HP5.out (by simp) (by simp; omega) (by rw [HT.out]; exact hfit)).mono ?_
        rintro e w6 ⟨rfl, rfl⟩
        have HO6 := HO5
        generalize w5 = w6 at HO6 HC5 HD5 ⊢
        go_wp2_with (first
          | (refine wpList_append_any rfl (.tmp 37) (.tmp 38) rfl w6.heap.size _ [] (by rfl) (Own.made w6 [] #[] rfl (Nat.le_refl _) (by simp)) _ a (by rfl) (HA.out.kept (HO6.out.trans ((Only.refl [] w6).alloc _) (by simp)) (clean_nil _)) a.length (by simp) a rfl (by omega) (by simp) ?_
             intro a7 c7 w7 hw7 e7
             have HW7 := Lib.hid hw7
             have ho7 := Ext.fresh ((Only.refl [] w6).alloc _) (Own.made w6 [] #[] rfl (Nat.le_refl _) (by simp)) (Nat.le_refl _) e7
             have hsz7 := ho7.size
             have HO7 := Lib.hid ho7
             clear hw7 e7 ho7)
          | (refine wpList_append_any rfl (.tmp 39) (.tmp 40) rfl w6.heap.size _ a (by rfl) HW7.out _ b (by rfl) (HB.out.kept (HO6.out.trans HO7.out (by simp)) (clean_nil _)) n HLN.out l HL.out (by omega) hsz7 ?_
             intro a8 c8 w8 hw8 e8
             have HW8 := Lib.hid hw8
             have HO8 := Lib.hid (Ext.fresh HO7.out HW7.out (Nat.le_refl _) e8)
             clear hw8 e8 HW7 HO7 hsz7))
        refine (RBox_form m _ l w8 h6 h7 HW8.out.bytes (by rw [← HNL.out]; exact hfit) (by rw [← HNL.out]; omega)).mono ?_
        rintro e w9 ⟨rfl, rfl⟩
        have HO9 := Lib.hid (HO6.out.trans HO8.out (by simp))
        have HC9 := Lib.hid (HC5.out.kept HO8.out (by simp))
        have HD9 := Lib.hid (HD5.out.kept HO8.out (by simp))
        clear HO6 HO8 HC5 HD5 HW8 HO5
        generalize w8 = w9 at HO9 HC9 HD9 ⊢
        go_wp2_with fail
        refine (num_err 2 w9 (by decide)).mono ?_
        rintro e w10 ⟨rfl, rfl⟩
        go_wp2_with fail
        refine (Kept_any g3 _ a w9 HD9.out (HA.out.kept HO9.out (clean_nil _)) (by omega)).mono ?_
        rintro e w10 ⟨rfl, o10⟩
        have HO10 := Lib.hid (HO9.out.trans o10 (by simp))
        have HC10 := Lib.hid (HC9.out.kept o10 (by simp))
        have HD10 := Lib.hid (HD9.out.kept o10 (by simp))
        skip
        clear o10 HO9 HC9 HD9 HP5
        go_wp2_with fail
        refine (Kept_any g4 _ b w10 HC10.out (HB.out.kept HO10.out (clean_nil _)) (by omega)).mono ?_
        rintro e w11 ⟨rfl, o11⟩
        have HO11 := Lib.hid (HO10.out.trans o11 (by simp))
        have HD11 := Lib.hid (HD10.out.kept o11 (by simp))
        skip
        clear o11 HO10 HC10 HD10
        go_wp2_with fail
        refine (Unbox_any _ a w11 HD11.out.bytes (CopyB.fit (by omega)) (by omega)).mono ?_
        rintro e w12 ⟨hn12, hs12, o12⟩
        have HO12 := Lib.hid (HO11.out.trans o12 (by simp))
        skip
        cases hu : unbox a with
        | none =>
          obtain rfl := hn12 hu
          have HU := Lib.hid hu
          clear hn12 hs12 o12 HO11 HD11 hu
          go_wp2_with fail
          refine (RUnbox_any _ a w12 (HA.out.kept HO12.out (clean_nil _)) HFA.out (by omega)).mono ?_
          rintro e w13 ⟨hn13, _, o13⟩
          obtain rfl := hn13 HU.out
          have HO13 := Lib.hid (HO12.out.trans o13 (by simp))
          skip
          have q1 := iface_err 4
          have q2 := err_n44
          clear hn13 o13 HO12
          have q3 := iface_nerr
          go_wp2
          go_ret
          exact ⟨rfl, HO13.out⟩
        | some d =>
          obtain ⟨a12, c12, rfl, hw12⟩ := hs12 d hu
          have HU := Lib.hid hu
          have HW12 := Lib.hid hw12
          clear hn12 hs12 o12 HO11 HD11 hu hw12
          go_wp2_with fail
          refine (RUnbox_any _ a w12 (HA.out.kept HO12.out (clean_nil _)) HFA.out (by omega)).mono ?_
          rintro e w13 ⟨_, hs13, o13⟩
          obtain ⟨a13, c13, rfl, hw13⟩ := hs13 d HU.out
          have HO13 := Lib.hid (HO12.out.trans o13 (by simp))
          skip
          have q1 := iface_nil
          obtain ⟨SD, hSD⟩ : ∃ S, S = strOf d := ⟨_, rfl⟩
          have s12 := str_bytes (HW12.out.quiet o13).bytes hSD
          have s13 := str_bytes hw13.bytes hSD
          clear hs13 o13 HO12 HW12 hw13 hSD
          have q3 := iface_nerr
          go_wp2
          go_ret
          exact ⟨rfl, HO13.out⟩
      · refine (Box_any m _ [a, b] w5 h6 h7 HP5.out (by simp) (by simp; omega) (by rw [HT.out]; omega)).mono ?_
        rw [HFL.out]
        rintro e w6 ⟨g, rfl, hb6, hg6, o6⟩
        have HX6 := Lib.hid hb6
        have HO6 := Lib.hid (HO5.out.trans o6 (by simp))
        have HC6 := Lib.hid (HC5.out.kept o6 (by simp))
        have HD6 := Lib.hid (HD5.out.kept o6 (by simp))
        clear hb6 hg6 o6 HC5 HD5 HO5
        have hle : l.length ≤ m - 6 := by rw [← HNL.out]; omega
        have hbl := boxOf_length h6 hle
        have HBL := Lib.hid hbl
        clear hbl
        go_wp2_with (first
          | (refine wpList_append_any rfl (.tmp 37) (.tmp 38) rfl w6.heap.size _ [] (by rfl) (Own.made w6 [] #[] rfl (Nat.le_refl _) (by simp)) _ a (by rfl) (HA.out.kept (HO6.out.trans ((Only.refl [] w6).alloc _) (by simp)) (clean_nil _)) a.length (by simp) a rfl (by omega) (by simp) ?_
             intro a7 c7 w7 hw7 e7
             have HW7 := Lib.hid hw7
             have ho7 := Ext.fresh ((Only.refl [] w6).alloc _) (Own.made w6 [] #[] rfl (Nat.le_refl _) (by simp)) (Nat.le_refl _) e7
             have hsz7 := ho7.size
             have HO7 := Lib.hid ho7
             clear hw7 e7 ho7)
          | (refine wpList_append_any rfl (.tmp 39) (.tmp 40) rfl w6.heap.size _ a (by rfl) HW7.out _ b (by rfl) (HB.out.kept (HO6.out.trans HO7.out (by simp)) (clean_nil _)) n HLN.out l HL.out (by omega) hsz7 ?_
             intro a8 c8 w8 hw8 e8
             have HW8 := Lib.hid hw8
             have HO8 := Lib.hid (Ext.fresh HO7.out HW7.out (Nat.le_refl _) e8)
             clear hw8 e8 HW7 HO7 hsz7))
        refine (RBox_any m _ l w8 h6 h7 HW8.out.bytes hle).mono ?_
        rintro e w9 ⟨a9, c9, rfl, hw9, o9⟩
        have q9 : Only [] w6 w9 := HO8.out.trans o9 (by simp)
        have HO9 := Lib.hid (HO6.out.trans q9 (by simp))
        have HC9 := Lib.hid (HC6.out.kept q9 (by simp))
        have HD9 := Lib.hid (HD6.out.kept q9 (by simp))
        have HX9 := Lib.hid (HX6.out.kept q9 (by simp))
        obtain ⟨SB, hSB⟩ : ∃ S, S = strOf (boxOf m l) := ⟨_, rfl⟩
        have hby9 := HX9.out.bytes m
        rw [HBL.out] at hby9
        have sb1 := str_bytes hby9 hSB
        have sb2 := str_bytes hw9.bytes hSB
        clear HO6 HO8 HC6 HD6 HX6 HW8 q9 o9 hw9 hSB hby9
        go_wp2_with fail
        refine (num_nil w9).mono ?_
        rintro e w10 ⟨rfl, rfl⟩
        go_wp2_with fail
        refine (Kept_any g3 _ a w9 HD9.out (HA.out.kept HO9.out (clean_nil _)) (by omega)).mono ?_
        rintro e w10 ⟨rfl, o10⟩
        have HO10 := Lib.hid (HO9.out.trans o10 (by simp))
        have HC10 := Lib.hid (HC9.out.kept o10 (by simp))
        have HD10 := Lib.hid (HD9.out.kept o10 (by simp))
        have HX10 := Lib.hid (HX9.out.kept o10 (by simp))
        clear o10 HO9 HC9 HD9 HP5 sb1 sb2 HX9
        go_wp2_with fail
        refine (Kept_any g4 _ b w10 HC10.out (HB.out.kept HO10.out (clean_nil _)) (by omega)).mono ?_
        rintro e w11 ⟨rfl, o11⟩
        have HO11 := Lib.hid (HO10.out.trans o11 (by simp))
        have HD11 := Lib.hid (HD10.out.kept o11 (by simp))
        have HX11 := Lib.hid (HX10.out.kept o11 (by simp))
        clear o11 HO10 HC10 HD10
        go_wp2_with fail
        refine (Unbox_any _ a w11 HD11.out.bytes (CopyB.fit (by omega)) (by omega)).mono ?_
        rintro e w12 ⟨hn12, hs12, o12⟩
        have HO12 := Lib.hid (HO11.out.trans o12 (by simp))
        have HX12 := Lib.hid (HX11.out.kept o12 (by simp))
        cases hu : unbox a with
        | none =>
          obtain rfl := hn12 hu
          have HU := Lib.hid hu
          clear hn12 hs12 o12 HO11 HD11 hu
          go_wp2_with fail
          refine (RUnbox_any _ a w12 (HA.out.kept HO12.out (clean_nil _)) HFA.out (by omega)).mono ?_
          rintro e w13 ⟨hn13, _, o13⟩
          obtain rfl := hn13 HU.out
          have HO13 := Lib.hid (HO12.out.trans o13 (by simp))
          have HX13 := Lib.hid (HX12.out.kept o13 (by simp))
          have q1 := iface_err 4
          have q2 := err_n44
          clear hn13 o13 HO12
          have q3 := iface_ne
          have q4 := iface_nil
          go_wp2_with fail
          have hby13 := HX13.out.bytes m
          rw [HBL.out] at hby13
          refine (Unbox_any _ (boxOf m l) w13 hby13 (fun _ _ _ e => by cases e; unfold maxLen; omega) (by rw [HBL.out]; omega)).mono ?_
          rintro e w14 ⟨_, hs14, o14⟩
          obtain ⟨a14, c14, rfl, hw14⟩ := hs14 l (unbox_box h6 h7 hle)
          have HO14 := Lib.hid (HO13.out.trans o14 (by simp))
          obtain ⟨SA, hSA⟩ : ∃ S, S = strOf a := ⟨_, rfl⟩
          obtain ⟨SC, hSC⟩ : ∃ S, S = strOf b := ⟨_, rfl⟩
          obtain ⟨SL, hSL⟩ : ∃ S, S = strOf l := ⟨_, rfl⟩
          have u1 := str_bytes hw14.bytes hSL
          have u2 := str_bytes (HA.out.kept HO14.out (clean_nil _)) hSA
          have u3 := str_bytes (HB.out.kept HO14.out (clean_nil _)) hSC
          have hadd := str_add HL.out (by rw [← HNL.out]; omega) hSA hSC hSL
          clear hs14 hw14 o14 hby13 hSA hSC hSL HO13
          go_wp2
          go_ret
          exact ⟨rfl, HO14.out⟩
        | some d =>
          obtain ⟨a12, c12, rfl, hw12⟩ := hs12 d hu
          have HU := Lib.hid hu
          have HW12 := Lib.hid hw12
          clear hn12 hs12 o12 HO11 HD11 hu hw12
          go_wp2_with fail
          refine (RUnbox_any _ a w12 (HA.out.kept HO12.out (clean_nil _)) HFA.out (by omega)).mono ?_
          rintro e w13 ⟨_, hs13, o13⟩
          obtain ⟨a13, c13, rfl, hw13⟩ := hs13 d HU.out
          have HO13 := Lib.hid (HO12.out.trans o13 (by simp))
          have HX13 := Lib.hid (HX12.out.kept o13 (by simp))
          have q1 := iface_nil
          obtain ⟨SD, hSD⟩ : ∃ S, S = strOf d := ⟨_, rfl⟩
          have s12 := str_bytes (HW12.out.quiet o13).bytes hSD
          have s13 := str_bytes hw13.bytes hSD
          clear hs13 o13 HO12 HW12 hw13 hSD
          have q3 := iface_ne
          have q4 := iface_nil
          go_wp2_with fail
          have hby13 := HX13.out.bytes m
          rw [HBL.out] at hby13
          refine (Unbox_any _ (boxOf m l) w13 hby13 (fun _ _ _ e => by cases e; unfold maxLen; omega) (by rw [HBL.out]; omega)).mono ?_
          rintro e w14 ⟨_, hs14, o14⟩
          obtain ⟨a14, c14, rfl, hw14⟩ := hs14 l (unbox_box h6 h7 hle)
          have HO14 := Lib.hid (HO13.out.trans o14 (by simp))
          obtain ⟨SA, hSA⟩ : ∃ S, S = strOf a := ⟨_, rfl⟩
          obtain ⟨SC, hSC⟩ : ∃ S, S = strOf b := ⟨_, rfl⟩
          obtain ⟨SL, hSL⟩ : ∃ S, S = strOf l := ⟨_, rfl⟩
          have u1 := str_bytes hw14.bytes hSL
          have u2 := str_bytes (HA.out.kept HO14.out (clean_nil _)) hSA
          have u3 := str_bytes (HB.out.kept HO14.out (clean_nil _)) hSC
          have hadd := str_add HL.out (by rw [← HNL.out]; omega) hSA hSC hSL
          clear hs14 hw14 o14 hby13 hSA hSC hSL HO13
          go_wp2
          go_ret
          exact ⟨rfl, HO14.out⟩

set_option maxRecDepth 100000 in
theorem boxes_lifted (os : Os) (started : os.Started) (H : Type) (enc : TypeId × Value → H) :
    ReturnsInHanded {} Try.checked os 4 .any (Rows.wireBoxesSpec.pre6 enc Try.prog Try.f4 Rows.wireBoxesRow.domain false) (Rows.wireBoxesSpec.post enc Try.prog Try.f4 false true false false) := by
  refine returnsInHanded_of_change (C := Try.checked) law_own started (by kernel_rfl) Try.func4
    (ChangeSpec.witness6 (enc := enc) (C := Try.checked) false ⟨#[], #[.int .i64 0, .slice none 0 0, .slice none 0 0], []⟩ 8 (by kernel_rfl) (by kernel_rfl) (by kernel_rfl) (by kernel_rfl)) ?_
  intro W base args ds gs before hval0 hW hcnd _
  have hval : ∀ (j : Nat) t v, Try.f4.params[j]? = some t → args[j]? = some v → Value.okWide Try.prog W .any base t v := hval0
  have hW' := hW
  obtain ⟨p, q, hA0, hV, rfl, hfz, hnd⟩ := hW
  have hA : DataW.TrodAll enc Try.prog W 0 (fun _ => true) true Try.f4.params.toList args.toList ds p := hA0
  rw [Try.params4] at hA hval
  obtain ⟨v0, vs0, d0, ds0, p0, q0, hargs, rfl, rfl, h0, r0⟩ := trodAll_cons hA
  obtain ⟨v1, vs1, d1, ds1, p1, q1, rfl, rfl, rfl, h1, r1⟩ := trodAll_cons r0
  obtain ⟨v2, vs2, d2, ds2, p2, q2, rfl, rfl, rfl, h2, r2⟩ := trodAll_cons r1
  obtain ⟨rfl, rfl, rfl⟩ := trodAll_nil r2
  obtain rfl : args = #[v0, v1, v2] := by cases args; simp_all
  obtain ⟨rfl, rfl⟩ := trodVars_none hV
  obtain ⟨a0, rfl, rfl, rfl, w0⟩ := open_int Try.underlying3 (hval 0 3 v0 rfl rfl) h0
  have h1' := h1
  obtain ⟨sa1, sl1, sc1, rfl⟩ := okWide_slice Try.underlying22 (hval 1 22 v1 rfl rfl)
  obtain ⟨fuel1, hf1⟩ := h1
  obtain ⟨l1, hs1, hfit1, hl1⟩ := open_bytes (v := .slice sa1 sl1 sc1) hf1
  have hlt1 : ∀ x ∈ p1, x.block < W.heap.size := fun x hx => hW'.lt x (by simp [hx])
  have h2' := h2
  obtain ⟨sa2, sl2, sc2, rfl⟩ := okWide_slice Try.underlying22 (hval 2 22 v2 rfl rfl)
  obtain ⟨fuel2, hf2⟩ := h2
  obtain ⟨l2, hs2, hfit2, hl2⟩ := open_bytes (v := .slice sa2 sl2 sc2) hf2
  have hlt2 : ∀ x ∈ p2, x.block < W.heap.size := fun x hx => hW'.lt x (by simp [hx])
  clear hA0 hval0
  refine (boxes_walk a0 _ _ l1 l2 W w0 hs1 hfit1 hl1 hs2 hfit2 hl2).mono fun e W' ⟨he, hg⟩ => ?_
  subst he
  exact ⟨_, rfl, post_quiet (pa := ([] ++ (p1 ++ (p2 ++ [])))) (pv := []) hW' hg (fun _ _ _ => (trodAll_cons_mk (shut_bool Try.underlying4 _) trodAll_mk0)) (fun sp hsp => (trodAll_cons_mk (shut_int Try.underlying3 w0) (trodAll_cons_mk (arg_stays (by kernel_rfl) (of_decide_eq_true (by kernel_rfl)) h1' hg hlt1 (fun x hx => hsp x (by simp [hx]))) (trodAll_cons_mk (arg_stays (by kernel_rfl) (of_decide_eq_true (by kernel_rfl)) h2' hg hlt2 (fun x hx => hsp x (by simp [hx]))) trodAll_mk0)))) (fun _ _ => rfl) (by simp) (ok_one (by kernel_rfl) rfl (okWide_bool_mk Try.underlying4 _))⟩

theorem boxes_over : Rows.wireBoxesRow.holds Try.pinned (OpenSpec.ofChange Rows.wireBoxesSpec) :=
  OpenClaim.holds_of_wide 4 Try.f4 rfl rfl rfl rfl rfl rfl rfl ⟨rfl, rfl, rfl, rfl, rfl⟩ rfl rfl rfl rfl rfl (by kernel_rfl) Try.func4 (by kernel_rfl)
    (of_decide_eq_true (by kernel_rfl)) (by unfold Func.isWrapper; first | (rw [if_pos (by decide +kernel)]; kernel_rfl) | (rw [if_neg (by decide +kernel)]; exact ⟨rfl, rfl⟩))
    (fun os started H enc _ => boxes_lifted os started H enc)

/-- The statement. -/
theorem boxes_holds : Rows.WireBoxesSaid :=
  boxes_over
#print axioms boxes_holds
end Go.Proofs.Ytboemljofdanfaa

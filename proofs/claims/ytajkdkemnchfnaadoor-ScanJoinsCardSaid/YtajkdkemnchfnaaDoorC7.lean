/- What Tokens answers, at all texts. -/
import Derived.Test.YtajkdkemnchfnaaDoorC6
namespace Go.Proofs.YtajkdkemnchfnaaDoor
open Go.RowKit Go.Maps
set_option linter.unusedSimpArgs false
set_option linter.unusedVariables false

theorem lex_begin (L : Sec) : lex L = (lexG (gapN false L) (L.drop (gapN false L))).map (([] : List Tok) ++ ·) := by
  rw [lex_eq, ← lexG_gap 0 L, Nat.zero_add]
  generalize lexG (gapN false L) (L.drop (gapN false L)) = x
  cases x <;> rfl

theorem Tokens_long (s : ByteArray) (w : World) (hs : s.size ≤ 9223372036854775807) (h : 480 < s.size) :
    Calls Tryd.prog 10 #[.string s] w fun e w' => ∃ v ev, e = .returned (.tuple #[v, ev]) ∧ TokRes s.data.toList w.heap.size v ev w' ∧ Only [] w w' := by
  have F := FaultIs.made w 2 0
  have o1 : Only [] w (w.alloc (.cells #[.int .i64 (2 : Nat), .int .i64 (0 : Nat)] 46)) := (Only.refl _ _).alloc _
  have HF := Lib.hid F
  have HO := Lib.hid o1
  clear F o1
  go_enter Tryd.func10, Tryd.ntmps10
  go_wp2
  go_ret2
  exact ⟨_, _, rfl, .inl ⟨by rw [bytesLen]; exact h, rfl, HF.out⟩, HO.out⟩

set_option maxRecDepth 100000 in
set_option maxHeartbeats 4000000 in
theorem Tokens_short (s : ByteArray) (w : World) (h : s.size ≤ 480) (he : Errs w) :
    Calls Tryd.prog 10 #[.string s] w fun e w' => ∃ v ev, e = .returned (.tuple #[v, ev]) ∧ TokRes s.data.toList w.heap.size v ev w' ∧ Only [] w w' := by
  have KP := fun (k : Nat) (hk : k ≤ s.size) (W : World) => pass_any s k W (by omega) hk
  have KP0 : Calls Tryd.prog 20 #[.string s, .int .i64 0] w fun e w' => e = .returned (.int .i64 (gapN false s.data.toList : Nat)) ∧ w = w' := by
    have := KP 0 (by omega) w
    rw [List.drop_zero, Nat.zero_add] at this
    exact this
  have HKP := Lib.hid KP
  have HE := Lib.hid he
  have hg := gapN_le false s.data.toList
  rw [bytesLen] at hg
  have hg0 := gap_gap s.data.toList 0
  rw [Nat.zero_add, List.drop_zero] at hg0
  have HG0 := Lib.hid hg0
  have HL0 := Lib.hid (lex_begin s.data.toList)
  generalize gapN false s.data.toList = g0 at KP0 hg HG0 HL0
  clear KP he hg0
  go_enter Tryd.func10, Tryd.ntmps10
  go_wp2_with (go_at_call 20; refine KP0.mono ?_; rintro e w' ⟨rfl, rfl⟩)
  clear KP0
  obtain ⟨wo, hwo⟩ : ∃ wo : World, wo = w := ⟨_, rfl⟩
  go_loopw [4, 5] (fun v5 a wr => ∃ (acc : List Tok) (k : Nat), a = .int .i64 k ∧ k ≤ s.size ∧ acc.length ≤ k ∧ Hid (gapN false (s.data.toList.drop k) = 0) ∧ Hid (lex s.data.toList = (lexG k (s.data.toList.drop k)).map (acc ++ ·)) ∧ OTk wr wo.heap.size v5 acc ∧ Hid (Only [] wo wr)) (fun _ a _ => s.size - (intOf a).toNat)
  case atStart => exact ⟨[], g0, rfl, hg, Nat.zero_le _, HG0, HL0, OTk.nil _ _, Lib.hid (by rw [hwo]; exact Only.refl _ _)⟩
  case round =>
    clear HG0 HL0 hg
    obtain ⟨acc, k, rfl, hk, hak, HG, HL, hown, HO⟩ := hrel
    have HW := Lib.hid hown
    clear hown
    by_cases hlt : k < s.size
    · have hb := byteAt s k hlt
      obtain ⟨h1, h2⟩ := gap_head hb HG.out
      obtain ⟨hon0, hon1⟩ := lexG_on hb h1 h2 HL.out
      have hX : (s.extract k s.size).data.toList = s.data.toList.drop k := Lib.extract_to_end s k
      have hXs : (s.extract k s.size).size = s.size - k := by rw [← bytesLen, hX, List.length_drop, bytesLen]
      have hfl := firstN_le (s.data.toList.drop k)
      rw [List.length_drop, bytesLen] at hfl
      have K1 := first_any (s.extract k s.size) wr (by omega) (HE.out.kept (by rw [← hwo]; exact HO.out))
      rw [hX] at K1
      generalize hfk : (firstN (s.data.toList.drop k)).1 = kd at K1 hon1
      generalize hfz : (firstN (s.data.toList.drop k)).2 = z at K1 hon0 hon1 hfl
      have HON0 := Lib.hid hon0
      have HON1 := Lib.hid hon1
      clear hon0 hon1 hX hXs hfk hfz h1 h2 hb HL HG
      go_wp2_with fail
      refine K1.mono ?_
      rintro e w1 ⟨rfl, o1⟩
      clear K1
      have HW1 := Lib.hid (HW.out.quiet o1)
      have HO1 := Lib.hid (HO.out.trans o1 (by simp))
      clear o1 HW HO
      by_cases hz : z = 0
      · have HER := Lib.hid (HON0.out hz)
        subst hz
        have HF := Lib.hid (FaultIs.made w1 7 k)
        have HO2 := Lib.hid (HO1.out.trans ((Only.refl [] w1).alloc (.cells #[.int .i64 (7 : Nat), .int .i64 (k : Nat)] 46)) (by simp))
        clear HON0 HON1
        go_wp2_with fail
        go_ret2
        exact ⟨_, _, rfl, .inr (.inl ⟨by rw [bytesLen]; exact h, k, HER.out, rfl, HF.out⟩), by rw [← hwo]; exact HO2.out⟩
      · have hz0 : 0 < z := by omega
        have HL1 := Lib.hid (HON1.out hz)
        have hzf : ((z : Int) == 0) = false := by simpa using hz
        clear HON0 HON1 hz
        have hkz : k + z ≤ s.size := by omega
        have hX : (s.extract k (k + z)).data.toList = (s.data.toList.drop k).take z := by rw [Lib.extract_data, Nat.add_sub_cancel_left]
        have hXs : (s.extract k (k + z)).size = z := by rw [← bytesLen, hX, List.length_take, List.length_drop, bytesLen]; omega
        have hXe : s.extract k (k + z) = strOf ((s.data.toList.drop k).take z) := str_eq_iff.2 hX
        have hsl : ∀ W, (Instr.slice 9 (.string s) (some (.int .i64 k)) (some (.int .i64 ((k : Int) + z))) none).run Tryd.prog W = .ok (.string (s.extract k (k + z))) W := fun W => by
          rw [run_slice_string W 9 s .i64 .i64 (k : Int) ((k : Int) + z) Tryd.underlying9 (by omega) (by omega) (by omega)]
          rfl
        generalize s.extract k (k + z) = T at hX hXs hXe hsl
        have K2 := strClone_any T w1 (by omega)
        have HXE := Lib.hid hXe
        clear hX hXs hXe
        go_wp2_with fail
        refine K2.mono ?_
        rintro e w2 ⟨rfl, o2⟩
        clear K2 hsl
        have HW2 := Lib.hid (HW1.out.quiet o2)
        have HO2 := Lib.hid (HO1.out.trans o2 (by simp))
        clear o2 HW1 HO1
        obtain ⟨t1, t2, t3⟩ := tok_cells w2 kd T k
        have HT := Lib.hid (And.intro t1 (And.intro t2 t3))
        have o3 : Only [] w2 (w2.alloc (.cells #[.int .i64 kd, .string T, .int .i64 k] 35)) := (Only.refl [] w2).alloc _
        have HW3 := Lib.hid (HW2.out.quiet o3)
        have HO3 := Lib.hid (HO2.out.trans o3 (by simp))
        clear t1 t2 t3 HW2 HO2 o3
        have HKP2 := Lib.hid (HKP.out (k + z) hkz)
        have hgl := gapN_le false (s.data.toList.drop (k + z))
        rw [List.length_drop, bytesLen] at hgl
        have HG2 := Lib.hid (gap_gap s.data.toList (k + z))
        generalize hgg : gapN false (s.data.toList.drop (k + z)) = g2 at HKP2 hgl HL1 HG2
        clear hgg
        go_wp2_with (
          refine wpList_append_tok rfl (.tmp 33) (.tmp 44) rfl wo.heap.size _ acc (by rfl) HW3.out w2.heap.size 1 (by rfl) ⟨kd, (s.data.toList.drop k).take z, k⟩ HT.out.1 (by rw [HT.out.2.1, HXE.out]) HT.out.2.2 (by omega) HO3.out.size ?_
          intro v6 w4 hown4 ho4
          have HW4 := Lib.hid hown4
          have HO4 := Lib.hid (show Only [] wo w4 from HO3.out.trans ho4 (fun g hg => .inr (HW3.out.lt (by simpa using hg)).1))
          clear hown4 ho4)
        have K3 := HKP2.out w4
        clear HT HW3 HO3 HXE
        go_wp2_with fail
        refine K3.mono ?_
        rintro e w5 ⟨rfl, rfl⟩
        clear K3 HKP2
        go_wp2_with fail
        go_roundw
        case rel => exact ⟨acc ++ [⟨kd, (s.data.toList.drop k).take z, k⟩], k + z + g2, by go_num, by omega, by simp; omega, HG2, HL1, HW4.out, HO4⟩
        case measure => simp [intOf]; omega
    · obtain rfl : k = s.size := by omega
      have hend : lex s.data.toList = .ok (acc ++ [⟨4, [], s.size⟩]) := by
        rw [HL.out, List.drop_of_length_le (by rw [bytesLen]; exact Nat.le_refl _), lexG_nil]
        rfl
      have HEND := Lib.hid hend
      obtain ⟨t1, t2, t3⟩ := tok_cells wr 4 ⟨#[]⟩ s.size
      have HT := Lib.hid (And.intro t1 (And.intro t2 t3))
      have o3 : Only [] wr (wr.alloc (.cells #[.int .i64 4, .string ⟨#[]⟩, .int .i64 s.size] 35)) := (Only.refl [] wr).alloc _
      have HW3 := Lib.hid (HW.out.quiet o3)
      have HO3 := Lib.hid (HO.out.trans o3 (by simp))
      clear t1 t2 t3 HW HO o3 hend HL HG
      go_wp2_with (
        refine wpList_append_tok rfl (.tmp 51) (.tmp 54) rfl wo.heap.size _ acc (by rfl) HW3.out wr.heap.size 1 (by rfl) ⟨4, [], s.size⟩ HT.out.1 HT.out.2.1 HT.out.2.2 (by omega) HO3.out.size ?_
        intro v6 w4 hown4 ho4
        have HW4 := Lib.hid hown4
        have HO4 := Lib.hid (show Only [] wo w4 from HO3.out.trans ho4 (fun g hg => .inr (HW3.out.lt (by simpa using hg)).1))
        clear hown4 ho4)
      go_ret2
      exact ⟨_, _, rfl, .inr (.inr ⟨by rw [bytesLen]; exact h, _, HEND.out, rfl, by rw [← hwo]; exact HW4.out⟩), by rw [← hwo]; exact HO4.out⟩

theorem Tokens_any (s : ByteArray) (w : World) (hs : s.size ≤ 9223372036854775807) (he : Errs w) :
    Calls Tryd.prog 10 #[.string s] w fun e w' => ∃ v ev, e = .returned (.tuple #[v, ev]) ∧ TokRes s.data.toList w.heap.size v ev w' ∧ Only [] w w' := by
  by_cases h : s.size ≤ 480
  · exact Tokens_short s w h he
  · exact Tokens_long s w hs (by omega)
end Go.Proofs.YtajkdkemnchfnaaDoor

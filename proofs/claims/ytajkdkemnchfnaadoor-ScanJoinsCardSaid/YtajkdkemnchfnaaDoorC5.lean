/- The scanner's gaps: blanks and remarks between tokens. -/
import Derived.Test.YtajkdkemnchfnaaDoorC3
import Derived.WalkMore
import Derived.Deep.LoopGhost
namespace Go.Proofs.YtajkdkemnchfnaaDoor
open Go.RowKit Go.Maps
set_option linter.unusedSimpArgs false
set_option linter.unusedVariables false

theorem gap_blank {l : Sec} {k : Nat} {c : UInt8} (h : l[k]? = some c) (hb : isBlk c = true) : gapN false (l.drop k) = 1 + gapN false (l.drop (k + 1)) := by
  obtain ⟨hlt, hc⟩ := List.getElem?_eq_some_iff.1 h
  rw [List.drop_eq_getElem_cons hlt, hc]
  simp only [gapN, hb, if_true]
  omega
theorem gap_remark {l : Sec} {k : Nat} {c : UInt8} (h : l[k]? = some c) (hb : c.toNat = 35) : gapN false (l.drop k) = runN isRem (l.drop k) + gapN false (l.drop (k + runN isRem (l.drop k))) ∧ 0 < runN isRem (l.drop k) := by
  obtain ⟨hlt, hc⟩ := List.getElem?_eq_some_iff.1 h
  have h1 : isBlk c = false := by simp [isBlk, hb]
  have h2 : isRem c = true := by simp [isRem, hb]
  have h3 := gapN_rem (l.drop (k + 1))
  rw [List.drop_eq_getElem_cons hlt, hc]
  have e : runN isRem (c :: l.drop (k + 1)) = runN isRem (l.drop (k + 1)) + 1 := by simp only [runN, h2, if_true]
  rw [e]
  rw [List.drop_drop] at h3
  rw [show k + (runN isRem (l.drop (k + 1)) + 1) = k + 1 + runN isRem (l.drop (k + 1)) by omega]
  simp only [gapN, h1, hb, Bool.false_eq_true, if_false, if_true]
  omega
theorem gap_other {l : Sec} {k : Nat} {c : UInt8} (h : l[k]? = some c) (hb : isBlk c = false) (hr : c.toNat ≠ 35) : gapN false (l.drop k) = 0 := by
  obtain ⟨hlt, hc⟩ := List.getElem?_eq_some_iff.1 h
  rw [List.drop_eq_getElem_cons hlt, hc]
  exact gapN_none hb hr
theorem gap_end {l : Sec} {k : Nat} (h : l.length ≤ k) : gapN false (l.drop k) = 0 := by
  rw [List.drop_of_length_le h]
  rfl

set_option maxRecDepth 100000 in
set_option maxHeartbeats 4000000 in
theorem pass_any (s : ByteArray) (at_ : Nat) (w : World) (hs : s.size ≤ 65536) (hat : at_ ≤ s.size) :
    Calls Tryd.prog 20 #[.string s, .int .i64 at_] w fun e w' => e = .returned (.int .i64 (at_ + gapN false (s.data.toList.drop at_) : Nat)) ∧ w = w' := by
  obtain ⟨n, hn⟩ : ∃ n, n = at_ + gapN false (s.data.toList.drop at_) := ⟨_, rfl⟩
  rw [← hn]
  have HN := Lib.hid hn
  clear hn
  go_enter Tryd.func20, Tryd.ntmps20
  go_wp2_with fail
  go_step3
  go_wp2_with fail
  go_step3
  go_wp2_with fail
  go_loopg [1] (s.size - at_) (fun gk s1 wr => ∃ k : Nat, s1 = .int .i64 k ∧ k ≤ s.size ∧ Hid (n = k + gapN false (s.data.toList.drop k)) ∧ k + gk = s.size ∧ wr = w)
  case atStart => exact ⟨at_, rfl, hat, HN, by omega, rfl⟩
  case round =>
    obtain ⟨k, rfl, hk, HK, hg, rfl⟩ := hrel
    clear HN
    by_cases hlt : k < s.size
    · have hb := byteAt s k hlt
      by_cases hblk : isBlk s[k] = true
      · have hgb := gap_blank hb hblk
        have HK1 := Lib.hid (show n = (k + 1) + gapN false (s.data.toList.drop (k + 1)) by rw [HK.out, hgb]; omega)
        clear hgb hb HK
        by_cases e1 : s[k].toNat = 32
        · have f1 : ((s[k].toNat : Int) == 32) = true := by simp; omega
          clear e1 hblk
          go_wp2_with fail
          go_roundg (s.size - (k + 1))
          case measure => omega
          case rel => exact ⟨k + 1, by go_num, by omega, HK1, by omega, rfl⟩
        · have f1 : ((s[k].toNat : Int) == 32) = false := by simp; omega
          by_cases e2 : s[k].toNat = 9
          · have f2 : ((s[k].toNat : Int) == 9) = true := by simp; omega
            clear e1 e2 hblk
            go_wp2_with fail
            go_roundg (s.size - (k + 1))
            case measure => omega
            case rel => exact ⟨k + 1, by go_num, by omega, HK1, by omega, rfl⟩
          · have f2 : ((s[k].toNat : Int) == 9) = false := by simp; omega
            have e3 : s[k].toNat = 10 := by simp [isBlk] at hblk; omega
            have f3 : ((s[k].toNat : Int) == 10) = true := by simp; omega
            clear e1 e2 e3 hblk
            go_wp2_with fail
            go_roundg (s.size - (k + 1))
            case measure => omega
            case rel => exact ⟨k + 1, by go_num, by omega, HK1, by omega, rfl⟩
      · have hbf : isBlk s[k] = false := by simpa using hblk
        have hn : s[k].toNat ≠ 32 ∧ s[k].toNat ≠ 9 ∧ s[k].toNat ≠ 10 := by simp [isBlk] at hbf; omega
        have f1 : ((s[k].toNat : Int) == 32) = false := by simp; omega
        have f2 : ((s[k].toNat : Int) == 9) = false := by simp; omega
        have f3 : ((s[k].toNat : Int) == 10) = false := by simp; omega
        by_cases e4 : s[k].toNat = 35
        · have f4 : ((s[k].toNat : Int) == 35) = true := by simp; omega
          obtain ⟨hr1, hr2⟩ := gap_remark hb e4
          have hrl := runN_le isRem (s.data.toList.drop k)
          rw [List.length_drop, bytesLen] at hrl
          have hX : (s.extract k s.size).data.toList = s.data.toList.drop k := Lib.extract_to_end s k
          have hXs : (s.extract k s.size).size = s.size - k := by rw [← bytesLen, hX, List.length_drop, bytesLen]
          have K := run_rem (s.extract k s.size) wr (by omega)
          rw [hX] at K
          obtain ⟨m, hm⟩ : ∃ m, m = runN isRem (s.data.toList.drop k) := ⟨_, rfl⟩
          rw [← hm] at K hr1 hr2 hrl
          have HK1 := Lib.hid (show n = (k + m) + gapN false (s.data.toList.drop (k + m)) by rw [HK.out, hr1]; omega)
          clear hr1 hX hXs hm HK hb e4 hn hbf hblk
          go_wp2_with (go_at_call 28; refine K.mono ?_; rintro e w' ⟨rfl, rfl⟩)
          go_roundg (s.size - (k + m))
          case measure => omega
          case rel => exact ⟨k + m, by go_num, by omega, HK1, by omega, rfl⟩
        · have f4 : ((s[k].toNat : Int) == 35) = false := by simp; omega
          have hz := gap_other hb hbf e4
          obtain rfl : n = k := by rw [HK.out, hz]; rfl
          clear hz HK hb e4 hn hbf hblk
          go_wp2_with fail
          (try rw [Exit.noGoto_ret])
          go_ret
          exact ⟨rfl, rfl⟩
    · have hz := gap_end (l := s.data.toList) (k := k) (by rw [bytesLen]; omega)
      obtain rfl : n = k := by rw [HK.out, hz]; rfl
      clear hz HK
      go_wp2_with fail
      (try rw [Exit.noGoto_ret])
      go_ret
      exact ⟨rfl, rfl⟩
end Go.Proofs.YtajkdkemnchfnaaDoor

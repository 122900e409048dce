/- The scanner's names, numbers, signs and gaps. -/
import Derived.Test.YtajkdkemnchfnaaDoorC2
import Derived.Test.YtajkdkemnchfnaaDoorLib
import Derived.Lib.IndexBytes
import Derived.Lib.ItoaWalk
namespace Go.Proofs.YtajkdkemnchfnaaDoor
open Go.RowKit Go.Maps
set_option linter.unusedSimpArgs false
set_option linter.unusedVariables false

/-! ### what the library's two errors hold -/
def Errs (w : World) : Prop := (∃ t p, w.cell? ⟨0, 0, none⟩ = some (.iface t p)) ∧ ∃ t p, w.cell? ⟨1, 0, none⟩ = some (.iface t p)
theorem Errs.kept {w w' : World} (h : Errs w) (ho : Only [] w w') : Errs w' := by
  obtain ⟨⟨t, p, h1⟩, ⟨t', p', h2⟩⟩ := h
  exact ⟨⟨t, p, cell_kept ho h1 (by simp)⟩, ⟨t', p', cell_kept ho h2 (by simp)⟩⟩

/-! ### strings -/
theorem str_empty {s : ByteArray} (h : s.size = 0) : s = ⟨#[]⟩ := ByteArray.ext (Array.eq_empty_of_size_eq_zero h)
theorem str_full {s : ByteArray} (h : s.size ≠ 0) : s.toList.isEmpty = false := by
  rw [← decide_eq_emptyBytes]
  exact decide_eq_false (fun e => h (by rw [e]; rfl))
theorem str_head {s : ByteArray} (h : 0 < s.size) : s.data.toList.head? = some s[0] := by
  rw [List.head?_eq_getElem?]
  exact byteAt s 0 h
theorem str_eq_iff {s : ByteArray} {l : Sec} : s = ⟨l.toArray⟩ ↔ s.data.toList = l := by
  constructor
  · intro h
    rw [h]
  · intro h
    apply ByteArray.ext
    rw [← h]
/-- A string against a constant, in the walk's own spelling. -/
theorem str_neq {s : ByteArray} {l : Sec} (h : s.data.toList ≠ l) : (s.toList == l) = false := by
  rw [ByteArray.toList_eq]
  simpa using h

set_option maxHeartbeats 1000000 in
theorem name_any (s : ByteArray) (w : World) (hs : s.size ≤ 9223372036854775807) :
    Calls Tryd.prog 27 #[.string s] w fun e w' => e = .returned (.int .i64 (nameN s.data.toList)) ∧ w = w' := by
  by_cases h0 : s.size = 0
  · obtain rfl := str_empty h0
    clear h0 hs
    go_enter Tryd.func27, Tryd.ntmps27
    go_wp2
    go_ret
    exact ⟨rfl, rfl⟩
  · have hpos : 0 < s.size := by omega
    have hemp := str_full h0
    have hhd := str_head hpos
    have KL := isLetter_any s[0] w
    have KR := run_wrd s w hs
    cases h1 : isLet s[0] with
    | false =>
      have e : nameN s.data.toList = 0 := by simp [nameN, hhd, h1]
      rw [e]
      rw [h1] at KL
      clear h1 hhd e
      go_enter Tryd.func27, Tryd.ntmps27
      go_wp2_with (go_at_call 34; refine KL.mono ?_; rintro e w' ⟨rfl, rfl⟩)
      go_ret
      exact ⟨rfl, rfl⟩
    | true =>
      rw [h1] at KL
      have hrl := runN_le isWrd s.data.toList
      have hsl := bytesLen s
      obtain ⟨n, hn⟩ : ∃ n, n = runN isWrd s.data.toList := ⟨_, rfl⟩
      by_cases h2 : n ≤ 16
      · have e : nameN s.data.toList = n := by simp [nameN, hhd, h1, ← hn, h2]
        rw [e]
        rw [← hn] at KR hrl
        clear h1 hhd e hn hsl
        go_enter Tryd.func27, Tryd.ntmps27
        go_wp2_with (first
          | (go_at_call 34; refine KL.mono ?_; rintro e w' ⟨rfl, rfl⟩)
          | (go_at_call 28; refine KR.mono ?_; rintro e w' ⟨rfl, rfl⟩))
        go_ret
        exact ⟨rfl, rfl⟩
      · have e : nameN s.data.toList = 0 := by simp [nameN, ← hn, h2]
        rw [e]
        rw [← hn] at KR hrl
        clear h1 hhd e hn hsl
        go_enter Tryd.func27, Tryd.ntmps27
        go_wp2_with (first
          | (go_at_call 34; refine KL.mono ?_; rintro e w' ⟨rfl, rfl⟩)
          | (go_at_call 28; refine KR.mono ?_; rintro e w' ⟨rfl, rfl⟩))
        go_ret
        exact ⟨rfl, rfl⟩

/-! ### what digits spell -/
theorem valN_ge : ∀ (l : Sec) (acc : Nat), acc ≤ valN acc l
  | [], _ => Nat.le_refl _
  | c :: r, acc => Nat.le_trans (by omega) (valN_ge r (acc * 10 + (c.toNat - 48)))
theorem valN_cons (acc : Nat) (c : UInt8) (r : Sec) : valN acc (c :: r) = valN (acc * 10 + (c.toNat - 48)) r := by conv => lhs; unfold valN
theorem parse_cons {acc M : Nat} {c : UInt8} {r : Sec} (hM : M = 18446744073709551616) (hN : 1844674407370955162 ≤ acc → M ≤ acc * 10) (hc : 48 ≤ c.toNat ∧ c.toNat ≤ 57) : Lib.parseUint10 acc (c :: r) = if M ≤ acc * 10 + (c.toNat - 48) then .range else Lib.parseUint10 (acc * 10 + (c.toNat - 48)) r := by
  have e : Lib.parseUint10 acc (c :: r) = if 1844674407370955162 ≤ acc then .range else if 18446744073709551616 ≤ acc * 10 + (c.toNat - 48) then .range else Lib.parseUint10 (acc * 10 + (c.toNat - 48)) r := by
    simp only [Lib.parseUint10, if_pos hc]
  rw [e, ← hM]
  clear e hM hc
  generalize Lib.parseUint10 (acc * 10 + (c.toNat - 48)) r = X
  generalize 1844674407370955162 = N at hN ⊢
  by_cases h1 : N ≤ acc
  · have := hN h1
    rw [if_pos h1, if_pos (by omega)]
  · rw [if_neg h1]
theorem parse_dig (M : Nat) (hM : M = 18446744073709551616) : ∀ (l : Sec) (acc : Nat), (∀ c ∈ l, isDig c = true) → acc < M → (valN acc l < M → Lib.parseUint10 acc l = .ok (valN acc l)) ∧ (M ≤ valN acc l → Lib.parseUint10 acc l = .range)
  | [], acc, _, ha => ⟨fun _ => rfl, fun h => absurd ha (Nat.not_lt.2 h)⟩
  | c :: r, acc, h, ha => by
    have hc := h c (by simp)
    simp [isDig] at hc
    have hge := valN_ge r (acc * 10 + (c.toNat - 48))
    rw [parse_cons hM (fun h => by omega) hc, valN_cons]
    by_cases h2 : M ≤ acc * 10 + (c.toNat - 48)
    · rw [if_pos h2]
      exact ⟨fun h => absurd (Nat.le_trans h2 hge) (Nat.not_le.2 h), fun _ => rfl⟩
    · rw [if_neg h2]
      exact parse_dig M hM r _ (fun x hx => h x (by simp [hx])) (Nat.not_le.1 h2)
theorem parse_number {l : Sec} (h : ∀ c ∈ l, isDig c = true) (h0 : l ≠ []) : (valN 0 l < 9223372036854775808 → Lib.parseIntB 64 l = .ok (valN 0 l : Int)) ∧ (9223372036854775808 ≤ valN 0 l → Lib.parseIntB 64 l = .range) := by
  rw [Lib.parseIntB_64]
  obtain ⟨c, r, rfl⟩ : ∃ c r, l = c :: r := by
    cases l with
    | nil => exact absurd rfl h0
    | cons c r => exact ⟨c, r, rfl⟩
  have hc := h c (by simp)
  simp [isDig] at hc
  have h1 : ¬ (c.toNat = 43 ∨ c.toNat = 45) := by omega
  have h2 : ¬ c.toNat = 45 := by omega
  obtain ⟨p1, p2⟩ := parse_dig _ rfl (c :: r) 0 h (by omega)
  generalize valN 0 (c :: r) = v at p1 p2 ⊢
  simp only [Lib.atoiAll, if_neg h1, Lib.parseMag, if_neg h0, if_neg h2]
  constructor
  · intro hv
    rw [p1 (by omega)]
    simp [h2]
    omega
  · intro hv
    by_cases h3 : v < 18446744073709551616
    · rw [p1 h3]
      simp [h2]
      omega
    · rw [p2 (by omega)]

theorem number_digits (l : Sec) : ∀ c ∈ l.take (runN isDig l), isDig c = true := by
  intro c hc
  obtain ⟨i, hi⟩ := List.getElem?_of_mem hc
  have hlt := (List.getElem?_eq_some_iff.1 hi).1
  rw [List.length_take] at hlt
  rw [List.getElem?_take_of_lt (by omega)] at hi
  exact runN_all isDig l i c (by omega) hi

set_option maxHeartbeats 2000000 in
theorem number_any (s : ByteArray) (w : World) (hs : s.size ≤ 65536) (he : Errs w) :
    Calls Tryd.prog 30 #[.string s] w fun e w' => e = .returned (.int .i64 (numN s.data.toList)) ∧ Only [] w w' := by
  obtain ⟨n, hn⟩ : ∃ n, n = runN isDig s.data.toList := ⟨_, rfl⟩
  have KR := run_dig s w (by omega)
  have hle : n ≤ s.size := by rw [hn, ← bytesLen]; exact runN_le _ _
  rw [← hn] at KR
  have hxd : (s.extract 0 n).data.toList = s.data.toList.take n := by rw [Lib.extract_data, List.drop_zero, Nat.sub_zero]
  have hxs : (s.extract 0 n).size = n := by rw [← bytesLen, hxd, List.length_take, bytesLen]; omega
  have hdg := number_digits s.data.toList
  rw [← hn, ← hxd] at hdg
  have hnum : numN s.data.toList = if (1 < n ∧ s.data.toList.head? = some 48) ∨ 9223372036854775808 ≤ valN 0 (s.extract 0 n).data.toList then 0 else n := by rw [hxd]; simp only [numN, ← hn]
  rw [hnum]
  clear hnum hxd hn
  obtain ⟨⟨ts, ps, hs1⟩, ⟨tr, pr, hs2⟩⟩ := he
  -- what ParseInt says of the digits
  have KP : Calls Tryd.prog 37 #[.string (s.extract 0 n), .int .i64 10, .int .i64 64] w fun e w' => ∃ (x : Int) (ev : Value), e = .returned (.tuple #[.int .i64 x, ev]) ∧ (ev = .nilIface ∧ 0 < n ∧ valN 0 (s.extract 0 n).data.toList < 9223372036854775808 ∨ (∃ t p, ev = .iface t (.pointer (some p))) ∧ (n = 0 ∨ 9223372036854775808 ≤ valN 0 (s.extract 0 n).data.toList)) ∧ Only [] w w' := by
    by_cases h0 : n = 0
    · have hP : Lib.parseIntB 64 (s.extract 0 n).data.toList = Lib.NumEnd.ofOption none := by
        have : (s.extract 0 n).data.toList = [] := List.eq_nil_of_length_eq_zero (by rw [bytesLen]; omega)
        rw [this]
        rfl
      refine (Tryd.strconv_ParseInt_10_at64_syntax (s.extract 0 n) (by omega) hP (.iface ts ps) w hs1 (.inr ⟨_, _, rfl⟩)).mono ?_
      rintro e w' ⟨N, rfl, -, -, hb⟩
      exact ⟨_, _, rfl, .inr ⟨⟨_, _, rfl⟩, .inl h0⟩, Only.of_below hb⟩
    · have hne : (s.extract 0 n).data.toList ≠ [] := fun e => h0 (by rw [← hxs, ← bytesLen, e]; rfl)
      have hP := parse_number hdg hne
      by_cases h1 : valN 0 (s.extract 0 n).data.toList < 9223372036854775808
      · have hP := hP.1 h1
        refine (Tryd.strconv_ParseInt_10_at64_ok (s.extract 0 n) (by omega) _ hP w).mono ?_
        rintro e w' ⟨rfl, hw⟩
        refine ⟨_, _, rfl, .inl ⟨rfl, by omega, h1⟩, ?_⟩
        rcases hw with rfl | ⟨t, rfl⟩
        · exact Only.refl _ _
        · exact Only.of_below (Lib.bytesWorld_below _ _ _)
      · have hP := hP.2 (by omega)
        refine (Tryd.strconv_ParseInt_10_at64_range (s.extract 0 n) (by omega) hP (.iface tr pr) w hs2 (.inr ⟨_, _, rfl⟩)).mono ?_
        rintro e w' ⟨N, rfl, -, -, hb⟩
        exact ⟨_, _, rfl, .inr ⟨⟨_, _, rfl⟩, .inr (by omega)⟩, Only.of_below hb⟩
  clear hs1 hs2 hdg hxs
  by_cases h1 : 1 < n
  · have hpos : 0 < s.size := by omega
    have hhd := str_head hpos
    by_cases h48 : s[0] = 48
    · rw [if_pos (.inl ⟨h1, by rw [hhd, h48]⟩)]
      have hc : ((s[0].toNat : Int) == 48) = true := by rw [h48]; rfl
      clear h48 hhd KP
      go_enter Tryd.func30, Tryd.ntmps30
      go_wp2_with (go_at_call 28; refine KR.mono ?_; rintro e w' ⟨rfl, rfl⟩)
      go_ret
      exact ⟨rfl, Only.refl _ _⟩
    · have hc : ((s[0].toNat : Int) == 48) = false := by
        have h2 : s[0].toNat ≠ 48 := fun e => h48 (UInt8.toNat_inj.1 e)
        simp
        omega
      have hor : ((1 < n ∧ s.data.toList.head? = some 48) ∨ 9223372036854775808 ≤ valN 0 (s.extract 0 n).data.toList) ↔ 9223372036854775808 ≤ valN 0 (s.extract 0 n).data.toList := by
        rw [hhd]
        constructor
        · rintro (⟨-, h⟩ | h)
          · exact absurd (Option.some.inj h) h48
          · exact h
        · exact .inr
      simp only [hor]
      clear hor h48 hhd
      obtain ⟨r, hr⟩ : ∃ r, r = if 9223372036854775808 ≤ valN 0 (s.extract 0 n).data.toList then 0 else n := ⟨_, rfl⟩
      rw [← hr]
      have HR := Lib.hid hr
      clear hr
      go_enter Tryd.func30, Tryd.ntmps30
      go_wp2_with fail
      refine KR.mono ?_
      rintro e w' ⟨rfl, rfl⟩
      go_wp2_with fail
      refine KP.mono ?_
      rintro e w1 ⟨x, ev, rfl, hev, ho⟩
      rcases hev with ⟨rfl, h3, h4⟩ | ⟨⟨t, p, rfl⟩, h3⟩
      · obtain rfl : r = n := by rw [HR.out, if_neg (by omega)]
        clear h4 KP KR HR
        go_wp2
        go_ret
        exact ⟨rfl, ho⟩
      · obtain rfl : r = 0 := by rw [HR.out, if_pos (by omega)]
        clear h3 KP KR HR
        go_wp2
        go_ret
        exact ⟨rfl, ho⟩
  · have hor : ((1 < n ∧ s.data.toList.head? = some 48) ∨ 9223372036854775808 ≤ valN 0 (s.extract 0 n).data.toList) ↔ 9223372036854775808 ≤ valN 0 (s.extract 0 n).data.toList := by
      constructor
      · rintro (⟨h, -⟩ | h)
        · exact absurd h h1
        · exact h
      · exact .inr
    simp only [hor]
    clear hor
    obtain ⟨r, hr⟩ : ∃ r, r = if 9223372036854775808 ≤ valN 0 (s.extract 0 n).data.toList then 0 else n := ⟨_, rfl⟩
    rw [← hr]
    have HR := Lib.hid hr
    clear hr
    go_enter Tryd.func30, Tryd.ntmps30
    go_wp2_with fail
    refine KR.mono ?_
    rintro e w' ⟨rfl, rfl⟩
    go_wp2_with fail
    refine KP.mono ?_
    rintro e w1 ⟨x, ev, rfl, hev, ho⟩
    rcases hev with ⟨rfl, h3, h4⟩ | ⟨⟨t, p, rfl⟩, h3⟩
    · obtain rfl : r = n := by rw [HR.out, if_neg (by omega)]
      clear h4 KP KR HR
      go_wp2
      go_ret
      exact ⟨rfl, ho⟩
    · obtain rfl : r = 0 := by rw [HR.out]; split <;> omega
      clear h3 KP KR HR
      go_wp2
      go_ret
      exact ⟨rfl, ho⟩
end Go.Proofs.YtajkdkemnchfnaaDoor

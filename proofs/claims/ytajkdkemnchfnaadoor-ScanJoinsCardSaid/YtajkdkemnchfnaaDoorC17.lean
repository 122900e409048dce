/- Gaps, as the statement asks of them; tokens that stand in the text. -/
import Derived.Test.YtajkdkemnchfnaaDoorC15
import Derived.Test.YtajkdkemnchfnaaDoorC14
namespace Go.Proofs.YtajkdkemnchfnaaDoor
open Go.RowKit Go.Maps
set_option linter.unusedSimpArgs false
set_option linter.unusedVariables false

theorem gap_step {b : Bool} {c : UInt8} {r : Sec} (h : gapN b (c :: r) = (c :: r).length) :
    (c.toNat = 10 → gapN false r = r.length) ∧ (c.toNat = 35 → gapN true r = r.length) ∧ (c.toNat ≠ 10 → c.toNat ≠ 35 → (b = true ∧ gapN true r = r.length) ∨ (b = false ∧ (c.toNat = 32 ∨ c.toNat = 9) ∧ gapN false r = r.length)) := by
  cases b with
  | true =>
    simp only [gapN, List.length_cons] at h
    refine ⟨fun e => ?_, fun e => ?_, fun e1 e2 => .inl ⟨rfl, ?_⟩⟩
    · have : isRem c = false := by simp [isRem, e]
      rw [this] at h
      omega
    · have : isRem c = true := by simp [isRem, e]
      rw [this] at h
      omega
    · have : isRem c = true := by simp [isRem, e1]
      rw [this] at h
      omega
  | false =>
    simp only [gapN, List.length_cons] at h
    split at h
    · rename_i hb
      simp [isBlk] at hb
      refine ⟨fun e => by omega, fun e => by omega, fun e1 e2 => .inr ⟨rfl, by omega, by omega⟩⟩
    · rename_i hb
      simp [isBlk] at hb
      split at h
      · exact ⟨fun e => by omega, fun e => by omega, fun e1 e2 => by omega⟩
      · omega
theorem gap_rest {b : Bool} {l : Sec} {k : Nat} {c : UInt8} (hk : l[k]? = some c) (h : gapN b (l.drop k) = (l.drop k).length) : gapN b (c :: l.drop (k + 1)) = (c :: l.drop (k + 1)).length := by
  obtain ⟨hlt, hc⟩ := List.getElem?_eq_some_iff.1 hk
  rw [List.drop_eq_getElem_cons hlt, hc] at h
  exact h
set_option maxHeartbeats 2000000 in
theorem gap_any (s : ByteArray) (w : World) (hs : s.size ≤ 65536) (h : gapN false s.data.toList = s.size) :
    Calls Tryd.prog 14 #[.string s] w fun e w' => e = .returned (.bool true) ∧ w = w' := by
  have H0 : Hid (gapN false (s.data.toList.drop 0) = (s.data.toList.drop 0).length) := Lib.hid (by rw [List.drop_zero, bytesLen]; exact h)
  clear h
  go_enter Tryd.func14, Tryd.ntmps14
  go_wp2
  go_loop [3, 4] (fun v i => ∃ (b : Bool) (k : Nat), v = .bool b ∧ i = .int .i64 k ∧ k ≤ s.size ∧ Hid (gapN b (s.data.toList.drop k) = (s.data.toList.drop k).length)) (fun _ i => s.size - (intOf i).toNat)
  case atStart => exact ⟨false, 0, rfl, rfl, Nat.zero_le _, H0⟩
  case round =>
    clear H0
    obtain ⟨b, k, rfl, rfl, hk, HK⟩ := hrel
    by_cases hlt : k < s.size
    · obtain ⟨g1, g2, g3⟩ := gap_step (gap_rest (byteAt s k hlt) HK.out)
      clear HK
      by_cases e1 : s[k].toNat = 10
      · have f1 : ((s[k].toNat : Int) == 10) = true := by simp; omega
        have HK1 := Lib.hid (g1 e1)
        clear g1 g2 g3 e1
        go_wp2
        go_round
        case rel => exact ⟨false, k + 1, rfl, by go_num, by omega, HK1⟩
        case measure => simp [intOf]; omega
      · have f1 : ((s[k].toNat : Int) == 10) = false := by simp; omega
        by_cases e2 : s[k].toNat = 35
        · have f2 : ((s[k].toNat : Int) == 35) = true := by simp; omega
          have HK1 := Lib.hid (g2 e2)
          clear g1 g2 g3 e1 e2
          go_wp2
          go_round
          case rel => exact ⟨true, k + 1, rfl, by go_num, by omega, HK1⟩
          case measure => simp [intOf]; omega
        · have f2 : ((s[k].toNat : Int) == 35) = false := by simp; omega
          rcases g3 e1 e2 with ⟨rfl, h3⟩ | ⟨rfl, h3, h4⟩
          · have HK1 := Lib.hid h3
            clear g1 g2 g3 e1 e2 h3
            go_wp2
            go_round
            case rel => exact ⟨true, k + 1, rfl, by go_num, by omega, HK1⟩
            case measure => simp [intOf]; omega
          · have HK1 := Lib.hid h4
            rcases h3 with h3 | h3
            · have f3 : ((s[k].toNat : Int) != 32) = false := by simp; omega
              clear g1 g2 g3 e1 e2 h3 h4
              go_wp2
              go_round
              case rel => exact ⟨false, k + 1, rfl, by go_num, by omega, HK1⟩
              case measure => simp [intOf]; omega
            · have f3 : ((s[k].toNat : Int) != 32) = true := by simp; omega
              have f4 : ((s[k].toNat : Int) != 9) = false := by simp; omega
              clear g1 g2 g3 e1 e2 h3 h4
              go_wp2
              go_round
              case rel => exact ⟨false, k + 1, rfl, by go_num, by omega, HK1⟩
              case measure => simp [intOf]; omega
    · go_wp2
      go_ret
      exact ⟨rfl, rfl⟩

/-! ### places -/
theorem lexN_ne : ∀ (n at_ : Nat) (l : Sec) (ts : List Tok), lexN n at_ l = .ok ts → ts ≠ []
  | 0, at_, l, ts, h => by
    simp only [lexN, Except.ok.injEq] at h
    rw [← h]
    simp
  | n + 1, at_, l, ts, h => by
    simp only [lexN] at h
    split at h
    · simp only [Except.ok.injEq] at h
      rw [← h]
      simp
    · split at h
      · cases h
      · cases hx : lexN n (at_ + (firstN l).2 + gapN false (l.drop (firstN l).2)) (l.drop ((firstN l).2 + gapN false (l.drop (firstN l).2))) with
        | error e =>
          rw [hx] at h
          cases h
        | ok us =>
          rw [hx] at h
          have h' : (Except.ok (⟨(firstN l).1, l.take (firstN l).2, at_⟩ :: us) : Except Nat (List Tok)) = .ok ts := h
          rw [← Except.ok.inj h']
          simp
theorem lexN_err : ∀ (n at_ : Nat) (l : Sec) (p : Nat), lexN n at_ l = .error p → at_ ≤ p ∧ p < at_ + l.length
  | 0, at_, l, p, h => by simp [lexN] at h
  | n + 1, at_, l, p, h => by
    simp only [lexN] at h
    split at h
    · cases h
    · rename_i hne
      have hpos := List.length_pos_iff.2 hne
      split at h
      · cases h
        omega
      · cases hx : lexN n (at_ + (firstN l).2 + gapN false (l.drop (firstN l).2)) (l.drop ((firstN l).2 + gapN false (l.drop (firstN l).2))) with
        | error e =>
          rw [hx] at h
          have ih := lexN_err n _ _ e hx
          rw [List.length_drop] at ih
          have h' : (Except.error e : Except Nat (List Tok)) = .error p := h
          cases h'
          have h1 := firstN_le l
          have h2 := gapN_le false (l.drop (firstN l).2)
          rw [List.length_drop] at h2
          omega
        | ok us =>
          rw [hx] at h
          cases h
theorem lex_err {l : Sec} {p : Nat} (h : lex l = .error p) : p < l.length := by
  have h1 := lexN_err _ _ _ _ h
  have h2 := gapN_le false l
  rw [List.length_drop] at h1
  omega
/-- A token in its place; and what comes behind it. -/
theorem place {L : Sec} {ts : List Tok} {p i : Nat} {t : Tok} (hp : p ≤ L.length) (h : lexG p (L.drop p) = .ok (ts.drop i)) (ht : ts[i]? = some t) :
    p ≤ t.pos ∧ t.pos + t.text.length ≤ L.length ∧ (L.drop t.pos).take t.text.length = t.text ∧ gapN false ((L.drop p).take (t.pos - p)) = t.pos - p ∧
    ((t.kind = 4 ∧ i + 1 = ts.length ∧ t.text = [] ∧ t.pos = L.length) ∨
     (t.kind ≠ 4 ∧ i + 1 < ts.length ∧ t.text ≠ [] ∧ lexG (t.pos + t.text.length) (L.drop (t.pos + t.text.length)) = .ok (ts.drop (i + 1)))) := by
  have hgl := gapN_le false (L.drop p)
  obtain ⟨hit, hti⟩ := List.getElem?_eq_some_iff.1 ht
  have hd : ts.drop i = t :: ts.drop (i + 1) := by rw [List.drop_eq_getElem_cons hit, hti]
  have hgt : gapN false ((L.drop p).take (gapN false (L.drop p))) = gapN false (L.drop p) := by rw [gapN_take]; omega
  rw [List.length_drop] at hgl
  rcases lexG_cases h with ⟨h1, h2⟩ | ⟨us, kd, z, h2, hf, hz, hzl, hu⟩
  · rw [List.length_drop] at h1
    rw [hd] at h2
    obtain ⟨e1, e2⟩ := List.cons.inj h2
    have hl := congrArg List.length e2
    rw [List.length_drop, List.length_nil] at hl
    subst e1
    simp only
    refine ⟨by omega, by simp; omega, by simp, by rw [Nat.add_sub_cancel_left]; exact hgt, .inl ⟨trivial, by omega, trivial, by omega⟩⟩
  · rw [hd] at h2
    obtain ⟨e1, e2⟩ := List.cons.inj h2
    rw [List.length_drop] at hzl
    have hk := firstN_kind ((L.drop p).drop (gapN false (L.drop p)))
    rw [hf] at hk
    rw [List.drop_drop] at hu
    have hus := lexN_ne _ _ _ _ hu
    have hul := List.length_pos_iff.2 hus
    have hl := congrArg List.length e2
    rw [List.length_drop] at hl
    have htl : t.text.length = z := by
      rw [e1]
      simp only [List.length_take, List.length_drop]
      omega
    have htx : t.text = (L.drop (p + gapN false (L.drop p))).take z := by
      rw [e1]
      simp only [List.drop_drop]
    have htp : t.pos = p + gapN false (L.drop p) := by rw [e1]
    have htk : t.kind = kd := by rw [e1]
    rw [htl, htp]
    refine ⟨by omega, by omega, htx.symm, by rw [Nat.add_sub_cancel_left]; exact hgt, .inr ⟨by rw [htk]; simp at hk; omega, by omega, ?_, ?_⟩⟩
    · intro e
      rw [e] at htl
      simp at htl
      omega
    · rw [e2, ← hu, Nat.add_assoc]
end Go.Proofs.YtajkdkemnchfnaaDoor

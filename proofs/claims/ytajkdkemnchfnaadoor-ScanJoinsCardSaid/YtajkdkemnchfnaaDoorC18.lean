/- Tokens' texts joined by blanks have the same tokens: plain facts. -/
import Derived.Test.YtajkdkemnchfnaaDoorC17
namespace Go.Proofs.YtajkdkemnchfnaaDoor
open Go.RowKit Go.Maps
set_option linter.unusedSimpArgs false
set_option linter.unusedVariables false

/-- Tokens as a text has them: each begins itself; the end last. -/
def Chain : List Tok → Prop
  | [] => False
  | t :: ts => (ts = [] ∧ t.kind = 4 ∧ t.text = []) ∨ (t.text ≠ [] ∧ firstN t.text = (t.kind, t.text.length) ∧ Chain ts)
theorem chain_lex : ∀ (n : Nat) (at_ : Nat) (l : Sec) (ts : List Tok), ts.length ≤ n → lexG at_ l = .ok ts → Chain ts ∧ ∀ t ∈ ts, t.text.length ≤ l.length
  | 0, at_, l, ts, hn, h => by
    have := List.length_pos_iff.2 (lexN_ne _ _ _ _ h)
    omega
  | n + 1, at_, l, ts, hn, h => by
    rcases lexG_cases h with ⟨h1, rfl⟩ | ⟨us, kd, z, rfl, hf, hz, hzl, hu⟩
    · refine ⟨.inl ⟨rfl, rfl, rfl⟩, fun t ht => ?_⟩
      rw [List.mem_singleton] at ht
      rw [ht]
      simp
    · obtain ⟨i1, i2⟩ := chain_lex n _ _ us (by simp at hn; omega) hu
      have hlen : ((l.drop (gapN false l)).take z).length = z := by rw [List.length_take, List.length_drop]; omega
      refine ⟨.inr ⟨?_, ?_, i1⟩, fun t ht => ?_⟩
      · intro e
        simp only at e
        rw [e] at hlen
        simp at hlen
        omega
      · simp only
        rw [hlen]
        exact firstN_take hf hz (Nat.le_refl _)
      · rcases List.mem_cons.1 ht with e | e
        · rw [e]
          simp only
          rw [hlen]
          omega
        · have := i2 t e
          rw [List.length_drop] at this
          omega

/-! ### what stands behind a token doesn't change it -/
def Sep (b : Sec) : Prop := b = [32] ∨ b = [9] ∨ b = [32, 35, 120, 10]
theorem sep_head {b : Sec} (h : Sep b) : ∃ c r, b = c :: r ∧ isWrd c = false ∧ isDig c = false ∧ ∀ d, [d, c] ∉ twos := by
  have two : ∀ c : UInt8, c = 32 ∨ c = 9 → ∀ d, [d, c] ∉ twos := by
    intro c hc d hd
    simp only [twos, List.mem_cons, List.not_mem_nil, or_false, List.cons.injEq, and_true] at hd
    rcases hc with rfl | rfl <;> rcases hd with e | e | e | e | e | e | e | e | e | e <;> have := e.2 <;> revert this <;> decide
  rcases h with rfl | rfl | rfl
  · exact ⟨_, _, rfl, by decide, by decide, two _ (.inl rfl)⟩
  · exact ⟨_, _, rfl, by decide, by decide, two _ (.inr rfl)⟩
  · exact ⟨_, _, rfl, by decide, by decide, two _ (.inl rfl)⟩
theorem sep_gap {b : Sec} (h : Sep b) (r : Sec) : gapN false (b ++ r) = b.length + gapN false r := by
  rcases h with rfl | rfl | rfl
  · simp [gapN, isBlk]; omega
  · simp [gapN, isBlk]; omega
  · simp [gapN, isBlk, isRem]; omega
theorem lexG_sep {b : Sec} (h : Sep b) (at_ : Nat) (r : Sec) : lexG at_ (b ++ r) = lexG (at_ + b.length) r := by
  rw [← lexG_gap at_, ← lexG_gap (at_ + b.length), sep_gap h, ← List.drop_drop, List.drop_left, Nat.add_assoc]
theorem firstN_app {x : Sec} {kd : Nat} {c : UInt8} (hx : x ≠ []) (h : firstN x = (kd, x.length)) (hw : isWrd c = false) (hd : isDig c = false) (h2 : ∀ d, [d, c] ∉ twos) (r : Sec) : firstN (x ++ c :: r) = (kd, x.length) := by
  obtain ⟨a, y, rfl⟩ : ∃ a y, x = a :: y := by
    cases x with
    | nil => exact absurd rfl hx
    | cons a y => exact ⟨a, y, rfl⟩
  have hz : 0 < (a :: y).length := by simp
  have hend := end_at (c := a) (r := y) (z := endN (a :: y)) rfl
  have hrw := runN_le isWrd (a :: y)
  have hrd := runN_le isDig (a :: y)
  unfold firstN at h
  by_cases h1 : 0 < nameN (a :: y)
  · rw [if_pos h1] at h
    obtain ⟨rfl, hn⟩ := Prod.mk.inj h
    have hnm : isLet a = true ∧ runN isWrd (a :: y) = (a :: y).length ∧ (a :: y).length ≤ 16 := by
      unfold nameN at hn h1
      split at hn
      · rename_i hq
        exact ⟨hq.1, hn, by omega⟩
      · omega
    have hr : runN isWrd (a :: y ++ c :: r) = (a :: y).length := by
      rw [runN_app isWrd (a :: y) (c :: r) hnm.2.1]
      simp [runN, hw]
    unfold firstN
    have : nameN (a :: y ++ c :: r) = (a :: y).length := by
      unfold nameN
      rw [hr, if_pos ⟨hnm.1, hnm.2.2⟩]
    rw [this, if_pos hz]
  · rw [if_neg h1] at h
    by_cases h3 : 0 < numN (a :: y)
    · rw [if_pos h3] at h
      obtain ⟨rfl, hn⟩ := Prod.mk.inj h
      have hq : ¬ ((1 < runN isDig (a :: y) ∧ (a :: y).head? = some 48) ∨ 9223372036854775808 ≤ valN 0 ((a :: y).take (runN isDig (a :: y)))) ∧ runN isDig (a :: y) = (a :: y).length := by
        unfold numN at hn
        split at hn
        · omega
        · rename_i hq
          exact ⟨hq, hn⟩
      have hda : isDig a = true := runN_all isDig (a :: y) 0 a (by omega) rfl
      have hr : runN isDig (a :: y ++ c :: r) = (a :: y).length := by
        rw [runN_app isDig (a :: y) (c :: r) hq.2]
        simp [runN, hd]
      have h5 : numN (a :: y ++ c :: r) = (a :: y).length := by
        unfold numN
        rw [hr, List.take_left]
        have hq1 := hq.1
        rw [hq.2, List.take_length] at hq1
        exact if_neg hq1
      unfold firstN
      rw [List.cons_append, nameN_dig hda, if_neg (by omega), ← List.cons_append, h5, if_pos hz]
    · rw [if_neg h3] at h
      obtain ⟨rfl, hn⟩ := Prod.mk.inj h
      -- a sign
      have hsg : ones.contains a = true ∨ (a :: y).take 2 ∈ twos := by
        by_cases ht : (a :: y).take 2 ∈ twos
        · exact .inr ht
        · left
          rw [signN_one ht rfl] at hn
          cases ho : ones.contains a with
          | true => rfl
          | false => rw [ho, if_neg (by simp)] at hn; omega
      have hna : isLet a = false ∧ isDig a = false := by
        refine ⟨?_, ?_⟩
        · rw [Bool.eq_false_iff]
          intro hl
          obtain ⟨_, k2, k3⟩ := let_not hl
          rcases hsg with e | e
          · rw [k2] at e; cases e
          · cases y with
            | nil => simp [twos] at e
            | cons d y => exact k3 d e
        · rw [Bool.eq_false_iff]
          intro hl
          obtain ⟨_, _, _, k2, k3⟩ := dig_not hl
          rcases hsg with e | e
          · rw [k2] at e; cases e
          · cases y with
            | nil => simp [twos] at e
            | cons d y => exact k3 d e
      have e1 : nameN (a :: y ++ c :: r) = 0 := by simp [nameN, hna.1]
      have e2 : numN (a :: y ++ c :: r) = 0 := by
        have : runN isDig (a :: y ++ c :: r) = 0 := by simp [runN, hna.2]
        unfold numN
        rw [this]
        split <;> rfl
      have e3 : signN (a :: y ++ c :: r) = (a :: y).length := by
        by_cases ht : (a :: y).take 2 ∈ twos
        · rw [signN_two ht] at hn
          have e4 : (a :: y ++ c :: r).take 2 = (a :: y).take 2 := by rw [List.take_append_of_le_length (by omega)]
          rw [signN_two (by rw [e4]; exact ht), ← hn]
        · rw [signN_one ht rfl] at hn
          have ho : ones.contains a = true := hsg.resolve_right ht
          rw [ho, if_pos rfl] at hn
          have hy : y = [] := by
            simp at hn
            exact hn
          subst hy
          have e4 : ([a] ++ c :: r).take 2 ∉ twos := h2 a
          rw [signN_one e4 rfl, ho, if_pos rfl]
          rfl
      unfold firstN
      rw [e1, e2, e3, if_neg (by omega), if_neg (by omega)]

/-! ### joined -/
def jn (f : Nat → Sec) : List Tok → Nat → Sec
  | [], _ => []
  | t :: ts, i => t.text ++ (f i ++ jn f ts (i + 1))
theorem head_not {x : Sec} {kd : Nat} (hx : x ≠ []) (h : firstN x = (kd, x.length)) : ∃ a y, x = a :: y ∧ isBlk a = false ∧ a.toNat ≠ 35 := by
  obtain ⟨a, y, rfl⟩ : ∃ a y, x = a :: y := by
    cases x with
    | nil => exact absurd rfl hx
    | cons a y => exact ⟨a, y, rfl⟩
  refine ⟨a, y, rfl, ?_⟩
  have hbad : (isBlk a = true ∨ a.toNat = 35) → False := by
    intro hb
    have ha : a = 32 ∨ a = 9 ∨ a = 10 ∨ a = 35 := by
      have q : ∀ n : Nat, n < 256 → a.toNat = n → a = UInt8.ofNat n := fun n hn e => by rw [← e, UInt8.ofNat_toNat]
      rcases hb with hb | hb
      · simp only [isBlk, Bool.or_eq_true, decide_eq_true_eq] at hb
        rcases hb with (hb | hb) | hb
        · exact .inl (q 32 (by omega) hb)
        · exact .inr (.inl (q 9 (by omega) hb))
        · exact .inr (.inr (.inl (q 10 (by omega) hb)))
      · exact .inr (.inr (.inr (q 35 (by omega) hb)))
    have h1 : isLet a = false ∧ isDig a = false ∧ ones.contains a = false ∧ ∀ d, [a, d] ∉ twos := by
      have two : ∀ d, [a, d] ∉ twos := by
        intro d hd
        simp only [twos, List.mem_cons, List.not_mem_nil, or_false, List.cons.injEq, and_true] at hd
        rcases ha with rfl | rfl | rfl | rfl <;> rcases hd with e | e | e | e | e | e | e | e | e | e <;> have := e.1 <;> revert this <;> decide
      rcases ha with rfl | rfl | rfl | rfl <;> exact ⟨by decide, by decide, by decide, two⟩
    obtain ⟨k1, k2, k3, k4⟩ := h1
    have e1 : nameN (a :: y) = 0 := by simp [nameN, k1]
    have e2 : numN (a :: y) = 0 := by
      have : runN isDig (a :: y) = 0 := by simp [runN, k2]
      unfold numN
      rw [this]
      split <;> rfl
    have e3 : signN (a :: y) = 0 := by
      have h3 : (a :: y).take 2 ∉ twos := by
        cases y with
        | nil => intro hd; simp [twos] at hd
        | cons d y => exact k4 d
      rw [signN_one h3 rfl, if_neg (by rw [k3]; simp)]
    unfold firstN at h
    rw [e1, e2, e3, if_neg (by omega), if_neg (by omega)] at h
    have := (Prod.mk.inj h).2
    simp at this
  refine ⟨?_, fun e => hbad (.inr e)⟩
  rw [Bool.eq_false_iff]
  exact fun e => hbad (.inl e)
theorem join_lex (f : Nat → Sec) (hf : ∀ i, Sep (f i)) : ∀ (ts : List Tok) (i at_ : Nat), Chain ts → ∃ us, lexG at_ (jn f ts i) = .ok us ∧ us.map (fun t => (t.kind, t.text)) = ts.map (fun t => (t.kind, t.text))
  | [], i, at_, h => h.elim
  | t :: ts, i, at_, h => by
    rcases h with ⟨rfl, h1, h2⟩ | ⟨h1, h2, h3⟩
    · refine ⟨[⟨4, [], at_ + (f i).length⟩], ?_, by simp [h1, h2]⟩
      simp only [jn, h2, List.nil_append]
      rw [lexG_sep (hf i), lexG_nil]
    · obtain ⟨us, i1, i2⟩ := join_lex f hf ts (i + 1) (at_ + t.text.length + (f i).length) h3
      obtain ⟨a, y, hay, hb, hr⟩ := head_not h1 h2
      obtain ⟨c, r, hcr, hw, hd, htw⟩ := sep_head (hf i)
      have hfi : firstN (t.text ++ (f i ++ jn f ts (i + 1))) = (t.kind, t.text.length) := by
        rw [hcr, List.cons_append]
        exact firstN_app h1 h2 hw hd htw _
      have hpos := List.length_pos_iff.2 h1
      refine ⟨⟨t.kind, t.text, at_⟩ :: us, ?_, by simp [i2]⟩
      have hcons : t.text ++ (f i ++ jn f ts (i + 1)) = a :: (y ++ (f i ++ jn f ts (i + 1))) := by rw [hay]; rfl
      show lexG at_ (t.text ++ (f i ++ jn f ts (i + 1))) = _
      rw [hcons, lexG_step at_ a _ hb hr, ← hcons, hfi]
      simp only
      rw [if_neg (by omega), List.drop_left, List.take_left, lexG_sep (hf i), i1]
      rfl
/-- The beginning of what is joined. -/
def jb (f : Nat → Sec) (ts : List Tok) : Nat → Sec
  | 0 => []
  | i + 1 => jb f ts i ++ (((ts[i]?.map (·.text)).getD []) ++ f i)
theorem jb_succ {f : Nat → Sec} {ts : List Tok} {i : Nat} {t : Tok} (h : ts[i]? = some t) : jb f ts (i + 1) = jb f ts i ++ (t.text ++ f i) := by simp [jb, h]
theorem jb_jn (f : Nat → Sec) (ts : List Tok) : ∀ i, i ≤ ts.length → jb f ts i ++ jn f (ts.drop i) i = jn f ts 0
  | 0, _ => by simp [jb]
  | i + 1, h => by
    have ih := jb_jn f ts i (by omega)
    have ht : ts[i]? = some ts[i] := List.getElem?_eq_getElem (by omega)
    rw [List.drop_eq_getElem_cons (by omega)] at ih
    rw [jb_succ ht, List.append_assoc, List.append_assoc]
    exact ih
theorem jb_all (f : Nat → Sec) (ts : List Tok) : jb f ts ts.length = jn f ts 0 := by
  have := jb_jn f ts ts.length (Nat.le_refl _)
  rw [List.drop_length] at this
  simpa [jn] using this
theorem sep_len {b : Sec} (h : Sep b) : b.length ≤ 4 := by rcases h with rfl | rfl | rfl <;> simp
theorem jb_len {f : Nat → Sec} (hf : ∀ i, Sep (f i)) {ts : List Tok} (h : ∀ t ∈ ts, t.text.length ≤ 480) : ∀ i, (jb f ts i).length ≤ i * 484
  | 0 => by simp [jb]
  | i + 1 => by
    have ih := jb_len hf h i
    have h2 := sep_len (hf i)
    have h3 : ((ts[i]?.map (·.text)).getD []).length ≤ 480 := by
      cases hx : ts[i]? with
      | none => simp
      | some t => simpa using h t (List.mem_of_getElem? hx)
    simp only [jb, List.length_append]
    omega
end Go.Proofs.YtajkdkemnchfnaaDoor

/- page: plain facts: a cell's bytes, a page's sector. -/
import Derived.Test.YthacfanfhdjmbaaRT
namespace Go.Proofs.Ythacfanfhdjmbaa
open Go.RowKit Go.Maps
set_option linter.unusedSimpArgs false
set_option linter.unusedVariables false

/-- A cell's byte, its bytes, all cells' bytes. -/
def cb (z : Int) (k : Nat) : UInt8 := UInt8.ofNat ((z / 2 ^ (8 * (7 - k))) % 256).toNat
def cellB (z : Int) : Sec := (List.range 8).map (cb z)
def cellsB (c : List Int) : Sec := (c.map cellB).flatten
/-- A cell of bytes, cells of bytes. -/
def cellI (l : Sec) : Int := IntKind.i64.wrap (val l : Int)
def cellsI (n : Nat) (l : Sec) : List Int := (List.range n).map fun i => cellI ((l.drop (8 * i)).take 8)
abbrev In64 (z : Int) : Prop := -9223372036854775808 ≤ z ∧ z ≤ 9223372036854775807

theorem cb_nat (z : Int) (k : Nat) : (cb z k).toNat = ((z / 2 ^ (8 * (7 - k))) % 256).toNat := u8_ofNat (by omega)
theorem cellB_length (z : Int) : (cellB z).length = 8 := by simp [cellB]
theorem cellsB_length : ∀ c : List Int, (cellsB c).length = 8 * c.length
  | [] => rfl
  | z :: c => by
    have := cellsB_length c
    simp only [cellsB, List.map_cons, List.flatten_cons, List.length_append, cellB_length, List.length_cons] at this ⊢
    omega
theorem cellsB_snoc (c : List Int) (z : Int) : cellsB (c ++ [z]) = cellsB c ++ cellB z := by simp [cellsB]
theorem cellB_take (z : Int) (k : Nat) (hk : k < 8) : (cellB z).take (k + 1) = (cellB z).take k ++ [cb z k] := by
  have h : (cellB z)[k]? = some (cb z k) := by simp [cellB, hk]
  rw [List.take_add_one, h]
  rfl
theorem wrap_i64 (n : Int) : IntKind.i64.wrap n = if 9223372036854775808 ≤ n % 18446744073709551616 then n % 18446744073709551616 - 18446744073709551616 else n % 18446744073709551616 := by
  rw [IntKind.wrap_i64]
  split <;> omega
theorem quot_next (z : Int) (j : Nat) : z / 2 ^ (8 * (j + 1)) = z / 2 ^ (8 * j) / 256 := by
  have e : (2 : Int) ^ (8 * (j + 1)) = 2 ^ (8 * j) * 256 := by rw [Nat.mul_add, Int.pow_add]; rfl
  rw [e, Int.ediv_ediv_of_nonneg (Int.pow_nonneg (by decide))]
theorem quots (z : Int) : ∃ q1 q2 q3 q4 q5 q6 q7 : Int, q1 = z / 256 ∧ q2 = q1 / 256 ∧ q3 = q2 / 256 ∧ q4 = q3 / 256 ∧ q5 = q4 / 256 ∧ q6 = q5 / 256 ∧ q7 = q6 / 256 ∧
    cellB z = [UInt8.ofNat (q7 % 256).toNat, UInt8.ofNat (q6 % 256).toNat, UInt8.ofNat (q5 % 256).toNat, UInt8.ofNat (q4 % 256).toNat, UInt8.ofNat (q3 % 256).toNat, UInt8.ofNat (q2 % 256).toNat, UInt8.ofNat (q1 % 256).toNat, UInt8.ofNat (z % 256).toNat] := by
  refine ⟨_, _, _, _, _, _, _, rfl, rfl, rfl, rfl, rfl, rfl, rfl, ?_⟩
  have e : List.range 8 = [0, 1, 2, 3, 4, 5, 6, 7] := by decide
  have p0 : z / 2 ^ (8 * 0) = z := by simp
  have p1 := quot_next z 0
  have p2 := quot_next z 1
  have p3 := quot_next z 2
  have p4 := quot_next z 3
  have p5 := quot_next z 4
  have p6 := quot_next z 5
  have p7 := quot_next z 6
  rw [p0] at p1
  rw [p1] at p2
  rw [p2] at p3
  rw [p3] at p4
  rw [p4] at p5
  rw [p5] at p6
  rw [p6] at p7
  simp only [cellB, e, List.map_cons, List.map_nil, cb]
  rw [show 7 - 0 = 6 + 1 from rfl, show 7 - 1 = 5 + 1 from rfl, show 7 - 2 = 4 + 1 from rfl, show 7 - 3 = 3 + 1 from rfl, show 7 - 4 = 2 + 1 from rfl, show 7 - 5 = 1 + 1 from rfl, show 7 - 6 = 0 + 1 from rfl, show 7 - 7 = 0 from rfl, p0, p1, p2, p3, p4, p5, p6, p7]
theorem cellB_val (z : Int) : (val (cellB z) : Int) = z % 18446744073709551616 := by
  obtain ⟨q1, q2, q3, q4, q5, q6, q7, h1, h2, h3, h4, h5, h6, h7, e⟩ := quots z
  rw [e]
  have m (q : Int) : ((UInt8.ofNat (q % 256).toNat).toNat : Int) = q % 256 := by rw [u8_ofNat (by omega)]; omega
  simp only [val, List.foldl_cons, List.foldl_nil, Int.natCast_add, Int.natCast_mul, m]
  clear e m
  have s1 : (0 : Int) * 256 + q7 % 256 = q7 % 256 := by omega
  have s2 : q7 % 256 * 256 + q6 % 256 = q6 % 65536 := by clear s1 h1 h2 h3 h4 h5 h6; omega
  have s3 : q6 % 65536 * 256 + q5 % 256 = q5 % 16777216 := by clear s1 s2 h1 h2 h3 h4 h5 h7; omega
  have s4 : q5 % 16777216 * 256 + q4 % 256 = q4 % 4294967296 := by clear s1 s2 s3 h1 h2 h3 h4 h6 h7; omega
  have s5 : q4 % 4294967296 * 256 + q3 % 256 = q3 % 1099511627776 := by clear s1 s2 s3 s4 h1 h2 h3 h5 h6 h7; omega
  have s6 : q3 % 1099511627776 * 256 + q2 % 256 = q2 % 281474976710656 := by clear s1 s2 s3 s4 s5 h1 h2 h4 h5 h6 h7; omega
  have s7 : q2 % 281474976710656 * 256 + q1 % 256 = q1 % 72057594037927936 := by clear s1 s2 s3 s4 s5 s6 h1 h3 h4 h5 h6 h7; omega
  have s8 : q1 % 72057594037927936 * 256 + z % 256 = z % 18446744073709551616 := by clear s1 s2 s3 s4 s5 s6 s7 h2 h3 h4 h5 h6 h7; omega
  show ((((((((0 : Int) * 256 + q7 % 256) * 256 + q6 % 256) * 256 + q5 % 256) * 256 + q4 % 256) * 256 + q3 % 256) * 256 + q2 % 256) * 256 + q1 % 256) * 256 + z % 256 = _
  rw [s1, s2, s3, s4, s5, s6, s7, s8]
theorem cellI_B {z : Int} (h : In64 z) : cellI (cellB z) = z := by
  unfold cellI
  rw [cellB_val, wrap_i64]
  obtain ⟨h0, h1⟩ := h
  split <;> omega
theorem cellI_in (l : Sec) : In64 (cellI l) := by
  unfold cellI
  rw [wrap_i64]
  constructor <;> split <;> omega
theorem eight {α : Type} (l : List α) (h : l.length = 8) : ∃ a b c d e f g i, l = [a, b, c, d, e, f, g, i] := by
  match l, h with
  | [a, b, c, d, e, f, g, i], _ => exact ⟨a, b, c, d, e, f, g, i, rfl⟩
theorem cellB_I {l : Sec} (h : l.length = 8) : cellB (cellI l) = l := by
  obtain ⟨a, b, c, d, e, f, g, i, rfl⟩ := eight l h
  obtain ⟨q1, q2, q3, q4, q5, q6, q7, h1, h2, h3, h4, h5, h6, h7, eq⟩ := quots (cellI [a, b, c, d, e, f, g, i])
  rw [eq]
  have hv : (val [a, b, c, d, e, f, g, i] : Int) = ((((((((a.toNat : Int) * 256 + b.toNat) * 256 + c.toNat) * 256 + d.toNat) * 256 + e.toNat) * 256 + f.toNat) * 256 + g.toNat) * 256 + i.toNat) := by
    simp [val]
  obtain ⟨v, hV⟩ : ∃ v : Int, v = (val [a, b, c, d, e, f, g, i] : Int) := ⟨_, rfl⟩
  obtain ⟨z, hz⟩ : ∃ z : Int, z = cellI [a, b, c, d, e, f, g, i] := ⟨_, rfl⟩
  rw [← hz] at h1 ⊢
  unfold cellI at hz
  rw [← hV] at hv hz
  rw [wrap_i64] at hz
  clear eq hV
  have ha := a.toNat_lt
  have hb := b.toNat_lt
  have hc := c.toNat_lt
  have hd := d.toNat_lt
  have he := e.toNat_lt
  have hf := f.toNat_lt
  have hg := g.toNat_lt
  have hi := i.toNat_lt
  have hm : z = v ∨ z = v - 18446744073709551616 := by split at hz <;> omega
  clear hz
  have key : z % 256 = i.toNat ∧ q1 % 256 = g.toNat ∧ q2 % 256 = f.toNat ∧ q3 % 256 = e.toNat ∧ q4 % 256 = d.toNat ∧ q5 % 256 = c.toNat ∧ q6 % 256 = b.toNat ∧ q7 % 256 = a.toNat := by
    rcases hm with rfl | rfl <;> (refine ⟨?_, ?_, ?_, ?_, ?_, ?_, ?_, ?_⟩ <;> omega)
  obtain ⟨k0, k1, k2, k3, k4, k5, k6, k7⟩ := key
  rw [k0, k1, k2, k3, k4, k5, k6, k7]
  simp

theorem cellsB_at : ∀ (c : List Int) (i : Nat) (z : Int), c[i]? = some z → ((cellsB c).drop (8 * i)).take 8 = cellB z
  | [], i, z, h => by simp at h
  | y :: c, 0, z, h => by
    simp at h
    subst h
    simp only [cellsB, List.map_cons, List.flatten_cons, Nat.mul_zero, List.drop_zero]
    rw [List.take_append_of_le_length (by rw [cellB_length]; omega), List.take_of_length_le (by rw [cellB_length]; omega)]
  | y :: c, i + 1, z, h => by
    have := cellsB_at c i z (by simpa using h)
    have e : 8 * (i + 1) = (cellB y).length + 8 * i := by rw [cellB_length]; omega
    simp only [cellsB, List.map_cons, List.flatten_cons] at this ⊢
    rw [e, List.drop_append, List.drop_eq_nil_of_le (by omega), List.nil_append, Nat.add_sub_cancel_left]
    exact this
theorem cellsI_length (n : Nat) (l : Sec) : (cellsI n l).length = n := by simp [cellsI]
theorem cellsI_get (n : Nat) (l : Sec) (i : Nat) (h : i < n) : (cellsI n l)[i]? = some (cellI ((l.drop (8 * i)).take 8)) := by simp [cellsI, h]
theorem cellsI_in (n : Nat) (l : Sec) : ∀ z ∈ cellsI n l, In64 z := by
  intro z hz
  simp only [cellsI, List.mem_map] at hz
  obtain ⟨i, -, rfl⟩ := hz
  exact cellI_in _
theorem cellsI_succ (n : Nat) (l : Sec) : cellsI (n + 1) l = cellsI n l ++ [cellI ((l.drop (8 * n)).take 8)] := by simp [cellsI, List.range_succ]
theorem cellsI_B {c : List Int} (h : ∀ z ∈ c, In64 z) : cellsI c.length (cellsB c) = c := by
  apply List.ext_getElem?
  intro i
  by_cases hi : i < c.length
  · rw [cellsI_get _ _ _ hi, cellsB_at c i c[i] (List.getElem?_eq_getElem hi), cellI_B (h _ (List.getElem_mem hi)), List.getElem?_eq_getElem hi]
  · rw [List.getElem?_eq_none (by rw [cellsI_length]; omega), List.getElem?_eq_none (by omega)]
theorem cellsB_I : ∀ (n : Nat) (l : Sec), l.length = 8 * n → cellsB (cellsI n l) = l
  | 0, l, h => by
    obtain rfl : l = [] := List.eq_nil_of_length_eq_zero (by omega)
    rfl
  | n + 1, l, h => by
    have e : cellsI n l = cellsI n (l.take (8 * n)) := by
      apply List.ext_getElem?
      intro i
      by_cases hi : i < n
      · rw [cellsI_get _ _ _ hi, cellsI_get _ _ _ hi, List.drop_take, List.take_take]
        congr 3
        omega
      · rw [List.getElem?_eq_none (by rw [cellsI_length]; omega), List.getElem?_eq_none (by rw [cellsI_length]; omega)]
    rw [cellsI_succ, cellsB_snoc, e, cellsB_I n (l.take (8 * n)) (by rw [List.length_take]; omega), cellB_I (by rw [List.length_take, List.length_drop]; omega)]
    rw [List.take_of_length_le (show (l.drop (8 * n)).length ≤ 8 by rw [List.length_drop]; omega), List.take_append_drop]

/-! ### a page's sector -/
def blankP : List Int := List.replicate 60 0
def pin (n : Int) (c : List Int) : Sec := num n ++ cellsB c
def penc (n : Int) (c : List Int) : Sec := boxOf 512 (pin n c)
def pdec (b : Sec) : Option (Int × List Int) :=
  if b = zeros then some (0, blankP)
  else if b.length = 512 then
    match unbox b with
    | none => none
    | some d => match takeN d with
      | none => none
      | some (n, k) => if (d.drop k).length = 480 then some (n, cellsI 60 (d.drop k)) else none
  else none
/-- A page's form. -/
structure PForm (n : Int) (c : List Int) : Prop where
  num : In64 n
  len : c.length = 60
  cells : ∀ z ∈ c, In64 z

theorem blank_form : PForm 0 blankP := ⟨⟨by decide, by decide⟩, by simp [blankP], fun z hz => by simp [blankP] at hz; subst hz; exact ⟨by decide, by decide⟩⟩
theorem pin_length {n : Int} {c : List Int} (h : PForm n c) : 481 ≤ (pin n c).length ∧ (pin n c).length ≤ 490 := by
  have h1 := num_pos n
  have h2 := num_ten h.num.1 h.num.2
  have h3 := cellsB_length c
  have h4 := h.len
  unfold pin
  rw [List.length_append]
  omega
theorem penc_length {n : Int} {c : List Int} (h : PForm n c) : (penc n c).length = 512 := boxOf_length (by decide) (by have := (pin_length h).2; omega)
theorem penc_unbox {n : Int} {c : List Int} (h : PForm n c) : unbox (penc n c) = some (pin n c) := unbox_box (by decide) (by decide) (by have := (pin_length h).2; omega)
theorem penc_ne {n : Int} {c : List Int} (h : PForm n c) : penc n c ≠ zeros := fun e => by
  have h1 := penc_unbox h
  rw [e] at h1
  unfold zeros at h1
  rw [unbox_zeros] at h1
  simp at h1
theorem pdec_enc {n : Int} {c : List Int} (h : PForm n c) : pdec (penc n c) = some (n, c) := by
  have h1 : takeN (pin n c) = some (n, (num n).length) := takeN_num h.num.1 h.num.2 _
  have h2 : (pin n c).drop (num n).length = cellsB c := by unfold pin; simp
  have h3 := cellsB_length c
  have h4 := h.len
  have h5 := cellsI_B h.cells
  rw [h4] at h5
  unfold pdec
  rw [if_neg (penc_ne h), if_pos (penc_length h), penc_unbox h]
  simp only [h1, h2, h5]
  rw [if_pos (by omega)]
theorem pdec_inv {b : Sec} {n : Int} {c : List Int} (h : pdec b = some (n, c)) : PForm n c ∧ b.length = 512 ∧ ((b = zeros ∧ n = 0 ∧ c = blankP) ∨ (b ≠ zeros ∧ penc n c = b)) := by
  unfold pdec at h
  split at h
  · rename_i hb
    simp only [Option.some.injEq, Prod.mk.injEq] at h
    obtain ⟨rfl, rfl⟩ := h
    exact ⟨blank_form, by rw [hb, zeros_length], Or.inl ⟨hb, rfl, rfl⟩⟩
  rename_i hb
  split at h
  · rename_i hl
    split at h
    · simp at h
    rename_i d hd
    split at h
    · simp at h
    rename_i n' k ht
    split at h
    · rename_i h480
      simp only [Option.some.injEq, Prod.mk.injEq] at h
      obtain ⟨rfl, rfl⟩ := h
      obtain ⟨t1, t2, t3, t4, t5⟩ := takeN_inv ht
      refine ⟨⟨⟨t4, t5⟩, cellsI_length _ _, cellsI_in _ _⟩, hl, Or.inr ⟨hb, ?_⟩⟩
      have h5 := (unbox_iff.1 hd).2.2.2
      rw [hl] at h5
      unfold penc pin
      rw [cellsB_I 60 _ (by omega), t1, List.take_append_drop]
      exact h5.symm
    · simp at h
  · simp at h
theorem pdec_slip {n : Int} {c : List Int} (h : PForm n c) {i : Nat} {x y : UInt8} (hi : (penc n c)[i]? = some x) (hy : y ≠ x) : pdec ((penc n c).set i y) = none := by
  have hl := pin_length h
  have h1 := unbox_slip (size := 512) (d := pin n c) (by decide) (by decide) (by omega) hi hy
  have hne : (penc n c).set i y ≠ zeros := by
    intro e
    have e4 : ∀ j, j ≠ i → (penc n c)[j]? = zeros[j]? := fun j hj => by rw [← e, List.getElem?_set_ne (Ne.symm hj)]
    have g4 : (penc n c)[4]? = some (UInt8.ofNat ((pin n c).length / 256)) := by unfold penc boxOf body be4 be2; rfl
    have g5 : (penc n c)[5]? = some (UInt8.ofNat (pin n c).length) := by unfold penc boxOf body be4 be2; rfl
    have z4 : zeros[4]? = some 0 := by unfold zeros; rfl
    have z5 : zeros[5]? = some 0 := by unfold zeros; rfl
    by_cases h4 : (4 : Nat) = i
    · have := e4 5 (by omega)
      rw [g5, z5] at this
      have h6 := congrArg UInt8.toNat (Option.some.inj this)
      rw [UInt8.toNat_ofNat'] at h6
      simp at h6
      omega
    · have := e4 4 h4
      rw [g4, z4] at this
      have h6 := congrArg UInt8.toNat (Option.some.inj this)
      rw [UInt8.toNat_ofNat'] at h6
      simp at h6
      omega
  unfold pdec
  rw [if_neg hne]
  have : unbox ((penc n c).set i y) = none := h1
  rw [this]
  split <;> rfl

end Go.Proofs.Ythacfanfhdjmbaa

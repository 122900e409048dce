/- CRC-32 and boxes: plain facts. Nothing of the program is named here. -/
import Derived.Test.YtfnedeaemjchgaaGreatM1
namespace Go.Proofs.YtfnedeaemjchgaaGreat
set_option linter.unusedVariables false

/-! ### the register -/
def poly : Nat := 3988292384
def sh1 (r : Nat) : Nat := if r % 2 = 1 then (r / 2) ^^^ poly else r / 2
def shN : Nat → Nat → Nat
  | 0, r => r
  | k + 1, r => sh1 (shN k r)
def sh8 (r : Nat) : Nat := shN 8 r
def crcTo (r : Nat) (l : List UInt8) : Nat := l.foldl (fun r c => sh8 (r ^^^ c.toNat)) r
def crc (l : List UInt8) : Nat := 4294967295 - crcTo 4294967295 l

theorem poly_lt : poly < 2 ^ 32 := by decide
theorem byte_lt (c : UInt8) : c.toNat < 2 ^ 32 := Nat.lt_trans c.toNat_lt (by decide)
theorem sh1_lt {r : Nat} (h : r < 2 ^ 32) : sh1 r < 2 ^ 32 := by
  unfold sh1
  split
  · exact Nat.xor_lt_two_pow (by omega) poly_lt
  · omega
theorem shN_lt {r : Nat} (h : r < 2 ^ 32) : ∀ k, shN k r < 2 ^ 32
  | 0 => h
  | k + 1 => sh1_lt (shN_lt h k)
theorem sh8_lt {r : Nat} (h : r < 2 ^ 32) : sh8 r < 2 ^ 32 := shN_lt h 8
theorem crcTo_lt : ∀ (l : List UInt8) (r : Nat), r < 2 ^ 32 → crcTo r l < 2 ^ 32
  | [], r, h => h
  | c :: l, r, h => crcTo_lt l _ (sh8_lt (Nat.xor_lt_two_pow h (byte_lt c)))
theorem crcTo_append (r : Nat) (a b : List UInt8) : crcTo r (a ++ b) = crcTo (crcTo r a) b := by simp [crcTo]
theorem crcTo_snoc (r : Nat) (a : List UInt8) (c : UInt8) : crcTo r (a ++ [c]) = sh8 (crcTo r a ^^^ c.toNat) := by simp [crcTo]
theorem crc_lt (l : List UInt8) : crc l < 4294967296 := by unfold crc; omega
theorem crc_nil : crc [] = 0 := rfl

/-- The register's highest bit tells what was shifted out. -/
theorem sh1_top {r : Nat} (h : r < 2 ^ 32) : 2 ^ 31 ≤ sh1 r ↔ r % 2 = 1 := by
  unfold sh1
  split
  · rename_i h1
    have hb : ((r / 2) ^^^ poly).testBit 31 = true := by
      rw [Nat.testBit_xor, Nat.testBit_lt_two_pow (by omega : r / 2 < 2 ^ 31)]
      decide
    simp only [h1, iff_true]
    rcases Nat.lt_or_ge ((r / 2) ^^^ poly) (2 ^ 31) with h2 | h2
    · rw [Nat.testBit_lt_two_pow h2] at hb
      cases hb
    · exact h2
  · constructor <;> intro h2 <;> omega
theorem sh1_inj {r s : Nat} (hr : r < 2 ^ 32) (hs : s < 2 ^ 32) (h : sh1 r = sh1 s) : r = s := by
  have h1 := sh1_top hr
  have h2 := sh1_top hs
  rw [h] at h1
  have h3 : r % 2 = 1 ↔ s % 2 = 1 := h1.symm.trans h2
  unfold sh1 at h
  by_cases e : r % 2 = 1
  · rw [if_pos e, if_pos (h3.1 e)] at h
    have h4 := congrArg (· ^^^ poly) h
    simp only [Nat.xor_assoc, Nat.xor_self, Nat.xor_zero] at h4
    have := h3.1 e
    omega
  · rw [if_neg e, if_neg (fun h => e (h3.2 h))] at h
    have : ¬ s % 2 = 1 := fun h => e (h3.2 h)
    omega
theorem shN_inj {r s : Nat} (hr : r < 2 ^ 32) (hs : s < 2 ^ 32) : ∀ k, shN k r = shN k s → r = s
  | 0, h => h
  | k + 1, h => shN_inj hr hs k (sh1_inj (shN_lt hr k) (shN_lt hs k) h)
theorem xor_inj {a b c : Nat} (h : a ^^^ c = b ^^^ c) : a = b := by
  have h4 := congrArg (· ^^^ c) h
  simpa only [Nat.xor_assoc, Nat.xor_self, Nat.xor_zero] using h4
theorem xor_inj' {a b c : Nat} (h : c ^^^ a = c ^^^ b) : a = b := xor_inj (c := c) (by rw [Nat.xor_comm a, Nat.xor_comm b]; exact h)
theorem crcTo_inj : ∀ (l : List UInt8) (r s : Nat), r < 2 ^ 32 → s < 2 ^ 32 → crcTo r l = crcTo s l → r = s
  | [], r, s, _, _, h => h
  | c :: l, r, s, hr, hs, h => by
    have h1 := crcTo_inj l _ _ (sh8_lt (Nat.xor_lt_two_pow hr (byte_lt c))) (sh8_lt (Nat.xor_lt_two_pow hs (byte_lt c))) h
    exact xor_inj (shN_inj (Nat.xor_lt_two_pow hr (byte_lt c)) (Nat.xor_lt_two_pow hs (byte_lt c)) 8 h1)
theorem crc_reg {a b : List UInt8} (h : crc a = crc b) : crcTo 4294967295 a = crcTo 4294967295 b := by
  have h1 := crcTo_lt a 4294967295 (by decide)
  have h2 := crcTo_lt b 4294967295 (by decide)
  unfold crc at h
  omega
/-- A byte that is changed changes the check. -/
theorem crc_change (p q : List UInt8) (c d : UInt8) (h : crc (p ++ c :: q) = crc (p ++ d :: q)) : c = d := by
  have h1 := crc_reg h
  rw [crcTo_append, crcTo_append] at h1
  have h2 := crcTo_inj q _ _ (sh8_lt (Nat.xor_lt_two_pow (crcTo_lt p _ (by decide)) (byte_lt c))) (sh8_lt (Nat.xor_lt_two_pow (crcTo_lt p _ (by decide)) (byte_lt d))) h1
  have h3 := shN_inj (Nat.xor_lt_two_pow (crcTo_lt p _ (by decide)) (byte_lt c)) (Nat.xor_lt_two_pow (crcTo_lt p _ (by decide)) (byte_lt d)) 8 h2
  exact UInt8.toNat_inj.1 (xor_inj' h3)

/-! ### four bytes, two bytes -/
def val (l : List UInt8) : Nat := l.foldl (fun n c => n * 256 + c.toNat) 0
def be4 (n : Nat) : List UInt8 := [UInt8.ofNat (n / 16777216), UInt8.ofNat (n / 65536), UInt8.ofNat (n / 256), UInt8.ofNat n]
def be2 (n : Nat) : List UInt8 := [UInt8.ofNat (n / 256), UInt8.ofNat n]
theorem val_be4 {n : Nat} (h : n < 4294967296) : val (be4 n) = n := by
  simp only [val, be4, List.foldl_cons, List.foldl_nil, UInt8.toNat_ofNat']
  omega
theorem val_be2 {n : Nat} (h : n < 65536) : val (be2 n) = n := by
  simp only [val, be2, List.foldl_cons, List.foldl_nil, UInt8.toNat_ofNat']
  omega
theorem four {α : Type} (l : List α) (h : l.length = 4) : ∃ a b c d, l = [a, b, c, d] := by
  match l, h with
  | [a, b, c, d], _ => exact ⟨a, b, c, d, rfl⟩
theorem two {α : Type} (l : List α) (h : l.length = 2) : ∃ a b, l = [a, b] := by
  match l, h with
  | [a, b], _ => exact ⟨a, b, rfl⟩
theorem be4_val {l : List UInt8} (h : l.length = 4) : be4 (val l) = l := by
  obtain ⟨a, b, c, d, rfl⟩ := four l h
  have ha := a.toNat_lt
  have hb := b.toNat_lt
  have hc := c.toNat_lt
  have hd := d.toNat_lt
  simp only [val, be4, List.foldl_cons, List.foldl_nil]
  rw [u8_eq (c := a) rfl, u8_eq (c := b) rfl, u8_eq (c := c) rfl, u8_eq (c := d) rfl]
  have e : ∀ x y : Nat, x % 256 = y % 256 → UInt8.ofNat x = UInt8.ofNat y := fun x y h => UInt8.toNat_inj.1 (by rw [UInt8.toNat_ofNat', UInt8.toNat_ofNat']; exact h)
  simp only [u8_ofNat ha, u8_ofNat hb, u8_ofNat hc, u8_ofNat hd]
  congr 1
  · exact e _ _ (by omega)
  · congr 1
    · exact e _ _ (by omega)
    · congr 1
      · exact e _ _ (by omega)
      · congr 1
        exact e _ _ (by omega)
theorem be2_val {l : List UInt8} (h : l.length = 2) : be2 (val l) = l := by
  obtain ⟨a, b, rfl⟩ := two l h
  have ha := a.toNat_lt
  have hb := b.toNat_lt
  simp only [val, be2, List.foldl_cons, List.foldl_nil]
  rw [u8_eq (c := a) rfl, u8_eq (c := b) rfl]
  have e : ∀ x y : Nat, x % 256 = y % 256 → UInt8.ofNat x = UInt8.ofNat y := fun x y h => UInt8.toNat_inj.1 (by rw [UInt8.toNat_ofNat', UInt8.toNat_ofNat']; exact h)
  simp only [u8_ofNat ha, u8_ofNat hb]
  congr 1
  · exact e _ _ (by omega)
  · congr 1
    exact e _ _ (by omega)
theorem be4_inj {m n : Nat} (hm : m < 4294967296) (hn : n < 4294967296) (h : be4 m = be4 n) : m = n := by rw [← val_be4 hm, ← val_be4 hn, h]
theorem val_lt2 {l : List UInt8} (h : l.length = 2) : val l < 65536 := by
  obtain ⟨a, b, rfl⟩ := two l h
  have ha := a.toNat_lt
  have hb := b.toNat_lt
  simp only [val, List.foldl_cons, List.foldl_nil]
  omega
theorem val_snoc (l : List UInt8) (c : UInt8) : val (l ++ [c]) = val l * 256 + c.toNat := by simp [val]

/-! ### boxes -/
def body (size : Nat) (d : List UInt8) : List UInt8 := be2 d.length ++ d ++ List.replicate (size - 6 - d.length) 0
def boxOf (size : Nat) (d : List UInt8) : List UInt8 := be4 (crc (body size d)) ++ body size d
theorem body_length {size : Nat} {d : List UInt8} (h6 : 6 ≤ size) (h : d.length ≤ size - 6) : (body size d).length = size - 4 := by simp [body, be2]; omega
theorem boxOf_length {size : Nat} {d : List UInt8} (h6 : 6 ≤ size) (h : d.length ≤ size - 6) : (boxOf size d).length = size := by
  rw [boxOf, List.length_append, body_length h6 h]
  simp [be4]
  omega
def isBlank (l : List UInt8) : Bool := l.all (· == 0)
theorem isBlank_iff {l : List UInt8} : isBlank l = true ↔ l = List.replicate l.length 0 := by
  unfold isBlank
  rw [List.eq_replicate_iff]
  simp
/-- What is in a box. -/
def unbox (l : List UInt8) : Option (List UInt8) :=
  if l.length < 6 ∨ 65536 < l.length then none
  else if val (l.take 4) ≠ crc (l.drop 4) then none
  else if l.length - 6 < val ((l.drop 4).take 2) then none
  else if isBlank ((l.drop 6).drop (val ((l.drop 4).take 2))) = false then none
  else some ((l.drop 6).take (val ((l.drop 4).take 2)))

theorem unbox_box {size : Nat} {d : List UInt8} (h6 : 6 ≤ size) (hs : size ≤ 65536) (h : d.length ≤ size - 6) : unbox (boxOf size d) = some d := by
  have hl := boxOf_length h6 h
  have e4 : (boxOf size d).take 4 = be4 (crc (body size d)) := by rw [boxOf, List.take_append_of_le_length (by simp [be4])]; simp [be4]
  have ed : (boxOf size d).drop 4 = body size d := by rw [boxOf, List.drop_append_of_le_length (by simp [be4])]; simp [be4]
  have e2 : (body size d).take 2 = be2 d.length := by rw [body, List.append_assoc, List.take_append_of_le_length (by simp [be2])]; simp [be2]
  have e6 : (boxOf size d).drop 6 = d ++ List.replicate (size - 6 - d.length) 0 := by
    have : (boxOf size d).drop 6 = ((boxOf size d).drop 4).drop 2 := by rw [List.drop_drop]
    rw [this, ed, body, List.append_assoc, List.drop_append_of_le_length (by simp [be2])]
    simp [be2]
  unfold unbox
  rw [if_neg (by omega), e4, ed, e2, e6, val_be4 (crc_lt _), val_be2 (by omega), if_neg (by simp), if_neg (by omega), List.drop_left, List.take_left, if_neg]
  rw [Bool.not_eq_false, isBlank_iff]
  simp

theorem unbox_inv {l d : List UInt8} (h : unbox l = some d) : 6 ≤ l.length ∧ l.length ≤ 65536 ∧ d.length ≤ l.length - 6 ∧ l = boxOf l.length d := by
  unfold unbox at h
  split at h
  · cases h
  rename_i h1
  split at h
  · cases h
  rename_i h2
  split at h
  · cases h
  rename_i h3
  split at h
  · cases h
  rename_i h4
  injection h with h
  have h5 : ((l.drop 4).take 2).length = 2 := by simp; omega
  have h6 : (l.take 4).length = 4 := by simp; omega
  have hd : d.length = val ((l.drop 4).take 2) := by rw [← h]; simp; omega
  have hb := isBlank_iff.1 (Bool.not_eq_false _ ▸ h4 : isBlank ((l.drop 6).drop (val ((l.drop 4).take 2))) = true)
  refine ⟨by omega, by omega, by omega, ?_⟩
  have e0 : l.drop 4 = body l.length d := by
    have e1 : l.drop 4 = (l.drop 4).take 2 ++ (l.drop 6) := by
      have : l.drop 6 = (l.drop 4).drop 2 := by rw [List.drop_drop]
      rw [this, List.take_append_drop]
    have e2 : l.drop 6 = d ++ List.replicate (l.length - 6 - d.length) 0 := by
      have e3 : l.drop 6 = (l.drop 6).take (val ((l.drop 4).take 2)) ++ (l.drop 6).drop (val ((l.drop 4).take 2)) := (List.take_append_drop _ _).symm
      rw [h, hb] at e3
      rw [e3]
      congr 2
      simp
      omega
    rw [body, hd, be2_val h5, List.append_assoc, ← hd, ← e2, ← e1]
  have e4 : l.take 4 = be4 (crc (body l.length d)) := by
    rw [← e0, ← Classical.not_not.1 h2, be4_val h6]
  rw [boxOf, ← e4, ← e0, List.take_append_drop]
theorem unbox_iff {l d : List UInt8} : unbox l = some d ↔ 6 ≤ l.length ∧ l.length ≤ 65536 ∧ d.length ≤ l.length - 6 ∧ l = boxOf l.length d :=
  ⟨unbox_inv, fun ⟨h1, h2, h3, h4⟩ => by
    have := unbox_box h1 h2 h3
    rwa [← h4] at this⟩

/-- One byte changed: no box. -/
theorem unbox_slip {size : Nat} {d : List UInt8} (h6 : 6 ≤ size) (hs : size ≤ 65536) (h : d.length ≤ size - 6) {i : Nat} {c x : UInt8} (hi : (boxOf size d)[i]? = some c) (hx : x ≠ c) : unbox ((boxOf size d).set i x) = none := by
  have hl := boxOf_length h6 h
  have hlt := (List.getElem?_eq_some_iff.1 hi).1
  unfold unbox
  rw [if_neg (by simp; omega), if_pos]
  have e4 : (boxOf size d).take 4 = be4 (crc (body size d)) := by rw [boxOf, List.take_append_of_le_length (by simp [be4])]; simp [be4]
  have ed : (boxOf size d).drop 4 = body size d := by rw [boxOf, List.drop_append_of_le_length (by simp [be4])]; simp [be4]
  by_cases hi4 : i < 4
  · rw [List.drop_set, if_pos hi4, ed, List.take_set, e4]
    intro e
    have e2 := congrArg be4 e
    rw [be4_val (by simp [be4])] at e2
    have e3 : (be4 (crc (body size d)))[i]? = some c := by rw [← e4, List.getElem?_take_of_lt hi4, hi]
    rw [← e2, List.getElem?_set_self (by simp [be4]; omega)] at e3
    exact hx (Option.some.inj e3)
  · rw [List.drop_set, if_neg hi4, ed, List.take_set_of_le (by omega), e4, val_be4 (crc_lt _)]
    intro e
    have e3 : (body size d)[i - 4]? = some c := by rw [← ed, List.getElem?_drop, show 4 + (i - 4) = i by omega, hi]
    obtain ⟨h7, h8⟩ := List.getElem?_eq_some_iff.1 e3
    have e5 : body size d = (body size d).take (i - 4) ++ c :: (body size d).drop (i - 4 + 1) := by
      rw [← h8, List.getElem_cons_drop, List.take_append_drop]
    have e6 : (body size d).set (i - 4) x = (body size d).take (i - 4) ++ x :: (body size d).drop (i - 4 + 1) := by
      rw [List.set_eq_take_append_cons_drop, if_pos h7]
    exact hx (crc_change _ _ c x (by rw [← e5, ← e6]; exact e)).symm
end Go.Proofs.YtfnedeaemjchgaaGreat

/- Bytes 0 are no box: CRC-32's register doesn't come back to its beginning within 65536 bytes 0. Reckoned out, by the kernel, step for step. -/
import Derived.Test.YtfnedeaemjchgaaGreatM2
import Derived.KernelRfl
namespace Go.Proofs.YtfnedeaemjchgaaGreat
set_option linter.unusedVariables false

def z1 (r : Nat) : Nat := Nat.xor (Nat.shiftRight r 1) (Nat.mul 3988292384 (Nat.mod r 2))
noncomputable def zst (k r : Nat) : Nat := Nat.rec (motive := fun _ => Nat → Nat) (fun r => r) (fun _ ih r => Nat.rec (motive := fun _ => Nat) 0 (fun n _ => ih (z1 (Nat.succ n))) r) k r
/-- k bytes 0, one by one; 0: the register has come back. -/
noncomputable def zin (k r : Nat) : Nat := Nat.rec (motive := fun _ => Nat → Nat) (fun r => r) (fun _ ih r => Nat.rec (motive := fun _ => Nat) 0 (fun n _ => cond (Nat.beq (Nat.succ n) 4294967295) 0 (ih (Nat.succ n))) (zst 8 r)) k r
noncomputable def zout (m k r : Nat) : Nat := Nat.rec (motive := fun _ => Nat → Nat) (fun r => r) (fun _ ih r => Nat.rec (motive := fun _ => Nat) 0 (fun n _ => ih (Nat.succ n)) (zin m r)) k r

theorem z1_eq (r : Nat) : z1 r = sh1 r := by
  have e : z1 r = (r >>> 1) ^^^ (poly * (r % 2)) := rfl
  rw [e, Nat.shiftRight_eq_div_pow, Nat.pow_one]
  unfold sh1
  split
  · rename_i h; rw [h, Nat.mul_one]
  · rename_i h; rw [show r % 2 = 0 by omega, Nat.mul_zero, Nat.xor_zero]
theorem shN_in (r : Nat) : ∀ k, shN k (sh1 r) = sh1 (shN k r)
  | 0 => rfl
  | k + 1 => by rw [shN, shN_in r k]; rfl
theorem shN_zero : ∀ k, shN k 0 = 0
  | 0 => rfl
  | k + 1 => by rw [shN, shN_zero k]; rfl
theorem zst_eq : ∀ (k r : Nat), zst k r = shN k r
  | 0, r => rfl
  | k + 1, 0 => by rw [shN_zero]; rfl
  | k + 1, n + 1 => by
    have e : zst (k + 1) (n + 1) = zst k (z1 (n + 1)) := rfl
    rw [e, z1_eq, zst_eq k, shN_in]
    rfl

/-- The register behind j bytes 0. -/
def zreg (j r : Nat) : Nat := crcTo r (List.replicate j 0)
theorem zreg_succ (j r : Nat) : zreg (j + 1) r = zreg j (sh8 r) := by simp [zreg, crcTo, List.replicate_succ]
theorem zreg_add (i : Nat) : ∀ (j r : Nat), zreg (i + j) r = zreg i (zreg j r)
  | 0, r => rfl
  | j + 1, r => by rw [← Nat.add_assoc, zreg_succ, zreg_succ, zreg_add i j]

theorem zin_step (k r : Nat) (h : zin (k + 1) r ≠ 0) : sh8 r ≠ 4294967295 ∧ zin (k + 1) r = zin k (sh8 r) := by
  have e : zin (k + 1) r = Nat.rec (motive := fun _ => Nat) 0 (fun n _ => cond (Nat.beq (Nat.succ n) 4294967295) 0 (zin k (Nat.succ n))) (zst 8 r) := rfl
  rw [zst_eq] at e
  have e2 : shN 8 r = sh8 r := rfl
  rw [e2] at e
  rw [e] at h ⊢
  cases hs : sh8 r with
  | zero => rw [hs] at h; exact absurd rfl h
  | succ n =>
    rw [hs] at h
    have e3 : (Nat.rec (motive := fun _ => Nat) 0 (fun n _ => cond (Nat.beq (Nat.succ n) 4294967295) 0 (zin k (Nat.succ n))) (n + 1) : Nat) = cond (Nat.beq (n + 1) 4294967295) 0 (zin k (n + 1)) := rfl
    rw [e3] at h ⊢
    cases hb : Nat.beq (n + 1) 4294967295 with
    | true => rw [hb] at h; exact absurd rfl h
    | false => exact ⟨Nat.ne_of_beq_eq_false hb, rfl⟩
theorem zin_all : ∀ (k r : Nat), zin k r ≠ 0 → zin k r = zreg k r ∧ ∀ j, 1 ≤ j → j ≤ k → zreg j r ≠ 4294967295
  | 0, r, h => ⟨rfl, fun j h1 h2 => by omega⟩
  | k + 1, r, h => by
    obtain ⟨h1, h2⟩ := zin_step k r h
    rw [h2] at h ⊢
    obtain ⟨h3, h4⟩ := zin_all k (sh8 r) h
    refine ⟨by rw [h3, zreg_succ], fun j hj1 hj2 => ?_⟩
    obtain ⟨i, rfl⟩ : ∃ i, j = i + 1 := ⟨j - 1, by omega⟩
    rw [zreg_succ]
    by_cases e : i = 0
    · subst e; exact h1
    · exact h4 i (by omega) (by omega)
theorem zout_all (m : Nat) : ∀ (k r : Nat), zout m k r ≠ 0 → ∀ j, 1 ≤ j → j ≤ m * k → zreg j r ≠ 4294967295
  | 0, r, h => fun j h1 h2 => by omega
  | k + 1, r, h => by
    have e : zout m (k + 1) r = Nat.rec (motive := fun _ => Nat) 0 (fun n _ => zout m k (Nat.succ n)) (zin m r) := rfl
    rw [e] at h
    have h0 : zin m r ≠ 0 := fun h0 => by rw [h0] at h; exact h rfl
    obtain ⟨h1, h2⟩ := zin_all m r h0
    obtain ⟨n, hn⟩ : ∃ n, zin m r = n + 1 := ⟨zin m r - 1, by omega⟩
    rw [hn] at h
    have h3 := zout_all m k (n + 1) h
    intro j hj1 hj2
    by_cases hj : j ≤ m
    · exact h2 j hj1 hj
    · have e2 : j = (j - m) + m := by omega
      rw [e2, zreg_add, ← h1, hn]
      exact h3 (j - m) (by omega) (by rw [Nat.mul_succ] at hj2; omega)

theorem reckoned : Nat.beq (zout 256 256 4294967295) 0 = false := by kernel_rfl
theorem zreg_ne (j : Nat) (h1 : 1 ≤ j) (h2 : j ≤ 65536) : zreg j 4294967295 ≠ 4294967295 :=
  zout_all 256 256 4294967295 (Nat.ne_of_beq_eq_false reckoned) j h1 (by omega)
theorem unbox_zeros (n : Nat) : unbox (List.replicate n 0) = none := by
  unfold unbox
  by_cases h : n < 6 ∨ 65536 < n
  · rw [if_pos (by simpa using h)]
  · rw [if_neg (by simpa using h), if_pos]
    have e1 : (List.replicate n (0 : UInt8)).take 4 = List.replicate 4 0 := by rw [List.take_replicate, Nat.min_eq_left (by omega)]
    rw [e1, List.drop_replicate]
    have e2 : val (List.replicate 4 0) = 0 := rfl
    rw [e2]
    unfold crc
    have h3 := zreg_ne (n - 4) (by omega) (by omega)
    have h4 := crcTo_lt (List.replicate (n - 4) 0) 4294967295 (by decide)
    unfold zreg at h3
    omega
end Go.Proofs.YtfnedeaemjchgaaGreat

/- Plain facts on a row's sector: what stands in it, and what a sector says. Nothing of the program is named here. -/
import Derived.Test.YtfnedeaemjchgaaGreatM3
namespace Go.Proofs.YtfnedeaemjchgaaGreat

/-- What stands in a row's sector, and the sector. -/
def inRow (n : Int) (r : List UInt8) : List UInt8 := num n ++ rowB r
def rowSec (n : Int) (r : List UInt8) : List UInt8 := boxOf 512 (inRow n r)
theorem inRow_len {n : Int} {r : List UInt8} (h0 : -9223372036854775808 ≤ n) (h1 : n ≤ 9223372036854775807) (hr : r.length ≤ 480) : (inRow n r).length ≤ 506 := by
  have a := num_ten h0 h1
  have b : (num (r.length : Int)).length ≤ 2 := by
    refine dig_le 1 _ ?_
    unfold turnN
    rw [if_neg (by omega)]
    omega
  simp only [inRow, rowB, List.length_append]
  omega
theorem rowSec_length {n : Int} {r : List UInt8} (h0 : -9223372036854775808 ≤ n) (h1 : n ≤ 9223372036854775807) (hr : r.length ≤ 480) : (rowSec n r).length = 512 :=
  boxOf_length (by omega) (by have := inRow_len h0 h1 hr; omega)
/-- The number and the row of a row's sector. -/
def numb (l : List UInt8) : Option (Int × List UInt8) := match unbox l with
  | none => none
  | some d => match takeN d with
    | none => none
    | some (n, k) => if n < 1 ∨ 4611686018427387904 < n then none else match takeR (d.drop k) with
      | none => none
      | some (r, rest) => if 480 < r.length ∨ 0 < rest.length then none else some (n, r)
theorem numb_row {n : Int} {r : List UInt8} (h1 : 1 ≤ n) (h2 : n ≤ 4611686018427387904) (hr : r.length ≤ 480) : numb (rowSec n r) = some (n, r) := by
  have hl := inRow_len (n := n) (r := r) (by omega) (by omega) hr
  unfold numb rowSec
  rw [unbox_box (by omega) (by omega) (by omega)]
  simp only [inRow]
  rw [takeN_num (by omega) (by omega)]
  simp only
  rw [if_neg (by omega), List.drop_left]
  have h3 := takeR_row r [] (by omega)
  rw [List.append_nil] at h3
  rw [h3]
  simp only [List.length_nil]
  rw [if_neg (by omega)]
theorem numb_zeros (n : Nat) : numb (List.replicate n 0) = none := by
  unfold numb
  rw [unbox_zeros]
theorem numb_inv {l : List UInt8} {n : Int} {r : List UInt8} (h : numb l = some (n, r)) : 1 ≤ n ∧ n ≤ 4611686018427387904 ∧ r.length ≤ 480 := by
  unfold numb at h
  split at h
  · cases h
  split at h
  · cases h
  split at h
  · cases h
  split at h
  · cases h
  split at h
  · cases h
  rename_i h1 _ _ _ _ h2
  cases h
  omega
/-- What the sector whose place has this rest says. -/
def says (l : List UInt8) (turn : Int) : Option (Int × List UInt8) := match numb l with
  | none => none
  | some (n, r) => if n % 2 = turn then some (n, r) else none
theorem says_row {n : Int} {r : List UInt8} (h1 : 1 ≤ n) (h2 : n ≤ 4611686018427387904) (hr : r.length ≤ 480) : says (rowSec n r) (n % 2) = some (n, r) := by
  unfold says
  rw [numb_row h1 h2 hr]
  simp
theorem says_zeros (n : Nat) (t : Int) : says (List.replicate n 0) t = none := by
  unfold says
  rw [numb_zeros]
theorem says_inv {l : List UInt8} {t n : Int} {r : List UInt8} (h : says l t = some (n, r)) : 1 ≤ n ∧ n ≤ 4611686018427387904 ∧ r.length ≤ 480 ∧ n % 2 = t := by
  unfold says at h
  split at h
  · cases h
  · rename_i heq
    split at h
    · cases h
      have := numb_inv heq
      omega
    · cases h
/-- Of two sectors the one with the greater number. -/
def best (x y : Option (Int × List UInt8)) : Option (Int × List UInt8) := match x, y with
  | none, y => y
  | x, none => x
  | some p, some q => if p.1 < q.1 then some q else some p
end Go.Proofs.YtfnedeaemjchgaaGreat

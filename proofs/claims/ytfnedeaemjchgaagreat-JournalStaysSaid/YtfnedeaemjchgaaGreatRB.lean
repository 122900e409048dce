/- The document's own answer for wire: boxes. -/
import Derived.Test.YtfnedeaemjchgaaGreatN9
import Derived.Test.YtfnedeaemjchgaaGreatLw
namespace Go.Proofs.YtfnedeaemjchgaaGreat
open Go.RowKit Go.Maps
set_option linter.unusedSimpArgs false
set_option linter.unusedVariables false

def rest (l : Sec) (k : Nat) : Sec := be2 l.length ++ l ++ List.replicate k 0
theorem rest_length (l : Sec) (k : Nat) : (rest l k).length = 2 + l.length + k := by simp [rest, be2]; omega
theorem rest_succ (l : Sec) (k : Nat) : rest l k ++ [0] = rest l (k + 1) := by simp [rest, List.replicate_succ']
theorem rest_all (size : Nat) (l : Sec) : rest l (size - 6 - l.length) = body size l := rfl
theorem enc_be2 (n : Nat) (h : n < 65536) : (#[.int .u8 ((n : Int) / 256), .int .u8 ((n : Int) % 256)] : Array Value) = enc (be2 n) := by
  have e1 : (n : Int) / 256 = (((UInt8.ofNat (n / 256)).toNat : Nat) : Int) := by rw [u8_ofNat (by omega)]; omega
  have e2 : (n : Int) % 256 = (((UInt8.ofNat n).toNat : Nat) : Int) := by rw [UInt8.toNat_ofNat']; omega
  rw [e1, e2]
  rfl
theorem enc_be4 (n : Nat) (h : n < 4294967296) : (#[.int .u8 ((n : Int) / 16777216), .int .u8 ((n : Int) / 65536 % 256), .int .u8 ((n : Int) / 256 % 256), .int .u8 ((n : Int) % 256)] : Array Value) = enc (be4 n) := by
  have e1 : (n : Int) / 16777216 = (((UInt8.ofNat (n / 16777216)).toNat : Nat) : Int) := by rw [UInt8.toNat_ofNat']; omega
  have e2 : (n : Int) / 65536 % 256 = (((UInt8.ofNat (n / 65536)).toNat : Nat) : Int) := by rw [UInt8.toNat_ofNat']; omega
  have e3 : (n : Int) / 256 % 256 = (((UInt8.ofNat (n / 256)).toNat : Nat) : Int) := by rw [UInt8.toNat_ofNat']; omega
  have e4 : (n : Int) % 256 = (((UInt8.ofNat n).toNat : Nat) : Int) := by rw [UInt8.toNat_ofNat']; omega
  rw [e1, e2, e3, e4]
  rfl
def sLen : Value → Nat
  | .slice _ n _ => n
  | _ => 0
end Go.Proofs.YtfnedeaemjchgaaGreat

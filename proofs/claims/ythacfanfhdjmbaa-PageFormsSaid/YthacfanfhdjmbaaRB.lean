/- The document's own answer for wire: boxes. -/
import Derived.Test.YthacfanfhdjmbaaN9
import Derived.Test.YthacfanfhdjmbaaLw
namespace Go.Proofs.Ythacfanfhdjmbaa
open Go.RowKit Go.Maps
set_option linter.unusedSimpArgs false
set_option linter.unusedVariables false

set_option maxRecDepth 100000 in
theorem RBox_range (size : Int) (v : Value) (w : World) (h : size < 6 ∨ 65536 < size) :
    Calls Try.prog 33 #[.int .i64 size, v] w fun e w' => e = .returned (.tuple #[.slice none 0 0, .int .i64 1]) ∧ w = w' := by
  by_cases h0 : size < 6
  · clear h
    go_enter Try.func33, Try.ntmps33
    go_wp2_with fail
    go_ret2
    exact ⟨rfl, rfl⟩
  · have h1 : 65536 < size := by omega
    clear h
    go_enter Try.func33, Try.ntmps33
    go_wp2_with fail
    go_ret2
    exact ⟨rfl, rfl⟩
set_option maxRecDepth 100000 in
theorem RBox_form (size : Nat) (v : Value) (l : Sec) (w : World) (h6 : 6 ≤ size) (hs : size ≤ 65536) (h : Bytes w v l) (hbig : size - 6 < l.length) (hl : l.length ≤ 4611686018427387904) :
    Calls Try.prog 33 #[.int .i64 size, v] w fun e w' => e = .returned (.tuple #[.slice none 0 0, .int .i64 2]) ∧ w = w' := by
  have n0 : ¬ (size : Int) < 6 := by omega
  have n1 : ¬ (65536 : Int) < (size : Int) := by omega
  have n2 : (size : Int) - 6 < (l.length : Int) := by omega
  obtain ⟨va, vc, rfl, -⟩ := id h
  clear h
  go_enter Try.func33, Try.ntmps33
  go_wp2_with fail
  go_ret2
  exact ⟨rfl, rfl⟩
def rest (l : Sec) (k : Nat) : Sec := be2 l.length ++ l ++ List.replicate k 0
theorem rest_length (l : Sec) (k : Nat) : (rest l k).length = 2 + l.length + k := by simp [rest, be2]; omega
theorem rest_succ (l : Sec) (k : Nat) : rest l k ++ [0] = rest l (k + 1) := by simp [rest, List.replicate_succ']
theorem rest_all (size : Nat) (l : Sec) : rest l (size - 6 - l.length) = body size l := rfl
theorem enc_be2 (n : Nat) (h : n < 65536) : (#[.int .u8 ((n : Int) / 256), .int .u8 ((n : Int) % 256)] : Array Value) = enc (be2 n) := by
  have e1 : (n : Int) / 256 = (((UInt8.ofNat (n / 256)).toNat : Nat) : Int) := by rw [u8_ofNat (by omega)]; omega
  have e2 : (n : Int) % 256 = (((UInt8.ofNat n).toNat : Nat) : Int) := by rw [UInt8.toNat_ofNat']; omega
  rw [e1, e2]
  rfl
theorem enc_be4 (n : Nat) (h : n < 4294967296) : (#[.int .u8 ((n : Int) / 16777216), .int .u8 ((n : Int) / 65536 % 256), .int .u8 ((n : Int) / 256 % 256), .int .u8 ((n : Int) % 256)] : Array Value) = enc (be4 n) := by
  have e1 : (n : Int) / 16777216 = (((UInt8.ofNat (n / 16777216)).toNat : Nat) : Int) := by rw [UInt8.toNat_ofNat']; omega
  have e2 : (n : Int) / 65536 % 256 = (((UInt8.ofNat (n / 65536)).toNat : Nat) : Int) := by rw [UInt8.toNat_ofNat']; omega
  have e3 : (n : Int) / 256 % 256 = (((UInt8.ofNat (n / 256)).toNat : Nat) : Int) := by rw [UInt8.toNat_ofNat']; omega
  have e4 : (n : Int) % 256 = (((UInt8.ofNat n).toNat : Nat) : Int) := by rw [UInt8.toNat_ofNat']; omega
  rw [e1, e2, e3, e4]
  rfl
def sLen : Value → Nat
  | .slice _ n _ => n
  | _ => 0
set_option maxRecDepth 100000 in
set_option maxHeartbeats 1600000 in
theorem RBox_any (size : Nat) (v : Value) (l : Sec) (w : World) (h6 : 6 ≤ size) (hs : size ≤ 65536) (h : Bytes w v l) (hfit : l.length ≤ size - 6) :
    Calls Try.prog 33 #[.int .i64 size, v] w fun e w' => ∃ a c, e = .returned (.tuple #[.slice a size c, .int .i64 0]) ∧ Own w' w.heap.size (.slice a size c) (boxOf size l) ∧ Only [] w w' := by
  have n0 : ¬ (size : Int) < 6 := by omega
  have n1 : ¬ (65536 : Int) < (size : Int) := by omega
  have n2 : ¬ (size : Int) - 6 < (l.length : Int) := by omega
  have n3 : ¬ (65535 : Int) < (l.length : Int) := by omega
  have HV := Lib.hid h
  obtain ⟨va, vc, rfl, -⟩ := id h
  clear h
  have HE := Lib.hid (enc_be2 l.length (by omega))
  go_enter Try.func33, Try.ntmps33
  go_wp2_with (
    refine wpList_append_any rfl (.tmp 33) (.tmp 34) rfl w.heap.size _ (be2 l.length) (by rfl) (Own.made w (be2 l.length) _ HE.out (Nat.le_refl _) (by simp [be2]; unfold maxLen; omega)) _ l (by rfl) (HV.out.kept ((Only.refl [] w).alloc _) (clean_nil _)) (2 + l.length) (by simp [be2]) (rest l 0) (by simp [rest]) (by omega) (by simp) ?_
    intro a1 c1 w1 hw1 e1)
  have ho1 := Ext.fresh ((Only.refl [] w).alloc _) (Own.made w (be2 l.length) _ HE.out (Nat.le_refl _) (by simp [be2]; unfold maxLen; omega)) (Nat.le_refl _) e1
  clear e1 n0 n1 n2 n3
  go_loopw [6] (fun v wr => ∃ (k : Nat) (a : Option Addr) (c : Nat), k ≤ size - 6 - l.length ∧ v = .slice a (2 + l.length + k) c ∧ Own wr w.heap.size (.slice a (2 + l.length + k) c) (rest l k) ∧ Only [] w wr) (fun v _ => size - sLen v)
  case atStart => exact ⟨0, a1, c1, by omega, rfl, hw1, ho1⟩
  case round =>
    clear hw1 ho1
    obtain ⟨k, a, c, hk, rfl, hw, ho⟩ := hrel
    have HW := Lib.hid hw
    have HO := Lib.hid ho
    have hsz := ho.size
    clear hw ho
    by_cases hlt : k < size - 6 - l.length
    · have t1 : (2 : Int) + (l.length : Int) + (k : Int) < (size : Int) - 4 := by omega
      go_wp2_with (
        refine wpList_append_any rfl (.tmp 41) (.tmp 42) rfl w.heap.size _ (rest l k) (by rfl) (HW.out.quiet ((Only.refl [] wr).alloc _)) _ [0] (by rfl) (bytes_one wr 0 _ rfl) (2 + l.length + k + 1) (by rw [rest_length]; rfl) (rest l (k + 1)) (rest_succ l k) (by omega) (by simp; omega) ?_
        intro a2 c2 w2 hw2 e2)
      have hof := Ext.fresh (HO.out.trans ((Only.refl [] wr).alloc _) (by simp)) (HW.out.quiet ((Only.refl [] wr).alloc _)) (Nat.le_refl _) e2
      exact ⟨⟨k + 1, a2, c2, by omega, by simp [Nat.add_assoc], by simpa [Nat.add_assoc] using hw2, hof⟩, by simp [sLen]; omega⟩
    · have hkk : k = size - 6 - l.length := by omega
      have hlen : 2 + l.length + k = size - 4 := by omega
      have hbody : rest l k = body size l := by rw [hkk]; rfl
      rw [hlen, hbody] at HW
      rw [hlen]
      have t1 : ¬ ((size - 4 : Nat) : Int) < (size : Int) - 4 := by omega
      have hbl := body_length h6 hfit
      have hcr := crc_lt (body size l)
      have HBL := Lib.hid hbl
      generalize hss : size - 4 = sz at *
      have hsz4 : sz + 4 = size := by omega
      have HSS := Lib.hid hsz4
      clear hkk hlen hbody hbl hss hsz4 hlt hk
      go_wp2_with fail
      refine (RCheck_any _ (body size l) wr HW.out.bytes (by rw [HBL.out]; have := HSS.out; omega)).mono ?_
      rintro e w2 ⟨rfl, rfl⟩
      generalize hx : crc (body size l) = x at *
      have HX := Lib.hid (show be4 x ++ body size l = boxOf size l by rw [← hx]; rfl)
      have HE4 := Lib.hid (enc_be4 x hcr)
      have HN4 := Lib.hid (show (be4 x).length + (body size l).length = size by rw [HBL.out, ← HSS.out]; simp [be4]; omega)
      clear hx
      go_wp2_with (
        refine wpList_append_any rfl (.tmp 57) (.tmp 58) rfl w.heap.size _ (be4 x) (by rfl) (Own.made wr (be4 x) _ HE4.out hsz (by simp [be4]; unfold maxLen; omega)) _ (body size l) (by rfl) (HW.out.quiet ((Only.refl [] wr).alloc _)).bytes size HN4.out (boxOf size l) HX.out (by omega) (by simp; omega) ?_
        intro a3 c3 w3 hw3 e3)
      have hof := Ext.fresh (HO.out.trans ((Only.refl [] wr).alloc _) (by simp)) (Own.made wr (be4 x) _ HE4.out hsz (by simp [be4]; unfold maxLen; omega)) (Nat.le_refl _) e3
      go_ret2
      exact ⟨a3, c3, rfl, hw3, hof⟩
end Go.Proofs.Ythacfanfhdjmbaa

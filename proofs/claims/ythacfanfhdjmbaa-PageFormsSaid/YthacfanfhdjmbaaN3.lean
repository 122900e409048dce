/- wire: Take, Takes, TakeRow. -/
import Derived.Test.YthacfanfhdjmbaaN2
namespace Go.Proofs.Ythacfanfhdjmbaa
open Go.RowKit Go.Maps
set_option linter.unusedSimpArgs false
set_option linter.unusedVariables false

theorem takeN_none {l : Sec} (h : takeN l = none) : numV l = (0, 0) := by unfold numV; rw [h]
theorem takeN_some {l : Sec} {n : Int} {k : Nat} (h : takeN l = some (n, k)) : numV l = (n, (k : Int)) := by unfold numV; rw [h]

theorem elem_bytes : Try.prog.underlying 23 = some (.slice (Try.prog.elem 23)) := by kernel_rfl
theorem size_u8 (w : World) : (sizeOf (Try.prog.elem 23)).run Try.prog w = .ok 1 w := by kernel_rfl
/-- b[k:]. -/
theorem slice_from {w : World} {va : Option Addr} {vc : Nat} {l : Sec} (hb : Bytes w (.slice va l.length vc) l) (hf : l.length ≤ vc) (k : Nat) (hk : k ≤ l.length) (kk : IntKind) :
    ∃ b, (∀ w, (Instr.sliceAt 23 (.slice va l.length vc) (some (.int kk (k : Int))) none none).run Try.prog w = .ok (.slice b (l.length - k) (vc - k)) w) ∧ Bytes w (.slice b (l.length - k) (vc - k)) (l.drop k) := by
  refine ⟨if vc = k then va else va.map (·.add (k * 1)), fun w => ?_, ?_⟩
  · rw [run_sliceAt_slice w _ _ _ _ _ elem_bytes, run_slice_l w _ _ _ _ elem_bytes kk (k : Int) (by omega) (by omega), size_u8]
    simp [Result.andThen, sliced]
  · have e1 : l.drop k = (l.take l.length).drop k := by rw [List.take_length]
    rw [e1]
    refine hb.part k l.length _ _ (fun g off ha hlt => ?_) (Nat.le_refl _)
    rw [if_neg (by omega), ha, Option.map_some, Nat.mul_one, Addr.add_lit]
/-- b[:k]. -/
theorem slice_to {w : World} {va : Option Addr} {vc : Nat} {l : Sec} (hb : Bytes w (.slice va l.length vc) l) (hf : l.length ≤ vc) (k : Nat) (hk : k ≤ l.length) (kk : IntKind) :
    ∃ b, (∀ w, (Instr.sliceAt 23 (.slice va l.length vc) none (some (.int kk (k : Int))) none).run Try.prog w = .ok (.slice b k vc) w) ∧ Bytes w (.slice b k vc) (l.take k) := by
  refine ⟨if vc = 0 then va else va.map (·.add (0 * 1)), fun w => ?_, ?_⟩
  · rw [run_sliceAt_slice w _ _ _ _ _ elem_bytes, run_slice_h w _ _ _ _ elem_bytes kk (k : Int) (by omega) (by omega), size_u8]
    simp [Result.andThen, sliced]
  · have h := hb.part 0 k vc (if vc = 0 then va else va.map (·.add (0 * 1))) (fun g off ha hlt => by rw [if_neg (by omega), ha, Option.map_some, Nat.zero_mul, Addr.add_lit]) hk
    simpa using h

set_option maxRecDepth 100000 in
theorem Take_none (v : Value) (l : Sec) (w : World) (hv : Bytes w v l) (hl : l.length ≤ 17592186044416) (h : takeN l = none) :
    Calls Try.prog 25 #[v] w fun e w' => e = .returned (.tuple #[.int .i64 0, .slice none 0 0, err 4]) ∧ w = w' := by
  have H := Lib.hid (takeN_none h)
  clear h
  go_enter Try.func25, Try.ntmps25
  go_wp2_with fail
  refine (number_any v l w hv (by omega)).mono ?_
  rintro e w1 ⟨rfl, rfl⟩
  rw [H.out]
  go_wp2_with fail
  go_ret3
  exact ⟨rfl, rfl⟩
set_option maxRecDepth 100000 in
theorem Take_some (v : Value) (l : Sec) (w : World) (hv : Bytes w v l) (hf : Fit v) (hl : l.length ≤ 17592186044416) (n : Int) (k : Nat) (h : takeN l = some (n, k)) :
    Calls Try.prog 25 #[v] w fun e w' => ∃ a cap, e = .returned (.tuple #[.int .i64 n, .slice a (l.length - k) cap, .nilIface]) ∧ Own w' w.heap.size (.slice a (l.length - k) cap) (l.drop k) ∧ Only [] w w' := by
  have H := Lib.hid (takeN_some h)
  obtain ⟨_, hk, h1, _, _⟩ := takeN_inv h
  clear h
  have HV := Lib.hid hv
  obtain ⟨va, vc, rfl, -⟩ := id hv
  obtain ⟨hf1, hf2⟩ := hf _ _ _ rfl
  clear hv hf
  unfold maxLen at hf2
  obtain ⟨b, hs, hb⟩ := slice_from HV.out hf1 k hk .i64
  have HB := Lib.hid hb
  clear hb
  have k0 : ((k : Int) == 0) = false := by simp; omega
  go_enter Try.func25, Try.ntmps25
  go_wp2_with fail
  refine (number_any _ l w HV.out (by omega)).mono ?_
  rintro e w1 ⟨rfl, rfl⟩
  rw [H.out]
  go_wp2_with fail
  have e1 : (l.drop k).length = l.length - k := List.length_drop
  refine (clone_any _ (l.drop k) w HB.out (by omega)).mono ?_
  rw [e1]
  rintro e w1 ⟨a, cap, rfl, hw1, ho1⟩
  have HW := Lib.hid hw1
  clear hw1 e1 hs
  go_wp2_with fail
  go_ret3
  exact ⟨a, cap, rfl, HW.out, ho1⟩

theorem slice_from0 {w : World} {va : Option Addr} {vc : Nat} {l : Sec} (hb : Bytes w (.slice va l.length vc) l) (hf : l.length ≤ vc) (kk : IntKind) :
    ∃ b, (∀ w, (Instr.sliceAt 23 (.slice va l.length vc) (some (.int kk 0)) none none).run Try.prog w = .ok (.slice b l.length vc) w) := by
  obtain ⟨b, h, _⟩ := slice_from hb hf 0 (Nat.zero_le _) kk
  exact ⟨b, h⟩

/-- Two slices that lie in no block together. -/
def Sep (u v : Value) : Prop := ∀ g, u.ownBlock = some g → v.ownBlock ≠ some g
theorem Sep.symm {u v : Value} (h : Sep u v) : Sep v u := fun g h1 h2 => h g h2 h1
theorem sep_later {w w' : World} {b b' : Nat} {u v : Value} {l m : Sec} (h : Own w b u l) (k : Own w' b' v m) (hb : w.heap.size ≤ b') : Sep u v := fun g h1 h2 => by
  have q1 := (h.lt h1).2
  have q2 := (k.lt h2).1
  omega

def RowPost (w : World) (r rest : Sec) (e : Ending) (w' : World) : Prop :=
  ∃ a1 c1 a2 c2, e = .returned (.tuple #[.slice a1 r.length c1, .slice a2 rest.length c2, .nilIface]) ∧ Own w' w.heap.size (.slice a1 r.length c1) r ∧ Own w' w.heap.size (.slice a2 rest.length c2) rest ∧ Sep (.slice a1 r.length c1) (.slice a2 rest.length c2) ∧ Only [] w w'

end Go.Proofs.Ythacfanfhdjmbaa

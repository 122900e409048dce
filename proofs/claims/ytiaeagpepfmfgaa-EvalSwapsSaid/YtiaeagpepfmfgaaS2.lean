/- Arguments as they lie in memory: bytes, numbers. -/
import Derived.Test.YtiaeagpepfmfgaaL
import Derived.Test.YtiaeagpepfmfgaaB2
import Derived.Deep.Slices
import Derived.Carry
import Derived.Lib.SmallJoins
namespace Go.Proofs.Ytiaeagpepfmfgaa
open Go.ChangeShapes Go.WideShapes Go.ChangeAt Go.RowKit Go.Deep
set_option linter.unusedVariables false

section
variable {H : Type} {enc : TypeId × Value → H} {W : World} {base : Nat} {sp : Nat → Bool} {held : Bool}

theorem addr_add (a : Addr) (i : Nat) (h : a.spot = none) : a.add i = ⟨a.block, a.off + i, none⟩ := by
  unfold Addr.add
  obtain ⟨b, o, s⟩ := a
  simp only at h
  subst h
  split <;> simp_all
theorem spot_none {a : Addr} {v : Value} (h : W.cell? a = some v) : a.spot = none := by
  unfold World.cell? at h
  split at h
  · split at h
    · cases h
    · rename_i hs; simpa using hs
  · cases h

/-- The cells of a slice, one by one. -/
theorem cells_one {a : Addr} {cs' : List Value} (h : W.cells? base a 1 = some cs') : ∃ u, cs' = [u] ∧ W.cell? a = some u := by
  obtain ⟨_, hl, hat⟩ := World.cells?_some h
  match cs', hl with
  | [u], _ =>
    have := hat 0 (by omega)
    have ha0 : a.add 0 = a := by simp [Addr.add]
    rw [ha0] at this
    exact ⟨u, rfl, by simpa using this⟩

theorem cells_u8 : Try.prog.cellsOf 5 = 1 := by kernel_rfl
theorem cells_int : Try.prog.cellsOf 3 = 1 := by kernel_rfl
theorem open_byte {fuel : Nat} {u : Value} {x : DataW H × List MemPlace} (h : DataW.trod enc Try.prog W base sp held fuel 5 [u] = some x) : ∃ q : UInt8, u = .int .u8 q.toNat := by
  obtain ⟨q, hq, _, hw⟩ := DataW.trod_int Try.underlying5 h
  obtain rfl : u = .int .u8 q := by simpa using hq
  have hb : 0 ≤ q ∧ q ≤ 255 := by
    have h1 : IntKind.u8.min = 0 := by decide
    have h2 : IntKind.u8.max = 255 := by decide
    simpa [Lit.wf, h1, h2] using hw
  refine ⟨UInt8.ofNat q.toNat, ?_⟩
  rw [UInt8.toNat_ofNat']
  congr 1
  omega
theorem open_num {fuel : Nat} {u : Value} {x : DataW H × List MemPlace} (h : DataW.trod enc Try.prog W base sp held fuel 3 [u] = some x) : ∃ q : Int, u = .int .i64 q ∧ (Lit.int .i64 q).wf = true := by
  obtain ⟨q, hq, _, hw⟩ := DataW.trod_int Try.underlying3 h
  exact ⟨q, by simpa using hq, hw⟩

/-- A slice whose elements are of one cell: what lies where. -/
theorem open_row {t e : TypeId} (ht : Try.prog.underlying t = some (.slice e)) (he : Try.prog.cellsOf e = 1) {fuel : Nat} {v : Value} {x : DataW H × List MemPlace} (h : DataW.trod enc Try.prog W base sp held fuel t [v] = some x) :
    ∃ (a : Option Addr) (len cap : Nat), v = .slice a len cap ∧ (len ≤ cap ∧ cap ≤ maxLen) ∧ ∀ i, i < len → ∃ (b off : Nat) (u : Value) (n : Nat) (y : DataW H × List MemPlace), a = some ⟨b, off, none⟩ ∧ W.cell? ⟨b, off + i, none⟩ = some u ∧ DataW.trod enc Try.prog W base sp held n e [u] = some y := by
  rcases open_slice ht h with ⟨hcs, _⟩ | ⟨a, len, cap, m, n, D, Pl, hcs, _, hl, hm, hmm, _, hi⟩
  · exact ⟨none, 0, 0, by simpa using hcs, ⟨Nat.zero_le _, Nat.zero_le _⟩, fun i hi => absurd hi (Nat.not_lt_zero _)⟩
  · obtain rfl : v = .slice (some a) len cap := by simpa using hcs
    have hlm : len ≤ m := by rw [hmm]; split <;> omega
    refine ⟨some a, len, cap, rfl, ⟨hl, hm⟩, fun i hil => ?_⟩
    clear hm
    obtain ⟨cs0, hc0, _⟩ := hi 0 (by omega)
    rw [he] at hc0
    obtain ⟨u0, _, hcell0⟩ := cells_one hc0
    have hs : a.spot = none := by
      have e0 : a.add (0 * 1) = a := by simp [Addr.add]
      rw [e0] at hcell0
      exact spot_none hcell0
    obtain ⟨cs1, hc1, ht1⟩ := hi i (by omega)
    rw [he] at hc1
    obtain ⟨u, rfl, hcell⟩ := cells_one hc1
    rw [addr_add a _ hs, Nat.mul_one] at hcell
    refine ⟨a.block, a.off, u, n, _, ?_, hcell, ht1⟩
    obtain ⟨b, o, s⟩ := a
    simp only at hs
    rw [hs]

theorem open_nums {fuel : Nat} {v : Value} {x : DataW H × List MemPlace} (h : DataW.trod enc Try.prog W base sp held fuel 22 [v] = some x) : ∃ l : List Int, IntsV W v l ∧ Fit v ∧ l.length ≤ maxLen := by
  obtain ⟨a, len, cap, rfl, hlen, hi⟩ := open_row Try.underlying22 cells_int h
  have hex : ∀ i, ∃ q : Int, i < len → (Lit.int .i64 q).wf = true ∧ ∃ b off, a = some ⟨b, off, none⟩ ∧ W.cell? ⟨b, off + i, none⟩ = some (.int .i64 q) := fun i => by
    by_cases hil : i < len
    · obtain ⟨b, off, u, n, y, ha, hc, ht⟩ := hi i hil
      obtain ⟨q, rfl, hw⟩ := open_num ht
      exact ⟨q, fun _ => ⟨hw, b, off, ha, hc⟩⟩
    · exact ⟨0, fun h => absurd h hil⟩
  refine ⟨(List.range len).map fun i => (hex i).choose, ⟨a, cap, by simp, fun i c hic => ?_⟩, (fun a' n' c' e => by cases e; exact hlen), by simpa using Nat.le_trans hlen.1 hlen.2⟩
  have hil : i < len := by simpa using (List.getElem?_eq_some_iff.1 hic).1
  rw [List.getElem?_map, List.getElem?_range hil, Option.map_some] at hic
  rw [← Option.some.inj hic]
  exact (hex i).choose_spec hil


end
end Go.Proofs.Ytiaeagpepfmfgaa

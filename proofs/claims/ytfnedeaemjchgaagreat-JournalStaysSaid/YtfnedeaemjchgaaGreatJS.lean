/- Arguments of the journal's great laws as they lie in memory: scripts of calls, rows of scripts. -/
import Derived.Test.YtfnedeaemjchgaaGreatS2
import Derived.Deep.Slices
import Derived.Carry
namespace Go.Proofs.YtfnedeaemjchgaaGreat
open Go.ChangeShapes Go.WideShapes Go.ChangeAt Go.RowKit Go.Deep Go.Maps
set_option linter.unusedSimpArgs false
set_option linter.unusedVariables false

/-- One of a script's calls. -/
structure Op4R where
  kind : Int
  recd : Sec
  n : Int
  keep : List Int
/-- Its four cells. -/
def Op4R.Cells (o : Op4R) (w : World) (b off : Nat) : Prop := ∃ bv kv, w.cell? ⟨b, off, none⟩ = some (.int .i64 o.kind) ∧ w.cell? ⟨b, off + 1, none⟩ = some bv ∧ w.cell? ⟨b, off + 2, none⟩ = some (.int .i64 o.n) ∧ w.cell? ⟨b, off + 3, none⟩ = some kv ∧
  Bytes w bv o.recd ∧ Fit bv ∧ IntsV w kv o.keep ∧ (Lit.int .i64 o.kind).wf = true ∧ (Lit.int .i64 o.n).wf = true ∧ o.recd.length ≤ maxLen ∧ o.keep.length ≤ maxLen
/-- v is a slice of calls. -/
def Script4 (w : World) (v : Value) (os : List Op4R) : Prop :=
  ∃ (a : Option Addr) (cap : Nat), v = .slice a os.length cap ∧ ∀ (i : Nat) (o : Op4R), os[i]? = some o → ∃ b off, a = some ⟨b, off, none⟩ ∧ o.Cells w b (off + i * 4)
theorem Op4R.Cells.kept {o : Op4R} {w w' : World} {b off : Nat} (h : o.Cells w b off) (ho : Only [] w w') : o.Cells w' b off := by
  obtain ⟨bv, kv, c0, c1, c2, c3, hb, hf, hk, r⟩ := h
  have q := fun (ad : Addr) (u : Value) (h : w.cell? ad = some u) => cell_kept ho h (by simp)
  exact ⟨bv, kv, q _ _ c0, q _ _ c1, q _ _ c2, q _ _ c3, hb.kept ho (clean_nil _), hf, hk.kept ho (fun _ _ _ _ _ => by simp), r⟩
theorem Script4.kept {w w' : World} {v : Value} {os : List Op4R} (h : Script4 w v os) (ho : Only [] w w') : Script4 w' v os := by
  obtain ⟨a, cap, hv, hc⟩ := h
  refine ⟨a, cap, hv, fun i o hi => ?_⟩
  obtain ⟨b, off, ha, hcells⟩ := hc i o hi
  exact ⟨b, off, ha, hcells.kept ho⟩
/-- v is a slice of scripts. -/
def Scripts4 (w : World) (v : Value) (ss : List (List Op4R)) : Prop :=
  ∃ (a : Option Addr) (cap : Nat), v = .slice a ss.length cap ∧ ∀ i os, ss[i]? = some os → ∃ b off sv, a = some ⟨b, off, none⟩ ∧ w.cell? ⟨b, off + i, none⟩ = some sv ∧ Script4 w sv os ∧ os.length ≤ maxLen
theorem Scripts4.kept {w w' : World} {v : Value} {ss : List (List Op4R)} (h : Scripts4 w v ss) (ho : Only [] w w') : Scripts4 w' v ss := by
  obtain ⟨a, cap, hv, hc⟩ := h
  refine ⟨a, cap, hv, fun i o hi => ?_⟩
  obtain ⟨b, off, sv, ha, hcell, hs, hl⟩ := hc i o hi
  exact ⟨b, off, sv, ha, cell_kept ho hcell (by simp), hs.kept ho, hl⟩
theorem four_of {α : Type} (l : List α) (h : l.length = 4) : ∃ a b c d, l = [a, b, c, d] := by
  match l, h with
  | [a, b, c, d], _ => exact ⟨a, b, c, d, rfl⟩
section
variable {H : Type} {enc : TypeId × Value → H} {W : World} {base : Nat} {sp : Nat → Bool} {held : Bool}
theorem cells_Op4 : Tryz.prog.cellsOf 30 = 4 := by kernel_rfl
theorem cells_bytes4 : Tryz.prog.cellsOf 27 = 1 := by kernel_rfl
theorem cells_ints4 : Tryz.prog.cellsOf 28 = 1 := by kernel_rfl
theorem cells_ops4 : Tryz.prog.cellsOf 22 = 1 := by kernel_rfl
theorem open_call4 {fuel : Nat} {cs : List Value} {x : DataW H × List MemPlace} (h : DataW.trod enc Tryz.prog W base sp held fuel 30 cs = some x) :
    ∃ (o : Op4R) (bv kv : Value), cs = [.int .i64 o.kind, bv, .int .i64 o.n, kv] ∧ Bytes W bv o.recd ∧ Fit bv ∧ IntsV W kv o.keep ∧ (Lit.int .i64 o.kind).wf = true ∧ (Lit.int .i64 o.n).wf = true ∧ o.recd.length ≤ maxLen ∧ o.keep.length ≤ maxLen := by
  obtain ⟨xs, n, _, _, hl, hx, hf⟩ := DataW.trod_struct Tryz.underlying30 h
  rw [cells_Op4] at hl
  have hx4 : xs.length = 4 := hx
  obtain ⟨v0, v1, v2, v3, rfl⟩ := four_of cs hl
  obtain ⟨y0, y1, y2, y3, rfl⟩ := four_of xs hx4
  have f0 : DataW.trod enc Tryz.prog W base sp held n 3 (List.take (Tryz.prog.cellsOf 3) (List.drop 0 [v0, v1, v2, v3])) = some y0 := hf 0 _ rfl
  have f1 : DataW.trod enc Tryz.prog W base sp held n 27 (List.take (Tryz.prog.cellsOf 27) (List.drop 1 [v0, v1, v2, v3])) = some y1 := hf 1 _ rfl
  have f2 : DataW.trod enc Tryz.prog W base sp held n 3 (List.take (Tryz.prog.cellsOf 3) (List.drop 2 [v0, v1, v2, v3])) = some y2 := hf 2 _ rfl
  have f3 : DataW.trod enc Tryz.prog W base sp held n 28 (List.take (Tryz.prog.cellsOf 28) (List.drop 3 [v0, v1, v2, v3])) = some y3 := hf 3 _ rfl
  rw [cells_int] at f0 f2
  rw [cells_bytes4] at f1
  rw [cells_ints4] at f3
  obtain ⟨k, rfl, w0⟩ := open_num (u := v0) (x := y0) f0
  obtain ⟨l, hb, hfit, hbl⟩ := open_bytes (v := v1) (x := y1) f1
  obtain ⟨q, rfl, w2⟩ := open_num (u := v2) (x := y2) f2
  obtain ⟨ks, hk, _, hkl⟩ := open_nums (v := v3) (x := y3) f3
  exact ⟨⟨k, l, q, ks⟩, v1, v3, rfl, hb, hfit, hk, w0, w2, hbl, hkl⟩
theorem open_script4 {fuel : Nat} {v : Value} {x : DataW H × List MemPlace} (h : DataW.trod enc Tryz.prog W base sp held fuel 22 [v] = some x) : ∃ os : List Op4R, Script4 W v os ∧ os.length ≤ maxLen := by
  rcases open_slice Tryz.underlying22 h with ⟨hcs, _⟩ | ⟨a, len, cap, m, n, D, Pl, hcs, _, hl, hm, hmm, _, hi⟩
  · exact ⟨[], ⟨none, 0, by simpa using hcs, fun i o hio => by simp at hio⟩, Nat.zero_le _⟩
  · obtain rfl : v = .slice (some a) len cap := by simpa using hcs
    have hlm : len ≤ m := by rw [hmm]; split <;> omega
    have hlen := Nat.le_trans hl hm
    clear hm
    rw [cells_Op4] at hi
    have hex : ∀ i, ∃ o : Op4R, i < len → ∃ b off, some a = some (⟨b, off, none⟩ : Addr) ∧ o.Cells W b (off + i * 4) := fun i => by
      by_cases hil : i < len
      · obtain ⟨cs0, hc0, _⟩ := hi 0 (by omega)
        obtain ⟨_, _, hat0⟩ := World.cells?_some hc0
        obtain ⟨cs1, hc1, ht1⟩ := hi i (by omega)
        obtain ⟨_, hl1, hat1⟩ := World.cells?_some hc1
        obtain ⟨o, bv, kv, rfl, r⟩ := open_call4 ht1
        have hs : a.spot = none := by
          obtain ⟨_, hlen0, _⟩ := World.cells?_some hc0
          have h0 := hat0 0 (by omega)
          have e0 : (a.add (0 * 4)).add 0 = a := by simp [Addr.add]
          rw [e0, List.getElem?_eq_getElem (by omega)] at h0
          exact spot_none h0
        have hadd : ∀ j, (a.add (i * 4)).add j = ⟨a.block, a.off + i * 4 + j, none⟩ := fun j => by
          rw [addr_add a _ hs, addr_add _ _ rfl]
        have g := fun j (hj : j < 4) => hat1 j hj
        simp only [hadd] at g
        refine ⟨o, fun _ => ⟨a.block, a.off, ?_, bv, kv, g 0 (by omega), g 1 (by omega), g 2 (by omega), g 3 (by omega), r⟩⟩
        obtain ⟨b, o', s⟩ := a
        simp only at hs
        rw [hs]
      · exact ⟨⟨0, [], 0, []⟩, fun h => absurd h hil⟩
    refine ⟨(List.range len).map fun i => (hex i).choose, ⟨some a, cap, by simp, fun i o hio => ?_⟩, by simpa using hlen⟩
    have hil : i < len := by simpa using (List.getElem?_eq_some_iff.1 hio).1
    rw [List.getElem?_map, List.getElem?_range hil, Option.map_some] at hio
    rw [← Option.some.inj hio]
    exact (hex i).choose_spec hil
theorem open_scripts4 {fuel : Nat} {v : Value} {x : DataW H × List MemPlace} (h : DataW.trod enc Tryz.prog W base sp held fuel 33 [v] = some x) : ∃ ss : List (List Op4R), Scripts4 W v ss ∧ ss.length ≤ maxLen := by
  rcases open_slice Tryz.underlying33 h with ⟨hcs, _⟩ | ⟨a, len, cap, m, n, D, Pl, hcs, _, hl, hm, hmm, _, hi⟩
  · exact ⟨[], ⟨none, 0, by simpa using hcs, fun i o hio => by simp at hio⟩, Nat.zero_le _⟩
  · obtain rfl : v = .slice (some a) len cap := by simpa using hcs
    have hlm : len ≤ m := by rw [hmm]; split <;> omega
    have hlen := Nat.le_trans hl hm
    clear hm
    rw [cells_ops4] at hi
    have hex : ∀ i, ∃ os : List Op4R, i < len → ∃ b off sv, some a = some (⟨b, off, none⟩ : Addr) ∧ W.cell? ⟨b, off + i, none⟩ = some sv ∧ Script4 W sv os ∧ os.length ≤ maxLen := fun i => by
      by_cases hil : i < len
      · obtain ⟨cs0, hc0, _⟩ := hi 0 (by omega)
        obtain ⟨u0, _, hu0⟩ := cells_one hc0
        obtain ⟨cs1, hc1, ht1⟩ := hi i (by omega)
        obtain ⟨u1, rfl, hu1⟩ := cells_one hc1
        obtain ⟨os, hos, hol⟩ := open_script4 ht1
        have hs : a.spot = none := by
          have e0 : a.add (0 * 1) = a := by simp [Addr.add]
          rw [e0] at hu0
          exact spot_none hu0
        rw [addr_add a _ hs, Nat.mul_one] at hu1
        refine ⟨os, fun _ => ⟨a.block, a.off, u1, ?_, hu1, hos, hol⟩⟩
        obtain ⟨b, o', s⟩ := a
        simp only at hs
        rw [hs]
      · exact ⟨[], fun h => absurd h hil⟩
    refine ⟨(List.range len).map fun i => (hex i).choose, ⟨some a, cap, by simp, fun i o hio => ?_⟩, by simpa using hlen⟩
    have hil : i < len := by simpa using (List.getElem?_eq_some_iff.1 hio).1
    rw [List.getElem?_map, List.getElem?_range hil, Option.map_some] at hio
    rw [← Option.some.inj hio]
    exact (hex i).choose_spec hil
end
end Go.Proofs.YtfnedeaemjchgaaGreat

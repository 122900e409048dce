/- Arguments as they lie in memory: bytes, numbers, scripts of calls. -/
import Derived.Test.YtchljhjngnbclaaD8
import Derived.Test.YtchljhjngnbclaaL
import Derived.Deep.Slices
import Derived.Carry
namespace Go.Proofs.Ytchljhjngnbclaa
open Go.ChangeShapes Go.WideShapes Go.ChangeAt Go.RowKit Go.Deep

/-- One of a script's calls. -/
structure OpR where
  kind : Int
  at_ : Int
  n : Int
  bytes : Sec
  keep : List Int

/-- v is a slice of calls. -/
def Script (w : World) (v : Value) (os : List OpR) : Prop :=
  ∃ (a : Option Addr) (cap : Nat), v = .slice a os.length cap ∧ ∀ i o, os[i]? = some o → ∃ b off bv kv, a = some ⟨b, off, none⟩ ∧
    w.cell? ⟨b, off + i * 5, none⟩ = some (.int .i64 o.kind) ∧ w.cell? ⟨b, off + i * 5 + 1, none⟩ = some (.int .i64 o.at_) ∧ w.cell? ⟨b, off + i * 5 + 2, none⟩ = some (.int .i64 o.n) ∧
    w.cell? ⟨b, off + i * 5 + 3, none⟩ = some bv ∧ w.cell? ⟨b, off + i * 5 + 4, none⟩ = some kv ∧ Bytes w bv o.bytes ∧ IntsV w kv o.keep ∧ (Lit.int .i64 o.kind).wf = true ∧ (Lit.int .i64 o.at_).wf = true ∧ (Lit.int .i64 o.n).wf = true ∧ o.bytes.length ≤ maxLen ∧ o.keep.length ≤ maxLen

theorem Script.kept {w w' : World} {v : Value} {os : List OpR} (h : Script w v os) (ho : Only [] w w') : Script w' v os := by
  obtain ⟨a, cap, hv, hc⟩ := h
  refine ⟨a, cap, hv, fun i o hi => ?_⟩
  obtain ⟨b, off, bv, kv, ha, c0, c1, c2, c3, c4, hb, hk, r⟩ := hc i o hi
  have q := fun (ad : Addr) (u : Value) (h : w.cell? ad = some u) => cell_kept ho h (by simp)
  exact ⟨b, off, bv, kv, ha, q _ _ c0, q _ _ c1, q _ _ c2, q _ _ c3, q _ _ c4, hb.kept ho (clean_nil _), hk.kept ho (fun _ _ _ _ _ => by simp), r⟩

section
variable {H : Type} {enc : TypeId × Value → H} {W : World} {base : Nat} {sp : Nat → Bool} {held : Bool}

theorem addr_add (a : Addr) (i : Nat) (h : a.spot = none) : a.add i = ⟨a.block, a.off + i, none⟩ := by
  unfold Addr.add
  obtain ⟨b, o, s⟩ := a
  simp only at h
  subst h
  split <;> simp_all
theorem spot_none {a : Addr} {v : Value} (h : W.cell? a = some v) : a.spot = none := by
  unfold World.cell? at h
  split at h
  · split at h
    · cases h
    · rename_i hs; simpa using hs
  · cases h

/-- The cells of a slice, one by one. -/
theorem cells_one {a : Addr} {cs' : List Value} (h : W.cells? base a 1 = some cs') : ∃ u, cs' = [u] ∧ W.cell? a = some u := by
  obtain ⟨_, hl, hat⟩ := World.cells?_some h
  match cs', hl with
  | [u], _ =>
    have := hat 0 (by omega)
    have ha0 : a.add 0 = a := by simp [Addr.add]
    rw [ha0] at this
    exact ⟨u, rfl, by simpa using this⟩

theorem cells_u8 : Try.prog.cellsOf 5 = 1 := by kernel_rfl
theorem cells_int : Try.prog.cellsOf 3 = 1 := by kernel_rfl
theorem open_byte {fuel : Nat} {u : Value} {x : DataW H × List MemPlace} (h : DataW.trod enc Try.prog W base sp held fuel 5 [u] = some x) : ∃ q : UInt8, u = .int .u8 q.toNat := by
  obtain ⟨q, hq, _, hw⟩ := DataW.trod_int Try.underlying5 h
  obtain rfl : u = .int .u8 q := by simpa using hq
  have hb : 0 ≤ q ∧ q ≤ 255 := by
    have h1 : IntKind.u8.min = 0 := by decide
    have h2 : IntKind.u8.max = 255 := by decide
    simpa [Lit.wf, h1, h2] using hw
  refine ⟨UInt8.ofNat q.toNat, ?_⟩
  rw [UInt8.toNat_ofNat']
  congr 1
  omega
theorem open_num {fuel : Nat} {u : Value} {x : DataW H × List MemPlace} (h : DataW.trod enc Try.prog W base sp held fuel 3 [u] = some x) : ∃ q : Int, u = .int .i64 q ∧ (Lit.int .i64 q).wf = true := by
  obtain ⟨q, hq, _, hw⟩ := DataW.trod_int Try.underlying3 h
  exact ⟨q, by simpa using hq, hw⟩

/-- A slice whose elements are of one cell: what lies where. -/
theorem open_row {t e : TypeId} (ht : Try.prog.underlying t = some (.slice e)) (he : Try.prog.cellsOf e = 1) {fuel : Nat} {v : Value} {x : DataW H × List MemPlace} (h : DataW.trod enc Try.prog W base sp held fuel t [v] = some x) :
    ∃ (a : Option Addr) (len cap : Nat), v = .slice a len cap ∧ len ≤ maxLen ∧ ∀ i, i < len → ∃ (b off : Nat) (u : Value) (n : Nat) (y : DataW H × List MemPlace), a = some ⟨b, off, none⟩ ∧ W.cell? ⟨b, off + i, none⟩ = some u ∧ DataW.trod enc Try.prog W base sp held n e [u] = some y := by
  rcases open_slice ht h with ⟨hcs, _⟩ | ⟨a, len, cap, m, n, D, Pl, hcs, _, hl, hm, hmm, _, hi⟩
  · exact ⟨none, 0, 0, by simpa using hcs, Nat.zero_le _, fun i hi => absurd hi (Nat.not_lt_zero _)⟩
  · obtain rfl : v = .slice (some a) len cap := by simpa using hcs
    have hlm : len ≤ m := by rw [hmm]; split <;> omega
    refine ⟨some a, len, cap, rfl, Nat.le_trans hl hm, fun i hil => ?_⟩
    clear hm
    obtain ⟨cs0, hc0, _⟩ := hi 0 (by omega)
    rw [he] at hc0
    obtain ⟨u0, _, hcell0⟩ := cells_one hc0
    have hs : a.spot = none := by
      have e0 : a.add (0 * 1) = a := by simp [Addr.add]
      rw [e0] at hcell0
      exact spot_none hcell0
    obtain ⟨cs1, hc1, ht1⟩ := hi i (by omega)
    rw [he] at hc1
    obtain ⟨u, rfl, hcell⟩ := cells_one hc1
    rw [addr_add a _ hs, Nat.mul_one] at hcell
    refine ⟨a.block, a.off, u, n, _, ?_, hcell, ht1⟩
    obtain ⟨b, o, s⟩ := a
    simp only at hs
    rw [hs]

theorem open_bytes {fuel : Nat} {v : Value} {x : DataW H × List MemPlace} (h : DataW.trod enc Try.prog W base sp held fuel 34 [v] = some x) : ∃ l : Sec, Bytes W v l ∧ l.length ≤ maxLen := by
  obtain ⟨a, len, cap, rfl, hlen, hi⟩ := open_row Try.underlying34 cells_u8 h
  have hex : ∀ i, ∃ q : UInt8, i < len → ∃ b off, a = some ⟨b, off, none⟩ ∧ W.cell? ⟨b, off + i, none⟩ = some (.int .u8 q.toNat) := fun i => by
    by_cases hil : i < len
    · obtain ⟨b, off, u, n, y, ha, hc, ht⟩ := hi i hil
      obtain ⟨q, rfl⟩ := open_byte ht
      exact ⟨q, fun _ => ⟨b, off, ha, hc⟩⟩
    · exact ⟨0, fun h => absurd h hil⟩
  refine ⟨(List.range len).map fun i => (hex i).choose, ⟨a, cap, by simp, fun i c hic => ?_⟩, by simpa using hlen⟩
  have hil : i < len := by simpa using (List.getElem?_eq_some_iff.1 hic).1
  rw [List.getElem?_map, List.getElem?_range hil, Option.map_some] at hic
  rw [← Option.some.inj hic]
  exact (hex i).choose_spec hil

theorem open_nums {fuel : Nat} {v : Value} {x : DataW H × List MemPlace} (h : DataW.trod enc Try.prog W base sp held fuel 35 [v] = some x) : ∃ l : List Int, IntsV W v l ∧ l.length ≤ maxLen := by
  obtain ⟨a, len, cap, rfl, hlen, hi⟩ := open_row Try.underlying35 cells_int h
  have hex : ∀ i, ∃ q : Int, i < len → (Lit.int .i64 q).wf = true ∧ ∃ b off, a = some ⟨b, off, none⟩ ∧ W.cell? ⟨b, off + i, none⟩ = some (.int .i64 q) := fun i => by
    by_cases hil : i < len
    · obtain ⟨b, off, u, n, y, ha, hc, ht⟩ := hi i hil
      obtain ⟨q, rfl, hw⟩ := open_num ht
      exact ⟨q, fun _ => ⟨hw, b, off, ha, hc⟩⟩
    · exact ⟨0, fun h => absurd h hil⟩
  refine ⟨(List.range len).map fun i => (hex i).choose, ⟨a, cap, by simp, fun i c hic => ?_⟩, by simpa using hlen⟩
  have hil : i < len := by simpa using (List.getElem?_eq_some_iff.1 hic).1
  rw [List.getElem?_map, List.getElem?_range hil, Option.map_some] at hic
  rw [← Option.some.inj hic]
  exact (hex i).choose_spec hil

theorem cells_Op : Try.prog.cellsOf 37 = 5 := by kernel_rfl
theorem cells_bytes : Try.prog.cellsOf 34 = 1 := by kernel_rfl
theorem cells_ints : Try.prog.cellsOf 35 = 1 := by kernel_rfl

theorem five_of {α : Type} (l : List α) (h : l.length = 5) : ∃ a b c d e, l = [a, b, c, d, e] := by
  cases l with
  | nil => simp at h
  | cons a l => cases l with
    | nil => simp at h
    | cons b l => cases l with
      | nil => simp at h
      | cons c l => cases l with
        | nil => simp at h
        | cons d l => cases l with
          | nil => simp at h
          | cons e l => cases l with
            | nil => exact ⟨a, b, c, d, e, rfl⟩
            | cons f l => simp at h

theorem open_call {fuel : Nat} {cs : List Value} {x : DataW H × List MemPlace} (h : DataW.trod enc Try.prog W base sp held fuel 37 cs = some x) :
    ∃ (o : OpR) (bv kv : Value), cs = [.int .i64 o.kind, .int .i64 o.at_, .int .i64 o.n, bv, kv] ∧ Bytes W bv o.bytes ∧ IntsV W kv o.keep ∧ (Lit.int .i64 o.kind).wf = true ∧ (Lit.int .i64 o.at_).wf = true ∧ (Lit.int .i64 o.n).wf = true ∧ o.bytes.length ≤ maxLen ∧ o.keep.length ≤ maxLen := by
  obtain ⟨xs, n, _, _, hl, hx, hf⟩ := DataW.trod_struct Try.underlying37 h
  rw [cells_Op] at hl
  have hx5 : xs.length = 5 := hx
  obtain ⟨v0, v1, v2, v3, v4, rfl⟩ := five_of cs hl
  obtain ⟨y0, y1, y2, y3, y4, rfl⟩ := five_of xs hx5
  have f0 : DataW.trod enc Try.prog W base sp held n 3 (List.take (Try.prog.cellsOf 3) (List.drop 0 [v0, v1, v2, v3, v4])) = some y0 := hf 0 _ rfl
  have f1 : DataW.trod enc Try.prog W base sp held n 3 (List.take (Try.prog.cellsOf 3) (List.drop 1 [v0, v1, v2, v3, v4])) = some y1 := hf 1 _ rfl
  have f2 : DataW.trod enc Try.prog W base sp held n 3 (List.take (Try.prog.cellsOf 3) (List.drop 2 [v0, v1, v2, v3, v4])) = some y2 := hf 2 _ rfl
  have f3 : DataW.trod enc Try.prog W base sp held n 34 (List.take (Try.prog.cellsOf 34) (List.drop 3 [v0, v1, v2, v3, v4])) = some y3 := hf 3 _ rfl
  have f4 : DataW.trod enc Try.prog W base sp held n 35 (List.take (Try.prog.cellsOf 35) (List.drop 4 [v0, v1, v2, v3, v4])) = some y4 := hf 4 _ rfl
  rw [cells_int] at f0 f1 f2
  rw [cells_bytes] at f3
  rw [cells_ints] at f4
  obtain ⟨k, rfl, w0⟩ := open_num (u := v0) (x := y0) f0
  obtain ⟨at_, rfl, w1⟩ := open_num (u := v1) (x := y1) f1
  obtain ⟨q, rfl, w2⟩ := open_num (u := v2) (x := y2) f2
  obtain ⟨l, hb, hbl⟩ := open_bytes (v := v3) (x := y3) f3
  obtain ⟨ks, hk, hkl⟩ := open_nums (v := v4) (x := y4) f4
  exact ⟨⟨k, at_, q, l, ks⟩, v3, v4, rfl, hb, hk, w0, w1, w2, hbl, hkl⟩

theorem open_script {fuel : Nat} {v : Value} {x : DataW H × List MemPlace} (h : DataW.trod enc Try.prog W base sp held fuel 22 [v] = some x) : ∃ os : List OpR, Script W v os ∧ os.length ≤ maxLen := by
  rcases open_slice Try.underlying22 h with ⟨hcs, _⟩ | ⟨a, len, cap, m, n, D, Pl, hcs, _, hl, hm, hmm, _, hi⟩
  · exact ⟨[], ⟨none, 0, by simpa using hcs, fun i o hio => by simp at hio⟩, Nat.zero_le _⟩
  · obtain rfl : v = .slice (some a) len cap := by simpa using hcs
    have hlm : len ≤ m := by rw [hmm]; split <;> omega
    have hlen := Nat.le_trans hl hm
    clear hm
    rw [cells_Op] at hi
    have hex : ∀ i, ∃ o : OpR, i < len → ∃ b off bv kv, some a = some (⟨b, off, none⟩ : Addr) ∧
        W.cell? ⟨b, off + i * 5, none⟩ = some (.int .i64 o.kind) ∧ W.cell? ⟨b, off + i * 5 + 1, none⟩ = some (.int .i64 o.at_) ∧ W.cell? ⟨b, off + i * 5 + 2, none⟩ = some (.int .i64 o.n) ∧
        W.cell? ⟨b, off + i * 5 + 3, none⟩ = some bv ∧ W.cell? ⟨b, off + i * 5 + 4, none⟩ = some kv ∧ Bytes W bv o.bytes ∧ IntsV W kv o.keep ∧ (Lit.int .i64 o.kind).wf = true ∧ (Lit.int .i64 o.at_).wf = true ∧ (Lit.int .i64 o.n).wf = true ∧ o.bytes.length ≤ maxLen ∧ o.keep.length ≤ maxLen := fun i => by
      by_cases hil : i < len
      · obtain ⟨cs0, hc0, _⟩ := hi 0 (by omega)
        obtain ⟨_, _, hat0⟩ := World.cells?_some hc0
        obtain ⟨cs1, hc1, ht1⟩ := hi i (by omega)
        obtain ⟨_, hl1, hat1⟩ := World.cells?_some hc1
        obtain ⟨o, bv, kv, rfl, hb, hk, r⟩ := open_call ht1
        have hs : a.spot = none := by
          obtain ⟨_, hlen0, _⟩ := World.cells?_some hc0
          have h0 := hat0 0 (by omega)
          have e0 : (a.add (0 * 5)).add 0 = a := by simp [Addr.add]
          rw [e0, List.getElem?_eq_getElem (by omega)] at h0
          exact spot_none h0
        have hadd : ∀ j, (a.add (i * 5)).add j = ⟨a.block, a.off + i * 5 + j, none⟩ := fun j => by
          rw [addr_add a _ hs, addr_add _ _ rfl]
        have g := fun j (hj : j < 5) => hat1 j hj
        simp only [hadd] at g
        refine ⟨o, fun _ => ⟨a.block, a.off, bv, kv, ?_, g 0 (by omega), g 1 (by omega), g 2 (by omega), g 3 (by omega), g 4 (by omega), hb, hk, r⟩⟩
        obtain ⟨b, o', s⟩ := a
        simp only at hs
        rw [hs]
      · exact ⟨⟨0, 0, 0, [], []⟩, fun h => absurd h hil⟩
    refine ⟨(List.range len).map fun i => (hex i).choose, ⟨some a, cap, by simp, fun i o hio => ?_⟩, by simpa using hlen⟩
    have hil : i < len := by simpa using (List.getElem?_eq_some_iff.1 hio).1
    rw [List.getElem?_map, List.getElem?_range hil, Option.map_some] at hio
    rw [← Option.some.inj hio]
    exact (hex i).choose_spec hil
end
end Go.Proofs.Ytchljhjngnbclaa

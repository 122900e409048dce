/- page: arguments as they lie in memory: images, two structs. -/
import Derived.Test.YthacfanfhdjmbaaP10
import Derived.Test.YthacfanfhdjmbaaS2
import Derived.Deep.Slices
import Derived.Carry
namespace Go.Proofs.Ythacfanfhdjmbaa
open Go.ChangeShapes Go.WideShapes Go.ChangeAt Go.RowKit Go.Deep Go.Maps
set_option linter.unusedSimpArgs false
set_option linter.unusedVariables false

theorem in64_wf {z : Int} (h : (Lit.int .i64 z).wf = true) : In64 z := by
  have e1 : IntKind.i64.min = -9223372036854775808 := by decide
  have e2 : IntKind.i64.max = 9223372036854775807 := by decide
  simpa [Lit.wf, e1, e2] using h
theorem ints_in {w : World} {v : Value} {l : List Int} (h : IntsV w v l) : ∀ z ∈ l, In64 z := fun z hz => ints_bounds h z hz
theorem not_same {r : Bool} {n m : Int} {c d : List Int} (hr : r = false ↔ n = m ∧ c = d) : (!(decide (n = m) && decide (c = d))) = r := by
  by_cases q : n = m ∧ c = d
  · rw [hr.2 q]
    simp [q.1, q.2]
  · have hr' : r = true := by
      cases r with
      | false => exact absurd (hr.1 rfl) q
      | true => rfl
    rw [hr']
    by_cases h1 : n = m
    · have h2 : ¬ c = d := fun e => q ⟨h1, e⟩
      simp [h1, h2]
    · simp [h1]
section
variable {w : World} {o : Oper} {a : Act} {K : Act → World → Prop} {Q : Exit → Act → World → Prop}
theorem wp_page_eqlr (r : Bool) (x y : Operand) (ho : o.op = .binOp .eql 27 x y 27) (n m : Int) (c d : List Int) (hx : a.eval x = .agg (ivA (n :: c))) (hy : a.eval y = .agg (ivA (m :: d))) (hc : c.length = 60) (hd : d.length = 60) (hr : r = true ↔ n = m ∧ c = d)
    (h : K (a.put o.dst (.bool r)) w) : o.wp Try.prog a w K Q := by
  have e : (decide (n = m) && decide (c = d)) = r := by
    rw [Bool.eq_iff_iff, hr]
    simp
  refine wp_page_eql x y ho n m c d hx hy hc hd ?_
  rw [e]
  exact h
theorem wp_page_neqr (r : Bool) (x y : Operand) (ho : o.op = .binOp .neq 27 x y 27) (n m : Int) (c d : List Int) (hx : a.eval x = .agg (ivA (n :: c))) (hy : a.eval y = .agg (ivA (m :: d))) (hc : c.length = 60) (hd : d.length = 60) (hr : r = false ↔ n = m ∧ c = d)
    (h : K (a.put o.dst (.bool r)) w) : o.wp Try.prog a w K Q := by
  have e := not_same hr
  refine wp_page_neq x y ho n m c d hx hy hc hd ?_
  rw [e]
  exact h
theorem wp_cells_same (x y : Operand) (ho : o.op = .binOp .neq 25 x y 25) (c : List Int) (hx : a.eval x = .agg (ivA c)) (hy : a.eval y = .agg (ivA c)) (hc : c.length = 60)
    (h : K (a.put o.dst (.bool false)) w) : o.wp Try.prog a w K Q := by
  refine wp_cells_neq x y ho c c hx hy hc hc ?_
  have e : (!decide (c = c)) = false := by simp
  rw [e]
  exact h
end
theorem two_of {α : Type} (l : List α) (h : l.length = 2) : ∃ a b, l = [a, b] := by
  match l, h with
  | [a, b], _ => exact ⟨a, b, rfl⟩
section
variable {H : Type} {enc : TypeId × Value → H} {W : World} {base : Nat} {sp : Nat → Bool} {held : Bool}
theorem cells_image : Try.prog.cellsOf 46 = 2 := by kernel_rfl
theorem open_image {fuel : Nat} {cs : List Value} {x : DataW H × List MemPlace} (h : DataW.trod enc Try.prog W base sp held fuel 46 cs = some x) :
    ∃ p : Img, cs = [.int .i64 p.1, .int .i64 p.2] ∧ In64 p.1 ∧ In64 p.2 := by
  obtain ⟨xs, n, _, _, hl, hx, hf⟩ := DataW.trod_struct Try.underlying46 h
  rw [cells_image] at hl
  have hx2 : xs.length = 2 := hx
  obtain ⟨v0, v1, rfl⟩ := two_of cs hl
  obtain ⟨y0, y1, rfl⟩ := two_of xs hx2
  have f0 : DataW.trod enc Try.prog W base sp held n 3 (List.take (Try.prog.cellsOf 3) (List.drop 0 [v0, v1])) = some y0 := hf 0 _ rfl
  have f1 : DataW.trod enc Try.prog W base sp held n 3 (List.take (Try.prog.cellsOf 3) (List.drop 1 [v0, v1])) = some y1 := hf 1 _ rfl
  rw [cells_int] at f0 f1
  obtain ⟨k, rfl, w0⟩ := open_num (u := v0) (x := y0) f0
  obtain ⟨q, rfl, w1⟩ := open_num (u := v1) (x := y1) f1
  exact ⟨(k, q), rfl, in64_wf w0, in64_wf w1⟩
theorem open_images {fuel : Nat} {v : Value} {x : DataW H × List MemPlace} (h : DataW.trod enc Try.prog W base sp held fuel 42 [v] = some x) : ∃ l : List Img, ImgsV W v l ∧ l.length ≤ maxLen := by
  rcases open_slice Try.underlying42 h with ⟨hcs, _⟩ | ⟨a, len, cap, m, n, D, Pl, hcs, _, hl, hm, hmm, _, hi⟩
  · exact ⟨[], ⟨none, 0, by simpa using hcs, fun i o hio => by simp at hio⟩, Nat.zero_le _⟩
  · obtain rfl : v = .slice (some a) len cap := by simpa using hcs
    have hlm : len ≤ m := by rw [hmm]; split <;> omega
    have hlen := Nat.le_trans hl hm
    clear hm
    rw [cells_image] at hi
    have hex : ∀ i, ∃ p : Img, i < len → (In64 p.1 ∧ In64 p.2) ∧ ∃ b off, some a = some (⟨b, off, none⟩ : Addr) ∧ W.cell? ⟨b, off + i * 2, none⟩ = some (.int .i64 p.1) ∧ W.cell? ⟨b, off + i * 2 + 1, none⟩ = some (.int .i64 p.2) := fun i => by
      by_cases hil : i < len
      · obtain ⟨cs0, hc0, _⟩ := hi 0 (by omega)
        obtain ⟨_, _, hat0⟩ := World.cells?_some hc0
        obtain ⟨cs1, hc1, ht1⟩ := hi i (by omega)
        obtain ⟨_, hl1, hat1⟩ := World.cells?_some hc1
        obtain ⟨p, rfl, hp⟩ := open_image ht1
        have hs : a.spot = none := by
          obtain ⟨_, hlen0, _⟩ := World.cells?_some hc0
          have h0 := hat0 0 (by omega)
          have e0 : (a.add (0 * 2)).add 0 = a := by simp [Addr.add]
          rw [e0, List.getElem?_eq_getElem (by omega)] at h0
          exact spot_none h0
        have hadd : ∀ j, (a.add (i * 2)).add j = ⟨a.block, a.off + i * 2 + j, none⟩ := fun j => by
          rw [addr_add a _ hs, addr_add _ _ rfl]
        have g := fun j (hj : j < 2) => hat1 j hj
        simp only [hadd] at g
        refine ⟨p, fun _ => ⟨hp, a.block, a.off, ?_, g 0 (by omega), g 1 (by omega)⟩⟩
        obtain ⟨b, o', s⟩ := a
        simp only at hs
        rw [hs]
      · exact ⟨(0, 0), fun h => absurd h hil⟩
    refine ⟨(List.range len).map fun i => (hex i).choose, ⟨some a, cap, by simp, fun i o hio => ?_⟩, by simpa using hlen⟩
    have hil : i < len := by simpa using (List.getElem?_eq_some_iff.1 hio).1
    rw [List.getElem?_map, List.getElem?_range hil, Option.map_some] at hio
    rw [← Option.some.inj hio]
    exact (hex i).choose_spec hil
theorem open_slip5 {r : Reach} {b0 : Nat} {v : Value} {d : DataW H} {p : List MemPlace} (hv : Value.okWide Try.prog W r b0 52 v) (h : DataW.Trod enc Try.prog W base sp held 52 v d p) :
    ∃ (lsn : Int) (bv : Value) (l : List Int) (at_ : Int) (c : UInt8), v = .agg #[.int .i64 lsn, bv, .int .i64 at_, .int .u8 c.toNat] ∧ (Lit.int .i64 lsn).wf = true ∧ IntsV W bv l ∧ Fit bv ∧ l.length ≤ maxLen ∧ (Lit.int .i64 at_).wf = true := by
  obtain ⟨v0, v1, v2, v3, y0, y1, y2, y3, n, rfl, _, _, h0, h1, h2, h3⟩ := Go.Joins.open_agg4 Try.underlying52 (by kernel_rfl) (by kernel_rfl) hv h
  obtain ⟨k, rfl, w0⟩ := open_num (u := v0) (x := y0) h0
  obtain ⟨l, hb, hf, hl⟩ := open_nums (v := v1) (x := y1) h1
  obtain ⟨m, rfl, w2⟩ := open_num (u := v2) (x := y2) h2
  obtain ⟨c, rfl⟩ := open_byte (u := v3) (x := y3) h3
  exact ⟨k, v1, l, m, c, rfl, w0, hb, hf, hl, w2⟩
theorem open_ordered {r : Reach} {b0 : Nat} {v : Value} {d : DataW H} {p : List MemPlace} (hv : Value.okWide Try.prog W r b0 56 v) (h : DataW.Trod enc Try.prog W base sp held 56 v d p) :
    ∃ (bv : Value) (l : List Int) (at_ x y : Int), v = .agg #[bv, .int .i64 at_, .int .i64 x, .int .i64 y] ∧ IntsV W bv l ∧ Fit bv ∧ l.length ≤ maxLen ∧ (Lit.int .i64 at_).wf = true ∧ (Lit.int .i64 x).wf = true ∧ (Lit.int .i64 y).wf = true := by
  obtain ⟨v0, v1, v2, v3, y0, y1, y2, y3, n, rfl, _, _, h0, h1, h2, h3⟩ := Go.Joins.open_agg4 Try.underlying56 (by kernel_rfl) (by kernel_rfl) hv h
  obtain ⟨l, hb, hf, hl⟩ := open_nums (v := v0) (x := y0) h0
  obtain ⟨k, rfl, w0⟩ := open_num (u := v1) (x := y1) h1
  obtain ⟨m, rfl, w2⟩ := open_num (u := v2) (x := y2) h2
  obtain ⟨q, rfl, w3⟩ := open_num (u := v3) (x := y3) h3
  exact ⟨v0, l, k, m, q, rfl, hb, hf, hl, w0, w2, w3⟩
end

end Go.Proofs.Ythacfanfhdjmbaa

/- Bytes of one's own, and append. -/
import Derived.Test.YtiaeagpepfmfgaaB
namespace Go.Proofs.Ytiaeagpepfmfgaa
open Go.RowKit Go.Maps
set_option linter.unusedSimpArgs false
set_option linter.unusedVariables false

def bv (l : Sec) : List Value := l.map fun c => Value.int .u8 c.toNat
theorem bv_length (l : Sec) : (bv l).length = l.length := by simp [bv]
theorem bv_append (l m : Sec) : bv (l ++ m) = bv l ++ bv m := by simp [bv]
theorem bv_get (l : Sec) (i : Nat) : (bv l)[i]? = (l[i]?).map fun c => Value.int .u8 c.toNat := by simp [bv]
theorem bv_one (l : Sec) : ∀ u ∈ bv l, u.oneCell' = true := by simp [bv, Value.oneCell']
/-- v is a slice of bytes that was made since base, at its block's beginning: its bytes are l. -/
def Own (w : World) (base : Nat) (v : Value) (l : Sec) : Prop := w.ownsRow base 5 1 v l.length (bv l)

section
variable {w w' : World} {base : Nat} {v : Value} {l m : Sec}
theorem Own.shape (h : Own w base v l) : ∃ a cap, v = .slice a l.length cap ∧ l.length ≤ cap := own_shape h
theorem Own.kept {S : List Nat} (h : Own w base v l) (ho : Only S w w') (hs : ∀ k ∈ S, v.ownBlock ≠ some k) : Own w' base v l := own_kept h ho hs
theorem Own.quiet (h : Own w base v l) (ho : Only [] w w') : Own w' base v l := own_kept h ho (by simp)
theorem Own.lt (h : Own w base v l) {k : Nat} (hk : v.ownBlock = some k) : base ≤ k ∧ k < w.heap.size := World.ownsRow.lt h k hk
theorem Own.mono {base' : Nat} (h : Own w base v l) (hb : base' ≤ base) : Own w base' v l := by
  refine ⟨h.1, ?_⟩
  rcases h.2 with hn | ⟨g, cap, cur, rfl, hb', r⟩
  · exact .inl hn
  · exact .inr ⟨g, cap, cur, rfl, by omega, r⟩
theorem Own.bytes (h : Own w base v l) : Bytes w v l := by
  obtain ⟨a, cap, rfl, _⟩ := h.shape
  refine ⟨a, cap, rfl, fun i c hi => ?_⟩
  have hi' : (bv l)[i]? = some (.int .u8 c.toNat) := by rw [bv_get, hi]; rfl
  obtain ⟨g, ha, hc, _⟩ := own_at h hi'
  exact ⟨g, 0, ha, by rw [Nat.zero_add]; exact hc⟩
theorem Own.row (h : Own w base v l) : Row w v l.length := by
  rcases h.2 with hn | ⟨g, cap, cur, rfl, hb', hg, h1, h2, h3, h4⟩
  · exact .inl hn
  · refine .inr ⟨g, cap, cur, rfl, h1, h2, hg, by omega, fun j hj => ⟨l[j].toNat, ?_⟩⟩
    rw [Nat.mul_one] at h4
    rw [take_get h4 hj, bv_get, List.getElem?_eq_getElem hj]
    rfl
theorem Own.nil (w : World) (base : Nat) : Own w base (.slice none 0 0) [] := World.ownsRow_nil w base _ 1
/-- Bytes in a new block. -/
theorem Own.made (w : World) (l : Sec) (cs : Array Value) (hcs : cs = enc l) (hb : base ≤ w.heap.size) (hl : l.length ≤ maxLen) : Own (w.alloc (.cells cs 5)) base (.slice (some ⟨w.heap.size, 0, none⟩) l.length l.length) l := by
  subst hcs
  refine ⟨by simp [bv], .inr ⟨w.heap.size, l.length, _, rfl, hb, heap_new w _, Nat.le_refl _, hl, by simp, ?_⟩⟩
  rw [Nat.mul_one, List.take_of_length_le (by simp)]
  simp [enc, bv]
theorem Own.blk (h : Own w base v l) (h0 : 0 < l.length) : ∃ g cap, v = .slice (some ⟨g, 0, none⟩) l.length cap ∧ base ≤ g := by
  rcases h.2 with ⟨_, e⟩ | ⟨g, cap, cur, rfl, hb', _⟩
  · omega
  · exact ⟨g, cap, rfl, hb'⟩
theorem owned_only {S : Option Nat} {b : Nat} (h : Only S.toList w w') (hb : ∀ k, S = some k → b ≤ k) : ∀ k ∈ S.toList, b ≤ k := fun k hk => hb k (by simpa using hk)
end

/-- A slice of one's own has become another: in its block, or in a new one; nothing else has turned. -/
structure Ext (w : World) (v : Value) (w' : World) (v' : Value) : Prop where
  only : Only v.ownBlock.toList w w'
  src : ∀ g, v'.ownBlock = some g → v.ownBlock = some g ∨ w.heap.size ≤ g
theorem Ext.refl (w : World) (v : Value) : Ext w v w v := ⟨Only.refl _ _, fun g h => .inl h⟩
theorem Ext.trans {a b c : World} {u v x : Value} (h : Ext a u b v) (k : Ext b v c x) : Ext a u c x :=
  ⟨h.only.trans k.only (fun g hg => by
    rcases h.src g (by simpa using hg) with h1 | h1
    · exact .inl (by simpa using h1)
    · exact .inr h1), fun g hg => by
    rcases k.src g hg with h1 | h1
    · exact h.src g h1
    · exact .inr (Nat.le_trans h.only.size h1)⟩
theorem Ext.quiet {a b c : World} {u v : Value} (h : Ext a u b v) (k : Only [] b c) : Ext a u c v := ⟨h.only.trans k (by simp), h.src⟩
theorem Ext.before {a b c : World} {u v : Value} (k : Only [] a b) (h : Ext b u c v) : Ext a u c v :=
  ⟨(k.mono (by simp)).trans h.only (fun g hg => .inl hg), fun g hg => (h.src g hg).imp id fun h1 => Nat.le_trans k.size h1⟩
/-- A slice that was made since w0: seen from there nothing has turned. -/
theorem Ext.fresh {w0 a b : World} {base : Nat} {u v : Value} {l : Sec} (h0 : Only [] w0 a) (hu : Own a base u l) (hb : w0.heap.size ≤ base) (h : Ext a u b v) : Only [] w0 b :=
  h0.trans h.only (fun g hg => .inr (by have := (hu.lt (k := g) (by simpa using hg)).1; omega))

section
variable {w : World} {ops : Array Oper} {rest : List Oper} {o : Oper} {a : Act} {Q : Exit → Act → World → Prop}
end
/-- One byte in a block of its own, as 'append(v, c)' lays it. -/
theorem bytes_one (w : World) (c : UInt8) (x : Int) (hx : x = c.toNat) : Bytes (w.alloc (.cells #[.int .u8 x] 5)) (.slice (some ⟨w.heap.size, 0, none⟩) 1 1) [c] := by
  subst hx
  refine ⟨_, 1, rfl, fun i d hi => ?_⟩
  cases i with
  | zero =>
    simp at hi
    subst hi
    exact ⟨w.heap.size, 0, rfl, by simp⟩
  | succ i => simp at hi
/-- A slice out of a slice. -/
theorem Bytes.part {w : World} {a : Option Addr} {n cap : Nat} {l : Sec} (h : Bytes w (.slice a n cap) l) (i j cap' : Nat) (b : Option Addr) (hb : ∀ g off, a = some ⟨g, off, none⟩ → i < j → b = some ⟨g, off + i, none⟩) (hj : j ≤ l.length) :
    Bytes w (.slice b (j - i) cap') ((l.take j).drop i) := by
  obtain ⟨a', cap'', e, hc⟩ := h
  injection e with e1 e2 e3
  subst e1
  refine ⟨b, cap', by simp; omega, fun k c hk => ?_⟩
  rw [List.getElem?_drop] at hk
  have hlt := (List.getElem?_eq_some_iff.1 hk).1
  rw [List.length_take] at hlt
  rw [List.getElem?_take_of_lt (by omega)] at hk
  obtain ⟨g, off, ha, hcell⟩ := hc _ c hk
  exact ⟨g, off + i, hb g off ha (by omega), by rw [Nat.add_assoc]; exact hcell⟩

/-- A slice's bytes are within its capacity. -/
def Fit (v : Value) : Prop := ∀ a n c, v = .slice a n c → n ≤ c ∧ c ≤ maxLen
theorem Own.fit {w : World} {base : Nat} {v : Value} {l : Sec} (h : Own w base v l) : Fit v := by
  intro a n c e
  subst e
  rcases h.2 with ⟨e, _⟩ | ⟨g, cap, cur, e, _, _, h1, h2, _⟩
  · cases e; exact ⟨by omega, by omega⟩
  · cases e; exact ⟨h1, h2⟩

/-! ### numbers of one's own -/
def iv (xs : List Int) : List Value := xs.map (Value.int .i64)
theorem iv_length (xs : List Int) : (iv xs).length = xs.length := by simp [iv]
theorem info_int : (Try.prog.info? 3).map (fun i => (i.zero, i.size, i.bytes)) = some (some (.int .i64 0), 1, 8) := by kernel_rfl

section
variable {w : World} {ops : Array Oper} {rest : List Oper} {o : Oper} {a : Act} {Q : Exit → Act → World → Prop}
theorem wpList_append_int (hgd : o.guard = none) (s x : Operand) (ho : o.op = .call { callee := .builtin .append, args := #[s, x], argTypes := #[22, 22] })
    (base : Nat) (v : Value) (xs : List Int) (hs : a.eval s = v) (hown : w.ownsRow base 3 1 v xs.length (iv xs)) (bx : Nat) (hx : a.eval x = .slice (some ⟨bx, 0, none⟩) 1 1) (k : Int) (hk : w.cell? ⟨bx, 0, none⟩ = some (.int .i64 k)) (hn : xs.length ≤ 1099511627776) (hb : base ≤ w.heap.size)
    (h : ∀ g cap w', w'.ownsRow base 3 1 (.slice (some ⟨g, 0, none⟩) (xs.length + 1) cap) (xs ++ [k]).length (iv (xs ++ [k])) → Only v.ownBlock.toList w w' → wpList Try.prog ops Q rest (a.put o.dst (.slice (some ⟨g, 0, none⟩) (xs.length + 1) cap)) w') : wpList Try.prog ops Q (o :: rest) a w := by
  obtain ⟨i, hi, hz⟩ := Option.map_eq_some_iff.1 info_int
  simp only [Prod.mk.injEq] at hz
  obtain ⟨z1, z2, z3⟩ := hz
  refine wpList_append_lies _ hgd s x 22 ho base 3 i (.int .i64 0) 1 8 Try.underlying22 hi z1 z2 z3 rfl (by omega) v xs.length (iv xs) hs hown ⟨bx, 0, none⟩ 1 1 [.int .i64 k] hx rfl ?_ (by simp [Value.oneCell']) (by omega) (by unfold maxLen; omega) (by omega) hb w.heap.size rfl ?_
  · intro j u hj
    cases j with
    | zero =>
      simp at hj
      subst hj
      have : (⟨bx, 0, none⟩ : Addr).add 0 = ⟨bx, 0, none⟩ := by simp [Addr.add]
      rw [this]
      exact hk
    | succ j => simp at hj
  · intro g cap w' h1 h2 _ _
    refine h g cap w' ?_ (Only.of_grown h2)
    have e1 : iv (xs ++ [k]) = iv xs ++ [.int .i64 k] := by simp [iv]
    rw [e1, List.length_append]
    exact h1
end

theorem owns_kept {w w' : World} {base n : Nat} {v : Value} {xs : List Value} {S : List Nat} (h : w.ownsRow base 3 1 v n xs) (ho : Only S w w') (hs : ∀ k ∈ S, v.ownBlock ≠ some k) : w'.ownsRow base 3 1 v n xs := by
  refine ⟨h.1, ?_⟩
  rcases h.2 with hn | ⟨g, cap, cur, rfl, hb, hg, r⟩
  · exact .inl hn
  · exact .inr ⟨g, cap, cur, rfl, hb, ho.heap hg (fun e => hs g e rfl), r⟩
theorem owns_ints {w : World} {base : Nat} {v : Value} {xs : List Int} (h : w.ownsRow base 3 1 v xs.length (iv xs)) (hw : ∀ x ∈ xs, (Lit.int .i64 x).wf = true) : IntsV w v xs := by
  rcases h.2 with ⟨rfl, hn⟩ | ⟨g, cap, cur, rfl, hb, hg, hc, _, _, ht⟩
  · obtain rfl : xs = [] := List.eq_nil_of_length_eq_zero hn
    exact ⟨none, 0, rfl, fun i k hi => by simp at hi⟩
  · refine ⟨_, cap, rfl, fun i k hi => ⟨hw k (List.mem_of_getElem? hi), g, 0, rfl, ?_⟩⟩
    rw [Nat.zero_add, cell_at i hg]
    have h1 : (iv xs)[i]? = some (Value.int .i64 k) := by simp [iv, hi]
    rw [← ht, Nat.mul_one] at h1
    have hlt : i < xs.length := (List.getElem?_eq_some_iff.1 hi).1
    rw [List.getElem?_take_of_lt hlt] at h1
    simpa using h1

end Go.Proofs.Ytiaeagpepfmfgaa

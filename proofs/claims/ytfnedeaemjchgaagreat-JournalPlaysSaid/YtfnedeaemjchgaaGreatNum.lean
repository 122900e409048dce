/- Num, Copy, Kept: errors as numbers, copies with marks. -/
import Derived.Test.YtfnedeaemjchgaaGreatB2
namespace Go.Proofs.YtfnedeaemjchgaaGreat
open Go.RowKit Go.Maps
set_option linter.unusedSimpArgs false
set_option linter.unusedVariables false

theorem num_nil (w : World) : Calls Tryz.prog 25 #[.nilIface] w fun e w' => e = .returned (.int .i64 0) ∧ w = w' := by
  go_enter Tryz.func25, Tryz.ntmps25
  go_wp2
  go_ret
  exact ⟨rfl, rfl⟩
theorem assert_err (n : Int) (w : World) : (Instr.typeAssert (err n) 36 57 true).run Tryz.prog w = .ok (.tuple #[.int .i64 n, .bool true]) w := by kernel_rfl
set_option maxRecDepth 100000 in
theorem num_err (n : Int) (w : World) (hn : n ≠ 0) : Calls Tryz.prog 25 #[err n] w fun e w' => e = .returned (.int .i64 n) ∧ w = w' := by
  have h0 : (n == 0) = false := by simpa using hn
  have q := assert_err n w
  go_enter Tryz.func25, Tryz.ntmps25
  go_wp2
  go_ret
  exact ⟨rfl, rfl⟩

section
variable {w : World} {ops : Array Oper} {rest : List Oper} {o : Oper} {a : Act} {Q : Exit → Act → World → Prop}
/-- 'append' of any bytes behind own ones that have the room. -/
theorem wpList_append_bytes (hg : o.guard = none) (s x : Operand) (hop : o.op = Op.call { callee := Callee.builtin Builtin.append, args := #[s, x], argTypes := #[27, 27] })
    (base g k cap : Nat) (xs : List Value) (hs : a.eval s = .slice (some ⟨g, 0, none⟩) k cap) (hown : w.ownsRow base 5 1 (.slice (some ⟨g, 0, none⟩) k cap) k xs) (v : Value) (l : Sec) (hx : a.eval x = v) (hv : Bytes w v l) (b1 : k + l.length ≤ cap)
    (hK : ∀ w', w'.ownsRow base 5 1 (.slice (some ⟨g, 0, none⟩) (k + l.length) cap) (k + l.length) (xs ++ l.map fun c => Value.int .u8 c.toNat) → Only [g] w w' → wpList Tryz.prog ops Q rest (a.put o.dst (.slice (some ⟨g, 0, none⟩) (k + l.length) cap)) w') :
    wpList Tryz.prog ops Q (o :: rest) a w := by
  obtain ⟨i, hi, hz⟩ := Option.map_eq_some_iff.1 info_u8'
  simp only [Prod.mk.injEq] at hz
  obtain ⟨z1, z2, z3⟩ := hz
  have hv' := hv
  obtain ⟨ao, capv, rfl, hc⟩ := hv'
  by_cases h0 : l.length = 0
  · obtain rfl : l = [] := List.eq_nil_of_length_eq_zero h0
    refine wpList_plain hg fun K' hK' => ?_
    have hrun := run_append_empty (P := Tryz.prog) base 27 o.type 5 i 1 Tryz.underlying27 hi _ k xs hown ao capv
    unfold Oper.wp
    simp [execOp, hop, resolve, invoke, builtin, hs, hx, hrun, Result.andThen]
    exact hK' _ _ (by simpa using hK w (by simpa using hown) (Only.refl _ _))
  · obtain ⟨b, off, rfl, _⟩ := hc 0 l[0] (List.getElem?_eq_getElem (by omega))
    exact wpList_append_fits w hg s x 27 hop base 5 i 1 Tryz.underlying27 hi z2 g k cap xs hs hown ⟨b, off, none⟩ l.length capv (l.map fun c => Value.int .u8 c.toNat) hx (by simp) ((bytes_news hv).2 _ rfl) (by simp [Value.oneCell']) b1 (fun w' h1 h2 => hK w' h1 (Only.of_grown h2))
end

/-- A copy: l with two marks behind it. -/
def CopyB (w : World) (g : Nat) (l : Sec) : Prop := ∃ cur : Array Value, w.heap[g]? = some (.cells cur 5 (0, 0)) ∧ cur.size = l.length + 2 ∧ cur.toList = (l.map fun c => Value.int .u8 c.toNat) ++ [.int .u8 165, .int .u8 90]
theorem CopyB.bytes {w : World} {g : Nat} {l : Sec} (h : CopyB w g l) : Bytes w (.slice (some ⟨g, 0, none⟩) l.length (l.length + 2)) l := by
  obtain ⟨cur, hg, hs, hl⟩ := h
  refine ⟨_, _, rfl, fun i c hi => ⟨g, 0, rfl, ?_⟩⟩
  have hlt := (List.getElem?_eq_some_iff.1 hi).1
  rw [Nat.zero_add, cell_at i hg, ← Array.getElem?_toList, hl, List.getElem?_append_left (by simpa using hlt), List.getElem?_map, hi]
  rfl
theorem CopyB.kept {w w' : World} {S : List Nat} {g : Nat} {l : Sec} (h : CopyB w g l) (ho : Only S w w') (hg : g ∉ S) : CopyB w' g l := by
  obtain ⟨cur, h1, r⟩ := h
  exact ⟨cur, ho.heap h1 hg, r⟩
theorem CopyB.mark {w : World} {g : Nat} {l : Sec} (h : CopyB w g l) : w.cell? ⟨g, l.length, none⟩ = some (.int .u8 165) ∧ w.cell? ⟨g, l.length + 1, none⟩ = some (.int .u8 90) := by
  obtain ⟨cur, hg, hs, hl⟩ := h
  constructor
  · rw [cell_at _ hg, ← Array.getElem?_toList, hl, List.getElem?_append_right (by simp)]
    simp
  · rw [cell_at _ hg, ← Array.getElem?_toList, hl, List.getElem?_append_right (by simp)]
    simp
theorem CopyB.row {w : World} {g : Nat} {l : Sec} (h : CopyB w g l) (hl : l.length + 2 ≤ maxLen) : Row w (.slice (some ⟨g, 0, none⟩) l.length (l.length + 2)) l.length := by
  have hb := h.bytes
  obtain ⟨cur, hg, hs, hl'⟩ := h
  refine .inr ⟨g, _, cur, rfl, by omega, hl, hg, by omega, fun j hj => ⟨l[j].toNat, ?_⟩⟩
  rw [← Array.getElem?_toList, hl', List.getElem?_append_left (by simpa using hj), List.getElem?_map, List.getElem?_eq_getElem hj]
  rfl

set_option maxRecDepth 100000 in
theorem Copy_any (v : Value) (l : Sec) (w : World) (hv : Bytes w v l) (hl : l.length ≤ 1099511627776) :
    Calls Tryz.prog 22 #[v] w fun e w' => ∃ g, e = .returned (.slice (some ⟨g, 0, none⟩) l.length (l.length + 2)) ∧ CopyB w' g l ∧ w.heap.size ≤ g ∧ Only [] w w' := by
  have HV := Lib.hid hv
  obtain ⟨va, vc, rfl, -⟩ := hv
  obtain ⟨i, hi, hz⟩ := Option.map_eq_some_iff.1 info_u8'
  simp only [Prod.mk.injEq] at hz
  obtain ⟨z1, z2, z3⟩ := hz
  have l0 : (0 : Int) ≤ (l.length : Int) := by omega
  have l1 : (l.length : Int) ≤ 1099511627776 := by omega
  have tok1 : True := trivial
  go_enter Tryz.func22, Tryz.ntmps22
  go_wp2_with (first
    | (have _t := tok1
       refine wpList_make_own w rfl (.const (.int .i64 0)) (.tmp 5) 27 rfl w.heap.size 5 i (.int .u8 0) 1 Tryz.underlying27 hi z1 z2 .i64 .i64 ((l.length : Int) + 2) (l.length + 2) (by rfl) (by rfl) (by omega) (by rw [z3]; omega) (by unfold maxLen; omega) (Nat.le_refl _) (fun w1 hown1 hgr1 => ?_)
       have o1 : Only [] w w1 := Only.of_grown hgr1
       have HW1 := Lib.hid hown1
       clear hown1 hgr1 tok1 _t)
    | (refine wpList_append_bytes rfl (.tmp 6) (.tmp 7) rfl w.heap.size w.heap.size 0 (l.length + 2) [] (by rfl) HW1.out _ l (by rfl) (HV.out.kept o1 (clean_nil _)) (by omega) (fun w2 hown2 o2 => ?_)
       rw [Nat.zero_add] at hown2
       have HW2 := Lib.hid (own_kept hown2 ((Only.refl [] w2).alloc (.cells #[.int .u8 165, .int .u8 90] 5)) (by simp))
       have q2 : Only [w.heap.size] w1 (w2.alloc (.cells #[.int .u8 165, .int .u8 90] 5)) := o2.alloc _
       clear hown2 o2)
    | (refine wpList_append_fits _ rfl (.tmp 8) (.tmp 9) 27 rfl w.heap.size 5 i 1 Tryz.underlying27 hi z2 w.heap.size l.length (l.length + 2) _ (by rfl) HW2.out ⟨w2.heap.size, 0, none⟩ 2 2 [.int .u8 165, .int .u8 90] (by rfl) rfl (World.news_of_block (heap_new w2 _)) (by simp [Value.oneCell']) (by omega) (fun w3 hown3 hgr3 => ?_)
       have o3 := (o1.trans q2 (by simp)).trans (Only.of_grown hgr3) (fun k hk => .inr (by simp at hk; omega))
       have HW3 := Lib.hid hown3
       clear hown3 hgr3 q2))
  go_ret
  refine ⟨w.heap.size, rfl, ?_, Nat.le_refl _, o3⟩
  rcases HW3.out.2 with ⟨e, _⟩ | ⟨g, cap, cur, e, _, hg, _, _, h1, h2⟩
  · cases e
  · cases e
    refine ⟨cur, hg, by omega, ?_⟩
    rw [List.take_of_length_le (by simp; omega)] at h2
    simpa using h2

set_option maxRecDepth 100000 in
theorem Kept_any (g : Nat) (v : Value) (l : Sec) (w : World) (hc : CopyB w g l) (hv : Bytes w v l) (hl : l.length ≤ 1099511627776) :
    Calls Tryz.prog 33 #[.slice (some ⟨g, 0, none⟩) l.length (l.length + 2), v] w fun e w' => e = .returned (.bool true) ∧ Only [] w w' := by
  have m1 := hc.mark.1
  have m2 := hc.mark.2
  have l0 : (0 : Int) ≤ (l.length : Int) := by omega
  have l1 : (l.length : Int) ≤ 1099511627776 := by omega
  obtain ⟨S, hS⟩ : ∃ S, S = strOf l := ⟨_, rfl⟩
  have s1 := str_bytes hc.bytes hS
  obtain ⟨va, vc, rfl, -⟩ := id hv
  have s2 := str_bytes hv hS
  clear hc hv hS
  go_enter Tryz.func33, Tryz.ntmps33
  go_wp2
  go_ret
  exact ⟨rfl, Only.refl _ _⟩


end Go.Proofs.YtfnedeaemjchgaaGreat

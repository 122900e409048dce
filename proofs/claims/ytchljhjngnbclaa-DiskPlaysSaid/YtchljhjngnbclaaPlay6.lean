/- One call by both devices: Crash. -/
import Derived.Test.YtchljhjngnbclaaPlay5
namespace Go.Proofs.Ytchljhjngnbclaa
open Go.RowKit Go.Maps
set_option linter.unusedSimpArgs false
set_option linter.unusedVariables false

theorem ints_news {w : World} {a : Option Addr} {n cap : Nat} {ks : List Int} (h : IntsV w (.slice a n cap) ks) : n = ks.length ∧ ∀ ad, a = some ad → ∀ (j : Nat) (u : Value), (iv ks)[j]? = some u → w.cell? (ad.add j) = some u := by
  obtain ⟨a', cap', e, hc⟩ := h
  injection e with e1 e2 e3
  subst e1
  refine ⟨e2, fun ad had j u hu => ?_⟩
  unfold iv at hu
  rw [List.getElem?_map, Option.map_eq_some_iff] at hu
  obtain ⟨c, hc', rfl⟩ := hu
  obtain ⟨_, b, off, hb, hcell⟩ := hc j c hc'
  rw [had] at hb
  cases hb
  rw [Addr.add_lit]
  exact hcell

section
variable {w : World} {ops : Array Oper} {rest : List Oper} {o : Oper} {a : Act} {Q : Exit → Act → World → Prop}
/-- 'append([]int{}, v...)'. -/
theorem wpList_append_nums (hg : o.guard = none) (s x : Operand) (hop : o.op = Op.call { callee := Callee.builtin Builtin.append, args := #[s, x], argTypes := #[35, 35] })
    (g0 : Nat) (hs : a.eval s = .slice (some ⟨g0, 0, none⟩) 0 0) (hg0 : w.heap[g0]? = some (.cells #[] 3 (0, 0))) (v : Value) (ks : List Int) (hx : a.eval x = v) (hv : IntsV w v ks) (hl : ks.length ≤ 70368744177)
    (hK : ∀ a' cap w', IntsV w' (.slice a' ks.length cap) ks → (∀ ad, a' = some ad → ∃ cur, w'.heap[ad.block]? = some (.cells cur 3 (0, 0))) → Only [] w w' → wpList Try.prog ops Q rest (a.put o.dst (.slice a' ks.length cap)) w') :
    wpList Try.prog ops Q (o :: rest) a w := by
  obtain ⟨i, hi, hz⟩ := Option.map_eq_some_iff.1 info_int
  simp only [Prod.mk.injEq] at hz
  obtain ⟨z1, z2, z3⟩ := hz
  have hwf : ∀ (j : Nat) (k : Int), ks[j]? = some k → (Lit.int .i64 k).wf = true := fun j k hj => (hv.at_ hj).1
  obtain ⟨ao, capv, rfl, hc⟩ := id hv
  refine wpList_plain hg fun K' hK' => ?_
  by_cases h0 : ks.length = 0
  · obtain rfl : ks = [] := List.eq_nil_of_length_eq_zero h0
    have hown : w.ownsRow 0 3 1 (.slice (some ⟨g0, 0, none⟩) 0 0) 0 [] := ⟨rfl, .inr ⟨g0, 0, #[], rfl, Nat.zero_le _, hg0, Nat.le_refl _, by unfold maxLen; omega, rfl, rfl⟩⟩
    have hrun := run_append_empty (P := Try.prog) 0 35 o.type 3 i 1 Try.underlying35 hi _ 0 [] hown ao capv
    unfold Oper.wp
    simp [execOp, hop, resolve, invoke, builtin, hs, hx, hrun, Result.andThen]
    exact hK' _ _ (hK (some ⟨g0, 0, none⟩) 0 w ⟨_, _, rfl, fun i k hi => by simp at hi⟩ (fun ad e => by cases e; exact ⟨_, hg0⟩) (Only.refl _ _))
  · obtain ⟨_, b, off, rfl, _⟩ := hc 0 ks[0] (List.getElem?_eq_getElem (by omega))
    have hnews := (ints_news hv).2 _ rfl
    obtain ⟨v', w', hr, h1, h2⟩ := run_append_arg_grows (P := Try.prog) w 35 o.type 3 i (.int .i64 0) 1 8 Try.underlying35 hi z1 z2 z3 rfl (by omega) ⟨g0, 0, none⟩ 0 0 [] rfl (by simp) ⟨b, off, none⟩ ks.length capv (iv ks) (by simp [iv]) hnews (by omega) (by unfold maxLen; omega) (by omega)
    rcases h1.2 with ⟨_, e⟩ | ⟨g, cap, cur, rfl, hb, hgc, k1, k2, k3, k4⟩
    · omega
    · unfold Oper.wp
      simp [execOp, hop, resolve, invoke, builtin, hs, hx, hr, Result.andThen]
      refine hK' _ _ (hK (some ⟨g, 0, none⟩) cap w' ⟨_, _, rfl, fun j k hj => ⟨hwf j k hj, g, 0, rfl, ?_⟩⟩ (fun ad e => by cases e; exact ⟨_, hgc⟩) (Only.of_grown h2))
      have hlt := (List.getElem?_eq_some_iff.1 hj).1
      rw [Nat.zero_add, cell_at j hgc, take_get k4 (by omega), List.nil_append]
      unfold iv
      rw [List.getElem?_map, hj]
      rfl
end

set_option maxRecDepth 100000 in
theorem ints_alike (v1 v2 : Value) (xs : List Int) (w : World) (h1 : IntsV w v1 xs) (h2 : IntsV w v2 xs) (hlen : xs.length ≤ 4611686018427387904) :
    Calls Try.prog 18 #[v1, v2] w fun e w' => e = .returned (.bool true) ∧ Only [] w w' := by
  have H1 := Lib.hid h1
  have H2 := Lib.hid h2
  obtain ⟨a1, c1, rfl, -⟩ := h1
  obtain ⟨a2, c2, rfl, -⟩ := h2
  go_enter Try.func18, Try.ntmps18
  go_wp2_with fail
  go_loopw [5, 13] (fun _ i wr => ∃ k : Nat, k ≤ xs.length ∧ i = .int .i64 k ∧ Only [] w wr) (fun _ i _ => xs.length - (intOf i).toNat)
  case atStart => exact ⟨0, by omega, rfl, Only.refl _ _⟩
  case round =>
    obtain ⟨k, hk, rfl, ho⟩ := hrel
    by_cases hlt : k < xs.length
    · have hkl : xs[k]? = some xs[k] := List.getElem?_eq_getElem hlt
      obtain ⟨_, b1, f1, p1, hv1, d1⟩ := (H1.out.kept ho (fun _ _ _ _ _ => by simp)).at_ hkl
      obtain ⟨_, b2, f2, p2, hv2, d2⟩ := (H2.out.kept ho (fun _ _ _ _ _ => by simp)).at_ hkl
      cases hv1
      cases hv2
      have k0 : (0 : Int) ≤ (k : Int) := by omega
      have k1 : (k : Int) < (xs.length : Int) := by omega
      clear hkl
      go_wp2_with fail
      go_quiet (fail)
      go_wp2_with fail
      go_roundw
      case rel => exact ⟨k + 1, by omega, by go_num, ⟨ho.os, ho.tape, ho.output, ho.size, ho.block⟩⟩
      case measure => simp [intOf]; omega
    · obtain rfl : k = xs.length := by omega
      go_wp2_with fail
      go_ret
      exact ⟨rfl, ho⟩

section
variable {w0 w : World} {a : DA} {b : RA} {D : Disk} {R : Ref} {kind at_ n : Int} {bv kv : Value}

set_option maxRecDepth 100000 in
set_option maxHeartbeats 1600000 in
theorem play_crash (h : Pair w0 w [] a b D R) (hm : Match D R) (ks : List Int) (hv : IntsV w0 kv ks) (hl : ks.length ≤ 1000000) (h0 : kind ≠ 0) (h1 : kind ≠ 1) (h2 : kind ≠ 2) (h3 : kind ≠ 3) (h4 : kind ≠ 4) :
    Calls Try.prog 14 #[.pointer (some ⟨a.p, 0, none⟩), .pointer (some ⟨b.p, 0, none⟩), .agg (opCells kind at_ n bv kv)] w (PlayPost w0 a b) := by
  have k0 : (kind == 0) = false := by simpa using h0
  have k1 : (kind == 1) = false := by simpa using h1
  have k2 : (kind == 2) = false := by simpa using h2
  have k3 : (kind == 3) = false := by simpa using h3
  have k4 : (kind == 4) = false := by simpa using h4
  have p1 := Lib.hid (h.quiet ((Only.refl [] w).alloc (.cells (opCells kind at_ n bv kv) 37)))
  have B1 := heap_new w (.cells (opCells kind at_ n bv kv) 37)
  have c0 : (w.alloc (.cells (opCells kind at_ n bv kv) 37)).cell? ⟨w.heap.size, 0, none⟩ = some (.int .i64 kind) := (cell_at 0 B1).trans rfl
  have c4 : (w.alloc (.cells (opCells kind at_ n bv kv) 37)).cell? ⟨w.heap.size, 4, none⟩ = some kv := (cell_at 4 B1).trans rfl
  have HM := Lib.hid hm
  have HV := Lib.hid hv
  clear h hm hv h0 h1 h2 h3 h4
  generalize hg5 : w.heap.size = g5 at B1 c0 c4
  have HB := Lib.hid B1
  clear B1
  have G0 : ((w.alloc (.cells (opCells kind at_ n bv kv) 37)).alloc (.cells #[] 3)).heap[g5 + 1]? = some (.cells #[] 3 (0, 0)) := by
    have := heap_new (w.alloc (.cells (opCells kind at_ n bv kv) 37)) (.cells #[] 3)
    rwa [World.size_alloc, hg5] at this
  have p2 := Lib.hid (p1.out.quiet ((Only.refl [] (w.alloc (.cells (opCells kind at_ n bv kv) 37))).alloc (.cells #[] 3)))
  have B2 := Lib.hid (heap_old (.cells #[] 3) HB.out)
  have hV2 := Lib.hid (HV.out.kept p2.out.st.only (fun _ _ _ _ _ => by simp))
  have G := Lib.hid G0
  clear G0 p1
  go_enter Try.func14, Try.ntmps14
  go_wp2_with (refine wpList_append_nums rfl (.tmp 135) (.tmp 137) rfl (g5 + 1) (by rfl) G.out kv ks (by rfl) hV2.out (by omega) ?_; intro a3 cap3 w3 hi3 ht3 o3)
  have p3 := Lib.hid (p2.out.quiet o3)
  have B3 := Lib.hid (o3.heap B2.out (by simp))
  have hoff3 : Off (.slice a3 ks.length cap3) a.bl ∧ Off (.slice a3 ks.length cap3) b.bl := by
    have key : ∀ ad, a3 = some ad → ad.block ∉ a.bl ∧ ad.block ∉ b.bl := fun ad e => by
      obtain ⟨cur, hcur⟩ := ht3 ad e
      exact p3.out.apart hcur (by decide) (by decide) (by decide) (by decide)
    exact ⟨fun ad m c e _ => by cases e; exact (key ad rfl).1, fun ad m c e _ => by cases e; exact (key ad rfl).2⟩
  have H3 := Lib.hid hi3
  have HO := Lib.hid hoff3
  clear c0 c4 p2 B2 hV2 hi3 ht3 o3 hoff3 hg5 G HB
  refine (Crash_any a D _ ks _ p3.out.st.dev H3.out HO.out.1 (by omega)).mono ?_
  rintro e w4 ⟨rfl, d4, o4⟩
  have p4 := Lib.hid (p3.out.setA o4 d4)
  have B4 := o4.heap B3.out (p3.out.apart B3.out (by decide) (by decide) (by decide) (by decide)).1
  have H4 := Lib.hid (H3.out.kept o4 HO.out.1)
  have c4 : w4.cell? ⟨g5, 4, none⟩ = some kv := (cell_at 4 B4).trans rfl
  have HB4 := Lib.hid B4
  clear p3 B3 H3 d4 o4 B4
  go_wp2_with fail
  refine (Crash_ref kv ks p4.out.ref (HV.out.kept p4.out.st.only (fun _ _ _ _ _ => by simp)) (p4.out.offI HV.out).2 (by omega)).mono ?_
  rintro e w5 ⟨rfl, r5, o5⟩
  have p5 := Lib.hid (p4.out.setB o5 r5)
  have B5 := o5.heap HB4.out (p4.out.apart HB4.out (by decide) (by decide) (by decide) (by decide)).2
  have H5 := Lib.hid (H4.out.kept o5 HO.out.2)
  have c4' : w5.cell? ⟨g5, 4, none⟩ = some kv := (cell_at 4 B5).trans rfl
  clear p4 HB4 H4 r5 o5 B5 c4
  go_wp2_with fail
  refine (ints_alike _ kv ks _ H5.out (HV.out.kept p5.out.st.only (fun _ _ _ _ _ => by simp)) (by omega)).mono ?_
  rintro e w6 ⟨rfl, o6⟩
  have p6 := Lib.hid (p5.out.quiet o6)
  clear p5 H5 o6 c4'
  go_wp2_with fail
  go_ret
  exact ⟨rfl, _, _, p6.out, HM.out.crash ks⟩
end
end Go.Proofs.Ytchljhjngnbclaa

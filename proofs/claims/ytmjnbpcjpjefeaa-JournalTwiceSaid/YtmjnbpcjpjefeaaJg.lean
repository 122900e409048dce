/- A model's journal: what a model's block shows, the calls through it, and its beginning. -/
import Derived.Test.YtmjnbpcjpjefeaaJf
namespace Go.Proofs.Ytmjnbpcjpjefeaa
open Go.RowKit Go.Maps
set_option linter.unusedSimpArgs false
set_option linter.unusedVariables false

theorem modU (q K : Int) (h0 : 0 < K) (h1 : K ≤ 9223372036854775807) : ∃ j : Nat, (j : Int) < K ∧ IntKind.i64.wrap ((IntKind.u64.wrap q).tmod K) = (j : Int) := by
  have h : 0 ≤ IntKind.u64.wrap q := by rw [IntKind.wrap_u64]; omega
  rw [Int.tmod_eq_emod_of_nonneg h]
  have a := Int.emod_nonneg (IntKind.u64.wrap q) (show K ≠ 0 by omega)
  have b := Int.emod_lt_of_pos (IntKind.u64.wrap q) (show 0 < K by omega)
  refine ⟨(IntKind.u64.wrap q % K).toNat, by omega, ?_⟩
  rw [IntKind.wrap_i64]
  omega
section
variable {w : World} {ops : Array Oper} {o : Oper} {a : Act} {Q : Exit → Act → World → Prop}
/-- 'make([]byte, n)' midway through a region that draws its order. -/
theorem step_make_zero {K : Act → World → Prop} {E : Prop} (hg : o.guard = none) (l c : Operand) (hop : o.op = Op.makeSlice 39 l c) (n : Nat) (hl : a.eval l = .int .i64 (n : Int)) (hc : a.eval c = .int .i64 (n : Int)) (hn : n ≤ 70368744177664)
    (hK : ∀ w' g, BBlk w' g (List.replicate n 0) → w.heap.size ≤ g → Only [] w w' → K (a.put o.dst (.slice (some ⟨g, 0, none⟩) n n)) w') :
    if Region.wanted o (yielded ops a.tmps) = true then Oper.wp Try.prog o a w K Q else E := by
  obtain ⟨i, hi, hz⟩ := Option.map_eq_some_iff.1 info_u8'
  simp only [Prod.mk.injEq] at hz
  obtain ⟨z1, z2, z3⟩ := hz
  have hw : Region.wanted o (yielded ops a.tmps) = true := by simp [Region.wanted, hg]
  rw [if_pos hw]
  have hrun := run_make_row (P := Try.prog) 39 5 i (.int .u8 0) Try.underlying39 hi z1 z2 rfl .i64 .i64 n (by rw [z3]; omega) (by omega) w
  unfold Oper.wp
  simp [execOp, hop, hl, hc, hrun, Result.andThen]
  have := hK (w.alloc (.cells (madeCells #[.int .u8 0] n) 5)) w.heap.size (by rw [made_zeros]; exact heap_new w _) (Nat.le_refl _) ((Only.refl _ _).alloc _)
  exact this
end
/-- Since w0 a model was made, with its device and its journal; nothing that was there has turned. -/
structure JMo (w0 w : World) (m p q : Nat) (a : DA) (d : Disk) (j : JL) (s : SL) : Prop where
  jn : ∃ B, Jn w p q a B d j s ∧ (∀ k ∈ B, w0.heap.size ≤ k) ∧ m ∉ B
  only : Only [] w0 w
  new : w0.heap.size ≤ m
  c0 : w.cell? ⟨m, 0, none⟩ = some (.pointer (some ⟨a.p, 0, none⟩))
  c2 : w.cell? ⟨m, 2, none⟩ = some (.pointer (some ⟨p, 0, none⟩))
section
variable {w0 w w1 w2 : World} {m p q : Nat} {a : DA} {d d' : Disk} {j j' : JL} {s s' : SL}
theorem JMo.quiet (h : JMo w0 w m p q a d j s) (ho : Only [] w w1) : JMo w0 w1 m p q a d j s := by
  obtain ⟨⟨B, h1, h2, h3⟩, h4, h5, h6, h7⟩ := h
  exact ⟨⟨B, h1.quiet ho, h2, h3⟩, h4.trans ho (by simp), h5, cell_kept ho h6 (by simp), cell_kept ho h7 (by simp)⟩
theorem JMo.jm (h : JMo w0 w m p q a d j s) : ∃ vs vt vn vr, JM w p q a vs vt vn vr d j s := by
  obtain ⟨⟨B, h1, _⟩, _⟩ := h
  exact h1.jm
theorem JMo.ok (h : JMo w0 w m p q a d j s) : JOk j := by
  obtain ⟨vs, vt, vn, vr, hm⟩ := h.jm
  exact hm.ok
theorem JMo.to (h : JMo w0 w1 m p q a d j s) (hto : ∀ B, Jn w1 p q a B d j s → (∀ k ∈ B, w0.heap.size ≤ k) → m ∉ B → JTo w1 p q a B d' j' s' w2) : JMo w0 w2 m p q a d' j' s' := by
  obtain ⟨⟨B, h1, h2, h3⟩, h4, h5, h6, h7⟩ := h
  obtain ⟨B', g1, g2, g3⟩ := hto B h1 h2 h3
  refine ⟨⟨B', g1, fun k hk => ?_, fun hk => ?_⟩, h4.trans g2 (fun k hk => .inr (h2 k hk)), h5, cell_kept g2 h6 h3, cell_kept g2 h7 h3⟩
  · rcases g3 k hk with e | e
    · exact h2 k e
    · exact Nat.le_trans h4.size e
  · rcases g3 m hk with e | e
    · exact h3 e
    · have := World.block_lt_of_cell? _ _ h6
      simp only at this
      omega
theorem append_mo (h : JMo w0 w m p q a d j s) (ho : Only [] w w1) (hb : JBig j) (v : Value) (r : Sec) (hr : Bytes w1 v r) (hf : Fresh w v) (hl : r.length ≤ 9223372036854775807) :
    Calls Try.prog 9 #[.pointer (some ⟨p, 0, none⟩), v] w1 fun e w' => e = .returned (.tuple #[.int .i64 (j.anum r (j.free - j.booked)), errV (j.acode r (j.free - j.booked))]) ∧ JMo w0 w' m p q a d (j.added r (j.free - j.booked)) s := by
  have h' := h.quiet ho
  obtain ⟨⟨B, h1, h2, h3⟩, h4, h5, h6, h7⟩ := h
  refine (jappend_any (h1.quiet ho) hb v r hr (fun ad n c e _ hm => ?_) hl).mono fun e w' g => ⟨g.1, ?_⟩
  · have := h1.lt _ hm
    have := hf ad n c e
    omega
  · obtain ⟨B', g1, g2, g3⟩ := g.2
    refine ⟨⟨B', g1, fun k hk => ?_, fun hk => ?_⟩, (h4.trans ho (by simp)).trans g2 (fun k hk => .inr (h2 k hk)), h5, cell_kept g2 h'.c0 h3, cell_kept g2 h'.c2 h3⟩
    · rcases g3 k hk with e | e
      · exact h2 k e
      · exact Nat.le_trans (h4.trans ho (by simp)).size e
    · rcases g3 m hk with e | e
      · exact h3 e
      · have := World.block_lt_of_cell? _ _ h'.c0
        simp only at this
        omega
theorem spend_mo (h : JMo w0 w m p q a d j s) (ho : Only [] w w1) (hb : JBig j) (v : Value) (r : Sec) (hr : Bytes w1 v r) (hf : Fresh w v) (hl : r.length ≤ 9223372036854775807) :
    Calls Try.prog 15 #[.pointer (some ⟨p, 0, none⟩), v] w1 fun e w' => e = .returned (.tuple #[.int .i64 (j.anum r j.free), errV (j.acode r j.free)]) ∧ JMo w0 w' m p q a d (j.added r j.free) s := by
  have h' := h.quiet ho
  obtain ⟨⟨B, h1, h2, h3⟩, h4, h5, h6, h7⟩ := h
  refine (jspend_any (h1.quiet ho) hb v r hr (fun ad n c e _ hm => ?_) hl).mono fun e w' g => ⟨g.1, ?_⟩
  · have := h1.lt _ hm
    have := hf ad n c e
    omega
  · obtain ⟨B', g1, g2, g3⟩ := g.2
    refine ⟨⟨B', g1, fun k hk => ?_, fun hk => ?_⟩, (h4.trans ho (by simp)).trans g2 (fun k hk => .inr (h2 k hk)), h5, cell_kept g2 h'.c0 h3, cell_kept g2 h'.c2 h3⟩
    · rcases g3 k hk with e | e
      · exact h2 k e
      · exact Nat.le_trans (h4.trans ho (by simp)).size e
    · rcases g3 m hk with e | e
      · exact h3 e
      · have := World.block_lt_of_cell? _ _ h'.c0
        simp only at this
        omega
theorem trim_mo (h : JMo w0 w m p q a d j s) (hb : JBig j) (x : Int) :
    Calls Try.prog 11 #[.pointer (some ⟨p, 0, none⟩), .int .i64 x, .slice none 0 0] w fun e w' => e = .returned (errV (j.trimR d s x []).c) ∧ JMo w0 w' m p q a (j.trimR d s x []).d (j.trimR d s x []).j (j.trimR d s x []).s := by
  have h' := h
  obtain ⟨⟨B, h1, h2, h3⟩, h4, h5, h6, h7⟩ := h
  refine (jtrim_any h1 hb x _ [] (bytes_nil _ _) (fun ad n c e _ hm => by cases e) (by decide)).mono fun e w' g => ⟨g.1, ?_⟩
  obtain ⟨B', g1, g2, g3⟩ := g.2
  refine ⟨⟨B', g1, fun k hk => ?_, fun hk => ?_⟩, h4.trans g2 (fun k hk => .inr (h2 k hk)), h5, cell_kept g2 h'.c0 h3, cell_kept g2 h'.c2 h3⟩
  · rcases g3 k hk with e | e
    · exact h2 k e
    · exact Nat.le_trans h4.size e
  · rcases g3 m hk with e | e
    · exact h3 e
    · have := World.block_lt_of_cell? _ _ h'.c0
      simp only at this
      omega
theorem flush_mo (h : JMo w0 w m p q a d j s) (hb : JBig j) :
    Calls Try.prog 19 #[.pointer (some ⟨p, 0, none⟩)] w fun e w' => e = .returned (errV (j.flushR d s).c) ∧ JMo w0 w' m p q a (j.flushR d s).d (j.flushR d s).j (j.flushR d s).s := by
  have h' := h
  obtain ⟨⟨B, ⟨vs, vt, vn, vr, hm, rfl⟩, h2, h3⟩, h4, h5, h6, h7⟩ := h
  refine (jflush_any hm hb).mono fun e w' g => ⟨g.ans, ?_⟩
  obtain ⟨B', g1, g2, g3⟩ := (RPost.to hm g).2
  refine ⟨⟨B', g1, fun k hk => ?_, fun hk => ?_⟩, h4.trans g2 (fun k hk => .inr (h2 k hk)), h5, cell_kept g2 h'.c0 h3, cell_kept g2 h'.c2 h3⟩
  · rcases g3 k hk with e | e
    · exact h2 k e
    · exact Nat.le_trans h4.size e
  · rcases g3 m hk with e | e
    · exact h3 e
    · have := World.block_lt_of_cell? _ _ h'.c0
      simp only at this
      omega
theorem book_mo (h : JMo w0 w m p q a d j s) (n : Int) :
    Calls Try.prog 14 #[.pointer (some ⟨p, 0, none⟩), .int .i64 n] w fun e w' => e = .returned (errV (j.bcode n)) ∧ JMo w0 w' m p q a d (j.book n) s := by
  have h' := h
  obtain ⟨⟨B, h1, h2, h3⟩, h4, h5, h6, h7⟩ := h
  refine (jbook_any h1 n).mono fun e w' g => ⟨g.1, ?_⟩
  obtain ⟨B', g1, g2, g3⟩ := g.2
  refine ⟨⟨B', g1, fun k hk => ?_, fun hk => ?_⟩, h4.trans g2 (fun k hk => .inr (h2 k hk)), h5, cell_kept g2 h'.c0 h3, cell_kept g2 h'.c2 h3⟩
  · rcases g3 k hk with e | e
    · exact h2 k e
    · exact Nat.le_trans h4.size e
  · rcases g3 m hk with e | e
    · exact h3 e
    · have := World.block_lt_of_cell? _ _ h'.c0
      simp only at this
      omega
theorem free_mo (h : JMo w0 w m p q a d j s) (n : Int) (hn : j.free = n) : Calls Try.prog 10 #[.pointer (some ⟨p, 0, none⟩)] w fun e w' => e = .returned (.int .i64 n) ∧ JMo w0 w' m p q a d j s ∧ Only [] w w' := by
  subst hn
  obtain ⟨vs, vt, vn, vr, hm⟩ := h.jm
  exact (jfree_any hm).mono fun e w' ⟨h1, h2⟩ => ⟨h1, h.quiet h2.only, h2.only⟩
theorem next_mo (h : JMo w0 w m p q a d j s) (hb : JBig j) (n : Int) (hn : (j.next : Int) = n) : Calls Try.prog 12 #[.pointer (some ⟨p, 0, none⟩)] w fun e w' => e = .returned (.int .i64 n) ∧ JMo w0 w' m p q a d j s ∧ Only [] w w' := by
  subst hn
  obtain ⟨vs, vt, vn, vr, hm⟩ := h.jm
  exact (jnext_any hm hb).mono fun e w' ⟨h1, h2⟩ => ⟨h1, h.quiet h2.only, h2.only⟩
theorem first_mo (h : JMo w0 w m p q a d j s) (n : Int) (hn : (j.first : Int) = n) : Calls Try.prog 13 #[.pointer (some ⟨p, 0, none⟩)] w fun e w' => e = .returned (.int .i64 n) ∧ w = w' := by
  subst hn
  obtain ⟨vs, vt, vn, vr, hm⟩ := h.jm
  exact jfirst_any hm
end

set_option maxRecDepth 100000 in
set_option maxHeartbeats 4000000 in
/-- A model begins. -/
theorem begun_any (n : Nat) (w : World) (h0 : 2 ≤ n) (h1 : n ≤ 2048) :
    Calls Try.prog 8 #[.int .i64 n] w fun e w' => ∃ m p q a d, e = .returned (.pointer (some ⟨m, 0, none⟩)) ∧ JMo w w' m p q a d (JL.new 1 n) ⟨1, 1, row0, false⟩ ∧ d.Calm ∧ JGood d ⟨1, 1, row0, false⟩ (JL.new 1 n) ∧
      ∃ g, w'.heap[m]? = some (.cells #[.pointer (some ⟨a.p, 0, none⟩), .int .i64 n, .pointer (some ⟨p, 0, none⟩), .slice none 0 0, .slice (some ⟨g, 0, none⟩) 1 1, .int .i64 1, .string ⟨#[]⟩, .int .i64 1, .int .i64 0, .bool false, .slice none 0 0] 37 (0, 0)) := by
  have q0 := iface_nil
  have q1 := iface_ne
  have q2 := iface_nerr
  have e3 : IntKind.i64.wrap ((n : Int) + 3) = (n : Int) + 3 := by rw [IntKind.wrap_i64]; omega
  go_enter Try.func8, Try.ntmps8
  go_wp2_with fail
  refine (new_st ((n : Int) + 3) w (by omega) (by omega)).mono ?_
  rintro e w1 ⟨a, rfl, s1⟩
  go_wp2_with fail
  refine (format_new (at_ := 1) (n := n) s1 (Disk.Calm.fresh _) (jfitB_iff.2 ⟨by omega, by omega, by omega, by show (1 : Int) ≤ (n : Int) + 3 - 2 - n; omega⟩)).mono ?_
  rintro e w2 ⟨p, q, rfl, s2, m2, g2⟩
  have S2 := Lib.hid s2
  have M2 := Lib.hid m2
  have G2 := Lib.hid g2
  clear s1 s2 m2 g2
  generalize (Disk.fresh ((n : Int) + 3)).jfm 1 n = d2 at S2 M2 G2
  go_wp2_with fail
  go_ret
  have oA : Only [] w2 (w2.alloc (.cells #[.int .i64 0] 3)) := (Only.refl [] w2).alloc _
  have hsz : (w2.alloc (.cells #[.int .i64 0] 3)).heap.size = w2.heap.size + 1 := Array.size_push _
  generalize w2.alloc (.cells #[.int .i64 0] 3) = w3 at oA hsz ⊢
  generalize hC : (Obj.cells #[.pointer (some ⟨a.p, 0, none⟩), .int .i64 n, .pointer (some ⟨p, 0, none⟩), .slice none 0 0, .slice (some ⟨w2.heap.size, 0, none⟩) 1 1, .int .i64 1, .string ⟨#[]⟩, .int .i64 1, .int .i64 0, .bool false, .slice none 0 0] 37) = C
  have oB : Only [] w3 (w3.alloc C) := (Only.refl [] w3).alloc _
  have oC : Only [] w2 (w3.alloc C) := oA.trans oB (by simp)
  have hk : (w3.alloc C).heap[w2.heap.size + 1]? = some C := by rw [← hsz]; exact heap_new _ _
  subst hC
  obtain ⟨⟨B, j2, hB⟩, o2⟩ := S2.out
  exact ⟨w2.heap.size + 1, p, q, a, d2, rfl, ⟨⟨B, j2.quiet oC, hB, fun hm => by have := j2.lt _ hm; omega⟩, o2.trans oC (by simp), by have := o2.size; omega, cell_at 0 hk, cell_at 2 hk⟩, M2.out, G2.out, w2.heap.size, hk⟩
end Go.Proofs.Ytmjnbpcjpjefeaa

/- One call by both devices: Arm, Read, Write of a sector that is full of a byte. -/
import Derived.Test.YtchljhjngnbclaaPlay2
namespace Go.Proofs.Ytchljhjngnbclaa
open Go.RowKit Go.Maps
set_option linter.unusedSimpArgs false
set_option linter.unusedVariables false

section
variable {w0 w : World} {a : DA} {b : RA} {D : Disk} {R : Ref} {at_ n : Int} {bv kv : Value}

theorem arm_all {w : World} {a : DA} {d : Disk} (n : Int) (h : Dev w a d) (hn : 0 ≤ n) :
    Calls Try.prog 28 #[.pointer (some ⟨a.p, 0, none⟩), .int .i64 n] w fun e w' => e = .returned (errV 0) ∧ Dev w' a { d with met := d.met.arm n } ∧ Only a.bl w w' := by
  refine (Arm_any a.p d.met d.size a.bn a.bs n w h.blk hn).mono ?_
  rintro e w' ⟨rfl, hb, ho⟩
  have hnp := h.np
  have hsp := h.sp
  exact ⟨by simp [errV], ⟨hb, h.now.kept ho (by simpa using hnp), h.old.kept ho (by simpa using hsp), h.ne, h.lo, h.hi⟩, ho.mono (by simp [DA.bl])⟩

set_option maxRecDepth 100000 in
theorem play_arm (h : Pair w0 w [] a b D R) (hm : Match D R) (hn : n ≤ 9223372036854775807) :
    Calls Try.prog 14 #[.pointer (some ⟨a.p, 0, none⟩), .pointer (some ⟨b.p, 0, none⟩), .agg (opCells 4 at_ n bv kv)] w (PlayPost w0 a b) := by
  have p1 := Lib.hid (h.quiet ((Only.refl [] w).alloc (.cells (opCells 4 at_ n bv kv) 37)))
  have B1 := heap_new w (.cells (opCells 4 at_ n bv kv) 37)
  have c0 : (w.alloc (.cells (opCells 4 at_ n bv kv) 37)).cell? ⟨w.heap.size, 0, none⟩ = some (.int .i64 4) := (cell_at 0 B1).trans rfl
  have c2 : (w.alloc (.cells (opCells 4 at_ n bv kv) 37)).cell? ⟨w.heap.size, 2, none⟩ = some (.int .i64 n) := (cell_at 2 B1).trans rfl
  have HM := Lib.hid hm
  clear h hm
  generalize hg5 : w.heap.size = g5 at B1 c0 c2
  have HB := Lib.hid B1
  clear B1
  by_cases h0 : n < 0
  · go_enter Try.func14, Try.ntmps14
    go_wp2_with fail
    refine (Arm_bad a.p n _ h0).mono ?_
    rintro e w2 ⟨rfl, rfl⟩
    go_wp2_with fail
    refine (num_err 1 _ (by decide)).mono ?_
    rintro e w2 ⟨rfl, rfl⟩
    go_wp2_with fail
    go_ret
    exact ⟨by simp, _, _, p1.out, HM.out⟩
  · have hge : 0 ≤ n := by omega
    go_enter Try.func14, Try.ntmps14
    go_wp2_with fail
    generalize w.alloc (.cells (opCells 4 at_ n bv kv) 37) = w1 at p1 HB c0 c2 ⊢
    have q1 := p1.out.quiet ((Only.refl [] w1).drew)
    have c5 : w1.drew.cell? ⟨b.p, 5, none⟩ = some (.bool R.armed) := q1.ref.c5
    have f5 : w1.drew.frozen? ⟨b.p, 5, none⟩ = false := q1.ref.free 5
    have hk := heap_cell (g := b.p) (i := 5) (.bool true) q1.ref.blk
    have hk2 := heap_cell (g := b.p) (i := 6) (.int .i64 n) hk
    have c6 : w1.cell? ⟨b.p, 6, none⟩ = some (.int .i64 R.left) := p1.out.ref.c6
    have f6 : w1.frozen? ⟨b.p, 6, none⟩ = false := p1.out.ref.free 6
    have o3 : Only [b.p] w1.drew ((w1.drew.setCell ⟨b.p, 5, none⟩ (.bool true)).setCell ⟨b.p, 6, none⟩ (.int .i64 n)) := ((Only.refl _ _).setCell (by simp) _).setCell (by simp) _
    have r3 : RDev ((w1.drew.setCell ⟨b.p, 5, none⟩ (.bool true)).setCell ⟨b.p, 6, none⟩ (.int .i64 n)) [] b { R with armed := true, left := n } := q1.ref.turn o3 hk2 rfl rfl rfl rfl
    have q3 := Lib.hid (q1.setB (o3.mono (by simp [RA.bl])) r3)
    have hne : g5 ≠ b.p := type_ne HB.out p1.out.ref.blk (by decide)
    have s2 : w1.drew.cell? ⟨g5, 2, none⟩ = some (.int .i64 n) := c2
    have s2' : (w1.drew.setCell ⟨b.p, 5, none⟩ (.bool true)).cell? ⟨g5, 2, none⟩ = some (.int .i64 n) := by
      rw [World.cell?_setCell_other _ _ _ _ (fun e => hne (congrArg Addr.block e).symm)]
      exact s2
    have o3a : Only [b.p] w1.drew ((w1.drew.setCell ⟨b.p, 5, none⟩ (.bool true)).setCell ⟨b.p, 6, none⟩ (.int .i64 n)) := o3
    have B3 := o3.heap (w := w1.drew) HB.out (by simpa using hne)
    have c2' : ((w1.drew.setCell ⟨b.p, 5, none⟩ (.bool true)).setCell ⟨b.p, 6, none⟩ (.int .i64 n)).cell? ⟨g5, 2, none⟩ = some (.int .i64 n) := (cell_at 2 B3).trans rfl
    clear q1 hk hk2 o3 r3 o3a B3
    refine wp_region_held_drew (S := fun w' => w'.cell? ⟨g5, 2, none⟩ = some (.int .i64 n)) (by kernel_rfl) s2 (fun hH => ?_)
    refine take_list (i := 0) (v := ?_) rfl (by kernel_rfl) (by kernel_rfl) (by kernel_rfl) (fun _ _ _ h => h) (Or.inl ⟨by rfl, ?_⟩) hH ?_
    rotate_left
    · ((intro w hSw; (try dsimp only at hSw); go_simp); try with_reducible rfl)
    simp only [Act.put, List.setIfInBounds_toArray, List.set_cons_zero, List.set_cons_succ]
    refine take_list (i := 1) (v := ?_) rfl (by kernel_rfl) (by kernel_rfl) (by kernel_rfl) (fun _ _ _ h => h) (Or.inl ⟨by rfl, ?_⟩) hH ?_
    rotate_left
    · ((intro w hSw; (try dsimp only at hSw); go_simp); try with_reducible rfl)
    simp only [Act.put, List.setIfInBounds_toArray, List.set_cons_zero, List.set_cons_succ]
    refine take_list (i := 2) (v := ?_) rfl (by kernel_rfl) (by kernel_rfl) (by kernel_rfl) (fun _ _ _ h => h) (Or.inl ⟨by rfl, ?_⟩) hH ?_
    rotate_left
    · ((intro w hSw; (try dsimp only at hSw); go_simp); try with_reducible rfl)
    simp only [Act.put, List.setIfInBounds_toArray, List.set_cons_zero, List.set_cons_succ]
    refine take_list (i := 3) (v := ?_) rfl (by kernel_rfl) (by kernel_rfl) (by kernel_rfl) (fun _ _ _ h => h) (Or.inl ⟨by rfl, ?_⟩) hH ?_
    rotate_left
    · ((intro w hSw; (try dsimp only at hSw); go_simp); try with_reducible rfl)
    simp only [Act.put, List.setIfInBounds_toArray, List.set_cons_zero, List.set_cons_succ]
    refine take_list (i := 4) (v := ?_) rfl (by kernel_rfl) (by kernel_rfl) (by kernel_rfl) (fun _ _ _ h => h) (Or.inl ⟨by rfl, ?_⟩) hH ?_
    rotate_left
    · ((intro w hSw; (try dsimp only at hSw); go_simp); try with_reducible rfl)
    simp only [Act.put, List.setIfInBounds_toArray, List.set_cons_zero, List.set_cons_succ]
    refine take_list (i := 5) (v := ?_) rfl (by kernel_rfl) (by kernel_rfl) (by kernel_rfl) (fun _ _ _ h => h) (Or.inl ⟨by rfl, ?_⟩) hH ?_
    rotate_left
    · ((intro w hSw; (try dsimp only at hSw); go_simp); try with_reducible rfl)
    simp only [Act.put, List.setIfInBounds_toArray, List.set_cons_zero, List.set_cons_succ]
    refine wpAnyH_ready (rs := [6]) (by kernel_rfl) (by simp) ?_
    refine ready_list rfl (fun K hK => ?_)
    go_simp
    refine hK.out _ _ s2' (fun hH => ?_)
    clear hK K
    refine take_list (i := 7) (v := ?_) rfl (by kernel_rfl) (by kernel_rfl) (by kernel_rfl) (fun _ _ _ h => h) (Or.inl ⟨by rfl, ?_⟩) hH ?_
    rotate_left
    · ((intro w hSw; (try dsimp only at hSw); go_simp); try with_reducible rfl)
    simp only [Act.put, List.setIfInBounds_toArray, List.set_cons_zero, List.set_cons_succ]
    refine take_list (i := 8) (v := ?_) rfl (by kernel_rfl) (by kernel_rfl) (by kernel_rfl) (fun _ _ _ h => h) (Or.inl ⟨by rfl, ?_⟩) hH ?_
    rotate_left
    · ((intro w hSw; (try dsimp only at hSw); go_simp); try with_reducible rfl)
    simp only [Act.put, List.setIfInBounds_toArray, List.set_cons_zero, List.set_cons_succ]
    refine wpAnyH_ready (rs := [9]) (by kernel_rfl) (by simp) ?_
    refine ready_list rfl (fun K hK => ?_)
    go_simp
    refine hK.out _ _ c2' (fun hH => ?_)
    clear hK K
    refine wpAnyH_done (by kernel_rfl) ?_ _
    clear hH
    go_wp2_with fail
    refine (arm_all n q3.out.st.dev hge).mono ?_
    rintro e w4 ⟨rfl, d4, o4⟩
    have p4 := Lib.hid (q3.out.setA o4 d4)
    clear d4 o4
    go_wp2_with fail
    refine (num_any _ _).mono ?_
    rintro e w5 ⟨rfl, rfl⟩
    go_wp2_with fail
    go_ret
    exact ⟨by simp, _, _, p4.out, HM.out.arm hge hn⟩

set_option maxRecDepth 100000 in
theorem play_read (h : Pair w0 w [] a b D R) (hm : Match D R) :
    Calls Try.prog 14 #[.pointer (some ⟨a.p, 0, none⟩), .pointer (some ⟨b.p, 0, none⟩), .agg (opCells 2 at_ n bv kv)] w (PlayPost w0 a b) := by
  have p1 := Lib.hid (h.quiet ((Only.refl [] w).alloc (.cells (opCells 2 at_ n bv kv) 37)))
  have B1 := heap_new w (.cells (opCells 2 at_ n bv kv) 37)
  have c0 : (w.alloc (.cells (opCells 2 at_ n bv kv) 37)).cell? ⟨w.heap.size, 0, none⟩ = some (.int .i64 2) := (cell_at 0 B1).trans rfl
  have c1 : (w.alloc (.cells (opCells 2 at_ n bv kv) 37)).cell? ⟨w.heap.size, 1, none⟩ = some (.int .i64 at_) := (cell_at 1 B1).trans rfl
  have HM := Lib.hid hm
  have hws : w0.heap.size ≤ w.heap.size := h.st.only.size
  clear h hm
  generalize hg5 : w.heap.size = g5 at B1 c0 c1
  have HB := Lib.hid B1
  clear B1
  go_enter Try.func14, Try.ntmps14
  go_wp2_with fail
  refine (read_all at_ p1.out.st.dev).mono ?_
  rintro e w2 ⟨v, rfl, hb, hr, hl, hg, o2⟩
  have hs2 : w.heap.size ≤ (w.alloc (.cells (opCells 2 at_ n bv kv) 37)).heap.size := by simp
  have p2 := Lib.hid ((p1.out.fresh (F' := v.ownBlock.toList) (fun k hk => .inr (hg k (by simpa using hk)))).quiet o2)
  have B2 := o2.heap HB.out (by simp)
  have c1' : w2.cell? ⟨g5, 1, none⟩ = some (.int .i64 at_) := (cell_at 1 B2).trans rfl
  have hg' : ∀ g, v.ownBlock = some g → w0.heap.size ≤ g := fun g e => by have := hg g e; omega
  have HG := Lib.hid hg'
  clear o2 B2 hg hs2 hg' c0 c1
  go_wp2_with fail
  refine (Read_ref_all at_ p2.out.ref).mono ?_
  rintro e w3 ⟨u, rfl, hu, rfl⟩
  have hrc := HM.out.rcode at_
  have hrg := HM.out.rget at_
  generalize R.rcode at_ = x at hrc ⊢
  subst hrc
  rw [← hrg] at hu
  clear hrg c1'
  obtain ⟨S, hS⟩ : ∃ S, S = strOf (D.rget at_) := ⟨_, rfl⟩
  obtain ⟨va, vc, rfl, -⟩ := id hb
  obtain ⟨ua, uc, rfl, -⟩ := id hu
  have s1 := str_bytes hb hS
  have s2 := str_bytes hu hS
  have HR := Lib.hid hr
  clear hb hu hS hr
  generalize (D.rget at_).length = len at s1 s2 HR hl p2 HG ⊢
  go_wp2_with fail
  refine (num_any _ _).mono ?_
  rintro e w4 ⟨rfl, rfl⟩
  clear s1 s2
  go_wp2_with fail
  refine (over_any _ len _ HR.out (by omega)).mono ?_
  rintro e w5 ⟨rfl, _, o5⟩
  have p5 : Pair w0 w5 (Value.slice va len vc).ownBlock.toList a b D R := by
    cases hv : (Value.slice va len vc).ownBlock with
    | none =>
      rw [hv] at o5 p2
      exact p2.out.quiet o5
    | some g =>
      rw [hv] at o5 p2
      have hap : g ∉ a.bl ∧ g ∉ b.bl := by
        rcases HR.out with ⟨e, _⟩ | ⟨g', cap, cur, e, _, _, hg', _⟩
        · rw [e] at hv
          cases hv
        · rw [e] at hv
          cases hv
          exact p2.out.apart hg' (by decide) (by decide) (by decide) (by decide)
      exact p2.out.over o5 (HG.out g hv) (by simp) hap.1 hap.2
  have P5 := Lib.hid p5.drop
  clear p5 o5
  go_wp2_with fail
  go_ret
  exact ⟨by simp, _, _, P5.out, HM.out⟩
end
end Go.Proofs.Ytchljhjngnbclaa

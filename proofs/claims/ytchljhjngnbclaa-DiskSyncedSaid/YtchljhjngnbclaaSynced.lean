/- DiskSynced: whatever the two scripts and the numbers, the law returns true (what was synced is there behind a crash), and its arguments read as they did. No condition. -/
import Derived.Test.YtchljhjngnbclaaSync1
import Derived.Test.YtchljhjngnbclaaL
import Derived.Test.YtchljhjngnbclaaD10
namespace Go.Proofs.Ytchljhjngnbclaa
open Go.ChangeShapes Go.WideShapes Go.ChangeAt Go.RowKit
set_option linter.unusedVariables false
set_option linter.unusedSimpArgs false

set_option maxRecDepth 100000 in
set_option maxHeartbeats 8000000 in
theorem synced_walk (v1 v2 v3 : Value) (os1 os2 : List OpR) (ks : List Int) (w : World) (h1 : Script w v1 os1) (hl1 : os1.length ≤ maxLen) (h2 : Script w v2 os2) (hl2 : os2.length ≤ maxLen) (h3 : IntsV w v3 ks) (hl3 : ks.length ≤ maxLen) :
    Calls Try.prog 4 #[v1, v2, v3] w fun e w' => e = .returned (.bool true) ∧ Only [] w w' := by
  have hkm : ks.length ≤ 9223372036854775807 := by unfold maxLen at hl3; omega
  have H1 := Lib.hid h1
  have H2 := Lib.hid h2
  have H3 := Lib.hid h3
  have L1 := Lib.hid hl1
  have L2 := Lib.hid hl2
  obtain ⟨va1, vcap1, rfl, -⟩ := h1
  obtain ⟨va2, vcap2, rfl, -⟩ := h2
  obtain ⟨va3, vcap3, rfl, -⟩ := h3
  clear hl1 hl2 hl3
  go_enter Try.func4, Try.ntmps4
  go_wp2_with fail
  refine (alive_any _).mono ?_
  rintro e w1 ⟨rfl, o1⟩
  go_wp2_with fail
  refine (long_any _ os1 _ (H1.out.kept o1) L1.out).mono ?_
  rintro e w2 ⟨x1, rfl, hx1, o2⟩
  have O2 := o1.trans o2 (by simp)
  clear o1 o2
  cases x1
  rotate_left
  · go_wp2_with fail
    go_ret
    exact ⟨rfl, O2⟩
  have h400 : os1.length ≤ 400 := hx1 rfl
  clear hx1
  go_wp2_with fail
  refine (long_any _ os2 _ (H2.out.kept O2) L2.out).mono ?_
  rintro e w3 ⟨x2, rfl, hx2, o3⟩
  have O3 := O2.trans o3 (by simp)
  clear O2 o3
  cases x2
  rotate_left
  · go_wp2_with fail
    go_ret
    exact ⟨rfl, O3⟩
  have h400' : os2.length ≤ 400 := hx2 rfl
  clear hx2
  by_cases hbig : (1000 : Int) < ks.length
  · go_wp2_with fail
    go_ret
    exact ⟨rfl, O3⟩
  have hk1000 : ks.length ≤ 1000 := by omega
  clear hbig hkm
  go_wp2_with fail
  refine (new_st 16 w3 (by omega) (by omega)).mono ?_
  rintro e w4 ⟨a, rfl, s4⟩
  have tok1 : True := trivial
  have tok2 : True := trivial
  go_wp2_with (first
    | (have _t := tok1; refine wpList_alloc_arr rfl rfl ?_; intro w5 g5 b5 hg5 o5; clear _t tok1)
    | (refine wpList_alloc_arr rfl rfl ?_; intro w6 g6 b6 hg6 o6)
    | (have _t := tok2; refine wpList_store_arr (l := noughts) (old := noughts) rfl (.tmp 9) (.tmp 45) rfl g5 (by rfl) (by rfl) (by rfl) (by rfl) (o6.heap b5 (by simp)) ?_; intro w7 b7 o7; clear _t tok2)
    | (refine wpList_store_arr (l := noughts) (old := noughts) rfl (.tmp 10) (.tmp 46) rfl g6 (by rfl) (by rfl) (by rfl) (by rfl) (o7.heap b6 (by simp; have := lt_of_heap b5; omega)) ?_; intro w8 b8 o8))
  have hne56 : g5 ≠ g6 := by have := lt_of_heap b5; omega
  have z5 := o5.size
  have z6 := o6.size
  have p8 : Only [] w4 w8 := ((o5.trans o6 (by simp)).trans o7 (by simp; omega)).trans o8 (by simp; omega)
  have r8 : w8.heap[g5]? = some (.cells (arr noughts) 49 (0, 0)) := o8.heap b7 (by simpa using hne56)
  have i8 : SynI w3 w8 a (Disk.fresh 16) g5 noughts := ⟨s4.quiet p8, r8, by rfl, rfl, rfl, rfl, fun i x hx => by
    have : x = 0 := by
      have hm := List.mem_of_getElem? hx
      exact List.eq_of_mem_replicate hm
    subst this
    rfl⟩
  have hg5 : w3.heap.size ≤ g5 := by have := s4.only.size; omega
  have hg6 : w3.heap.size ≤ g6 := by have := s4.only.size; omega
  have HNE := Lib.hid hne56
  clear b5 b6 b7 o5 o6 o7 o8 z5 z6 p8 r8 s4 hne56
  go_loopw [13, 49] (fun _ i wr => ∃ (k : Nat) (d : Disk) (l : List Int), k ≤ os1.length ∧ i = .int .i64 k ∧ SynI w3 wr a d g5 l ∧ wr.heap[g6]? = some (.cells (arr noughts) 49 (0, 0))) (fun _ i _ => os1.length - (intOf i).toNat)
  case atStart => exact ⟨0, _, _, by omega, rfl, i8, b8⟩
  case round =>
    clear i8 b8
    obtain ⟨k, d, l, hk, rfl, i5, b6⟩ := hrel
    by_cases hlt : k < os1.length
    · have hkl : os1[k]? = some os1[k] := List.getElem?_eq_getElem hlt
      obtain ⟨a', cap', hv, hc⟩ := H1.out.kept (O3.trans i5.st.only (by simp))
      obtain ⟨b, off, bv, kv, ha, c0, c1, c2, c3, c4, hb, hkv, _, hat, _, hbl, hkl2⟩ := hc k _ hkl
      obtain ⟨ba, bcap, hbv, _⟩ := hb
      obtain ⟨ka, kcap, hkv', _⟩ := hkv
      cases hv
      subst ha
      subst hbv
      subst hkv'
      generalize os1[k].bytes.length = bl at c3
      generalize os1[k].keep.length = kl at c4
      generalize os1[k].kind = kind at c0
      generalize os1[k].at_ = at_ at c1 hat
      generalize os1[k].n = nn at c2
      obtain ⟨j, hj, hjx⟩ := mod_nat at_
      have HJ := Lib.hid hjx
      clear hc hkl hbl hkl2 hat hjx
      have HI := Lib.hid i5
      have HX := Lib.hid b6
      clear i5 b6
      go_wp2_with fail
      have s8 := HI.out.st.quiet ((Only.refl [] wr).alloc (.cells #[.int .i64 kind, .int .i64 at_, .int .i64 nn, .slice ba bl bcap, .slice ka kl kcap] 37))
      have B8 := heap_new wr (.cells #[.int .i64 kind, .int .i64 at_, .int .i64 nn, .slice ba bl bcap, .slice ka kl kcap] 37)
      have R8 := heap_old (.cells #[.int .i64 kind, .int .i64 at_, .int .i64 nn, .slice ba bl bcap, .slice ka kl kcap] 37) HI.out.row
      have X8 := heap_old (.cells #[.int .i64 kind, .int .i64 at_, .int .i64 nn, .slice ba bl bcap, .slice ka kl kcap] 37) HX.out
      have hg8 : w3.heap.size ≤ wr.heap.size := HI.out.st.only.size
      have hn8 : wr.heap.size ≠ g5 := by have := lt_of_heap HI.out.row; omega
      generalize wr.heap.size = g8 at B8 hg8 hn8 ⊢
      generalize wr.alloc (.cells #[.int .i64 kind, .int .i64 at_, .int .i64 nn, .slice ba bl bcap, .slice ka kl kcap] 37) = w8 at s8 B8 R8 X8 ⊢
      have HB := Lib.hid B8
      have HR := Lib.hid R8
      have HY := Lib.hid X8
      have HN := Lib.hid hn8
      have e0 : w8.cell? ⟨g8, 0, none⟩ = some (.int .i64 kind) := cell_at 0 B8
      have e1 : w8.cell? ⟨g8, 1, none⟩ = some (.int .i64 at_) := cell_at 1 B8
      have e2 : w8.cell? ⟨g8, 2, none⟩ = some (.int .i64 nn) := cell_at 2 B8
      have e3 : w8.cell? ⟨g8, 3, none⟩ = some (.slice ba bl bcap) := cell_at 3 B8
      have e4 : w8.cell? ⟨g8, 4, none⟩ = some (.slice ka kl kcap) := cell_at 4 B8
      clear B8 R8 X8 c0 c1 c2 c3 c4 hn8
      go_region_held3 (fun w' => w'.cell? ⟨g8, 0, none⟩ = some (.int .i64 kind) ∧ w'.cell? ⟨g8, 1, none⟩ = some (.int .i64 at_) ∧ w'.cell? ⟨g8, 2, none⟩ = some (.int .i64 nn) ∧ w'.cell? ⟨g8, 3, none⟩ = some (.slice ba bl bcap) ∧ w'.cell? ⟨g8, 4, none⟩ = some (.slice ka kl kcap))
        (first | (exact ⟨by assumption, by assumption, by assumption, by assumption, by assumption⟩) | go_keep) (first
        | (go_at_call 23
           (with_reducible refine (at_named _ _ _ _ _ _ j HJ.out).mono ?_)
           rintro e w11 ⟨rfl, o11⟩
           have s11 := s8.quiet (((Only.refl [] _).drew).trans o11 (by simp))
           have B11 := o11.heap (w := w8.drew) HB.out (by simp)
           have R11 := Lib.hid (o11.heap (w := w8.drew) HR.out (by simp))
           have Y11 := Lib.hid (o11.heap (w := w8.drew) HY.out (by simp))
           have e0 : w11.cell? ⟨g8, 0, none⟩ = some (.int .i64 kind) := cell_at 0 B11
           have e1 : w11.cell? ⟨g8, 1, none⟩ = some (.int .i64 at_) := cell_at 1 B11
           have e2 : w11.cell? ⟨g8, 2, none⟩ = some (.int .i64 nn) := cell_at 2 B11
           have e3 : w11.cell? ⟨g8, 3, none⟩ = some (.slice ba bl bcap) := cell_at 3 B11
           have e4 : w11.cell? ⟨g8, 4, none⟩ = some (.slice ka kl kcap) := cell_at 4 B11
           have H11 := Lib.hid B11
           clear B11 o11)
        | (go_at_call 25
           (with_reducible refine (full_any nn _).mono ?_)
           rintro e w12 ⟨g12, rfl, b12, _, o12⟩
           have s12 := s11.quiet o12
           have B12 := o12.heap H11.out (by simp)
           have R12 := Lib.hid (o12.heap R11.out (by simp))
           have Y12 := Lib.hid (o12.heap Y11.out (by simp))
           have e0 : w12.cell? ⟨g8, 0, none⟩ = some (.int .i64 kind) := cell_at 0 B12
           have e1 : w12.cell? ⟨g8, 1, none⟩ = some (.int .i64 at_) := cell_at 1 B12
           have e2 : w12.cell? ⟨g8, 2, none⟩ = some (.int .i64 nn) := cell_at 2 B12
           have e3 : w12.cell? ⟨g8, 3, none⟩ = some (.slice ba bl bcap) := cell_at 3 B12
           have e4 : w12.cell? ⟨g8, 4, none⟩ = some (.slice ka kl kcap) := cell_at 4 B12
           have H12 := Lib.hid B12
           clear B12 o12)
        | (go_at_call 24
           (with_reducible refine (write_st _ s12 b12 (fullOf_length _) (by rw [HI.out.size]; exact inB_iff.2 ⟨by omega, by omega⟩) HI.out.off).mono ?_)
           rintro e w13 ⟨rfl, s13, o13⟩
           have B13 := o13.heap H12.out (s12.apart' H12.out (by decide))
           have R13 := Lib.hid (o13.heap R12.out (s12.apart' R12.out (by decide)))
           have Y13 := Lib.hid (o13.heap Y12.out (s12.apart' Y12.out (by decide)))
           have e0 : w13.cell? ⟨g8, 0, none⟩ = some (.int .i64 kind) := cell_at 0 B13
           have e1 : w13.cell? ⟨g8, 1, none⟩ = some (.int .i64 at_) := cell_at 1 B13
           have e2 : w13.cell? ⟨g8, 2, none⟩ = some (.int .i64 nn) := cell_at 2 B13
           have e3 : w13.cell? ⟨g8, 3, none⟩ = some (.slice ba bl bcap) := cell_at 3 B13
           have e4 : w13.cell? ⟨g8, 4, none⟩ = some (.slice ka kl kcap) := cell_at 4 B13
           have H13 := Lib.hid B13
           clear B13 o13))
      clear s8 s11 s12 b12 H11 R11 Y11 H12 R12 Y12 HB HR HY
      go_wp2_with fail
      have hlj : ∃ x, l[j]? = some x := ⟨_, List.getElem?_eq_getElem (by rw [HI.out.len]; exact hj)⟩
      obtain ⟨xo, hxo⟩ := hlj
      have HXO := Lib.hid hxo
      have j0 : (0 : Int) ≤ (j : Int) := by omega
      have j1 : (j : Int) < 16 := by omega
      have hn9 : ¬ g5 = g8 := fun e => HN.out e.symm
      have e0d : w13.drew.cell? ⟨g8, 0, none⟩ = some (.int .i64 kind) := e0
      clear hxo
      go_region_held3 (fun w' => w'.cell? ⟨g8, 0, none⟩ = some (.int .i64 kind) ∧ w'.cell? ⟨g8, 1, none⟩ = some (.int .i64 at_) ∧ w'.cell? ⟨g8, 2, none⟩ = some (.int .i64 nn) ∧ w'.cell? ⟨g8, 3, none⟩ = some (.slice ba bl bcap) ∧ w'.cell? ⟨g8, 4, none⟩ = some (.slice ka kl kcap))
        (first | (exact ⟨by assumption, by assumption, by assumption, by assumption, by assumption⟩) | go_keep) (first
        | (go_at_call 23
           (with_reducible refine (at_named _ _ _ _ _ _ j HJ.out).mono ?_)
           rintro e w14 ⟨rfl, o14⟩
           have s14 := s13.quiet (((Only.refl [] _).drew).trans o14 (by simp))
           have B14 := o14.heap (w := w13.drew) H13.out (by simp)
           have R14 := o14.heap (w := w13.drew) R13.out (by simp)
           have Y14 := Lib.hid (o14.heap (w := w13.drew) Y13.out (by simp))
           have c9 : w14.cell? ⟨g5, j, none⟩ = some (.int .i64 xo) := by rw [cell_at j R14, arr_get, HXO.out]; rfl
           have f9 : w14.frozen? ⟨g5, j, none⟩ = false := free_at j R14
           have e0 : w14.cell? ⟨g8, 0, none⟩ = some (.int .i64 kind) := cell_at 0 B14
           have e1 : w14.cell? ⟨g8, 1, none⟩ = some (.int .i64 at_) := cell_at 1 B14
           have e2 : w14.cell? ⟨g8, 2, none⟩ = some (.int .i64 nn) := cell_at 2 B14
           have e3 : w14.cell? ⟨g8, 3, none⟩ = some (.slice ba bl bcap) := cell_at 3 B14
           have e4 : w14.cell? ⟨g8, 4, none⟩ = some (.slice ka kl kcap) := cell_at 4 B14
           have H14 := Lib.hid R14
           clear B14 R14 o14))
      have P15 : Only [g5] w14 (w14.setCell ⟨g5, j, none⟩ (.int .i64 (bits .and .i64 nn 255))) := (Only.refl _ _).setCell (by simp) _
      have B15 := heap_cell (i := j) (.int .i64 (bits .and .i64 nn 255)) H14.out
      rw [arr_set] at B15
      have Y15 := P15.heap Y14.out (by simpa using HNE.out.symm)
      have s15 := s14.poke P15 hg5 (s14.apart' H14.out (by decide))
      have i15 := HI.out.write hj (full_and nn) s15 B15
      clear e0 e1 e2 e3 e4 c9 f9 P15 s15 B15 s14
      go_wp2_with fail
      go_roundw
      case rel => exact ⟨k + 1, _, _, by omega, by go_num, i15, Y15⟩
      case measure => simp [intOf]; omega
    · obtain rfl : k = os1.length := by omega
      go_wp2_with fail
      refine (sync_st i5.st i5.off).mono ?_
      rintro e w6 ⟨rfl, s6, o6⟩
      have b5' := o6.heap i5.row (i5.st.apart' i5.row (by decide))
      have b6' := o6.heap b6 (i5.st.apart' b6 (by decide))
      have j6 : SynI w3 w6 a d.sync g5 l := ⟨s6, b5', i5.len, i5.size, i5.arm, i5.dn, i5.get⟩
      have q6 := OldI.sync i5
      clear i5 b6 s6 o6 b5'
      have H6 := Lib.hid j6
      clear j6
      go_wp2_with (first
        | (refine wpList_load_arr rfl (.tmp 9) rfl g5 (by rfl) H6.out.len H6.out.row ?_)
        | (refine wpList_store_arr (l := l) (old := noughts) rfl (.tmp 10) (.tmp 74) rfl g6 (by rfl) (by rfl) H6.out.len (by rfl) b6' ?_; intro w7 b7 o7))
      have hlen6 := H6.out.len
      have r7 := o7.heap H6.out.row (by simpa using HNE.out)
      have i7 : SynI w3 w7 a d.sync g6 l := ⟨H6.out.st.poke o7 hg6 (H6.out.st.apart' b6' (by decide)), b7, hlen6, H6.out.size, H6.out.arm, H6.out.dn, H6.out.get⟩
      have HLEN := Lib.hid hlen6
      clear b7 o7 b6' H6 hlen6
      go_loopw [15, 77] (fun _ i wr => ∃ (k : Nat) (d : Disk) (m : List Int), k ≤ os2.length ∧ i = .int .i64 k ∧ SynI w3 wr a d g6 m ∧ wr.heap[g5]? = some (.cells (arr l) 49 (0, 0)) ∧ OldI d l) (fun _ i _ => os2.length - (intOf i).toNat)
      case atStart => exact ⟨0, _, _, by omega, rfl, i7, r7, q6⟩
      case round =>
        clear i7 r7 q6
        obtain ⟨k, d, m, hk, rfl, i5, b6, q5⟩ := hrel
        have HQ := Lib.hid q5
        clear q5
        by_cases hlt : k < os2.length
        · have hkl : os2[k]? = some os2[k] := List.getElem?_eq_getElem hlt
          obtain ⟨a', cap', hv, hc⟩ := H2.out.kept (O3.trans i5.st.only (by simp))
          obtain ⟨b, off, bv, kv, ha, c0, c1, c2, c3, c4, hb, hkv, _, hat, _, hbl, hkl2⟩ := hc k _ hkl
          obtain ⟨ba, bcap, hbv, _⟩ := hb
          obtain ⟨ka, kcap, hkv', _⟩ := hkv
          cases hv
          subst ha
          subst hbv
          subst hkv'
          generalize os2[k].bytes.length = bl at c3
          generalize os2[k].keep.length = kl at c4
          generalize os2[k].kind = kind at c0
          generalize os2[k].at_ = at_ at c1 hat
          generalize os2[k].n = nn at c2
          obtain ⟨j, hj, hjx⟩ := mod_nat at_
          have HJ := Lib.hid hjx
          clear hc hkl hbl hkl2 hat hjx
          have HI := Lib.hid i5
          have HX := Lib.hid b6
          clear i5 b6
          go_wp2_with fail
          have s8 := HI.out.st.quiet ((Only.refl [] wr).alloc (.cells #[.int .i64 kind, .int .i64 at_, .int .i64 nn, .slice ba bl bcap, .slice ka kl kcap] 37))
          have B8 := heap_new wr (.cells #[.int .i64 kind, .int .i64 at_, .int .i64 nn, .slice ba bl bcap, .slice ka kl kcap] 37)
          have R8 := heap_old (.cells #[.int .i64 kind, .int .i64 at_, .int .i64 nn, .slice ba bl bcap, .slice ka kl kcap] 37) HI.out.row
          have X8 := heap_old (.cells #[.int .i64 kind, .int .i64 at_, .int .i64 nn, .slice ba bl bcap, .slice ka kl kcap] 37) HX.out
          have hg8 : w3.heap.size ≤ wr.heap.size := HI.out.st.only.size
          have hn8 : wr.heap.size ≠ g6 := by have := lt_of_heap HI.out.row; omega
          generalize wr.heap.size = g8 at B8 hg8 hn8 ⊢
          generalize wr.alloc (.cells #[.int .i64 kind, .int .i64 at_, .int .i64 nn, .slice ba bl bcap, .slice ka kl kcap] 37) = w8 at s8 B8 R8 X8 ⊢
          have HB := Lib.hid B8
          have HR := Lib.hid R8
          have HY := Lib.hid X8
          have HN := Lib.hid hn8
          have e0 : w8.cell? ⟨g8, 0, none⟩ = some (.int .i64 kind) := cell_at 0 B8
          have e1 : w8.cell? ⟨g8, 1, none⟩ = some (.int .i64 at_) := cell_at 1 B8
          have e2 : w8.cell? ⟨g8, 2, none⟩ = some (.int .i64 nn) := cell_at 2 B8
          have e3 : w8.cell? ⟨g8, 3, none⟩ = some (.slice ba bl bcap) := cell_at 3 B8
          have e4 : w8.cell? ⟨g8, 4, none⟩ = some (.slice ka kl kcap) := cell_at 4 B8
          clear B8 R8 X8 c0 c1 c2 c3 c4 hn8
          go_region_held3 (fun w' => w'.cell? ⟨g8, 0, none⟩ = some (.int .i64 kind) ∧ w'.cell? ⟨g8, 1, none⟩ = some (.int .i64 at_) ∧ w'.cell? ⟨g8, 2, none⟩ = some (.int .i64 nn) ∧ w'.cell? ⟨g8, 3, none⟩ = some (.slice ba bl bcap) ∧ w'.cell? ⟨g8, 4, none⟩ = some (.slice ka kl kcap))
            (first | (exact ⟨by assumption, by assumption, by assumption, by assumption, by assumption⟩) | go_keep) (first
            | (go_at_call 23
               (with_reducible refine (at_named _ _ _ _ _ _ j HJ.out).mono ?_)
               rintro e w11 ⟨rfl, o11⟩
               have s11 := s8.quiet (((Only.refl [] _).drew).trans o11 (by simp))
               have B11 := o11.heap (w := w8.drew) HB.out (by simp)
               have R11 := Lib.hid (o11.heap (w := w8.drew) HR.out (by simp))
               have Y11 := Lib.hid (o11.heap (w := w8.drew) HY.out (by simp))
               have e0 : w11.cell? ⟨g8, 0, none⟩ = some (.int .i64 kind) := cell_at 0 B11
               have e1 : w11.cell? ⟨g8, 1, none⟩ = some (.int .i64 at_) := cell_at 1 B11
               have e2 : w11.cell? ⟨g8, 2, none⟩ = some (.int .i64 nn) := cell_at 2 B11
               have e3 : w11.cell? ⟨g8, 3, none⟩ = some (.slice ba bl bcap) := cell_at 3 B11
               have e4 : w11.cell? ⟨g8, 4, none⟩ = some (.slice ka kl kcap) := cell_at 4 B11
               have H11 := Lib.hid B11
               clear B11 o11)
            | (go_at_call 25
               (with_reducible refine (full_any nn _).mono ?_)
               rintro e w12 ⟨g12, rfl, b12, _, o12⟩
               have s12 := s11.quiet o12
               have B12 := o12.heap H11.out (by simp)
               have R12 := Lib.hid (o12.heap R11.out (by simp))
               have Y12 := Lib.hid (o12.heap Y11.out (by simp))
               have e0 : w12.cell? ⟨g8, 0, none⟩ = some (.int .i64 kind) := cell_at 0 B12
               have e1 : w12.cell? ⟨g8, 1, none⟩ = some (.int .i64 at_) := cell_at 1 B12
               have e2 : w12.cell? ⟨g8, 2, none⟩ = some (.int .i64 nn) := cell_at 2 B12
               have e3 : w12.cell? ⟨g8, 3, none⟩ = some (.slice ba bl bcap) := cell_at 3 B12
               have e4 : w12.cell? ⟨g8, 4, none⟩ = some (.slice ka kl kcap) := cell_at 4 B12
               have H12 := Lib.hid B12
               clear B12 o12)
            | (go_at_call 24
               (with_reducible refine (write_st _ s12 b12 (fullOf_length _) (by rw [HI.out.size]; exact inB_iff.2 ⟨by omega, by omega⟩) HI.out.off).mono ?_)
               rintro e w13 ⟨rfl, s13, o13⟩
               have B13 := o13.heap H12.out (s12.apart' H12.out (by decide))
               have R13 := Lib.hid (o13.heap R12.out (s12.apart' R12.out (by decide)))
               have Y13 := Lib.hid (o13.heap Y12.out (s12.apart' Y12.out (by decide)))
               have e0 : w13.cell? ⟨g8, 0, none⟩ = some (.int .i64 kind) := cell_at 0 B13
               have e1 : w13.cell? ⟨g8, 1, none⟩ = some (.int .i64 at_) := cell_at 1 B13
               have e2 : w13.cell? ⟨g8, 2, none⟩ = some (.int .i64 nn) := cell_at 2 B13
               have e3 : w13.cell? ⟨g8, 3, none⟩ = some (.slice ba bl bcap) := cell_at 3 B13
               have e4 : w13.cell? ⟨g8, 4, none⟩ = some (.slice ka kl kcap) := cell_at 4 B13
               have H13 := Lib.hid B13
               clear B13 o13))
          clear s8 s11 s12 b12 H11 R11 Y11 H12 R12 Y12 HB HR HY
          go_wp2_with fail
          have hlj : ∃ x, m[j]? = some x := ⟨_, List.getElem?_eq_getElem (by rw [HI.out.len]; exact hj)⟩
          obtain ⟨xo, hxo⟩ := hlj
          have HXO := Lib.hid hxo
          have j0 : (0 : Int) ≤ (j : Int) := by omega
          have j1 : (j : Int) < 16 := by omega
          have hn9 : ¬ g6 = g8 := fun e => HN.out e.symm
          have e0d : w13.drew.cell? ⟨g8, 0, none⟩ = some (.int .i64 kind) := e0
          clear hxo
          go_region_held3 (fun w' => w'.cell? ⟨g8, 0, none⟩ = some (.int .i64 kind) ∧ w'.cell? ⟨g8, 1, none⟩ = some (.int .i64 at_) ∧ w'.cell? ⟨g8, 2, none⟩ = some (.int .i64 nn) ∧ w'.cell? ⟨g8, 3, none⟩ = some (.slice ba bl bcap) ∧ w'.cell? ⟨g8, 4, none⟩ = some (.slice ka kl kcap))
            (first | (exact ⟨by assumption, by assumption, by assumption, by assumption, by assumption⟩) | go_keep) (first
            | (go_at_call 23
               (with_reducible refine (at_named _ _ _ _ _ _ j HJ.out).mono ?_)
               rintro e w14 ⟨rfl, o14⟩
               have s14 := s13.quiet (((Only.refl [] _).drew).trans o14 (by simp))
               have B14 := o14.heap (w := w13.drew) H13.out (by simp)
               have R14 := o14.heap (w := w13.drew) R13.out (by simp)
               have Y14 := Lib.hid (o14.heap (w := w13.drew) Y13.out (by simp))
               have c9 : w14.cell? ⟨g6, j, none⟩ = some (.int .i64 xo) := by rw [cell_at j R14, arr_get, HXO.out]; rfl
               have f9 : w14.frozen? ⟨g6, j, none⟩ = false := free_at j R14
               have e0 : w14.cell? ⟨g8, 0, none⟩ = some (.int .i64 kind) := cell_at 0 B14
               have e1 : w14.cell? ⟨g8, 1, none⟩ = some (.int .i64 at_) := cell_at 1 B14
               have e2 : w14.cell? ⟨g8, 2, none⟩ = some (.int .i64 nn) := cell_at 2 B14
               have e3 : w14.cell? ⟨g8, 3, none⟩ = some (.slice ba bl bcap) := cell_at 3 B14
               have e4 : w14.cell? ⟨g8, 4, none⟩ = some (.slice ka kl kcap) := cell_at 4 B14
               have H14 := Lib.hid R14
               clear B14 R14 o14))
          have P15 : Only [g6] w14 (w14.setCell ⟨g6, j, none⟩ (.int .i64 (bits .and .i64 nn 255))) := (Only.refl _ _).setCell (by simp) _
          have B15 := heap_cell (i := j) (.int .i64 (bits .and .i64 nn 255)) H14.out
          rw [arr_set] at B15
          have Y15 := P15.heap Y14.out (by simpa using HNE.out)
          have s15 := s14.poke P15 hg6 (s14.apart' H14.out (by decide))
          have i15 := HI.out.write hj (full_and nn) s15 B15
          clear e0 e1 e2 e3 e4 c9 f9 P15 s15 B15 s14
          go_wp2_with fail
          go_roundw
          case rel => exact ⟨k + 1, _, _, by omega, by go_num, i15, Y15, HQ.out.write j (fullOf nn)⟩
          case measure => simp [intOf]; omega
        · obtain rfl : k = os2.length := by omega
          go_wp2_with fail
          have hsep : Off (.slice va3 ks.length vcap3) a.bl := fun g p c e h0 hm => by
            cases e
            obtain ⟨_, b, off, cap, hv, hcell⟩ := H3.out.at_ (i := 0) (k := ks[0]) (List.getElem?_eq_getElem h0)
            cases hv
            have h1 := World.block_lt_of_cell? _ _ hcell
            have h2 := i5.st.new _ hm
            have h3 := O3.size
            dsimp only at h1 h2
            omega
          have k5 := H3.out.kept (O3.trans i5.st.only (by simp)) (fun _ _ _ _ _ => by simp)
          refine (Crash_any a d _ ks _ i5.st.dev k5 hsep (by omega)).mono ?_
          rintro e w9 ⟨rfl, d9, o9⟩
          have s9 := i5.st.step o9 d9
          have b9 := o9.heap b6 (i5.st.apart' b6 (by decide))
          have c9 := o9.heap i5.row (i5.st.apart' i5.row (by decide))
          have k9 := H3.out.kept (O3.trans s9.only (by simp)) (fun _ _ _ _ _ => by simp)
          have hget : ∀ (i : Nat) (x y : Int), l[i]? = some x → m[i]? = some y → (d.crash ks).get i = fullOf (if (i : Int) ∈ ks then y else x) := fun i x y hx hy => by
            rw [crash_get]
            by_cases e : (i : Int) ∈ ks
            · rw [if_pos e, if_pos e]
              exact i5.get i y hy
            · rw [if_neg e, if_neg e]
              exact HQ.out i x hx
          have hsz : (d.crash ks).size = 16 := i5.size
          have HG := Lib.hid hget
          have HSZ := Lib.hid hsz
          have HM := Lib.hid i5.len
          clear hget hsz i5 b6 k5 hsep d9 o9
          have hold : (d.crash ks).old = fun _ => none := rfl
          have hdn : (d.crash ks).met.down = false := rfl
          have HO := Lib.hid hold
          have HDN := Lib.hid hdn
          clear hold hdn
          generalize d.crash ks = D at s9 HG HSZ HO HDN
          go_wp2_with fail
          go_loopw [16, 17, 19, 20, 21, 102] (fun _ _ _ _ _ i wr => ∃ q : Nat, q ≤ 16 ∧ i = .int .i64 q ∧ St w3 wr a D ∧ wr.heap[g5]? = some (.cells (arr l) 49 (0, 0)) ∧ wr.heap[g6]? = some (.cells (arr m) 49 (0, 0)) ∧ IntsV wr (.slice va3 ks.length vcap3) ks) (fun _ _ _ _ _ i _ => 16 - (intOf i).toNat)
          case atStart => exact ⟨0, by omega, rfl, s9, b9, c9, k9⟩
          case round =>
            clear s9 b9 c9 k9
            obtain ⟨q, hq, rfl, s10, b10, c10, k10⟩ := hrel
            by_cases hlt : q < 16
            · have hlq : ∃ x, l[q]? = some x := ⟨_, List.getElem?_eq_getElem (by rw [HLEN.out]; exact hlt)⟩
              have hmq : ∃ y, m[q]? = some y := ⟨_, List.getElem?_eq_getElem (by rw [HM.out]; exact hlt)⟩
              obtain ⟨x, hx⟩ := hlq
              obtain ⟨y, hy⟩ := hmq
              have x1 : ∃ wo : World, wo = wr := ⟨_, rfl⟩
              obtain ⟨wo, rfl⟩ := x1
              have d5 : wo.cell? ⟨g5, q, none⟩ = some (.int .i64 x) := by rw [cell_at q b10, arr_get, hx]; rfl
              have d6 : wo.cell? ⟨g6, q, none⟩ = some (.int .i64 y) := by rw [cell_at q c10, arr_get, hy]; rfl
              have q0 : (0 : Int) ≤ (q : Int) := by omega
              have q1 : (q : Int) < 16 := by omega
              have HGQ := Lib.hid (HG.out q x y hx hy)
              have HS10 := Lib.hid s10
              have HB10 := Lib.hid b10
              have HC10 := Lib.hid c10
              have HK10 := Lib.hid k10
              clear hx hy s10 b10 c10 k10
              go_wp2_with fail
              go_loop [17, 19, 110] (fun wv _ i => ∃ jj : Nat, jj ≤ ks.length ∧ i = .int .i64 jj ∧ wv = .int .i64 (if (q : Int) ∈ ks.take jj then y else x)) (fun _ _ i => ks.length - (intOf i).toNat)
              case atStart => exact ⟨0, by omega, rfl, by simp⟩
              case round =>
                obtain ⟨jj, hjj, rfl, rfl⟩ := hrel
                by_cases hl2 : jj < ks.length
                · have hkj : ks[jj]? = some ks[jj] := List.getElem?_eq_getElem hl2
                  obtain ⟨_, b, off, cap, hv, hcell⟩ := HK10.out.at_ hkj
                  cases hv
                  have htk : ks.take (jj + 1) = ks.take jj ++ [ks[jj]] := by rw [List.take_add_one, hkj]; rfl
                  have HTK := Lib.hid htk
                  clear htk hkj
                  generalize ks[jj] = kj at hcell HTK
                  by_cases he : kj = (q : Int)
                  · subst he
                    go_wp2_with fail
                    go_round
                    case rel => exact ⟨jj + 1, by omega, by go_num, by rw [HTK.out]; simp⟩
                    case measure => simp [intOf]; omega
                  · have he' : (kj == (q : Int)) = false := by simpa using he
                    have hne : ¬ (q : Int) = kj := fun e => he e.symm
                    have HNQ := Lib.hid hne
                    clear he hne
                    go_wp2_with fail
                    go_round
                    case rel => exact ⟨jj + 1, by omega, by go_num, by rw [HTK.out]; simp [HNQ.out]⟩
                    case measure => simp [intOf]; omega
                · obtain rfl : jj = ks.length := by omega
                  rw [List.take_length]
                  have hwv : D.get q = fullOf (if (q : Int) ∈ ks then y else x) := HGQ.out
                  generalize (if (q : Int) ∈ ks then y else x) = wv at hwv
                  have HW := Lib.hid hwv
                  clear hwv
                  go_wp2_with fail
                  refine (read_st q HS10.out (by rw [HSZ.out]; exact inB_iff.2 ⟨by omega, by omega⟩) HDN.out _ HW.out).mono ?_
                  rintro e w20 ⟨g20, rfl, b20, _, s20, o20⟩
                  have R20 := o20.heap HB10.out (by simp)
                  have M20 := o20.heap HC10.out (by simp)
                  have K20 := HK10.out.kept o20 (fun _ _ _ _ _ => by simp)
                  clear o20
                  go_wp2_with fail
                  obtain ⟨S1, hS1⟩ : ∃ S, S = strOf (fullOf wv) := ⟨_, rfl⟩
                  have HS1 := Lib.hid hS1
                  have c20 : BBlk w20.drew g20 (fullOf wv) := b20
                  have e20 := str_of c20 (fullOf_length _) hS1
                  have s21 := s20.quiet ((Only.refl [] _).drew)
                  have R21 := Lib.hid (show w20.drew.heap[g5]? = _ from R20)
                  have M21 := Lib.hid (show w20.drew.heap[g6]? = _ from M20)
                  have K21 := Lib.hid (K20.kept ((Only.refl [] w20).drew) (fun _ _ _ _ _ => by simp))
                  clear hS1 b20 s20 R20 M20 K20
                  refine wp_region_held_drew (S := fun w' => (convert 34 9 (.slice (some ⟨g20, 0, none⟩) 512 512)).run Try.prog w' = .ok (.string S1) w') (by kernel_rfl) e20 (fun hH => ?_)
                  refine take_list (i := 0) (v := ?_) rfl (by kernel_rfl) (by kernel_rfl) (by kernel_rfl) (fun _ _ _ h => h) (Or.inl ⟨by rfl, ?_⟩) hH ?_
                  rotate_left
                  · ((intro w hSw; (try dsimp only at hSw); go_simp); try with_reducible rfl)
                  simp only [Act.put, List.setIfInBounds_toArray, List.set_cons_zero, List.set_cons_succ]
                  refine take_list (i := 1) (v := ?_) rfl (by kernel_rfl) (by kernel_rfl) (by kernel_rfl) (fun _ _ _ h => h) (Or.inl ⟨by rfl, ?_⟩) hH ?_
                  rotate_left
                  · ((intro w hSw; (try dsimp only at hSw); go_simp); try with_reducible rfl)
                  simp only [Act.put, List.setIfInBounds_toArray, List.set_cons_zero, List.set_cons_succ]
                  refine take_list (i := 2) (v := ?_) rfl (by kernel_rfl) (by kernel_rfl) (by kernel_rfl) (fun _ _ _ h => h) (Or.inl ⟨by rfl, ?_⟩) hH ?_
                  rotate_left
                  · ((intro w hSw; (try dsimp only at hSw); go_simp); try with_reducible rfl)
                  simp only [Act.put, List.setIfInBounds_toArray, List.set_cons_zero, List.set_cons_succ]
                  refine take_list (i := 3) (v := ?_) rfl (by kernel_rfl) (by kernel_rfl) (by kernel_rfl) (fun _ _ _ h => h) (Or.inl ⟨by rfl, ?_⟩) hH ?_
                  rotate_left
                  · ((intro w hSw; (try dsimp only at hSw); go_simp); try with_reducible rfl)
                  simp only [Act.put, List.setIfInBounds_toArray, List.set_cons_zero, List.set_cons_succ]
                  refine take_list (i := 4) (v := ?_) rfl (by kernel_rfl) (by kernel_rfl) (by kernel_rfl) (fun _ _ _ h => h) (Or.inl ⟨by rfl, ?_⟩) hH ?_
                  rotate_left
                  · ((intro w hSw; (try dsimp only at hSw); go_simp); try with_reducible rfl)
                  simp only [Act.put, List.setIfInBounds_toArray, List.set_cons_zero, List.set_cons_succ]
                  refine take_list (i := 5) (v := ?_) rfl (by kernel_rfl) (by kernel_rfl) (by kernel_rfl) (fun _ _ _ h => h) (Or.inl ⟨by rfl, ?_⟩) hH ?_
                  rotate_left
                  · ((intro w hSw; (try dsimp only at hSw); go_simp); try with_reducible rfl)
                  simp only [Act.put, List.setIfInBounds_toArray, List.set_cons_zero, List.set_cons_succ]
                  refine wpAnyH_ready (rs := [6]) (by kernel_rfl) (by simp) ?_
                  refine ready_list rfl (fun K hK => ?_)
                  go_simp
                  refine (full_any wv _).mono ?_
                  rintro e w22 ⟨g22, rfl, b22, _, o22⟩
                  replace s21 := s21.quiet o22
                  replace c20 := c20.kept o22 (by simp)
                  replace e20 := str_of c20 (fullOf_length _) HS1.out
                  have e22 := str_of b22 (fullOf_length _) HS1.out
                  replace R21 := Lib.hid (o22.heap R21.out (by simp))
                  replace M21 := Lib.hid (o22.heap M21.out (by simp))
                  replace K21 := Lib.hid (K21.out.kept o22 (fun _ _ _ _ _ => by simp))
                  refine hK.out _ _ e20 (fun hH => ?_)
                  clear hK K
                  refine wpAnyH_ready (rs := [7]) (by kernel_rfl) (by simp) ?_
                  refine ready_list rfl (fun K hK => ?_)
                  go_simp
                  refine hK.out _ _ hH (fun hH => ?_)
                  clear hK K
                  refine take_list (i := 8) (v := ?_) rfl (by kernel_rfl) (by kernel_rfl) (by kernel_rfl) (fun _ _ _ h => h) (Or.inl ⟨by rfl, ?_⟩) hH ?_
                  rotate_left
                  · ((intro w hSw; (try dsimp only at hSw); go_simp); try with_reducible rfl)
                  simp only [Act.put, List.setIfInBounds_toArray, List.set_cons_zero, List.set_cons_succ]
                  refine take_list (i := 9) (v := ?_) rfl (by kernel_rfl) (by kernel_rfl) (by kernel_rfl) (fun _ _ _ h => h) (Or.inl ⟨by rfl, ?_⟩) hH ?_
                  rotate_left
                  · ((intro w hSw; (try dsimp only at hSw); go_simp); try with_reducible rfl)
                  simp only [Act.put, List.setIfInBounds_toArray, List.set_cons_zero, List.set_cons_succ]
                  refine wpAnyH_done (by kernel_rfl) ?_ _
                  clear hH e20 e22 c20 b22 o22
                  go_wp2_with fail
                  go_roundw
                  case rel => exact ⟨q + 1, by omega, by go_num, s21, R21.out, M21.out, K21.out⟩
                  case measure => simp [intOf]; omega
            · obtain rfl : q = 16 := by omega
              go_wp2_with fail
              refine (unsynced_none a D _ s10.dev HO.out).mono ?_
              rintro e w21 ⟨rfl, o21⟩
              go_wp2_with fail
              go_ret
              exact ⟨rfl, O3.trans (s10.only.trans o21 (by simp)) (by simp)⟩

set_option maxRecDepth 100000 in
theorem synced_lifted (os : Os) (started : os.Started) (H : Type) (enc : TypeId × Value → H) :
    ReturnsInHanded {} Try.checked os 4 .any (Rows.diskSyncedSpec.pre6 enc Try.prog Try.f4 Rows.diskSyncedRow.domain false) (Rows.diskSyncedSpec.post enc Try.prog Try.f4 false true false false) := by
  refine returnsInHanded_of_change (C := Try.checked) law_own started (by kernel_rfl) Try.func4
    (ChangeSpec.witness6 (enc := enc) (C := Try.checked) false ⟨#[], #[.slice none 0 0, .slice none 0 0, .slice none 0 0], []⟩ 8 (by kernel_rfl) (by kernel_rfl) (by kernel_rfl) (by kernel_rfl)) ?_
  intro W base args ds gs before hval0 hW hcnd _
  have hval : ∀ (j : Nat) t v, Try.f4.params[j]? = some t → args[j]? = some v → Value.okWide Try.prog W .any base t v := hval0
  have hW' := hW
  obtain ⟨p, q, hA0, hV, rfl, hfz, hnd⟩ := hW
  have hA : DataW.TrodAll enc Try.prog W 0 (fun _ => true) true Try.f4.params.toList args.toList ds p := hA0
  rw [Try.params4] at hA hval
  obtain ⟨v0, vs0, d0, ds0, p0, q0, hargs, rfl, rfl, h0, r0⟩ := trodAll_cons hA
  obtain ⟨v1, vs1, d1, ds1, p1, q1, rfl, rfl, rfl, h1, r1⟩ := trodAll_cons r0
  obtain ⟨v2, vs2, d2, ds2, p2, q2, rfl, rfl, rfl, h2, r2⟩ := trodAll_cons r1
  obtain ⟨rfl, rfl, rfl⟩ := trodAll_nil r2
  obtain rfl : args = #[v0, v1, v2] := by cases args; simp_all
  obtain ⟨rfl, rfl⟩ := trodVars_none hV
  obtain ⟨sa0, sl0, sc0, rfl⟩ := okWide_slice Try.underlying22 (hval 0 22 v0 rfl rfl)
  have h0' := h0
  obtain ⟨fuel0, hf0⟩ := h0
  obtain ⟨l0, hs0, hl0⟩ := open_script (v := .slice sa0 sl0 sc0) hf0
  have hlt0 : ∀ x ∈ p0, x.block < W.heap.size := fun x hx => hW'.lt x (by simp [hx])
  obtain ⟨sa1, sl1, sc1, rfl⟩ := okWide_slice Try.underlying22 (hval 1 22 v1 rfl rfl)
  have h1' := h1
  obtain ⟨fuel1, hf1⟩ := h1
  obtain ⟨l1, hs1, hl1⟩ := open_script (v := .slice sa1 sl1 sc1) hf1
  have hlt1 : ∀ x ∈ p1, x.block < W.heap.size := fun x hx => hW'.lt x (by simp [hx])
  obtain ⟨sa2, sl2, sc2, rfl⟩ := okWide_slice Try.underlying35 (hval 2 35 v2 rfl rfl)
  have h2' := h2
  obtain ⟨fuel2, hf2⟩ := h2
  obtain ⟨l2, hs2, hl2⟩ := open_nums (v := .slice sa2 sl2 sc2) hf2
  have hlt2 : ∀ x ∈ p2, x.block < W.heap.size := fun x hx => hW'.lt x (by simp [hx])
  clear hA0 hval0
  refine (synced_walk _ _ _ l0 l1 l2 W hs0 hl0 hs1 hl1 hs2 hl2).mono fun e W' ⟨he, hg⟩ => ?_
  subst he
  exact ⟨_, rfl, post_quiet (pa := (p0 ++ (p1 ++ (p2 ++ [])))) (pv := []) hW' hg (fun _ _ _ => (trodAll_cons_mk (shut_bool Try.underlying4 _) trodAll_mk0)) (fun sp hsp => (trodAll_cons_mk (arg_stays (by kernel_rfl) (of_decide_eq_true (by kernel_rfl)) h0' hg hlt0 (fun x hx => hsp x (by simp [hx]))) (trodAll_cons_mk (arg_stays (by kernel_rfl) (of_decide_eq_true (by kernel_rfl)) h1' hg hlt1 (fun x hx => hsp x (by simp [hx]))) (trodAll_cons_mk (arg_stays (by kernel_rfl) (of_decide_eq_true (by kernel_rfl)) h2' hg hlt2 (fun x hx => hsp x (by simp [hx]))) trodAll_mk0)))) (fun _ _ => rfl) (by simp) (ok_one (by kernel_rfl) rfl (okWide_bool_mk Try.underlying4 _))⟩

theorem synced_over : Rows.diskSyncedRow.holds Try.pinned (OpenSpec.ofChange Rows.diskSyncedSpec) :=
  OpenClaim.holds_of_wide 4 Try.f4 rfl rfl rfl rfl rfl rfl rfl ⟨rfl, rfl, rfl, rfl, rfl⟩ rfl rfl rfl rfl rfl (by kernel_rfl) Try.func4 (by kernel_rfl)
    (of_decide_eq_true (by kernel_rfl)) (by unfold Func.isWrapper; first | (rw [if_pos (by decide +kernel)]; kernel_rfl) | (rw [if_neg (by decide +kernel)]; exact ⟨rfl, rfl⟩))
    (fun os started H enc _ => synced_lifted os started H enc)

/-- The statement. -/
theorem synced_holds : Rows.DiskSyncedSaid :=
  synced_over
#print axioms synced_holds
end Go.Proofs.Ytchljhjngnbclaa

/- DiskArmed: whatever the script and the number, the law returns true (just so many steps are made as the device is armed with), and its arguments read as they did. No condition. -/
import Derived.Test.YtchljhjngnbclaaLong
import Derived.Test.YtchljhjngnbclaaD9
import Derived.Test.YtchljhjngnbclaaL
namespace Go.Proofs.Ytchljhjngnbclaa
open Go.ChangeShapes Go.WideShapes Go.ChangeAt Go.RowKit
set_option linter.unusedVariables false
set_option linter.unusedSimpArgs false

/-- What holds behind k rounds. -/
structure ArmI (n : Int) (k : Nat) (d : Disk) : Prop where
  size : d.size = 8
  armed : d.met.armed = true
  lo : 0 ≤ d.met.left
  sum : d.met.steps + d.met.left = n
  s0 : 0 ≤ d.met.steps
  sk : d.met.steps ≤ k
  dn : d.met.down = true → d.met.left = 0

theorem wrap_id {x : Int} (h : -9223372036854775808 ≤ x) (h' : x ≤ 9223372036854775807) : wrap64 x = x := IntWalk.wrap64_in x ⟨h, h'⟩

section
variable {n : Int} {k : Nat} {d : Disk} (h : ArmI n k d)
include h
theorem ArmI.off_yes (hl : d.met.left = 0) : d.met.off = true := by simp [Met.off, h.armed, hl]
theorem ArmI.off_no (hl : d.met.left ≠ 0) : d.met.off = false := by
  have hd : d.met.down = false := by
    cases hd : d.met.down
    · rfl
    · exact absurd (h.dn hd) hl
  simp [Met.off, h.armed, hl, hd]
theorem ArmI.down_no (hl : d.met.left ≠ 0) : d.met.down = false := by
  cases hd : d.met.down
  · rfl
  · exact absurd (h.dn hd) hl
theorem ArmI.fall (hl : d.met.left = 0) : ArmI n (k + 1) d.fall := ⟨h.size, h.armed, h.lo, h.sum, h.s0, by have := h.sk; simp only [Disk.fall, Met.fall]; omega, fun _ => hl⟩
theorem ArmI.fall_steps (hl : d.met.left = 0) : d.fall.met.steps = n := by have := h.sum; simp only [Disk.fall, Met.fall]; omega
theorem ArmI.tick_steps (hn : n ≤ 9223372036854775807) (hl : d.met.left ≠ 0) : d.met.tick.steps = d.met.steps + 1 := by
  have := h.sum; have := h.lo; have := h.s0
  exact wrap_id (by omega) (by omega)
theorem ArmI.tick_left (hn : n ≤ 9223372036854775807) (hl : d.met.left ≠ 0) : d.met.tick.left = d.met.left - 1 := by
  have := h.sum; have := h.lo; have := h.s0
  simp only [Met.tick, h.armed, if_true]
  rw [wrap_id (by omega) (by omega)]
  omega
theorem ArmI.write (hn : n ≤ 9223372036854775807) (hl : d.met.left ≠ 0) (at_ : Int) (l : Sec) : ArmI n (k + 1) (d.write at_ l) := by
  have h1 := h.tick_steps hn hl
  have h2 := h.tick_left hn hl
  have := h.sum; have := h.lo; have := h.s0; have := h.sk
  exact ⟨h.size, h.armed, by show 0 ≤ d.met.tick.left; omega, by show d.met.tick.steps + d.met.tick.left = n; omega, by show 0 ≤ d.met.tick.steps; omega, by show d.met.tick.steps ≤ _; omega, fun e => by have : d.met.down = true := e; rw [h.down_no hl] at this; cases this⟩
theorem ArmI.sync (hn : n ≤ 9223372036854775807) (hl : d.met.left ≠ 0) : ArmI n (k + 1) d.sync := by
  have h1 := h.tick_steps hn hl
  have h2 := h.tick_left hn hl
  have := h.sum; have := h.lo; have := h.s0; have := h.sk
  exact ⟨h.size, h.armed, by show 0 ≤ d.met.tick.left; omega, by show d.met.tick.steps + d.met.tick.left = n; omega, by show 0 ≤ d.met.tick.steps; omega, by show d.met.tick.steps ≤ _; omega, fun e => by have : d.met.down = true := e; rw [h.down_no hl] at this; cases this⟩
theorem ArmI.le : d.met.steps ≤ n := by have := h.sum; have := h.lo; omega
end

theorem mod_in (m : Int) (x : Int) (h0 : 1 ≤ m) (h1 : m ≤ 4096) : inB (IntKind.i64.wrap ((IntKind.u64.wrap x).tmod m)) m = true := by
  have h : 0 ≤ IntKind.u64.wrap x := by rw [IntKind.wrap_u64]; omega
  rw [Int.tmod_eq_emod_of_nonneg h]
  have a := Int.emod_nonneg (IntKind.u64.wrap x) (show m ≠ 0 by omega)
  have b := Int.emod_lt_of_pos (IntKind.u64.wrap x) (show 0 < m by omega)
  rw [IntWalk.i64_in _ (by omega)]
  exact inB_iff.2 ⟨a, b⟩

theorem arm_st {w0 w : World} {a : DA} {d : Disk} (n : Int) (h : St w0 w a d) (hn : 0 ≤ n) :
    Calls Try.prog 28 #[.pointer (some ⟨a.p, 0, none⟩), .int .i64 n] w fun e w' => e = .returned .nilIface ∧ St w0 w' a { d with met := d.met.arm n } ∧ Only a.bl w w' := by
  refine (Arm_any _ _ _ _ _ n w h.dev.blk hn).mono ?_
  rintro e w' ⟨rfl, hb, ho⟩
  have hd : Dev w' a { d with met := d.met.arm n } := ⟨hb, h.dev.now.kept ho (by simpa using h.dev.np), h.dev.old.kept ho (by simpa using h.dev.sp), h.dev.ne, h.dev.lo, h.dev.hi⟩
  have ho' : Only a.bl w w' := ho.mono (by simp [DA.bl])
  exact ⟨rfl, h.step ho' hd, ho'⟩

set_option maxRecDepth 100000 in
set_option maxHeartbeats 4000000 in
theorem armed_walk (v : Value) (os : List OpR) (n : Int) (w : World) (h : Script w v os) (hlen : os.length ≤ maxLen) (hwn : (Lit.int .i64 n).wf = true) :
    Calls Try.prog 5 #[v, .int .i64 n] w fun e w' => e = .returned (.bool true) ∧ Only [] w w' := by
  have hnb : n ≤ 9223372036854775807 := by
    have h2 : IntKind.i64.max = 9223372036854775807 := by decide
    have := hwn
    simp only [Lit.wf, Bool.and_eq_true, decide_eq_true_eq, h2] at this
    exact this.2
  have HS := Lib.hid h
  have HL := Lib.hid hlen
  have h' := h
  obtain ⟨va, vcap, rfl, _⟩ := h'
  have qn := err_n33
  have q3 := err_33
  clear h hlen hwn
  by_cases hn : n < 0
  · go_enter Try.func5, Try.ntmps5
    go_wp2_with fail
    refine (alive_any _).mono ?_
    rintro e w1 ⟨rfl, o1⟩
    go_wp2_with fail
    go_ret
    exact ⟨rfl, o1⟩
  · have hn0 : 0 ≤ n := by omega
    clear hn
    go_enter Try.func5, Try.ntmps5
    go_wp2_with fail
    refine (alive_any _).mono ?_
    rintro e w1 ⟨rfl, o1⟩
    go_wp2_with fail
    refine (long_any _ os _ (HS.out.kept o1) HL.out).mono ?_
    rintro e w2 ⟨x, rfl, hx, o2⟩
    have O2 := o1.trans o2 (by simp)
    clear o1 o2
    cases x
    · have h400 : os.length ≤ 400 := hx rfl
      clear hx
      go_wp2_with fail
      refine (new_st 8 w2 (by omega) (by omega)).mono ?_
      rintro e w3 ⟨a, rfl, s3⟩
      go_wp2_with fail
      refine (arm_st n s3 hn0).mono ?_
      rintro e w4 ⟨rfl, s4, _⟩
      have i4 : ArmI n 0 { Disk.fresh 8 with met := (Disk.fresh 8).met.arm n } := ⟨rfl, rfl, hn0, by simp [Disk.fresh, Met.fresh, Met.arm], by simp [Disk.fresh, Met.fresh, Met.arm], by simp [Disk.fresh, Met.fresh, Met.arm], fun e => by cases e⟩
      clear s3
      go_wp2_with fail
      go_loopw [8, 9, 40] (fun _ _ i wr => ∃ (k : Nat) (d : Disk), k ≤ os.length ∧ i = .int .i64 k ∧ St w2 wr a d ∧ ArmI n k d) (fun _ _ i _ => os.length - (intOf i).toNat)
      case atStart => exact ⟨0, _, by omega, rfl, s4, i4⟩
      case round =>
        clear s4 i4
        obtain ⟨k, d, hk, rfl, s5, i5⟩ := hrel
        by_cases hlt : k < os.length
        · have hkl : os[k]? = some os[k] := List.getElem?_eq_getElem hlt
          obtain ⟨a', cap', hv, hc⟩ := HS.out.kept (O2.trans s5.only (by simp))
          obtain ⟨b, off, bv, kv, ha, c0, c1, c2, c3, c4, hb, hkv, _, hat, _, hbl, hkl2⟩ := hc k _ hkl
          obtain ⟨ba, bcap, hbv, _⟩ := hb
          obtain ⟨ka, kcap, hkv', _⟩ := hkv
          cases hv
          subst ha
          subst hbv
          subst hkv'
          generalize os[k].bytes.length = bl at c3
          generalize os[k].keep.length = kl at c4
          generalize os[k].kind = kind at c0
          generalize os[k].at_ = at_ at c1 hat
          generalize os[k].n = nn at c2
          clear hc hkl hbl hkl2
          by_cases hk3 : kind = 3
          · subst hk3
            go_wp2_with fail
            have s8 := s5.quiet ((Only.refl [] wr).alloc (.cells #[.int .i64 3, .int .i64 at_, .int .i64 nn, .slice ba bl bcap, .slice ka kl kcap] 37))
            by_cases hl : d.met.left = 0
            · refine (sync_off_st s8 (i5.off_yes hl)).mono ?_
              rintro e w9 ⟨rfl, s9, _⟩
              have i9 := i5.fall hl
              have hst := i5.fall_steps hl
              clear s8 s5 i5 c0 c1 c2 c3 c4 hl
              go_wp2_with fail
              refine (steps_st s9 n hst).mono ?_
              rintro e w10 ⟨rfl, rfl⟩
              go_wp2_with fail
              refine (down_st s9 true rfl).mono ?_
              rintro e w10 ⟨rfl, rfl⟩
              go_wp2_with fail
              refine (steps_st s9 n hst).mono ?_
              rintro e w10 ⟨rfl, rfl⟩
              have HT := Lib.hid hst
              clear hst
              go_wp2_with fail
              go_roundw
              case rel => exact ⟨k + 1, _, by omega, by go_num, s9, i9⟩
              case measure => simp [intOf]; omega
            · refine (sync_st s8 (i5.off_no hl)).mono ?_
              rintro e w9 ⟨rfl, s9, _⟩
              have i9 := i5.sync hnb hl
              clear s8 s5 i5 c0 c1 c2 c3 c4 hl
              go_wp2_with fail
              refine (steps_st s9 _ rfl).mono ?_
              rintro e w10 ⟨rfl, rfl⟩
              have hle := i9.le
              generalize d.sync = d9 at s9 i9 hle ⊢
              go_wp2_with fail
              go_roundw
              case rel => exact ⟨k + 1, _, by omega, by go_num, s9, i9⟩
              case measure => simp [intOf]; omega
          · have hk3' : (kind == 3) = false := by simpa using hk3
            clear hk3
            go_wp2_with fail
            have s8 := s5.quiet ((Only.refl [] wr).alloc (.cells #[.int .i64 kind, .int .i64 at_, .int .i64 nn, .slice ba bl bcap, .slice ka kl kcap] 37))
            have B8 := heap_new wr (.cells #[.int .i64 kind, .int .i64 at_, .int .i64 nn, .slice ba bl bcap, .slice ka kl kcap] 37)
            generalize wr.heap.size = g8 at B8 ⊢
            generalize wr.alloc (.cells #[.int .i64 kind, .int .i64 at_, .int .i64 nn, .slice ba bl bcap, .slice ka kl kcap] 37) = w8 at s8 B8 ⊢
            have c1' := cell_at 1 B8
            have c2' := cell_at 2 B8
            change _ = some (Value.int .i64 at_) at c1'
            change _ = some (Value.int .i64 nn) at c2'
            have HB := Lib.hid B8
            clear B8 c0 c1 c2 c3 c4 s5
            by_cases hl : d.met.left = 0
            · have hoff := i5.off_yes hl
              have i9 := i5.fall hl
              have hst := i5.fall_steps hl
              have HO := Lib.hid hoff
              have HT := Lib.hid hst
              have h8 := i5.size
              have HZ := Lib.hid h8
              clear i5 hl hoff hst h8
              go_region_held3 (fun w' => w'.cell? ⟨g8, 1, none⟩ = some (.int .i64 at_) ∧ w'.cell? ⟨g8, 2, none⟩ = some (.int .i64 nn)) (first | (exact ⟨by assumption, by assumption⟩) | go_keep) (first
                | (go_at_call 25
                   (with_reducible refine (full_any nn _).mono ?_)
                   rintro e w12 ⟨g12, rfl, b12, _, o12⟩
                   have s12 := s8.quiet (((Only.refl [] _).drew).trans o12 (by simp))
                   have B12 := o12.heap (w := w8.drew) HB.out (by simp)
                   have c12 : w12.cell? ⟨g8, 1, none⟩ = some (.int .i64 at_) := cell_at 1 B12
                   have d12 : w12.cell? ⟨g8, 2, none⟩ = some (.int .i64 nn) := cell_at 2 B12
                   have H12 := Lib.hid B12
                   clear B12)
                | (go_at_call 24
                   (with_reducible refine (write_off_st _ s12 b12 (fullOf_length _) (by rw [HZ.out]; exact mod_in 8 _ (by omega) (by omega)) HO.out).mono ?_)
                   rintro e w13 ⟨rfl, s13, o13⟩
                   have B13 := o13.heap H12.out (s12.apart' H12.out (by decide))
                   have c13 : w13.cell? ⟨g8, 1, none⟩ = some (.int .i64 at_) := cell_at 1 B13
                   have d13 : w13.cell? ⟨g8, 2, none⟩ = some (.int .i64 nn) := cell_at 2 B13
                   clear B13))
              clear s8 s12 b12 c12 d12 H12 o12 o13 c13 d13 c1' c2' HB
              go_wp2_with fail
              refine (steps_st s13 n HT.out).mono ?_
              rintro e w14 ⟨rfl, rfl⟩
              go_wp2_with fail
              refine (down_st s13 true rfl).mono ?_
              rintro e w14 ⟨rfl, rfl⟩
              go_wp2_with fail
              refine (steps_st s13 n HT.out).mono ?_
              rintro e w14 ⟨rfl, rfl⟩
              go_wp2_with fail
              go_roundw
              case rel => exact ⟨k + 1, _, by omega, by go_num, s13, i9⟩
              case measure => simp [intOf]; omega
            · have hoff := i5.off_no hl
              have HO := Lib.hid hoff
              have HI := Lib.hid i5
              have HN := Lib.hid hl
              have h8 := i5.size
              have HZ := Lib.hid h8
              clear i5 hl hoff h8
              go_region_held3 (fun w' => w'.cell? ⟨g8, 1, none⟩ = some (.int .i64 at_) ∧ w'.cell? ⟨g8, 2, none⟩ = some (.int .i64 nn)) (first | (exact ⟨by assumption, by assumption⟩) | go_keep) (first
                | (go_at_call 25
                   (with_reducible refine (full_any nn _).mono ?_)
                   rintro e w12 ⟨g12, rfl, b12, _, o12⟩
                   have s12 := s8.quiet (((Only.refl [] _).drew).trans o12 (by simp))
                   have B12 := o12.heap (w := w8.drew) HB.out (by simp)
                   have c12 : w12.cell? ⟨g8, 1, none⟩ = some (.int .i64 at_) := cell_at 1 B12
                   have d12 : w12.cell? ⟨g8, 2, none⟩ = some (.int .i64 nn) := cell_at 2 B12
                   have H12 := Lib.hid B12
                   clear B12)
                | (go_at_call 24
                   (with_reducible refine (write_st _ s12 b12 (fullOf_length _) (by rw [HZ.out]; exact mod_in 8 _ (by omega) (by omega)) HO.out).mono ?_)
                   rintro e w13 ⟨rfl, s13, o13⟩
                   have B13 := o13.heap H12.out (s12.apart' H12.out (by decide))
                   have c13 : w13.cell? ⟨g8, 1, none⟩ = some (.int .i64 at_) := cell_at 1 B13
                   have d13 : w13.cell? ⟨g8, 2, none⟩ = some (.int .i64 nn) := cell_at 2 B13
                   clear B13))
              clear s8 s12 b12 c12 d12 H12 o12 o13 c13 d13 c1' c2' HB
              generalize IntKind.i64.wrap ((IntKind.u64.wrap at_).tmod 8) = ix at s13
              have i9 := HI.out.write hnb HN.out ix (fullOf nn)
              have hle := i9.le
              generalize d.write ix (fullOf nn) = d9 at s13 i9 hle
              go_wp2_with fail
              refine (steps_st s13 _ rfl).mono ?_
              rintro e w14 ⟨rfl, rfl⟩
              go_wp2_with fail
              go_roundw
              case rel => exact ⟨k + 1, _, by omega, by go_num, s13, i9⟩
              case measure => simp [intOf]; omega
        · obtain rfl : k = os.length := by omega
          cases hd : d.met.down
          · go_wp2_with fail
            refine (down_st s5 false hd).mono ?_
            rintro e w6 ⟨rfl, rfl⟩
            clear hd
            go_wp2_with fail
            go_ret
            exact ⟨rfl, O2.trans s5.only (by simp)⟩
          · go_wp2_with fail
            refine (down_st s5 true hd).mono ?_
            rintro e w6 ⟨rfl, rfl⟩
            have h8 := i5.size
            go_wp2_with fail
            refine (Read_down a d 0 _ s5.dev (by rw [h8]; rfl) hd).mono ?_
            rintro e w6 ⟨rfl, rfl⟩
            have HD := Lib.hid hd
            have H8 := Lib.hid h8
            clear hd h8
            go_wp2_with fail
            refine (Crash_any a d _ [] _ s5.dev ⟨none, 0, rfl, fun i c hi => by simp at hi⟩ (fun g p c e _ => by cases e) (by simp)).mono ?_
            rintro e w7 ⟨rfl, d7, o7⟩
            have s7 := s5.step o7 d7
            clear d7 o7
            go_wp2_with fail
            refine (read_st 0 s7 (by show inB 0 d.size = true; rw [H8.out]; rfl) rfl _ rfl).mono ?_
            rintro e w8 ⟨g8, rfl, b8, _, s8, o8⟩
            clear s7 b8 o8
            go_wp2_with fail
            refine (down_st s8 false rfl).mono ?_
            rintro e w9 ⟨rfl, rfl⟩
            go_wp2_with fail
            refine (full_any 1 _).mono ?_
            rintro e w10 ⟨g10, rfl, b10, _, o10⟩
            have s10 := s8.quiet o10
            clear s8 o10
            go_wp2_with fail
            refine (write_st 0 s10 b10 (fullOf_length _) (by show inB 0 d.size = true; rw [H8.out]; rfl) rfl).mono ?_
            rintro e w11 ⟨rfl, s11, _⟩
            go_wp2_with fail
            go_ret
            exact ⟨rfl, O2.trans s11.only (by simp)⟩
    · go_wp2_with fail
      go_ret
      exact ⟨rfl, O2⟩

set_option maxRecDepth 100000 in
theorem armed_lifted (os : Os) (started : os.Started) (H : Type) (enc : TypeId × Value → H) :
    ReturnsInHanded {} Try.checked os 5 .any (Rows.diskArmedSpec.pre6 enc Try.prog Try.f5 Rows.diskArmedRow.domain false) (Rows.diskArmedSpec.post enc Try.prog Try.f5 false true false false) := by
  refine returnsInHanded_of_change (C := Try.checked) law_own started (by kernel_rfl) Try.func5
    (ChangeSpec.witness6 (enc := enc) (C := Try.checked) false ⟨#[], #[.slice none 0 0, .int .i64 0], []⟩ 8 (by kernel_rfl) (by kernel_rfl) (by kernel_rfl) (by kernel_rfl)) ?_
  intro W base args ds gs before hval0 hW hcnd _
  have hval : ∀ (j : Nat) t v, Try.f5.params[j]? = some t → args[j]? = some v → Value.okWide Try.prog W .any base t v := hval0
  have hW' := hW
  obtain ⟨p, q, hA0, hV, rfl, hfz, hnd⟩ := hW
  have hA : DataW.TrodAll enc Try.prog W 0 (fun _ => true) true Try.f5.params.toList args.toList ds p := hA0
  rw [Try.params5] at hA hval
  obtain ⟨v0, vs0, d0, ds0, p0, q0, hargs, rfl, rfl, h0, r0⟩ := trodAll_cons hA
  obtain ⟨v1, vs1, d1, ds1, p1, q1, rfl, rfl, rfl, h1, r1⟩ := trodAll_cons r0
  obtain ⟨rfl, rfl, rfl⟩ := trodAll_nil r1
  obtain rfl : args = #[v0, v1] := by cases args; simp_all
  obtain ⟨rfl, rfl⟩ := trodVars_none hV
  obtain ⟨a1, rfl, rfl, rfl, w1⟩ := open_int Try.underlying3 (hval 1 3 v1 rfl rfl) h1
  obtain ⟨sa, sl, sc, rfl⟩ := okWide_slice Try.underlying22 (hval 0 22 v0 rfl rfl)
  have h0' := h0
  obtain ⟨fuel, hf⟩ := h0
  obtain ⟨script, hs, hl⟩ := open_script (v := .slice sa sl sc) hf
  have hlt : ∀ x ∈ p0, x.block < W.heap.size := fun x hx => hW'.lt x (by simp [hx])
  clear hA0 hval0
  simp only [List.append_nil] at hW'
  refine (armed_walk _ script a1 W hs hl w1).mono fun e W' ⟨he, hg⟩ => ?_
  subst he
  exact ⟨_, rfl, post_quiet (pa := p0 ++ []) (pv := []) hW' hg (fun _ _ _ => (trodAll_cons_mk (shut_bool Try.underlying4 _) trodAll_mk0)) (fun sp hsp => (trodAll_cons_mk (arg_stays (by kernel_rfl) (of_decide_eq_true (by kernel_rfl)) h0' hg hlt (fun x hx => hsp x hx)) (trodAll_cons_mk (shut_int Try.underlying3 w1) trodAll_mk0))) (fun _ _ => rfl) (by simp) (ok_one (by kernel_rfl) rfl (okWide_bool_mk Try.underlying4 _))⟩

theorem armed_over : Rows.diskArmedRow.holds Try.pinned (OpenSpec.ofChange Rows.diskArmedSpec) :=
  OpenClaim.holds_of_wide 5 Try.f5 rfl rfl rfl rfl rfl rfl rfl ⟨rfl, rfl, rfl, rfl, rfl⟩ rfl rfl rfl rfl rfl (by kernel_rfl) Try.func5 (by kernel_rfl)
    (of_decide_eq_true (by kernel_rfl)) (by unfold Func.isWrapper; first | (rw [if_pos (by decide +kernel)]; kernel_rfl) | (rw [if_neg (by decide +kernel)]; exact ⟨rfl, rfl⟩))
    (fun os started H enc _ => armed_lifted os started H enc)

/-- The statement. -/
theorem armed_holds : Rows.DiskArmedSaid :=
  armed_over
#print axioms armed_holds
end Go.Proofs.Ytchljhjngnbclaa

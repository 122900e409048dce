/- SlotPlays: whatever the size and the calls, the law returns true: slots hold and answer what the document's own do, and leave the sectors that those leave; the arguments read as they did. No condition. -/
import Derived.Test.YtdmkmjlkogkmgaaVb
import Derived.Test.YtdmkmjlkogkmgaaTa
namespace Go.Proofs.Ytdmkmjlkogkmgaa
open Go.ChangeShapes Go.WideShapes Go.ChangeAt Go.RowKit Go.Maps Go.Deep
set_option linter.unusedVariables false
set_option linter.unusedSimpArgs false

/-- One of a script's calls. -/
structure OpS where
  kind : Int
  at_ : Int
  row : Sec
  keep : List Int
/-- v is a slice of calls. -/
def Script3 (w : World) (v : Value) (os : List OpS) : Prop :=
  ∃ (a : Option Addr) (cap : Nat), v = .slice a os.length cap ∧ ∀ i o, os[i]? = some o → ∃ b off rv kv, a = some ⟨b, off, none⟩ ∧
    w.cell? ⟨b, off + i * 4, none⟩ = some (.int .i64 o.kind) ∧ w.cell? ⟨b, off + i * 4 + 1, none⟩ = some (.int .i64 o.at_) ∧
    w.cell? ⟨b, off + i * 4 + 2, none⟩ = some rv ∧ w.cell? ⟨b, off + i * 4 + 3, none⟩ = some kv ∧ Bytes w rv o.row ∧ IntsV w kv o.keep ∧ (Lit.int .i64 o.kind).wf = true ∧ (Lit.int .i64 o.at_).wf = true ∧ o.row.length ≤ maxLen ∧ o.keep.length ≤ maxLen
theorem Script3.kept {w w' : World} {v : Value} {os : List OpS} (h : Script3 w v os) (ho : Only [] w w') : Script3 w' v os := by
  obtain ⟨a, cap, hv, hc⟩ := h
  refine ⟨a, cap, hv, fun i o hi => ?_⟩
  obtain ⟨b, off, rv, kv, ha, c0, c1, c2, c3, hb, hk, r⟩ := hc i o hi
  have q := fun (ad : Addr) (u : Value) (h : w.cell? ad = some u) => cell_kept ho h (by simp)
  exact ⟨b, off, rv, kv, ha, q _ _ c0, q _ _ c1, q _ _ c2, q _ _ c3, hb.kept ho (clean_nil _), hk.kept ho (fun _ _ _ _ _ => by simp), r⟩

section
variable {H : Type} {enc : TypeId × Value → H} {W : World} {base : Nat} {sp : Nat → Bool} {held : Bool}
theorem cells_Op3 : Try.prog.cellsOf 40 = 4 := by kernel_rfl
theorem cells_b3 : Try.prog.cellsOf 37 = 1 := by kernel_rfl
theorem cells_i3 : Try.prog.cellsOf 38 = 1 := by kernel_rfl
theorem four_of {α : Type} (l : List α) (h : l.length = 4) : ∃ a b c d, l = [a, b, c, d] := by
  match l, h with
  | [a, b, c, d], _ => exact ⟨a, b, c, d, rfl⟩
theorem open_call3 {fuel : Nat} {cs : List Value} {x : DataW H × List MemPlace} (h : DataW.trod enc Try.prog W base sp held fuel 40 cs = some x) :
    ∃ (o : OpS) (rv kv : Value), cs = [.int .i64 o.kind, .int .i64 o.at_, rv, kv] ∧ Bytes W rv o.row ∧ IntsV W kv o.keep ∧ (Lit.int .i64 o.kind).wf = true ∧ (Lit.int .i64 o.at_).wf = true ∧ o.row.length ≤ maxLen ∧ o.keep.length ≤ maxLen := by
  obtain ⟨xs, n, _, _, hl, hx, hf⟩ := DataW.trod_struct Try.underlying40 h
  rw [cells_Op3] at hl
  have hx4 : xs.length = 4 := hx
  obtain ⟨v0, v1, v2, v3, rfl⟩ := four_of cs hl
  obtain ⟨y0, y1, y2, y3, rfl⟩ := four_of xs hx4
  have f0 : DataW.trod enc Try.prog W base sp held n 3 (List.take (Try.prog.cellsOf 3) (List.drop 0 [v0, v1, v2, v3])) = some y0 := hf 0 _ rfl
  have f1 : DataW.trod enc Try.prog W base sp held n 3 (List.take (Try.prog.cellsOf 3) (List.drop 1 [v0, v1, v2, v3])) = some y1 := hf 1 _ rfl
  have f2 : DataW.trod enc Try.prog W base sp held n 37 (List.take (Try.prog.cellsOf 37) (List.drop 2 [v0, v1, v2, v3])) = some y2 := hf 2 _ rfl
  have f3 : DataW.trod enc Try.prog W base sp held n 38 (List.take (Try.prog.cellsOf 38) (List.drop 3 [v0, v1, v2, v3])) = some y3 := hf 3 _ rfl
  rw [cells_int] at f0 f1
  rw [cells_b3] at f2
  rw [cells_i3] at f3
  obtain ⟨k, rfl, w0⟩ := open_num (u := v0) (x := y0) f0
  obtain ⟨at_, rfl, w1⟩ := open_num (u := v1) (x := y1) f1
  obtain ⟨l, hb, _, hbl⟩ := open_bytes (v := v2) (x := y2) f2
  obtain ⟨ks, hk, _, hkl⟩ := open_nums (v := v3) (x := y3) f3
  exact ⟨⟨k, at_, l, ks⟩, v2, v3, rfl, hb, hk, w0, w1, hbl, hkl⟩
theorem open_script3 {fuel : Nat} {v : Value} {x : DataW H × List MemPlace} (h : DataW.trod enc Try.prog W base sp held fuel 22 [v] = some x) : ∃ os : List OpS, Script3 W v os ∧ os.length ≤ maxLen := by
  rcases open_slice Try.underlying22 h with ⟨hcs, _⟩ | ⟨a, len, cap, m, n, D, Pl, hcs, _, hl, hm, hmm, _, hi⟩
  · exact ⟨[], ⟨none, 0, by simpa using hcs, fun i o hio => by simp at hio⟩, Nat.zero_le _⟩
  · obtain rfl : v = .slice (some a) len cap := by simpa using hcs
    have hlm : len ≤ m := by rw [hmm]; split <;> omega
    have hlen := Nat.le_trans hl hm
    clear hm
    rw [cells_Op3] at hi
    have hex : ∀ i, ∃ o : OpS, i < len → ∃ b off rv kv, some a = some (⟨b, off, none⟩ : Addr) ∧
        W.cell? ⟨b, off + i * 4, none⟩ = some (.int .i64 o.kind) ∧ W.cell? ⟨b, off + i * 4 + 1, none⟩ = some (.int .i64 o.at_) ∧
        W.cell? ⟨b, off + i * 4 + 2, none⟩ = some rv ∧ W.cell? ⟨b, off + i * 4 + 3, none⟩ = some kv ∧ Bytes W rv o.row ∧ IntsV W kv o.keep ∧ (Lit.int .i64 o.kind).wf = true ∧ (Lit.int .i64 o.at_).wf = true ∧ o.row.length ≤ maxLen ∧ o.keep.length ≤ maxLen := fun i => by
      by_cases hil : i < len
      · obtain ⟨cs0, hc0, _⟩ := hi 0 (by omega)
        obtain ⟨_, _, hat0⟩ := World.cells?_some hc0
        obtain ⟨cs1, hc1, ht1⟩ := hi i (by omega)
        obtain ⟨_, hl1, hat1⟩ := World.cells?_some hc1
        obtain ⟨o, rv, kv, rfl, hb, hk, r⟩ := open_call3 ht1
        have hs : a.spot = none := by
          obtain ⟨_, hlen0, _⟩ := World.cells?_some hc0
          have h0 := hat0 0 (by omega)
          have e0 : (a.add (0 * 4)).add 0 = a := by simp [Addr.add]
          rw [e0, List.getElem?_eq_getElem (by omega)] at h0
          exact spot_none h0
        have hadd : ∀ j, (a.add (i * 4)).add j = ⟨a.block, a.off + i * 4 + j, none⟩ := fun j => by
          rw [addr_add a _ hs, addr_add _ _ rfl]
        have g := fun j (hj : j < 4) => hat1 j hj
        simp only [hadd] at g
        refine ⟨o, fun _ => ⟨a.block, a.off, rv, kv, ?_, g 0 (by omega), g 1 (by omega), g 2 (by omega), g 3 (by omega), hb, hk, r⟩⟩
        obtain ⟨b, o', s⟩ := a
        simp only at hs
        rw [hs]
      · exact ⟨⟨0, 0, [], []⟩, fun h => absurd h hil⟩
    refine ⟨(List.range len).map fun i => (hex i).choose, ⟨some a, cap, by simp, fun i o hio => ?_⟩, by simpa using hlen⟩
    have hil : i < len := by simpa using (List.getElem?_eq_some_iff.1 hio).1
    rw [List.getElem?_map, List.getElem?_range hil, Option.map_some] at hio
    rw [← Option.some.inj hio]
    exact (hex i).choose_spec hil
end

/-- What a pair has, without an argument. -/
structure PC (w0 w : World) (q : Nat) (a : DA) (b : RA) (D : Disk) (R : Ref) (sv tv : Value) : Prop where
  pr : Pair w0 w [] a b D R
  blk : w.heap[q]? = some (.cells #[ptr a.p, ptr b.p, sv, tv] 36 (0, 0))
  newq : w0.heap.size ≤ q
  ss : SS w0 w [] a b D sv tv
section
variable {w0 w w' : World} {q g : Nat} {a : DA} {b : RA} {D : Disk} {R : Ref} {sv tv : Value} {cs : Array Value}
theorem PC.quiet (h : PC w0 w q a b D R sv tv) (ho : Only [] w w') : PC w0 w' q a b D R sv tv := ⟨h.pr.quiet ho, ho.heap h.blk (by simp), h.newq, h.ss.imp fun _ _ _ _ _ t => t.quiet ho⟩
theorem PC.ps (h : PC w0 w q a b D R sv tv) (ha : w.heap[g]? = some (.cells cs 40 (0, 0))) : PS w0 w [] q g cs a b D R sv tv := ⟨⟨h.pr, h.blk, ha, h.newq⟩, h.ss⟩
theorem PS.pc (h : PS w0 w [] q g cs a b D R sv tv) : PC w0 w q a b D R sv tv := ⟨h.bs.pr, h.bs.blk, h.bs.newq, h.ss⟩
end

set_option maxRecDepth 100000 in
set_option maxHeartbeats 8000000 in
theorem splays_walk (size : Int) (v : Value) (os : List OpS) (w : World) (hw : (Lit.int .i64 size).wf = true) (hs : Script3 w v os) (hl : os.length ≤ maxLen) :
    Calls Try.prog 3 #[.int .i64 size, v] w fun e w' => e = .returned (.bool true) ∧ Only [] w w' := by
  have HS := Lib.hid hs
  have hl' : os.length ≤ 9223372036854775807 := by unfold maxLen at hl; omega
  obtain ⟨va, vcap, rfl, -⟩ := hs
  clear hl hw
  go_enter Try.func3, Try.ntmps3
  go_wp2_with fail
  refine (alive3_any _).mono ?_
  rintro e w1 ⟨rfl, o1⟩
  have O1 := Lib.hid o1
  clear o1
  by_cases hs0 : size < 1
  · go_wp2_with fail
    go_ret
    exact ⟨rfl, O1.out⟩
  by_cases hs1 : (16 : Int) < size
  · go_wp2_with fail
    go_ret
    exact ⟨rfl, O1.out⟩
  by_cases hs2 : (60 : Int) < (os.length : Int)
  · go_wp2_with fail
    go_ret
    exact ⟨rfl, O1.out⟩
  obtain ⟨n, rfl⟩ : ∃ n : Nat, size = (n : Int) := ⟨size.toNat, by omega⟩
  go_wp2_with fail
  refine (new_st n w1 (by omega) (by omega)).mono ?_
  rintro e w2 ⟨a, rfl, s2⟩
  go_wp2_with fail
  refine (New_ref n w2 (by omega) (by omega)).mono ?_
  rintro e w3 ⟨b, rfl, r3, hb3, o3⟩
  have p3 := Pair.fresh' s2 r3 hb3 o3
  have q4 : Only [] w3 (w3.alloc (.cells #[ptr a.p, ptr b.p, .pointer none, .pointer none] 36)) := (Only.refl [] w3).alloc _
  have p4 : PC w1 (w3.alloc (.cells #[ptr a.p, ptr b.p, .pointer none, .pointer none] 36)) w3.heap.size a b (.fresh n) (.fresh n) (.pointer none) (.pointer none) :=
    ⟨p3.quiet q4, heap_new w3 _, p3.st.only.size, .inl ⟨rfl, rfl⟩⟩
  have m4 := Match.fresh n
  clear s2 r3 hb3 o3 p3 q4
  go_wp2_with fail
  generalize w3.heap.size = q at p4 ⊢
  generalize (w3.alloc (.cells #[ptr a.p, ptr b.p, .pointer none, .pointer none] 36)) = w4 at p4 ⊢
  go_loopw [11, 47] (fun _ i wr => ∃ (k : Nat) (D : Disk) (R : Ref) (sv tv : Value), k ≤ os.length ∧ i = .int .i64 k ∧ PC w1 wr q a b D R sv tv ∧ Match D R) (fun _ i _ => os.length - (intOf i).toNat)
  case atStart => exact ⟨0, _, _, _, _, by omega, rfl, p4, m4⟩
  case round =>
    clear p4 m4
    obtain ⟨k, D, R, sv, tv, hk, rfl, p5, m5⟩ := hrel
    have P5 := Lib.hid p5
    have M5 := Lib.hid m5
    clear p5 m5
    by_cases hlt : k < os.length
    · have hkl : os[k]? = some os[k] := List.getElem?_eq_getElem hlt
      obtain ⟨a', cap', hv, hc⟩ := HS.out.kept (O1.out.trans P5.out.pr.st.only (by simp))
      obtain ⟨bb, off, rv, kv, ha, c0, c1, c2, c3, _⟩ := hc k _ hkl
      obtain ⟨a1, cap1, hv1, hc1⟩ := HS.out.kept O1.out
      obtain ⟨bb1, off1, rv1, kv1, ha1, d0, d1, d2, d3, hb, hkv, _, hwat, hrl, hkl2⟩ := hc1 k _ hkl
      cases hv
      cases hv1
      subst ha
      cases ha1
      have e2 := cell_kept P5.out.pr.st.only d2 (by simp)
      have e3 := cell_kept P5.out.pr.st.only d3 (by simp)
      obtain rfl : rv = rv1 := Option.some.inj (c2.symm.trans e2)
      obtain rfl : kv = kv1 := Option.some.inj (c3.symm.trans e3)
      have hat : os[k].at_ ≤ 9223372036854775807 := by
        have h1 : IntKind.i64.max = 9223372036854775807 := by decide
        simp [Lit.wf] at hwat
        omega
      have HP := Lib.hid (And.intro hb (And.intro hkv (And.intro hat hkl2)))
      have hrl' : os[k].row.length ≤ 9223372036854775807 := by unfold maxLen at hrl; omega
      have hshb : ∃ (x1 : Option Addr) (q1 : Nat) (x2 : Option Addr) (n2 q2 : Nat), rv = .slice x1 os[k].row.length q1 ∧ kv = .slice x2 n2 q2 := by
        obtain ⟨_, _, e1, _⟩ := hb
        obtain ⟨_, _, e2, _⟩ := hkv
        exact ⟨_, _, _, _, _, e1, e2⟩
      obtain ⟨x1, q1, x2, n2, q2, rfl, rfl⟩ := hshb
      clear hc hc1 hkl d0 d1 d2 d3 e2 e3 hb hkv hat hwat hrl hkl2
      generalize os[k] = oo at c0 c1 c2 c3 HP hrl'
      obtain ⟨kind, at_, lb, ks⟩ := oo
      dsimp only at c0 c1 c2 HP hrl'
      have k0 : (0 : Int) ≤ (k : Int) := by omega
      have k1 : (k : Int) < (os.length : Int) := by omega
      have P8 := Lib.hid (P5.out.quiet ((Only.refl [] wr).alloc (.cells (op3 kind at_ (.slice x1 lb.length q1) (.slice x2 n2 q2)) 40)))
      have B8 := heap_new wr (.cells (op3 kind at_ (.slice x1 lb.length q1) (.slice x2 n2 q2)) 40)
      clear P5
      by_cases hbig : (4096 : Int) < (lb.length : Int)
      · go_wp2_with fail
        go_ret
        exact ⟨rfl, O1.out.trans P8.out.pr.st.only (by simp)⟩
      go_wp2_with fail
      refine (play3_all (P8.out.ps B8) M5.out lb HP.out.1 (by omega) ks HP.out.2.1 HP.out.2.2.2 HP.out.2.2.1).mono ?_
      rintro e w9 ⟨rfl, g9, cs9, D9, R9, sv9, tv9, p9, m9⟩
      have P9 := Lib.hid p9
      have M9 := Lib.hid m9
      clear p9 m9 P8 M5 HP B8
      go_wp2_with fail
      refine (same3 P9.out M9.out).mono ?_
      rintro e w10 ⟨rfl, g10, cs10, D10, R10, sv10, tv10, p10, m10⟩
      have P10 := Lib.hid p10.pc
      have M10 := Lib.hid m10
      clear p10 m10 P9 M9
      go_wp2_with fail
      go_roundw
      case rel => exact ⟨k + 1, _, _, _, _, by omega, by go_num, P10.out, M10.out⟩
      case measure => simp [intOf]; omega
    · obtain rfl : k = os.length := by omega
      go_wp2_with fail
      go_ret
      exact ⟨rfl, O1.out.trans P5.out.pr.st.only (by simp)⟩

set_option maxRecDepth 100000 in
theorem splays_lifted (os : Os) (started : os.Started) (H : Type) (enc : TypeId × Value → H) :
    ReturnsInHanded {} Try.checked os 3 .any (Rows.slotPlaysSpec.pre6 enc Try.prog Try.f3 Rows.slotPlaysRow.domain false) (Rows.slotPlaysSpec.post enc Try.prog Try.f3 false true false false) := by
  refine returnsInHanded_of_change (C := Try.checked) law_own started (by kernel_rfl) Try.func3
    (ChangeSpec.witness6 (enc := enc) (C := Try.checked) false ⟨#[], #[.int .i64 0, .slice none 0 0], []⟩ 8 (by kernel_rfl) (by kernel_rfl) (by kernel_rfl) (by kernel_rfl)) ?_
  intro W base args ds gs before hval0 hW hcnd _
  have hval : ∀ (j : Nat) t v, Try.f3.params[j]? = some t → args[j]? = some v → Value.okWide Try.prog W .any base t v := hval0
  have hW' := hW
  obtain ⟨p, q, hA0, hV, rfl, hfz, hnd⟩ := hW
  have hA : DataW.TrodAll enc Try.prog W 0 (fun _ => true) true Try.f3.params.toList args.toList ds p := hA0
  rw [Try.params3] at hA hval
  obtain ⟨v0, vs0, d0, ds0, p0, q0, hargs, rfl, rfl, h0, r0⟩ := trodAll_cons hA
  obtain ⟨v1, vs1, d1, ds1, p1, q1, rfl, rfl, rfl, h1, r1⟩ := trodAll_cons r0
  obtain ⟨rfl, rfl, rfl⟩ := trodAll_nil r1
  obtain rfl : args = #[v0, v1] := by cases args; simp_all
  obtain ⟨rfl, rfl⟩ := trodVars_none hV
  obtain ⟨a0, rfl, rfl, rfl, w0⟩ := open_int Try.underlying3 (hval 0 3 v0 rfl rfl) h0
  have h1' := h1
  obtain ⟨sa1, sl1, sc1, rfl⟩ := okWide_slice Try.underlying22 (hval 1 22 v1 rfl rfl)
  obtain ⟨fuel1, hf1⟩ := h1
  obtain ⟨l1, hs1, hl1⟩ := open_script3 (v := .slice sa1 sl1 sc1) hf1
  have hlt1 : ∀ x ∈ p1, x.block < W.heap.size := fun x hx => hW'.lt x (by simp [hx])
  clear hA0 hval0
  refine (splays_walk a0 _ l1 W w0 hs1 hl1).mono fun e W' ⟨he, hg⟩ => ?_
  subst he
  exact ⟨_, rfl, post_quiet (pa := ([] ++ (p1 ++ []))) (pv := []) hW' hg (fun _ _ _ => (trodAll_cons_mk (shut_bool Try.underlying4 _) trodAll_mk0)) (fun sp hsp => (trodAll_cons_mk (shut_int Try.underlying3 w0) (trodAll_cons_mk (arg_stays (by kernel_rfl) (of_decide_eq_true (by kernel_rfl)) h1' hg hlt1 (fun x hx => hsp x (by simp [hx]))) trodAll_mk0))) (fun _ _ => rfl) (by simp) (ok_one (by kernel_rfl) rfl (okWide_bool_mk Try.underlying4 _))⟩

theorem splays_over : Rows.slotPlaysRow.holds Try.pinned (OpenSpec.ofChange Rows.slotPlaysSpec) :=
  OpenClaim.holds_of_wide 3 Try.f3 rfl rfl rfl rfl rfl rfl rfl ⟨rfl, rfl, rfl, rfl, rfl⟩ rfl rfl rfl rfl rfl (by kernel_rfl) Try.func3 (by kernel_rfl)
    (of_decide_eq_true (by kernel_rfl)) (by unfold Func.isWrapper; first | (rw [if_pos (by decide +kernel)]; kernel_rfl) | (rw [if_neg (by decide +kernel)]; exact ⟨rfl, rfl⟩))
    (fun os started H enc _ => splays_lifted os started H enc)

/-- The statement. -/
theorem splays_holds : Rows.SlotPlaysSaid :=
  splays_over
#print axioms splays_holds
end Go.Proofs.Ytdmkmjlkogkmgaa

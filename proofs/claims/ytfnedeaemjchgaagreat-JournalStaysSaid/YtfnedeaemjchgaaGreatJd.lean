/- A journal: load. -/
import Derived.Test.YtfnedeaemjchgaaGreatJc
import Derived.WalkMore
import Derived.Deep.LoopGhost
namespace Go.Proofs.YtfnedeaemjchgaaGreat
open Go.RowKit Go.Maps
set_option linter.unusedSimpArgs false
set_option linter.unusedVariables false

theorem jend_raw {w : World} {p : Nat} {b n : Nat} {sa : Option Addr} {sc : Nat} (c4 : w.cell? ⟨p, 4, none⟩ = some (.int .i64 b)) (c5 : w.cell? ⟨p, 5, none⟩ = some (.slice sa n sc)) (h : b + n ≤ 1152921504606846976) :
    Calls Tryz.prog 52 #[.pointer (some ⟨p, 0, none⟩)] w fun e w' => e = .returned (.int .i64 ((b + n : Nat) : Int)) ∧ Drew w w' := by
  go_enter Tryz.func52, Tryz.ntmps52
  go_wp2_with fail
  go_quiet (fail)
  go_wp2_with fail
  go_ret
  exact ⟨ret_i64 (by omega), _, rfl⟩
theorem jnext_raw {w : World} {p : Nat} {f n : Nat} {ta : Option Addr} {tc : Nat} (c6 : w.cell? ⟨p, 6, none⟩ = some (.int .i64 f)) (c7 : w.cell? ⟨p, 7, none⟩ = some (.slice ta n tc)) (h : f + n ≤ 1152921504606846976) :
    Calls Tryz.prog 20 #[.pointer (some ⟨p, 0, none⟩)] w fun e w' => e = .returned (.int .i64 ((f + n : Nat) : Int)) ∧ Drew w w' := by
  go_enter Tryz.func20, Tryz.ntmps20
  go_wp2_with fail
  go_quiet (fail)
  go_wp2_with fail
  go_ret
  exact ⟨ret_i64 (by omega), _, rfl⟩
theorem jis_nil (e : Value) (w : World) : Calls Tryz.prog 76 #[.nilIface, err 4] w fun e w' => e = .returned (.bool false) ∧ w = w' := by
  have q1 : ∀ w, (binOp .eql 36 .nilIface .nilIface).run Tryz.prog w = .ok (.bool true) w := fun w => by kernel_rfl
  have q2 : ∀ w, (binOp .eql 36 .nilIface (err 4)).run Tryz.prog w = .ok (.bool false) w := fun w => by kernel_rfl
  go_enter Tryz.func76, Tryz.ntmps76
  go_wp2_with fail
  go_ret
  exact ⟨rfl, rfl⟩

/-- The cells of a journal that is being loaded. -/
def lcells (p q : Nat) (a : DA) (at_ : Int) (n : Nat) (base : Nat) (vs : Value) (first : Nat) (vt vn : Value) : Array Value :=
  #[.pointer (some ⟨a.p, 0, none⟩), .int .i64 (at_ + 2), .int .i64 n, .pointer (some ⟨q, 0, none⟩), .int .i64 base, vs, .int .i64 first, vt, .int .i64 0, vn, .int .i64 0, .bool false]
/-- Whether another whole record stands in the first m bytes. -/
def Done (recs : List Sec) (i m : Nat) : Prop := i ≤ recs.length ∧ pos recs i ≤ m ∧ (i = recs.length ∨ m < pos recs (i + 1))
theorem Done.start (recs : List Sec) : Done recs 0 0 := by
  refine ⟨Nat.zero_le _, by rw [pos_zero]; exact Nat.le_refl _, ?_⟩
  by_cases h : 0 = recs.length
  · exact .inl h
  · right
    rw [pos_succ (List.getElem?_eq_getElem (show 0 < recs.length by omega))]
    omega
theorem Done.end_ {recs : List Sec} {i m : Nat} (h : Done recs i m) (hm : m = (flat recs).length) : i = recs.length := by
  rcases h.2.2 with e | e
  · exact e
  · have := pos_le recs (i + 1)
    omega
theorem wholeN_at {recs : List Sec} {i m : Nat} (hi : i ≤ recs.length) (hr : ∀ r ∈ recs, 1 ≤ r.length ∧ r.length ≤ 4096) (h0 : pos recs i ≤ m) (h1 : m ≤ (flat recs).length) :
    (wholeN (((flat recs).take m).drop (pos recs i)) = 0 ∧ Done recs i m) ∨ (∃ r, recs[i]? = some r ∧ wholeN (((flat recs).take m).drop (pos recs i)) = r.length + 2 ∧ pos recs (i + 1) ≤ m) := by
  by_cases h : i = recs.length
  · left
    have hp : pos recs i = (flat recs).length := pos_all (by omega)
    refine ⟨?_, hi, h0, .inl h⟩
    rw [List.drop_eq_nil_of_le (by rw [List.length_take]; omega)]
    rfl
  · have hlt : i < recs.length := by omega
    have hri := List.getElem?_eq_getElem hlt
    have hw := wholeN_part hri (by have := hr _ (List.getElem_mem hlt); omega) h0 h1
    by_cases h2 : pos recs (i + 1) ≤ m
    · right
      rw [if_pos h2] at hw
      exact ⟨_, hri, hw, h2⟩
    · left
      rw [if_neg h2] at hw
      exact ⟨hw, hi, h0, .inr (by omega)⟩
theorem sliceAll {w : World} {va : Option Addr} {n vc : Nat} (hf : n ≤ vc) (kk : IntKind) : ∀ w, (Instr.sliceAt 27 (.slice va n vc) none (some (.int kk (n : Int))) none).run Tryz.prog w = .ok (.slice va n vc) w := by
  intro w
  rw [run_sliceAt_slice w _ _ _ _ _ elem_bytes, run_slice_h w _ _ _ _ elem_bytes kk (n : Int) (by omega) (by omega), size_u8]
  cases va <;> simp [Result.andThen, sliced, Addr.add]

theorem JW.rm {w : World} {p q : Nat} {a : DA} {at_ : Int} {n base first : Nat} {vs vt vn vr : Value} {S N : Sec} {T : List Int} {d : Disk} {s : SL} (h : JW w p q a (lcells p q a at_ n base vs first vt vn) vs vt vn vr S T N d s) (hn2 : 2 ≤ n) (hnm : n ≤ 2048) (hat : 0 ≤ at_) (hhere : at_ + 2 + n ≤ d.size) : RM w p a at_ n d :=
  ⟨h.cell 0, h.cell 1, h.cell 2, h.dev, hn2, hnm, hat, hhere⟩
theorem take_more {S : Sec} {m m2 : Nat} (h : m ≤ m2) : S.take m ++ (S.take m2).drop m = S.take m2 := by
  have h1 : (S.take m2).take m = S.take m := by rw [List.take_take, Nat.min_eq_left h]
  rw [← h1, List.take_append_drop]
theorem BBlk.own {w : World} {g : Nat} {l : Sec} (h : BBlk w g l) (hl : l.length ≤ maxLen) : Own w 0 (.slice (some ⟨g, 0, none⟩) l.length l.length) l := by
  refine ⟨by simp [bv], .inr ⟨g, l.length, _, rfl, Nat.zero_le _, h, Nat.le_refl _, hl, by simp, ?_⟩⟩
  rw [Nat.mul_one, List.take_of_length_le (by simp)]
  simp [enc, bv]
structure LRel (w wr : World) (p q : Nat) (a : DA) (at_ : Int) (n first start B O : Nat) (recs : List Sec) (note : Sec) (vn vr : Value) (d : Disk) (s : SL) (i m : Nat) : Prop where
  st : ∃ sa sc ta tc, JW wr p q a (lcells p q a at_ n B (.slice sa (O + m) sc) first (.slice ta i tc) vn) (.slice sa (O + m) sc) (.slice ta i tc) vn vr (zs O ++ (flat recs).take m) (offs start (recs.take i)) note d s ∧
    (∀ g, (Value.slice sa (O + m) sc).ownBlock = some g → w.heap.size ≤ g) ∧ ∀ g, (Value.slice ta i tc).ownBlock = some g → w.heap.size ≤ g
  only : Only [p] w wr
  mle : m ≤ (flat recs).length
theorem LRel.quiet {w wr wr' : World} {p q : Nat} {a : DA} {at_ : Int} {n first start B O : Nat} {recs : List Sec} {note : Sec} {vn vr : Value} {d : Disk} {s : SL} {i m : Nat} (h : LRel w wr p q a at_ n first start B O recs note vn vr d s i m) (ho : Only [] wr wr') : LRel w wr' p q a at_ n first start B O recs note vn vr d s i m := by
  obtain ⟨⟨sa, sc, ta, tc, h1, h2, h3⟩, h4, h5⟩ := h
  exact ⟨⟨sa, sc, ta, tc, h1.quiet ho, h2, h3⟩, h4.trans ho (by simp), h5⟩

set_option maxRecDepth 100000 in
set_option maxHeartbeats 8000000 in
theorem jload_any {w : World} {p q : Nat} {a : DA} {at_ : Int} {n first start : Nat} {recs : List Sec} {note : Sec} {vn vr : Value} {d : Disk} {s : SL}
    (hj : JW w p q a (lcells p q a at_ n 0 (.slice none 0 0) first (.slice none 0 0) vn) (.slice none 0 0) (.slice none 0 0) vn vr [] [] note d s) (hdn : d.met.down = false)
    (hring : Ring d.get (at_ + 2) n start (flat recs)) (hrecs : ∀ r ∈ recs, 1 ≤ r.length ∧ r.length ≤ 4096) (hroom : start % 470 + (flat recs).length ≤ n * 470) (hn2 : 2 ≤ n) (hnm : n ≤ 2048) (hat : 0 ≤ at_) (hhere : at_ + 2 + n ≤ d.size)
    (hf1 : 1 ≤ first) (hnext : first + recs.length ≤ 1152921504606846976) (hfin : start + (flat recs).length ≤ 1152921504606846976) (hnote : note.length ≤ 400) (hsat : s.at_ = at_) (E : Nat) (hE : E = start + (flat recs).length) :
    Calls Tryz.prog 60 #[.pointer (some ⟨p, 0, none⟩), .int .i64 start, .int .i64 E] w fun e w' => e = .returned .nilIface ∧
      ∃ vs vt, JM w' p q a vs vt vn vr d ⟨at_, n, first, start, zs (start % 470), recs, recs.length, note, 0, false⟩ s ∧ (∀ g, vs.ownBlock = some g → w.heap.size ≤ g) ∧ (∀ g, vt.ownBlock = some g → w.heap.size ≤ g) ∧ Only [p] w w' := by
  have q1 := iface_ne
  have J0 := Lib.hid hj
  have HR := Lib.hid hring
  have HRECS := Lib.hid hrecs
  have HDN := Lib.hid hdn
  have HSAT := Lib.hid hsat
  have hmod := Nat.mod_lt start (show 0 < 470 by omega)
  have hml := Nat.mod_le start 470
  have hbw : (start : Int) - (start : Int) % 470 = ((start - start % 470 : Nat) : Int) := by omega
  have hbd : (start : Int) - ((start - start % 470 : Nat) : Int) = ((start % 470 : Nat) : Int) := by omega
  have c4 : w.cell? ⟨p, 4, none⟩ = some (.int .i64 0) := hj.cell 4
  have c5 : w.cell? ⟨p, 5, none⟩ = some (.slice none 0 0) := hj.cell 5
  have f4 := hj.free 4
  have f5 := hj.free 5
  have hsl : start ≤ 1152921504606846976 := by omega
  have HBW := Lib.hid hbw
  have HBD := Lib.hid hbd
  clear hj hring hrecs hdn hsat
  generalize hL : (flat recs).length = L at *
  have HL := Lib.hid hL
  clear hL
  generalize hB : start - start % 470 = B at *
  have HB := Lib.hid hB
  have hB2 : B ≤ start := by omega
  have hB3 : start ≤ B + 469 := by omega
  clear hB
  generalize hO : start % 470 = O at *
  have HO := Lib.hid hO
  clear hO
  have hBO : B + O = start := by omega
  have HE := Lib.hid hE
  have hE1 : start ≤ E := by omega
  have hE2 : E ≤ 1152921504606846976 := by omega
  have hE3 : E ≤ start + L := by omega
  have hE4 : start + L ≤ E := by omega
  clear hE
  have hbw := HBW.out
  go_enter Tryz.func60, Tryz.ntmps60
  go_wp2_with fail
  go_step3
  go_upto_region 2 with (fail)
  have J1 := Lib.hid (J0.out.set 4 (.int .i64 (B : Nat)))
  have o1 : Only [p] w (w.setCell ⟨p, 4, none⟩ (.int .i64 (B : Nat))) := (Only.refl _ _).setCell (by simp) _
  have O1 := Lib.hid o1
  generalize w.setCell ⟨p, 4, none⟩ (.int .i64 (B : Nat)) = w1 at J1 o1 O1 ⊢
  have c4 : w1.cell? ⟨p, 4, none⟩ = some (.int .i64 (B : Nat)) := J1.out.cell 4
  clear o1 c5 f4 f5 hbw
  have hbd := HBD.out
  go_wp2_with (
    refine wpList_make_zero rfl (.tmp 25) (.tmp 25) rfl O (by rfl) (by rfl) (by omega) ?_
    intro w2 g b2 hg2 o2
    have ZB := lt_of_heap b2
    have HW2 := Lib.hid (BBlk.own b2 (by rw [List.length_replicate]; unfold maxLen; omega))
    rw [List.length_replicate] at HW2
    have J2 := Lib.hid (J1.out.quiet o2)
    have O2 := Lib.hid (O1.out.trans o2 (by simp))
    have Z1 := O1.out.size
    have G2 := Lib.hid (Nat.le_trans Z1 hg2)
    have c5 : w2.cell? ⟨p, 5, none⟩ = some (.slice none 0 0) := J2.out.cell 5
    have f5 := J2.out.free 5
    clear b2 o2 J1 O1 Z1)
  have J3 := Lib.hid ((J2.out.withS HW2.out (sep_fresh (v := .slice (some ⟨g, 0, none⟩) O O) J0.out.note (fun x hx => by cases hx; exact G2.out)) (sep_fresh (v := .slice (some ⟨g, 0, none⟩) O O) J0.out.slot.row (fun x hx => by cases hx; exact G2.out))).set 5 (.slice (some ⟨g, 0, none⟩) O O))
  have o3 : Only [p] w2 (w2.setCell ⟨p, 5, none⟩ (.slice (some ⟨g, 0, none⟩) O O)) := (Only.refl _ _).setCell (by simp) _
  have O3 := Lib.hid (O2.out.trans o3 (fun k hk => .inl hk))
  generalize w2.setCell ⟨p, 5, none⟩ (.slice (some ⟨g, 0, none⟩) O O) = w3 at J3 o3 O3 ⊢
  clear o3 J2 O2 HW2 f5 c5 ZB hbd
  go_step3
  go_wp2_with fail
  have e0 : zs O ++ (flat recs).take 0 = zs O := by simp
  have L3 := Lib.hid (show LRel w w3 p q a at_ n first start B O recs note vn vr d s 0 0 from ⟨⟨some ⟨g, 0, none⟩, O, none, 0, by rw [e0]; exact J3.out, (fun x hx => by cases hx; exact G2.out), (fun x hx => by cases hx)⟩, O3.out, Nat.zero_le _⟩)
  clear e0
  go_loopg [7] L (fun gk s7 wr => ∃ i m : Nat, s7 = .int .i64 ((start + pos recs i : Nat) : Int) ∧ m + gk = L ∧ Done recs i m ∧ LRel w wr p q a at_ n first start B O recs note vn vr d s i m)
  case atStart => exact ⟨0, 0, by rw [pos_zero]; rfl, by omega, Done.start recs, L3.out⟩
  case round =>
    clear L3 J3 O3 G2 c4
    obtain ⟨i, m, rfl, hmg, hdone, hl⟩ := hrel
    have HDONE := Lib.hid hdone
    have hml2 : m ≤ L := by have := hl.mle; rw [HL.out] at this; exact this
    have hil : i ≤ recs.length := hdone.1
    have hpi : pos recs i ≤ m := hdone.2.1
    obtain ⟨⟨sa, sc, ta, tc, jw, gs, gt⟩, ho, _⟩ := hl
    generalize hy : O + m = y at jw gs gt
    have HY := Lib.hid hy
    have hy1 : y ≤ O + m := by omega
    have hy2 : O + m ≤ y := by omega
    clear hy
    generalize hnx : start + pos recs i = nx
    have HNX := Lib.hid hnx
    have hnx1 : start ≤ nx := by omega
    have hnx2 : nx ≤ start + m := by omega
    clear hnx
    have JW0 := Lib.hid jw
    have GS := Lib.hid gs
    have GT := Lib.hid gt
    have HO4 := Lib.hid ho
    have c4 : wr.cell? ⟨p, 4, none⟩ = some (.int .i64 (B : Nat)) := jw.cell 4
    have c5 : wr.cell? ⟨p, 5, none⟩ = some (.slice sa y sc) := jw.cell 5
    have hend := jend_raw c4 c5 (by omega)
    rw [show B + y = start + m by omega] at hend
    generalize hz : start + m = z at hend
    have HZ := Lib.hid hz
    have hz1 : start ≤ z := by omega
    have hz2 : z ≤ start + L := by omega
    clear jw gs gt ho hz hdone
    by_cases hlt : m < L
    rotate_left
    · have hme : m = L := by omega
      have hzE : ¬ (z : Int) < (E : Int) := by have := HZ.out; omega
      have hie : i = recs.length := HDONE.out.end_ (by rw [HL.out]; exact hme)
      have HIE := Lib.hid hie
      have HME := Lib.hid hme
      have hpL : nx = start + L := by rw [← HNX.out, hie, pos_all (Nat.le_refl _), HL.out]
      have hidx : (nx : Int) - (B : Int) = (y : Int) := by omega
      have HIDX := Lib.hid hidx
      clear hie hme hlt hpi hpL hidx
      go_wp2_with fail
      refine hend.mono ?_
      rintro e w5 ⟨rfl, hd5⟩
      have J5 := Lib.hid (JW0.out.quiet hd5.only)
      have O5 := Lib.hid (HO4.out.trans hd5.only (by simp))
      clear hd5 hend c4 c5
      go_wp2_with fail
      have o6 : Only [] w5 w5.drew := (Only.refl [] w5).drew
      have J6 := Lib.hid (J5.out.quiet o6)
      have O6 := Lib.hid (O5.out.trans o6 (by simp))
      clear o6 J5 O5 JW0 HO4
      have hwi : IntKind.i64.wrap ((nx : Int) - (B : Int)) = (y : Int) := by
        rw [IntKind.wrap_i64]
        have := HIDX.out
        omega
      have hysc : y ≤ sc := (J6.out.str.fit _ _ _ rfl).1
      have hrun := sliceAll (w := w5) (va := sa) hysc .i64
      refine wp_region_B (S := fun w' => w'.cell? ⟨p, 4, none⟩ = some (.int .i64 (B : Nat)) ∧ w'.cell? ⟨p, 5, none⟩ = some (.slice sa y sc)) [0, 1, 2, 3, 4, 5, 6, 7, 8, 9, 10, 11, 12, 13] (by kernel_rfl) ⟨J6.out.cell 4, J6.out.cell 5⟩ (fun hH => ?_)
      generalize w5.drew = wd at hH J6 O6 ⊢
      refine takeB_list (i := 0) (v := ?_) rfl (by kernel_rfl) (by kernel_rfl) (by kernel_rfl) (by kernel_rfl) (fun _ _ _ h => h) (Or.inl ⟨by rfl, ?_⟩) hH ?_
      rotate_left
      · ((intro w hSw; (try dsimp only at hSw); go_simp); try with_reducible rfl)
      simp only [Act.put, List.setIfInBounds_toArray, List.set_cons_zero, List.set_cons_succ]
      refine takeB_list (i := 1) (v := ?_) rfl (by kernel_rfl) (by kernel_rfl) (by kernel_rfl) (by kernel_rfl) (fun _ _ _ h => h) (Or.inl ⟨by rfl, ?_⟩) hH ?_
      rotate_left
      · ((intro w hSw; (try dsimp only at hSw); go_simp); try with_reducible rfl)
      simp only [Act.put, List.setIfInBounds_toArray, List.set_cons_zero, List.set_cons_succ]
      refine takeB_list (i := 2) (v := ?_) rfl (by kernel_rfl) (by kernel_rfl) (by kernel_rfl) (by kernel_rfl) (fun _ _ _ h => h) (Or.inl ⟨by rfl, ?_⟩) hH ?_
      rotate_left
      · ((intro w hSw; (try dsimp only at hSw); go_simp); try with_reducible rfl)
      simp only [Act.put, List.setIfInBounds_toArray, List.set_cons_zero, List.set_cons_succ]
      refine takeB_list (i := 3) (v := ?_) rfl (by kernel_rfl) (by kernel_rfl) (by kernel_rfl) (by kernel_rfl) (fun _ _ _ h => h) (Or.inl ⟨by rfl, ?_⟩) hH ?_
      rotate_left
      · ((intro w hSw; (try dsimp only at hSw); go_simp); try with_reducible rfl)
      simp only [Act.put, List.setIfInBounds_toArray, List.set_cons_zero, List.set_cons_succ]
      refine takeB_list (i := 4) (v := ?_) rfl (by kernel_rfl) (by kernel_rfl) (by kernel_rfl) (by kernel_rfl) (fun _ _ _ h => h) (Or.inl ⟨by rfl, ?_⟩) hH ?_
      rotate_left
      · ((intro w hSw; (try dsimp only at hSw); go_simp); try with_reducible rfl)
      simp only [Act.put, List.setIfInBounds_toArray, List.set_cons_zero, List.set_cons_succ]
      refine takeB_list (i := 5) (v := ?_) rfl (by kernel_rfl) (by kernel_rfl) (by kernel_rfl) (by kernel_rfl) (fun _ _ _ h => h) (Or.inl ⟨by rfl, ?_⟩) hH ?_
      rotate_left
      · ((intro w hSw; (try dsimp only at hSw); go_simp); try with_reducible rfl)
      simp only [Act.put, List.setIfInBounds_toArray, List.set_cons_zero, List.set_cons_succ]
      refine takeB_list (i := 6) (v := ?_) rfl (by kernel_rfl) (by kernel_rfl) (by kernel_rfl) (by kernel_rfl) (fun _ _ _ h => h) (Or.inl ⟨by rfl, ?_⟩) hH ?_
      rotate_left
      · ((intro w hSw; (try dsimp only at hSw); go_simp); try with_reducible rfl)
      simp only [Act.put, List.setIfInBounds_toArray, List.set_cons_zero, List.set_cons_succ]
      refine takeB_list (i := 7) (v := ?_) rfl (by kernel_rfl) (by kernel_rfl) (by kernel_rfl) (by kernel_rfl) (fun _ _ _ h => h) (Or.inl ⟨by rfl, ?_⟩) hH ?_
      rotate_left
      · ((intro w hSw; (try dsimp only at hSw); go_simp); try with_reducible rfl)
      simp only [Act.put, List.setIfInBounds_toArray, List.set_cons_zero, List.set_cons_succ]
      refine takeB_list (i := 8) (v := ?_) rfl (by kernel_rfl) (by kernel_rfl) (by kernel_rfl) (by kernel_rfl) (fun _ _ _ h => h) (Or.inl ⟨by rfl, ?_⟩) hH ?_
      rotate_left
      · ((intro w hSw; (try dsimp only at hSw); go_simp); try with_reducible rfl)
      simp only [Act.put, List.setIfInBounds_toArray, List.set_cons_zero, List.set_cons_succ]
      refine takeB_list (i := 9) (v := ?_) rfl (by kernel_rfl) (by kernel_rfl) (by kernel_rfl) (by kernel_rfl) (fun _ _ _ h => h) (Or.inl ⟨by rfl, ?_⟩) hH ?_
      rotate_left
      · ((intro w hSw; (try dsimp only at hSw); go_simp); try with_reducible rfl)
      simp only [Act.put, List.setIfInBounds_toArray, List.set_cons_zero, List.set_cons_succ]
      refine takeB_list (i := 10) (v := ?_) rfl (by kernel_rfl) (by kernel_rfl) (by kernel_rfl) (by kernel_rfl) (fun _ _ _ h => h) (Or.inl ⟨by rfl, ?_⟩) hH ?_
      rotate_left
      · ((intro w hSw; (try dsimp only at hSw); go_simp); try with_reducible rfl)
      simp only [Act.put, List.setIfInBounds_toArray, List.set_cons_zero, List.set_cons_succ]
      refine takeB_list (i := 11) (v := ?_) rfl (by kernel_rfl) (by kernel_rfl) (by kernel_rfl) (by kernel_rfl) (fun _ _ _ h => h) (Or.inl ⟨by rfl, ?_⟩) hH ?_
      rotate_left
      · ((intro w hSw; (try dsimp only at hSw); go_simp); try with_reducible rfl)
      simp only [Act.put, List.setIfInBounds_toArray, List.set_cons_zero, List.set_cons_succ]
      refine takeB_list (i := 12) (v := ?_) rfl (by kernel_rfl) (by kernel_rfl) (by kernel_rfl) (by kernel_rfl) (fun _ _ _ h => h) (Or.inl ⟨by rfl, ?_⟩) hH ?_
      rotate_left
      · ((intro w hSw; (try dsimp only at hSw); go_simp); try with_reducible rfl)
      simp only [Act.put, List.setIfInBounds_toArray, List.set_cons_zero, List.set_cons_succ]
      refine takeB_list (i := 13) (v := ?_) rfl (by kernel_rfl) (by kernel_rfl) (by kernel_rfl) (by kernel_rfl) (fun _ _ _ h => h) (Or.inl ⟨by rfl, ?_⟩) hH ?_
      rotate_left
      · ((intro w hSw; (try dsimp only at hSw); go_simp); try with_reducible rfl)
      simp only [Act.put, List.setIfInBounds_toArray, List.set_cons_zero, List.set_cons_succ]
      clear hrun hwi
      have c5 : wd.cell? ⟨p, 5, none⟩ = some (.slice sa y sc) := J6.out.cell 5
      have f5 := J6.out.free 5
      refine readyB_out (i := 14) (by kernel_rfl) (by kernel_rfl) rfl (fun K hK => ?_)
      go_simp
      refine hK.out _ _ ?_
      clear hK K c5 f5 hH
      have J7 := Lib.hid (J6.out.set 5 (.slice sa y sc))
      have o7 : Only [p] wd (wd.setCell ⟨p, 5, none⟩ (.slice sa y sc)) := (Only.refl _ _).setCell (by simp) _
      have O7 := Lib.hid (O6.out.trans o7 (fun k hk => .inl hk))
      generalize wd.setCell ⟨p, 5, none⟩ (.slice sa y sc) = w7 at J7 o7 O7 ⊢
      refine wpAnyB_done (by kernel_rfl) ?_ _
      clear o7 J6 O6
      have c6 : w7.cell? ⟨p, 6, none⟩ = some (.int .i64 first) := J7.out.cell 6
      have c7 : w7.cell? ⟨p, 7, none⟩ = some (.slice ta i tc) := J7.out.cell 7
      go_wp2_with fail
      refine (jnext_raw c6 c7 (by omega)).mono ?_
      rintro e w8 ⟨rfl, hd8⟩
      have J8 := Lib.hid (J7.out.quiet hd8.only)
      have O8 := Lib.hid (O7.out.trans hd8.only (by simp))
      clear hd8 J7 O7 c6 c7
      have c8 : w8.cell? ⟨p, 8, none⟩ = some (.int .i64 0) := J8.out.cell 8
      have f8 := J8.out.free 8
      go_wp2_with fail
      have J9 := J8.out.set 8 (.int .i64 ((first : Int) + (i : Int)))
      have o9 : Only [p] w8 (w8.setCell ⟨p, 8, none⟩ (.int .i64 ((first : Int) + (i : Int)))) := (Only.refl _ _).setCell (by simp) _
      rw [Exit.noGoto_ret]
      go_ret
      refine ⟨rfl, .slice sa y sc, .slice ta i tc, ?_, GS.out, GT.out, ?_⟩
      · have e1 : (first : Int) + (i : Int) = (first : Int) + (recs.length : Int) := by have := HIE.out; omega
        have hst : zs O ++ (flat recs).take m = zs O ++ flat recs := by
          rw [HME.out, List.take_of_length_le (by rw [HL.out]; exact Nat.le_refl _)]
        have hts : offs start (recs.take i) = offs start recs := by rw [HIE.out, List.take_length]
        have hsc : (zs O ++ flat recs).length = O + L := by rw [List.length_append, HL.out, zs_length]
        refine J9.jm (j := ⟨at_, n, first, start, zs O, recs, recs.length, note, 0, false⟩) ?_ hst hts rfl ⟨by rw [show (⟨at_, n, first, start, zs O, recs, recs.length, note, 0, false⟩ : JL).pre = zs O from rfl, zs_length]; exact HO.out.symm, Nat.le_refl _, hf1, HRECS.out, ?_, hn2, hnm, hnote, Nat.zero_le _, hat, ?_⟩ hhere HSAT.out
        · have eb : (⟨at_, n, first, start, zs O, recs, recs.length, note, 0, false⟩ : JL).base = B := by
            show start - start % 470 = B
            rw [HO.out]
            exact HB.out
          simp only [jcells]
          rw [eb, e1]
          rfl
        · show (zs O ++ flat recs).length ≤ n * 470
          rw [hsc]
          exact hroom
        · have := J8.out.dev.hi
          show at_ + 2 + (n : Int) ≤ 4096
          omega
      · exact O8.out.trans o9 (fun k hk => .inl hk)
    have hzE : (z : Int) < (E : Int) := by have := HZ.out; omega
    go_wp2_with fail
    refine hend.mono ?_
    rintro e w5 ⟨rfl, hd5⟩
    have J5 := Lib.hid (JW0.out.quiet hd5.only)
    have O5 := Lib.hid (HO4.out.trans hd5.only (by simp))
    clear hd5 hend c4 c5 JW0 HO4
    have c4 : w5.cell? ⟨p, 4, none⟩ = some (.int .i64 (B : Nat)) := J5.out.cell 4
    have c5 : w5.cell? ⟨p, 5, none⟩ = some (.slice sa y sc) := J5.out.cell 5
    have hend := jend_raw c4 c5 (by omega)
    rw [show B + y = z by have := HZ.out; omega] at hend
    go_wp2_with fail
    refine hend.mono ?_
    rintro e w6 ⟨rfl, hd6⟩
    have J6 := Lib.hid (J5.out.quiet hd6.only)
    have O6 := Lib.hid (O5.out.trans hd6.only (by simp))
    clear hd6 hend c4 c5 J5 O5
    have hk : (z : Int) / 470 = ((z / 470 : Nat) : Int) := by omega
    have hpart := HR.out.part (m := m) (by rw [HL.out]; exact hlt)
    rw [HZ.out, HL.out] at hpart
    have hmo : z % 470 = z - z / 470 * 470 := by omega
    have hkz : z / 470 * 470 ≤ z := by omega
    have hkz2 : z < z / 470 * 470 + 470 := by omega
    generalize hK : z / 470 = k at hk hpart hmo hkz hkz2
    obtain ⟨b, hpc, hbt⟩ := hpart
    have HBT := Lib.hid hbt
    have HPC := Lib.hid hpc
    have HMO := Lib.hid hmo
    clear hbt hpc hmo hK
    go_wp2_with fail
    refine (jread_any (J6.out.rm hn2 hnm hat hhere) HDN.out k (by omega) b HPC.out).mono ?_
    rintro e w7 ⟨x7, c7, rfl, h7, o7⟩
    have J7 := Lib.hid (J6.out.quiet o7)
    have H7 := Lib.hid h7
    have O7 := Lib.hid (O6.out.trans o7 (by simp))
    have HB470 := Lib.hid HPC.out.2
    clear h7 o7 J6 O6
    have hb7 := H7.out.bytes
    have hf7 := H7.out.fit _ _ _ rfl
    rw [← HB470.out] at hb7
    have ht : (E : Int) - (k : Int) * 470 = ((E - k * 470 : Nat) : Int) := by omega
    have het : E - k * 470 = start + L - k * 470 := by omega
    rw [← het] at HBT
    have hoE : z - k * 470 < E - k * 470 := by omega
    clear het
    generalize E - k * 470 = t at ht HBT hoE
    have hmin : (if (t : Int) < 470 then (t : Int) else (470 : Int)) = ((min 470 t : Nat) : Int) := by
      split <;> omega
    have hmm : min 470 t ≤ b.length := by rw [HB470.out]; exact Nat.min_le_left _ _
    have hmm2 : min 470 t ≤ 470 := Nat.min_le_left _ _
    have hom : z - k * 470 ≤ min 470 t := by omega
    obtain ⟨bb, hrun, hbb⟩ := slice_to hb7 (by rw [HB470.out]; exact hf7.1) (min 470 t) hmm .i64
    rw [HB470.out] at hrun
    have hbl : (b.take (min 470 t)).length = min 470 t := by rw [List.length_take]; omega
    generalize min 470 t = mm at hmin hmm hmm2 hom hrun hbb hbl HBT
    have BB := Lib.hid hbb
    have HBL := Lib.hid hbl
    have hwt : IntKind.i64.wrap ((k : Int) * 470) = (k : Int) * 470 := by rw [IntKind.wrap_i64]; omega
    have hc7 : (470 : Int) ≤ (c7 : Int) := by omega
    clear hbb hbl hb7 hmm
    go_wp2_with fail
    refine (jis_nil .nilIface w7).mono ?_
    rintro e w8 ⟨rfl, rfl⟩
    go_wp2_with fail
    clear hrun hmin hwt ht hk
    have hmo2 : z % 470 = z - k * 470 := HMO.out
    rw [hmo2] at HBT
    have hy470 : y % 470 = z - k * 470 := by have := HO.out; have := HZ.out; omega
    have hyt : (y : Int).tmod 470 = ((z - k * 470 : Nat) : Int) := by rw [Int.tmod_eq_emod_of_nonneg (by omega)]; omega
    have hye : (y : Int) % 470 = ((z - k * 470 : Nat) : Int) := by omega
    generalize z - k * 470 = o at HBT hy470 hyt hye hom hoE
    have hm2 : m < min L ((k + 1) * 470 - start) := by have := HZ.out; omega
    have hm2L : min L ((k + 1) * 470 - start) ≤ L := Nat.min_le_left _ _
    generalize min L ((k + 1) * 470 - start) = m2 at HBT hm2 hm2L
    have hbm : (b.take mm).length = mm := HBL.out
    have hfb := H7.out.fit _ _ _ rfl
    have hb3 := BB.out
    have hmc : mm ≤ c7 := by omega
    have hb3' : Bytes w7 (.slice bb (b.take mm).length c7) (b.take mm) := by rw [hbm]; exact hb3
    obtain ⟨b3, hrun3, hbb3⟩ := slice_from hb3' (by rw [hbm]; exact hmc) o (by rw [hbm]; exact hom) .i64
    have hdl : ((b.take mm).drop o).length = mm - o := by rw [List.length_drop, hbm]
    rw [HBT.out] at hbb3 hdl
    rw [hbm] at hrun3 hbb3
    have hdl2 : (((flat recs).take m2).drop m).length = m2 - m := by
      rw [List.length_drop, List.length_take, HL.out]
      omega
    have hmo3 : mm - o = m2 - m := by omega
    rw [hmo3] at hrun3 hbb3
    generalize c7 - o = c3 at hrun3 hbb3
    have BB3 := Lib.hid hbb3
    have HDL2 := Lib.hid hdl2
    have hoI : (o : Int) ≤ (mm : Int) := by omega
    clear hmo2 hy470 hbm hfb hb3 hb3' hbb3 hdl hdl2 hmo3 BB HBT hoE
    have o8 : Only [] w7 w7.drew := (Only.refl [] w7).drew
    have J8 := Lib.hid (J7.out.quiet o8)
    have O8 := Lib.hid (O7.out.trans o8 (by simp))
    have B8 := Lib.hid (BB3.out.kept o8 (clean_nil _))
    clear o8 J7 O7 BB3 H7
    refine wp_region_B (S := fun w' => w'.cell? ⟨p, 5, none⟩ = some (.slice sa y sc)) [0, 1, 2, 3, 4, 5, 6, 7, 8, 9, 10, 11, 12, 13, 14, 15] (by kernel_rfl) (J8.out.cell 5) (fun hH => ?_)
    generalize w7.drew = wd at hH J8 O8 B8 ⊢
    refine takeB_list (i := 0) (v := ?_) rfl (by kernel_rfl) (by kernel_rfl) (by kernel_rfl) (by kernel_rfl) (fun _ _ _ h => h) (Or.inl ⟨by rfl, ?_⟩) hH ?_
    rotate_left
    · ((intro w hSw; (try dsimp only at hSw); go_simp); try with_reducible rfl)
    simp only [Act.put, List.setIfInBounds_toArray, List.set_cons_zero, List.set_cons_succ]
    refine takeB_list (i := 1) (v := ?_) rfl (by kernel_rfl) (by kernel_rfl) (by kernel_rfl) (by kernel_rfl) (fun _ _ _ h => h) (Or.inl ⟨by rfl, ?_⟩) hH ?_
    rotate_left
    · ((intro w hSw; (try dsimp only at hSw); go_simp); try with_reducible rfl)
    simp only [Act.put, List.setIfInBounds_toArray, List.set_cons_zero, List.set_cons_succ]
    refine takeB_list (i := 2) (v := ?_) rfl (by kernel_rfl) (by kernel_rfl) (by kernel_rfl) (by kernel_rfl) (fun _ _ _ h => h) (Or.inl ⟨by rfl, ?_⟩) hH ?_
    rotate_left
    · ((intro w hSw; (try dsimp only at hSw); go_simp); try with_reducible rfl)
    simp only [Act.put, List.setIfInBounds_toArray, List.set_cons_zero, List.set_cons_succ]
    refine takeB_list (i := 3) (v := ?_) rfl (by kernel_rfl) (by kernel_rfl) (by kernel_rfl) (by kernel_rfl) (fun _ _ _ h => h) (Or.inl ⟨by rfl, ?_⟩) hH ?_
    rotate_left
    · ((intro w hSw; (try dsimp only at hSw); go_simp); try with_reducible rfl)
    simp only [Act.put, List.setIfInBounds_toArray, List.set_cons_zero, List.set_cons_succ]
    refine takeB_list (i := 4) (v := ?_) rfl (by kernel_rfl) (by kernel_rfl) (by kernel_rfl) (by kernel_rfl) (fun _ _ _ h => h) (Or.inl ⟨by rfl, ?_⟩) hH ?_
    rotate_left
    · ((intro w hSw; (try dsimp only at hSw); go_simp); try with_reducible rfl)
    simp only [Act.put, List.setIfInBounds_toArray, List.set_cons_zero, List.set_cons_succ]
    refine takeB_list (i := 5) (v := ?_) rfl (by kernel_rfl) (by kernel_rfl) (by kernel_rfl) (by kernel_rfl) (fun _ _ _ h => h) (Or.inl ⟨by rfl, ?_⟩) hH ?_
    rotate_left
    · ((intro w hSw; (try dsimp only at hSw); go_simp); try with_reducible rfl)
    simp only [Act.put, List.setIfInBounds_toArray, List.set_cons_zero, List.set_cons_succ]
    refine takeB_list (i := 6) (v := ?_) rfl (by kernel_rfl) (by kernel_rfl) (by kernel_rfl) (by kernel_rfl) (fun _ _ _ h => h) (Or.inl ⟨by rfl, ?_⟩) hH ?_
    rotate_left
    · ((intro w hSw; (try dsimp only at hSw); go_simp); try with_reducible rfl)
    simp only [Act.put, List.setIfInBounds_toArray, List.set_cons_zero, List.set_cons_succ]
    refine takeB_list (i := 7) (v := ?_) rfl (by kernel_rfl) (by kernel_rfl) (by kernel_rfl) (by kernel_rfl) (fun _ _ _ h => h) (Or.inl ⟨by rfl, ?_⟩) hH ?_
    rotate_left
    · ((intro w hSw; (try dsimp only at hSw); go_simp); try with_reducible rfl)
    simp only [Act.put, List.setIfInBounds_toArray, List.set_cons_zero, List.set_cons_succ]
    refine takeB_list (i := 8) (v := ?_) rfl (by kernel_rfl) (by kernel_rfl) (by kernel_rfl) (by kernel_rfl) (fun _ _ _ h => h) (Or.inl ⟨by rfl, ?_⟩) hH ?_
    rotate_left
    · ((intro w hSw; (try dsimp only at hSw); go_simp); try with_reducible rfl)
    simp only [Act.put, List.setIfInBounds_toArray, List.set_cons_zero, List.set_cons_succ]
    refine takeB_list (i := 9) (v := ?_) rfl (by kernel_rfl) (by kernel_rfl) (by kernel_rfl) (by kernel_rfl) (fun _ _ _ h => h) (Or.inl ⟨by rfl, ?_⟩) hH ?_
    rotate_left
    · ((intro w hSw; (try dsimp only at hSw); go_simp); try with_reducible rfl)
    simp only [Act.put, List.setIfInBounds_toArray, List.set_cons_zero, List.set_cons_succ]
    refine takeB_list (i := 10) (v := ?_) rfl (by kernel_rfl) (by kernel_rfl) (by kernel_rfl) (by kernel_rfl) (fun _ _ _ h => h) (Or.inl ⟨by rfl, ?_⟩) hH ?_
    rotate_left
    · ((intro w hSw; (try dsimp only at hSw); go_simp); try with_reducible rfl)
    simp only [Act.put, List.setIfInBounds_toArray, List.set_cons_zero, List.set_cons_succ]
    refine takeB_list (i := 11) (v := ?_) rfl (by kernel_rfl) (by kernel_rfl) (by kernel_rfl) (by kernel_rfl) (fun _ _ _ h => h) (Or.inl ⟨by rfl, ?_⟩) hH ?_
    rotate_left
    · ((intro w hSw; (try dsimp only at hSw); go_simp); try with_reducible rfl)
    simp only [Act.put, List.setIfInBounds_toArray, List.set_cons_zero, List.set_cons_succ]
    refine takeB_list (i := 12) (v := ?_) rfl (by kernel_rfl) (by kernel_rfl) (by kernel_rfl) (by kernel_rfl) (fun _ _ _ h => h) (Or.inl ⟨by rfl, ?_⟩) hH ?_
    rotate_left
    · ((intro w hSw; (try dsimp only at hSw); go_simp); try with_reducible rfl)
    simp only [Act.put, List.setIfInBounds_toArray, List.set_cons_zero, List.set_cons_succ]
    clear hrun3 hyt hye
    refine readyB_in (i := 13) (by kernel_rfl) rfl (fun K hK => ?_)
    have hstr := J8.out.str
    have hslen : (zs O ++ (flat recs).take m).length = O + m := by
      rw [List.length_append, zs_length, List.length_take, HL.out]
      omega
    refine step_append_any (by rfl) (.tmp 62) (.tmp 70) (by rfl) 0 _ (zs O ++ (flat recs).take m) (by rfl) hstr _ (((flat recs).take m2).drop m) (by rfl) B8.out (O + m2) (by rw [hslen, HDL2.out]; omega) (zs O ++ (flat recs).take m2) (by rw [List.append_assoc, take_more (by omega)]) (by omega) (Nat.zero_le _) (fun a9 k9 w9 h9 x9 => ?_)
    have J9 := Lib.hid (J8.out.setS x9 h9)
    have c5 : w9.cell? ⟨p, 5, none⟩ = some (.slice sa y sc) := J9.out.cell 5
    have Zd := O8.out.size
    have GS9 := Lib.hid (show ∀ x, (Value.slice a9 (O + m2) k9).ownBlock = some x → w.heap.size ≤ x from fun x hx => by
      rcases x9.src x hx with e | e
      · exact GS.out x e
      · exact Nat.le_trans Zd e)
    have O9 := Lib.hid (O8.out.trans x9.only (fun x hx => .inr (GS.out x (by simpa using hx))))
    refine hK.out _ _ c5 (fun hH => ?_)
    clear hK K h9 x9 Zd hstr hslen J8 O8 B8 c5
    refine takeB_list (i := 14) (v := ?_) rfl (by kernel_rfl) (by kernel_rfl) (by kernel_rfl) (by kernel_rfl) (fun _ _ _ h => h) (Or.inl ⟨by rfl, ?_⟩) hH ?_
    rotate_left
    · ((intro w hSw; (try dsimp only at hSw); go_simp); try with_reducible rfl)
    simp only [Act.put, List.setIfInBounds_toArray, List.set_cons_zero, List.set_cons_succ]
    refine takeB_list (i := 15) (v := ?_) rfl (by kernel_rfl) (by kernel_rfl) (by kernel_rfl) (by kernel_rfl) (fun _ _ _ h => h) (Or.inl ⟨by rfl, ?_⟩) hH ?_
    rotate_left
    · ((intro w hSw; (try dsimp only at hSw); go_simp); try with_reducible rfl)
    simp only [Act.put, List.setIfInBounds_toArray, List.set_cons_zero, List.set_cons_succ]
    have c5 : w9.cell? ⟨p, 5, none⟩ = some (.slice sa y sc) := J9.out.cell 5
    have f5 := J9.out.free 5
    refine readyB_out (i := 16) (by kernel_rfl) (by kernel_rfl) rfl (fun K hK => ?_)
    go_simp
    refine hK.out _ _ ?_
    clear hK K c5 f5 hH
    have J10 := Lib.hid (J9.out.set 5 (.slice a9 (O + m2) k9))
    have o10 : Only [p] w9 (w9.setCell ⟨p, 5, none⟩ (.slice a9 (O + m2) k9)) := (Only.refl _ _).setCell (by simp) _
    have O10 := Lib.hid (O9.out.trans o10 (fun k hk => .inl hk))
    generalize w9.setCell ⟨p, 5, none⟩ (.slice a9 (O + m2) k9) = w10 at J10 o10 O10 ⊢
    refine wpAnyB_done (by kernel_rfl) ?_ _
    have L10 := Lib.hid (show LRel w w10 p q a at_ n first start B O recs note vn vr d s i m2 from ⟨⟨a9, k9, ta, tc, J10.out, GS9.out, GT.out⟩, O10.out, by rw [HL.out]; omega⟩)
    clear o10 J9 O9 J10 O10 GS GS9 GT
    go_wp2_with fail
    go_loopg [7] (recs.length - i) (fun gk2 s7 wr2 => ∃ i2 : Nat, s7 = .int .i64 ((start + pos recs i2 : Nat) : Int) ∧ i2 ≤ recs.length ∧ pos recs i2 ≤ m2 ∧ i2 + gk2 = recs.length ∧ LRel w wr2 p q a at_ n first start B O recs note vn vr d s i2 m2)
    case atStart => exact ⟨i, by rw [HNX.out], hil, by omega, by omega, L10.out⟩
    case round =>
      clear L10
      obtain ⟨i2, rfl, hil2, hpi2, hig2, hl2⟩ := hrel
      obtain ⟨⟨sb, sd, tb, td, jw2, gs2, gt2⟩, ho2, _⟩ := hl2
      obtain ⟨y2, hy2⟩ : ∃ y2, O + m2 = y2 := ⟨_, rfl⟩
      rw [hy2] at jw2 gs2
      have HY2 := Lib.hid hy2
      generalize hnx2 : start + pos recs i2 = nx2
      have HNX2 := Lib.hid hnx2
      have hidx : (nx2 : Int) - (B : Int) = ((O + pos recs i2 : Nat) : Int) := by omega
      have hoy : O + pos recs i2 ≤ y2 := by omega
      have hy2l : y2 ≤ 962560 := by omega
      have hnxl : nx2 ≤ 1152921504606846976 := by omega
      have JW2 := Lib.hid jw2
      have GS2 := Lib.hid gs2
      have GT2 := Lib.hid gt2
      have HO5 := Lib.hid ho2
      have hstr := jw2.str
      have hsl2 : (zs O ++ (flat recs).take m2).length = y2 := by
        rw [List.length_append, zs_length, List.length_take, HL.out]
        omega
      have hfit := hstr.fit
      have hbytes : Bytes wr (.slice sb (zs O ++ (flat recs).take m2).length sd) (zs O ++ (flat recs).take m2) := by rw [hsl2]; exact hstr.bytes
      obtain ⟨b4, hrun4, hbb4⟩ := slice_from hbytes (by rw [hsl2]; exact (hfit _ _ _ rfl).1) (O + pos recs i2) (by rw [hsl2]; exact hoy) .i64
      have hdr : (zs O ++ (flat recs).take m2).drop (O + pos recs i2) = ((flat recs).take m2).drop (pos recs i2) := by
        rw [← List.drop_drop]
        congr 1
        rw [List.drop_append, zs_length]
        simp [zs]
      rw [hdr] at hbb4
      rw [hsl2] at hrun4 hbb4
      have hlen4 : (((flat recs).take m2).drop (pos recs i2)).length = y2 - (O + pos recs i2) := by
        rw [← hdr, List.length_drop, hsl2]
      rw [← hlen4] at hrun4 hbb4
      have hlen5 : (((flat recs).take m2).drop (pos recs i2)).length ≤ 1000000 := by omega
      have hwh := wholeN_at hil2 HRECS.out hpi2 (by rw [HL.out]; omega)
      generalize O + pos recs i2 = idx at hidx hrun4 hbb4 hoy hlen4
      generalize hT4 : ((flat recs).take m2).drop (pos recs i2) = T4 at hrun4 hbb4 hlen5 hwh
      have BB4 := Lib.hid hbb4
      have hwi : IntKind.i64.wrap ((nx2 : Int) - (B : Int)) = (idx : Int) := by
        rw [IntKind.wrap_i64]
        omega
      have hoyI : (idx : Int) ≤ (y2 : Int) := by omega
      generalize sd - idx = cd at hrun4 BB4
      have HWH := Lib.hid hwh
      clear jw2 gs2 gt2 ho2 hy2 hnx2 hstr hsl2 hfit hbytes hdr hlen4 hbb4 hT4 hwh hidx
      go_wp2_with fail
      have o5 : Only [] wr wr.drew := (Only.refl [] wr).drew
      have J5 := Lib.hid (JW2.out.quiet o5)
      have B5 := Lib.hid (BB4.out.kept o5 (clean_nil _))
      have O5 := Lib.hid (HO5.out.trans o5 (by simp))
      clear o5 JW2 BB4 HO5
      refine wp_region_held_drew (S := fun w' => w'.cell? ⟨p, 4, none⟩ = some (.int .i64 (B : Nat)) ∧ w'.cell? ⟨p, 5, none⟩ = some (.slice sb y2 sd)) (by kernel_rfl) ⟨J5.out.cell 4, J5.out.cell 5⟩ (fun hH => ?_)
      generalize wr.drew = wd at hH J5 B5 O5 ⊢
      refine take_list (i := 0) (v := ?_) rfl (by kernel_rfl) (by kernel_rfl) (by kernel_rfl) (fun _ _ _ h => h) (Or.inl ⟨by rfl, ?_⟩) hH ?_
      rotate_left
      · ((intro w hSw; (try dsimp only at hSw); go_simp); try with_reducible rfl)
      simp only [Act.put, List.setIfInBounds_toArray, List.set_cons_zero, List.set_cons_succ]
      refine take_list (i := 1) (v := ?_) rfl (by kernel_rfl) (by kernel_rfl) (by kernel_rfl) (fun _ _ _ h => h) (Or.inl ⟨by rfl, ?_⟩) hH ?_
      rotate_left
      · ((intro w hSw; (try dsimp only at hSw); go_simp); try with_reducible rfl)
      simp only [Act.put, List.setIfInBounds_toArray, List.set_cons_zero, List.set_cons_succ]
      refine take_list (i := 2) (v := ?_) rfl (by kernel_rfl) (by kernel_rfl) (by kernel_rfl) (fun _ _ _ h => h) (Or.inl ⟨by rfl, ?_⟩) hH ?_
      rotate_left
      · ((intro w hSw; (try dsimp only at hSw); go_simp); try with_reducible rfl)
      simp only [Act.put, List.setIfInBounds_toArray, List.set_cons_zero, List.set_cons_succ]
      refine take_list (i := 3) (v := ?_) rfl (by kernel_rfl) (by kernel_rfl) (by kernel_rfl) (fun _ _ _ h => h) (Or.inl ⟨by rfl, ?_⟩) hH ?_
      rotate_left
      · ((intro w hSw; (try dsimp only at hSw); go_simp); try with_reducible rfl)
      simp only [Act.put, List.setIfInBounds_toArray, List.set_cons_zero, List.set_cons_succ]
      refine take_list (i := 4) (v := ?_) rfl (by kernel_rfl) (by kernel_rfl) (by kernel_rfl) (fun _ _ _ h => h) (Or.inl ⟨by rfl, ?_⟩) hH ?_
      rotate_left
      · ((intro w hSw; (try dsimp only at hSw); go_simp); try with_reducible rfl)
      simp only [Act.put, List.setIfInBounds_toArray, List.set_cons_zero, List.set_cons_succ]
      refine take_list (i := 5) (v := ?_) rfl (by kernel_rfl) (by kernel_rfl) (by kernel_rfl) (fun _ _ _ h => h) (Or.inl ⟨by rfl, ?_⟩) hH ?_
      rotate_left
      · ((intro w hSw; (try dsimp only at hSw); go_simp); try with_reducible rfl)
      simp only [Act.put, List.setIfInBounds_toArray, List.set_cons_zero, List.set_cons_succ]
      refine take_list (i := 6) (v := ?_) rfl (by kernel_rfl) (by kernel_rfl) (by kernel_rfl) (fun _ _ _ h => h) (Or.inl ⟨by rfl, ?_⟩) hH ?_
      rotate_left
      · ((intro w hSw; (try dsimp only at hSw); go_simp); try with_reducible rfl)
      simp only [Act.put, List.setIfInBounds_toArray, List.set_cons_zero, List.set_cons_succ]
      refine take_list (i := 7) (v := ?_) rfl (by kernel_rfl) (by kernel_rfl) (by kernel_rfl) (fun _ _ _ h => h) (Or.inl ⟨by rfl, ?_⟩) hH ?_
      rotate_left
      · ((intro w hSw; (try dsimp only at hSw); go_simp); try with_reducible rfl)
      simp only [Act.put, List.setIfInBounds_toArray, List.set_cons_zero, List.set_cons_succ]
      refine take_list (i := 8) (v := ?_) rfl (by kernel_rfl) (by kernel_rfl) (by kernel_rfl) (fun _ _ _ h => h) (Or.inl ⟨by rfl, ?_⟩) hH ?_
      rotate_left
      · ((intro w hSw; (try dsimp only at hSw); go_simp); try with_reducible rfl)
      simp only [Act.put, List.setIfInBounds_toArray, List.set_cons_zero, List.set_cons_succ]
      refine take_list (i := 9) (v := ?_) rfl (by kernel_rfl) (by kernel_rfl) (by kernel_rfl) (fun _ _ _ h => h) (Or.inl ⟨by rfl, ?_⟩) hH ?_
      rotate_left
      · ((intro w hSw; (try dsimp only at hSw); go_simp); try with_reducible rfl)
      simp only [Act.put, List.setIfInBounds_toArray, List.set_cons_zero, List.set_cons_succ]
      refine take_list (i := 10) (v := ?_) rfl (by kernel_rfl) (by kernel_rfl) (by kernel_rfl) (fun _ _ _ h => h) (Or.inl ⟨by rfl, ?_⟩) hH ?_
      rotate_left
      · ((intro w hSw; (try dsimp only at hSw); go_simp); try with_reducible rfl)
      simp only [Act.put, List.setIfInBounds_toArray, List.set_cons_zero, List.set_cons_succ]
      clear hrun4 hwi
      refine wpAnyH_ready (rs := [11]) (by kernel_rfl) (by simp) ?_
      refine ready_list rfl (fun K hK => ?_)
      go_simp
      refine (jwhole_any _ T4 wd B5.out hlen5).mono ?_
      rintro e w6 ⟨rfl, hd6⟩
      have J6 := Lib.hid (J5.out.quiet hd6.only)
      have O6 := Lib.hid (O5.out.trans hd6.only (by simp))
      refine hK.out _ _ ⟨J6.out.cell 4, J6.out.cell 5⟩ (fun hH => ?_)
      clear hK K hd6 J5 O5 B5
      refine take_list (i := 12) (v := ?_) rfl (by kernel_rfl) (by kernel_rfl) (by kernel_rfl) (fun _ _ _ h => h) (Or.inl ⟨by rfl, ?_⟩) hH ?_
      rotate_left
      · ((intro w hSw; (try dsimp only at hSw); go_simp); try with_reducible rfl)
      simp only [Act.put, List.setIfInBounds_toArray, List.set_cons_zero, List.set_cons_succ]
      refine wpAnyH_done (by kernel_rfl) ?_ _
      clear hH
      rcases HWH.out with ⟨h0, hdone2⟩ | ⟨r, hri, h0, hp2⟩
      · rw [h0]
        have D2 := Lib.hid hdone2
        clear h0 hdone2
        go_wp2_with fail
        go_roundg (L - m2)
        case measure => omega
        case rel => exact ⟨i2, m2, by rw [HNX2.out], by omega, D2.out, ⟨⟨sb, sd, tb, td, by rw [HY2.out]; exact J6.out, by rw [HY2.out]; exact GS2.out, GT2.out⟩, O6.out, by rw [HL.out]; omega⟩⟩
      · rw [h0]
        have hlt2 : i2 < recs.length := (List.getElem?_eq_some_iff.1 hri).1
        have hps := pos_succ hri
        have hrl := (HRECS.out r (List.mem_of_getElem? hri)).2
        have hts : offs start (recs.take i2) ++ [(nx2 : Int)] = offs start (recs.take (i2 + 1)) := by
          rw [List.take_add_one, hri]
          show _ = offs start (recs.take i2 ++ [r])
          rw [offs_snoc]
          congr 2
          rw [← HNX2.out]
          rfl
        have htl : (offs start (recs.take i2)).length + 1 = i2 + 1 := by rw [offs_length, List.length_take]; omega
        have hcnt : i2 ≤ 962560 := by
          have := flat_count recs
          rw [HL.out] at this
          omega
        have HTS := Lib.hid hts
        have HTL := Lib.hid htl
        have HPS := Lib.hid hps
        have c7 : w6.cell? ⟨p, 7, none⟩ = some (.slice tb i2 td) := J6.out.cell 7
        have hz2 : ((r.length + 2 : Nat) : Int) = (r.length : Int) + 2 := by omega
        rw [hz2]
        clear h0 hts htl hps hz2 hri
        go_wp2_with (
          refine wpList_append_ints rfl (.tmp 92) (.tmp 94) rfl 0 _ (offs start (recs.take i2)) (by rfl) (J6.out.quiet ((Only.refl [] w6).alloc _)).sts _ [(nx2 : Int)] (by rfl) (ints_one w6 (nx2 : Int) (WalkArith.wf_i64 (by omega))) (i2 + 1) HTL.out (offs start (recs.take (i2 + 1))) HTS.out (by omega) (Nat.zero_le _) ?_
          intro a8 k8 w8 h8 x8
          have x8' := Ext.before ((Only.refl [] w6).alloc _) x8
          have J8 := Lib.hid (J6.out.setT x8' h8)
          have c7 : w8.cell? ⟨p, 7, none⟩ = some (.slice tb i2 td) := J8.out.cell 7
          have f7 := J8.out.free 7
          have Z6 := O6.out.size
          have GT8 := Lib.hid (show ∀ x, (Value.slice a8 (i2 + 1) k8).ownBlock = some x → w.heap.size ≤ x from fun x hx => by
            rcases x8'.src x hx with e | e
            · exact GT2.out x e
            · exact Nat.le_trans Z6 e)
          have O8 := Lib.hid (O6.out.trans x8'.only (fun x hx => .inr (GT2.out x (by simpa using hx))))
          clear x8 x8' h8 Z6)
        have J9 := J8.out.set 7 (.slice a8 (i2 + 1) k8)
        have o9 : Only [p] w8 (w8.setCell ⟨p, 7, none⟩ (.slice a8 (i2 + 1) k8)) := (Only.refl _ _).setCell (by simp) _
        go_roundg (recs.length - (i2 + 1))
        case measure => omega
        case rel => exact ⟨i2 + 1, by have := HPS.out; have := HNX2.out; congr 1; omega, hlt2, hp2, by omega, ⟨⟨sb, sd, a8, k8, by rw [HY2.out]; exact J9, by rw [HY2.out]; exact GS2.out, GT8.out⟩, O8.out.trans o9 (fun k hk => .inl hk), by rw [HL.out]; omega⟩⟩
end Go.Proofs.YtfnedeaemjchgaaGreat
/- A journal: Open. -/
namespace Go.Proofs.YtfnedeaemjchgaaGreat
open Go.RowKit Go.Maps
set_option linter.unusedSimpArgs false
set_option linter.unusedVariables false

/-- A device has a journal: slots whose row tells of it, and its records in the ring. -/
structure JHolds (d : Disk) (s : SL) (at_ : Int) (n first start : Nat) (recs : List Sec) (note : Sec) : Prop where
  holds : Holds d s
  hat : s.at_ = at_
  row : s.row = nums [(first : Int), (start : Int), ((start + (flat recs).length : Nat) : Int)] ++ note
  ring : Ring d.get (at_ + 2) n start (flat recs)
  hrecs : ∀ r ∈ recs, 1 ≤ r.length ∧ r.length ≤ 4096
  room : start % 470 + (flat recs).length ≤ n * 470
  n2 : 2 ≤ n
  nm : n ≤ 2048
  at0 : 0 ≤ at_
  here : at_ + 2 + n ≤ d.size
  first1 : 1 ≤ first
  hnote : note.length ≤ 400
/-- The journal that an Open shows. -/
def JL.opened (at_ : Int) (n first start : Nat) (recs : List Sec) (note : Sec) : JL := ⟨at_, n, first, start, zs (start % 470), recs, recs.length, note, 0, false⟩

theorem jopen_nil (at_ n : Int) (w : World) : Calls Tryz.prog 43 #[.pointer none, .int .i64 at_, .int .i64 n] w fun e w' => e = .returned (.tuple #[.pointer none, err 1]) ∧ w = w' := by
  have hf := jfits_nil at_ n w
  rw [jfitB_no (by omega)] at hf
  go_enter Tryz.func43, Tryz.ntmps43
  go_wp2_with fail
  refine hf.mono ?_
  rintro e w' ⟨rfl, rfl⟩
  go_wp2_with fail
  go_ret2
  exact ⟨rfl, rfl⟩
set_option maxRecDepth 100000 in
set_option maxHeartbeats 4000000 in
theorem jopen_any {w : World} {a : DA} {d : Disk} {s : SL} {at_ : Int} {n first start : Nat} {recs : List Sec} {note : Sec} (hd : Dev w a d) (hdn : d.met.down = false) (hj : JHolds d s at_ n first start recs note)
    (hnext : first + recs.length ≤ 1152921504606846976) (hfin : start + (flat recs).length ≤ 1152921504606846976) :
    Calls Tryz.prog 43 #[.pointer (some ⟨a.p, 0, none⟩), .int .i64 at_, .int .i64 n] w fun e w' => ∃ p q B, e = .returned (.tuple #[.pointer (some ⟨p, 0, none⟩), .nilIface]) ∧
      Jn w' p q a B d (JL.opened at_ n first start recs note) ⟨at_, s.n, s.row, false⟩ ∧ Only [] w w' ∧ ∀ k ∈ B, k ∈ a.bl ∨ w.heap.size ≤ k := by
  have hf := jfits_dev a d at_ n w hd
  have h2 := hj.n2
  have hm := hj.nm
  have h0 := hj.at0
  have hh := hj.here
  have hsz := hd.hi
  have hat9 : at_ ≤ 4096 := by omega
  have hb : jfitB at_ n d.size = true := jfitB_iff.2 ⟨h0, by omega, by omega, by omega⟩
  rw [hb] at hf
  have hlo := hj.holds.lo
  have hc : d.ocode at_ = 0 := by
    have h0' : ¬ s.n = 0 := by omega
    have hfit := hj.holds.fit
    have hop := hj.holds.op
    rw [hj.hat] at hfit hop
    simp [Disk.ocode, hfit, hdn, hop, h0']
  have hop : SL.of at_ (d.op at_) = ⟨at_, s.n, s.row, false⟩ := by
    have := hj.holds.op
    rw [hj.hat] at this
    rw [this]
    rfl
  have HD := Lib.hid hd
  have HJ := Lib.hid hj
  have HDN := Lib.hid hdn
  have HC := Lib.hid hc
  have HOP := Lib.hid hop
  have q1 := iface_ne
  have hnl := hj.hnote
  have hf1 := hj.first1
  clear hd hdn hj hb hlo hc hop
  go_enter Tryz.func43, Tryz.ntmps43
  go_wp2_with fail
  refine hf.mono ?_
  rintro e w' ⟨rfl, rfl⟩
  go_wp2_with fail
  refine (Open_any at_ HD.out).mono ?_
  rintro e w2 ⟨⟨_, _, hy, _⟩, o2⟩
  obtain ⟨q, vr, rfl, s2, hq2, hvr2⟩ := hy HC.out
  rw [HOP.out] at s2
  have S2 := Lib.hid s2
  have D2 := Lib.hid (HD.out.kept o2 (by simp))
  have O2 := Lib.hid o2
  have Q2 := Lib.hid hq2
  have V2 := Lib.hid hvr2
  clear hy s2 o2 hq2 hvr2 hf HOP
  go_wp2_with fail
  refine (row_slot w2 S2.out _ HJ.out.row).mono ?_
  rintro e w3 ⟨b3, k3, rfl, h3, o3⟩
  have H3 := Lib.hid h3
  have S3 := Lib.hid (S2.out.quiet o3)
  have D3 := Lib.hid (D2.out.kept o3 (by simp))
  have O3 := Lib.hid (O2.out.trans o3 (by simp))
  have hrl : (nums [(first : Int), (start : Int), ((start + (flat recs).length : Nat) : Int)] ++ note).length ≤ 430 := by
    have := nums_30 (x := (first : Int)) (y := (start : Int)) (z := ((start + (flat recs).length : Nat) : Int)) (by omega) (by omega) (by omega)
    rw [List.length_append]
    omega
  have htk := takesN_nums [(first : Int), (start : Int), ((start + (flat recs).length : Nat) : Int)] note (by intro x hx; simp at hx; rcases hx with rfl | rfl | rfl <;> omega)
  have HTK := Lib.hid htk
  clear h3 o3 S2 D2 O2 htk
  generalize hE : start + (flat recs).length = E at *
  have HE := Lib.hid hE
  clear hE
  generalize hRW : nums [(first : Int), (start : Int), (E : Int)] ++ note = R at *
  clear hRW
  go_wp2_with fail
  refine (Takes_any _ R 3 w3 H3.out.bytes H3.out.fit (by omega) (by decide)).mono ?_
  rintro e w4 ⟨_, hy4, o4⟩
  obtain ⟨a4, k4, a5, k5, rfl, hi4, hn4⟩ := hy4 _ _ HTK.out
  simp only [List.length_cons, List.length_nil, Nat.zero_add] at hi4 ⊢
  have hI := hi4.ints
  obtain ⟨_, g4, off4, cap4, ev, x0⟩ := hI.at_ (i := 0) (k := (first : Int)) rfl
  cases ev
  obtain ⟨_, g5, off5, cap5, ev, x1⟩ := hI.at_ (i := 1) (k := (start : Int)) rfl
  cases ev
  obtain ⟨_, g6, off6, cap6, ev, x2⟩ := hI.at_ (i := 2) (k := (E : Int)) rfl
  cases ev
  rw [Nat.add_zero] at x0
  have N4 := Lib.hid hn4
  have S4 := Lib.hid (S3.out.quiet o4)
  have D4 := Lib.hid (D3.out.kept o4 (by simp))
  have O4 := Lib.hid (O3.out.trans o4 (by simp))
  have Z3 := Lib.hid O3.out.size
  clear hy4 o4 S3 D3 O3 hi4 hn4 hI H3
  have t0 : (0 : Int) < 3 := by decide
  go_wp2_with fail
  refine wp_region_held_drew (S := fun w' => w'.cell? ⟨g4, off4, none⟩ = some (.int .i64 first) ∧ w'.cell? ⟨g4, off4 + 1, none⟩ = some (.int .i64 start) ∧ w'.cell? ⟨g4, off4 + 2, none⟩ = some (.int .i64 E)) (by kernel_rfl) ⟨x0, x1, x2⟩ (fun hH => ?_)
  refine take_list (i := 0) (v := ?_) rfl (by kernel_rfl) (by kernel_rfl) (by kernel_rfl) (fun _ _ _ h => h) (Or.inl ⟨by rfl, ?_⟩) hH ?_
  rotate_left
  · ((intro w hSw; (try dsimp only at hSw); go_simp); try with_reducible rfl)
  simp only [Act.put, List.setIfInBounds_toArray, List.set_cons_zero, List.set_cons_succ]
  refine take_list (i := 1) (v := ?_) rfl (by kernel_rfl) (by kernel_rfl) (by kernel_rfl) (fun _ _ _ h => h) (Or.inl ⟨by rfl, ?_⟩) hH ?_
  rotate_left
  · ((intro w hSw; (try dsimp only at hSw); go_simp); try with_reducible rfl)
  simp only [Act.put, List.setIfInBounds_toArray, List.set_cons_zero, List.set_cons_succ]
  refine take_list (i := 2) (v := ?_) rfl (by kernel_rfl) (by kernel_rfl) (by kernel_rfl) (fun _ _ _ h => h) (Or.inl ⟨by rfl, ?_⟩) hH ?_
  rotate_left
  · ((intro w hSw; (try dsimp only at hSw); go_simp); try with_reducible rfl)
  simp only [Act.put, List.setIfInBounds_toArray, List.set_cons_zero, List.set_cons_succ]
  refine take_list (i := 3) (v := ?_) rfl (by kernel_rfl) (by kernel_rfl) (by kernel_rfl) (fun _ _ _ h => h) (Or.inl ⟨by rfl, ?_⟩) hH ?_
  rotate_left
  · ((intro w hSw; (try dsimp only at hSw); go_simp); try with_reducible rfl)
  simp only [Act.put, List.setIfInBounds_toArray, List.set_cons_zero, List.set_cons_succ]
  refine take_list (i := 4) (v := ?_) rfl (by kernel_rfl) (by kernel_rfl) (by kernel_rfl) (fun _ _ _ h => h) (Or.inl ⟨by rfl, ?_⟩) hH ?_
  rotate_left
  · ((intro w hSw; (try dsimp only at hSw); go_simp); try with_reducible rfl)
  simp only [Act.put, List.setIfInBounds_toArray, List.set_cons_zero, List.set_cons_succ]
  refine take_list (i := 5) (v := ?_) rfl (by kernel_rfl) (by kernel_rfl) (by kernel_rfl) (fun _ _ _ h => h) (Or.inl ⟨by rfl, ?_⟩) hH ?_
  rotate_left
  · ((intro w hSw; (try dsimp only at hSw); go_simp); try with_reducible rfl)
  simp only [Act.put, List.setIfInBounds_toArray, List.set_cons_zero, List.set_cons_succ]
  refine take_list (i := 6) (v := ?_) rfl (by kernel_rfl) (by kernel_rfl) (by kernel_rfl) (fun _ _ _ h => h) (Or.inl ⟨by rfl, ?_⟩) hH ?_
  rotate_left
  · ((intro w hSw; (try dsimp only at hSw); go_simp); try with_reducible rfl)
  simp only [Act.put, List.setIfInBounds_toArray, List.set_cons_zero, List.set_cons_succ]
  refine take_list (i := 7) (v := ?_) rfl (by kernel_rfl) (by kernel_rfl) (by kernel_rfl) (fun _ _ _ h => h) (Or.inl ⟨by rfl, ?_⟩) hH ?_
  rotate_left
  · ((intro w hSw; (try dsimp only at hSw); go_simp); try with_reducible rfl)
  simp only [Act.put, List.setIfInBounds_toArray, List.set_cons_zero, List.set_cons_succ]
  refine take_list (i := 8) (v := ?_) rfl (by kernel_rfl) (by kernel_rfl) (by kernel_rfl) (fun _ _ _ h => h) (Or.inl ⟨by rfl, ?_⟩) hH ?_
  rotate_left
  · ((intro w hSw; (try dsimp only at hSw); go_simp); try with_reducible rfl)
  simp only [Act.put, List.setIfInBounds_toArray, List.set_cons_zero, List.set_cons_succ]
  refine take_list (i := 9) (v := ?_) rfl (by kernel_rfl) (by kernel_rfl) (by kernel_rfl) (fun _ _ _ h => h) (Or.inl ⟨by rfl, ?_⟩) hH ?_
  rotate_left
  · ((intro w hSw; (try dsimp only at hSw); go_simp); try with_reducible rfl)
  simp only [Act.put, List.setIfInBounds_toArray, List.set_cons_zero, List.set_cons_succ]
  refine take_list (i := 10) (v := ?_) rfl (by kernel_rfl) (by kernel_rfl) (by kernel_rfl) (fun _ _ _ h => h) (Or.inl ⟨by rfl, ?_⟩) hH ?_
  rotate_left
  · ((intro w hSw; (try dsimp only at hSw); go_simp); try with_reducible rfl)
  simp only [Act.put, List.setIfInBounds_toArray, List.set_cons_zero, List.set_cons_succ]
  refine take_list (i := 11) (v := ?_) rfl (by kernel_rfl) (by kernel_rfl) (by kernel_rfl) (fun _ _ _ h => h) (Or.inl ⟨by rfl, ?_⟩) hH ?_
  rotate_left
  · ((intro w hSw; (try dsimp only at hSw); go_simp); try with_reducible rfl)
  simp only [Act.put, List.setIfInBounds_toArray, List.set_cons_zero, List.set_cons_succ]
  refine wpAnyH_done (by kernel_rfl) ?_ _
  have o5 : Only [] w4 w4.drew := (Only.refl [] w4).drew
  have N5 := Lib.hid (N4.out.quiet o5)
  have S5 := Lib.hid (S4.out.quiet o5)
  have D5 := Lib.hid (D4.out.kept o5 (by simp))
  have O5 := Lib.hid (O4.out.trans o5 (by simp))
  generalize w4.drew = w5 at hH N5 S5 D5 O5 ⊢
  clear hH o5 N4 S4 D4 O4 x0 x1 x2
  have n1 : ¬ (first : Int) < 1 := by omega
  have n2 : ¬ (start : Int) < 0 := by omega
  have n3 : ¬ (E : Int) < (start : Int) := by have := HE.out; omega
  have n4 : ¬ (400 : Int) < (note.length : Int) := by omega
  go_wp2_with fail
  have o6 : Only [] w5 (w5.alloc (.cells (lcells w5.heap.size q a at_ n 0 (.slice none 0 0) first (.slice none 0 0) (.slice a5 note.length k5)) 84)) := (Only.refl [] w5).alloc _
  have J6 : JW (w5.alloc (.cells (lcells w5.heap.size q a at_ n 0 (.slice none 0 0) first (.slice none 0 0) (.slice a5 note.length k5)) 84)) w5.heap.size q a (lcells w5.heap.size q a at_ n 0 (.slice none 0 0) first (.slice none 0 0) (.slice a5 note.length k5)) (.slice none 0 0) (.slice none 0 0) (.slice a5 note.length k5) vr [] [] note d ⟨at_, s.n, s.row, false⟩ :=
    ⟨heap_new w5 _, S5.out.quiet o6, D5.out.kept o6 (by simp), Own.nil _ _, OwnI.nil _ _, N5.out.held.kept o6 (by simp), (fun x hx => by cases hx), (fun x hx => by cases hx)⟩
  have Z5 := Lib.hid O5.out.size
  have hload := jload_any J6 HDN.out HJ.out.ring HJ.out.hrecs HJ.out.room h2 hm h0 hh hf1 hnext (by rw [HE.out]; exact hfin) hnl rfl E HE.out.symm
  refine hload.mono ?_
  rintro e w7 ⟨rfl, vs, vt, jm, gs, gt, o7⟩
  have F := Lib.hid (And.intro (show Jn w7 w5.heap.size q a (jbl w5.heap.size q a vs vt (.slice a5 note.length k5) vr) d (JL.opened at_ n first start recs note) ⟨at_, s.n, s.row, false⟩ from ⟨vs, vt, _, vr, jm, rfl⟩) (And.intro (show Only [] w w7 from (O5.out.trans o6 (by simp)).trans o7 (fun k hk => .inr (by rw [List.mem_singleton.1 hk]; exact Z5.out))) (show ∀ k ∈ jbl w5.heap.size q a vs vt (.slice a5 note.length k5) vr, k ∈ a.bl ∨ w.heap.size ≤ k from fun k hk => by
    have hsz : w.heap.size ≤ (w5.alloc (.cells (lcells w5.heap.size q a at_ n 0 (.slice none 0 0) first (.slice none 0 0) (.slice a5 note.length k5)) 84)).heap.size := Nat.le_trans Z5.out o6.size
    simp only [jbl, List.mem_cons, List.mem_append, Option.mem_toList, Option.mem_def] at hk
    rcases hk with rfl | rfl | hk | hk | hk | hk | hk
    · exact .inr Z5.out
    · exact .inr Q2.out
    · exact .inl hk
    · exact .inr (Nat.le_trans hsz (gs k hk))
    · exact .inr (Nat.le_trans hsz (gt k hk))
    · exact .inr (Nat.le_trans Z3.out (N5.out.lt hk).1)
    · exact .inr (V2.out k hk))))
  clear hload jm gs gt o7 o6 J6 Z5 S5 D5 O5 N5
  go_wp2_with fail
  go_ret2
  exact ⟨_, q, _, rfl, F.out.1, F.out.2.1, F.out.2.2⟩
end Go.Proofs.YtfnedeaemjchgaaGreat
/- What a Flush and a Trim leave on a device, and behind a crash. No walk. -/
namespace Go.Proofs.YtfnedeaemjchgaaGreat
open Go.RowKit Go.Maps
set_option linter.unusedSimpArgs false
set_option linter.unusedVariables false

theorem ly_down_yes {d : Disk} {k : Int} {l : Sec} (h : d.lcode k l = 0) : (d.ly k l).met.down = false := by
  unfold Disk.lcode at h
  split at h
  · rename_i h0
    unfold Disk.ly
    rw [if_pos h0]
    obtain ⟨s1, s2⟩ := scode_yes h
    rw [s2]
    exact s1
  · exact absurd h ‹_›
theorem ly_down_no {d : Disk} {k : Int} {l : Sec} (hk : inB k d.size = true) (hl : l.length = 512) (h : d.lcode k l ≠ 0) : (d.ly k l).met.down = true := by
  unfold Disk.lcode at h
  split at h
  · rename_i h0
    unfold Disk.ly
    rw [if_pos h0]
    obtain ⟨s1, s2⟩ := scode_no h
    rw [s2]
    rfl
  · rename_i h0
    unfold Disk.ly
    rw [if_neg h0]
    rcases Disk.code_03 hk hl with hc | hc
    · exact absurd hc h0
    · rw [Disk.wr_cut hc]
      rfl
theorem Holds.same2 {d d' : Disk} {s : SL} (h : Holds d s) (hz : d'.size = d.size) (ho : d'.old = fun _ => none) (hg : ∀ i, s.at_ ≤ i → i ≤ s.at_ + 1 → d'.get i = d.get i) : Holds d' s := by
  refine ⟨by rw [hz]; exact h.fit, ho, h.lo, ?_, fun m x => ?_⟩
  · rw [hg _ (by omega) (by omega)]
    exact h.this
  · rw [hg _ (by omega) (by omega)]
    exact h.that m x
theorem Ring.pre {g : Int → Sec} {at_ : Int} {n start m : Nat} {S : Sec} (h : Ring g at_ n start S) (hm : m ≤ S.length) : Ring g at_ n start (S.take m) := by
  intro k h0 h1
  rw [List.length_take] at h1
  obtain ⟨b, hb, ha⟩ := h k h0 (by omega)
  refine ⟨b, hb, fun i i0 i1 i2 => ?_⟩
  rw [List.length_take] at i1
  rw [ha i i0 (by omega) i2, List.getElem?_take_of_lt (by omega)]
theorem JHolds.congr {d d' : Disk} {s : SL} {at_ : Int} {n first start : Nat} {recs : List Sec} {note : Sec} (h : JHolds d s at_ n first start recs note) (hz : d'.size = d.size) (ho : d'.old = fun _ => none) (hg : ∀ i, d'.get i = d.get i) : JHolds d' s at_ n first start recs note :=
  ⟨h.holds.same hz ho hg, h.hat, h.row, h.ring.same (fun i _ => hg i), h.hrecs, h.room, h.n2, h.nm, h.at0, by rw [hz]; exact h.here, h.first1, h.hnote⟩
theorem JHolds.crash {d : Disk} {s : SL} {at_ : Int} {n first start : Nat} {recs : List Sec} {note : Sec} (h : JHolds d s at_ n first start recs note) (ks : List Int) : JHolds (d.crash ks) s at_ n first start recs note :=
  h.congr rfl rfl (fun i => by rw [crash_get, h.holds.old]; simp)
theorem JHolds.arm {d : Disk} {s : SL} {at_ : Int} {n first start : Nat} {recs : List Sec} {note : Sec} (h : JHolds d s at_ n first start recs note) (k : Int) : JHolds { d with met := d.met.arm k } s at_ n first start recs note :=
  h.congr rfl h.holds.old (fun _ => rfl)
theorem JHolds.live {d : Disk} {s : SL} {at_ : Int} {n first start : Nat} {recs : List Sec} {note : Sec} (h : JHolds d s at_ n first start recs note) : JHolds d ⟨at_, s.n, s.row, false⟩ at_ n first start recs note := by
  have h1 := h.holds.live
  rw [h.hat] at h1
  exact ⟨h1, rfl, h.row, h.ring, h.hrecs, h.room, h.n2, h.nm, h.at0, h.here, h.first1, h.hnote⟩

/-- A journal that is alive, and what its device has of it. -/
structure JGood (d : Disk) (s : SL) (j : JL) : Prop where
  has : JHolds d s j.at_ j.n j.first j.start (j.recs.take j.fl) j.note
  cut : s.cut = false
  down : d.met.down = false
  dead : j.dead = false

section
variable {d : Disk} {s : SL} {j : JL}
theorem mem_ps {x : Int × Sec} (h : x ∈ j.ps) : ∃ k, j.low ≤ k ∧ k * 470 < j.fin ∧ x = (j.place k, pieceSec k (j.bytes k)) := by
  obtain ⟨k, hk, rfl⟩ := List.mem_map.1 h
  obtain ⟨i, hi, rfl⟩ := List.mem_range'.1 hk
  exact ⟨_, by omega, top_iff.1 (by omega), rfl⟩
theorem ps_mem {k : Nat} (h0 : j.low ≤ k) (h1 : k * 470 < j.fin) : (j.place k, pieceSec k (j.bytes k)) ∈ j.ps := by
  have := top_iff.2 h1
  refine List.mem_map.2 ⟨k, List.mem_range'.2 ⟨k - j.low, by omega, by omega⟩, rfl⟩
/-- A sector of the ring, new. -/
def NewAt (j : JL) (i : Int) (l : Sec) : Prop := ∃ k, j.low ≤ k ∧ k * 470 < j.fin ∧ i = j.place k ∧ l = pieceSec k (j.bytes k)
theorem low_ge : j.start / 470 ≤ j.low := Nat.div_le_div_right (by omega)
theorem place_lt (h : JOk j) (k : Nat) : j.at_ + 2 ≤ j.place k ∧ j.place k < j.at_ + 2 + j.n := by
  have := Nat.mod_lt k (show 0 < j.n by have := h.n2; omega)
  unfold JL.place
  omega
theorem ps_good (h : JOk j) (hb : JBig j) (hh : j.at_ + 2 + j.n ≤ d.size) : Good d.size j.ps := fun x hx => by
  obtain ⟨k, h0, h1, rfl⟩ := mem_ps hx
  have hp := place_lt h k
  have ha := h.at0
  have hf := hb.fin
  exact ⟨inB_iff.2 ⟨by show 0 ≤ j.place k; omega, by show j.place k < d.size; omega⟩, pieceSec_length (by omega)⟩
theorem JOk.span (h : JOk j) {k : Nat} (hk : k * 470 < j.fin) : k < j.start / 470 + j.n := by
  have h1 := h.room
  rw [h.stream] at h1
  unfold JL.fin at hk
  omega
theorem ps_apart (h : JOk j) : j.ps.Pairwise fun x y => x.1 ≠ y.1 := by
  show ((List.range' j.low (j.top - j.low)).map fun i => (j.place i, pieceSec i (j.bytes i))).Pairwise fun x y => x.1 ≠ y.1
  rw [List.pairwise_map]
  refine (List.pairwise_lt_range' (s := j.low) (n := j.top - j.low)).imp_of_mem fun {a b} ha hb hlt e => ?_
  obtain ⟨i, hi, rfl⟩ := List.mem_range'.1 ha
  obtain ⟨i', hi', rfl⟩ := List.mem_range'.1 hb
  have hl := @low_ge j
  have s1 := h.span (k := j.low + 1 * i) (top_iff.1 (by omega))
  have s2 := h.span (k := j.low + 1 * i') (top_iff.1 (by omega))
  have e' : (j.low + 1 * i) % j.n = (j.low + 1 * i') % j.n := by
    have : j.at_ + 2 + (((j.low + 1 * i) % j.n : Nat) : Int) = j.at_ + 2 + (((j.low + 1 * i') % j.n : Nat) : Int) := e
    omega
  have := place_inj (s := j.start / 470) (n := j.n) (by omega) s1 (by omega) s2 e'
  omega
theorem bytes_agree (h : JOk j) {k : Nat} (hk : j.start / 470 ≤ k) : Agree k (pad (j.bytes k)) j.start (flat j.recs) := agree_new h.pre hk
theorem take_flat (h : JOk j) : flat (j.recs.take j.fl) = (flat j.recs).take (pos j.recs j.fl) := (flat_take _ _).symm
/-- Behind all writes and the sync the ring has all records. -/
theorem ring_full (h : JOk j) (hb : JBig j) {g' : Int → Sec} (hr : Ring d.get (j.at_ + 2) j.n j.start (flat (j.recs.take j.fl))) (hn : ∀ x ∈ j.ps, g' x.1 = x.2) (ho : ∀ i, (∀ x ∈ j.ps, x.1 ≠ i) → g' i = d.get i) : Ring g' (j.at_ + 2) j.n j.start (flat j.recs) := by
  rw [take_flat h] at hr
  have hroom := h.room
  rw [h.stream] at hroom
  refine hr.full hroom (pos_le _ _) (k0 := j.low) rfl (fun k h0 h1 => ?_) (fun k h0 h1 => ?_)
  · have hm := hn _ (ps_mem h0 h1)
    have hf := hb.fin
    refine ⟨pad (j.bytes k), ?_, bytes_agree h (Nat.le_trans low_ge h0)⟩
    rw [show j.at_ + 2 + ((k % j.n : Nat) : Int) = j.place k from rfl, hm]
    exact pieceSec_is (by have : k * 470 < j.fin := h1; omega)
  · refine ho _ (fun x hx e => ?_)
    obtain ⟨k', g0, g1, rfl⟩ := mem_ps hx
    have e' : k' % j.n = k % j.n := by
      have : j.at_ + 2 + ((k' % j.n : Nat) : Int) = j.at_ + 2 + ((k % j.n : Nat) : Int) := e
      omega
    have hl := @low_ge j
    have s1 := h.span g1
    have s2 : k < j.start / 470 + j.n := by omega
    have := place_inj (s := j.start / 470) (n := j.n) (by omega) s1 h0 s2 e'
    omega
theorem ring_mix (h : JOk j) (hb : JBig j) {g' : Int → Sec} (hr : Ring d.get (j.at_ + 2) j.n j.start (flat (j.recs.take j.fl))) (hg : ∀ i, g' i = d.get i ∨ NewAt j i (g' i)) : Ring g' (j.at_ + 2) j.n j.start (flat (j.recs.take j.fl)) := by
  rw [take_flat h] at hr ⊢
  have hroom := h.room
  rw [h.stream] at hroom
  refine hr.mix hroom (fun k h0 h1 => ?_)
  rcases hg (j.at_ + 2 + ((k % j.n : Nat) : Int)) with e | ⟨k', g0, g1, e, e2⟩
  · exact .inl e
  · have e' : k' % j.n = k % j.n := by
      have : j.at_ + 2 + ((k % j.n : Nat) : Int) = j.at_ + 2 + ((k' % j.n : Nat) : Int) := e
      omega
    have hf := hb.fin
    refine .inr ⟨k', pad (j.bytes k'), Nat.le_trans low_ge g0, g1, e', ?_, bytes_agree h (Nat.le_trans low_ge g0)⟩
    rw [e2]
    exact pieceSec_is (by omega)
end

/-! ### save -/
/-- A row that tells of the records from the k-th on. -/
theorem save_end {d : Disk} {s : SL} {at_ : Int} {n first start : Nat} {recs : List Sec} {note : Sec} (h : JHolds d s at_ n first start recs note) (hcut : s.cut = false) (hn : s.n < 4611686018427387904)
    {f' st' : Nat} {rs' : List Sec} {note' : Sec} {row : Sec} (hrow : row = nums [(f' : Int), (st' : Int), ((st' + (flat rs').length : Nat) : Int)] ++ note') (hrl : row.length ≤ 480)
    (hring : Ring d.get (at_ + 2) n st' (flat rs')) (hrecs : ∀ r ∈ rs', 1 ≤ r.length ∧ r.length ≤ 4096) (hroom : st' % 470 + (flat rs').length ≤ n * 470) (hf1 : 1 ≤ f') (hnote : note'.length ≤ 400) :
    (s.scode d row = 0 ∧ (s.sdisk d row).met.down = false ∧ JHolds (s.sdisk d row) (s.save d row) at_ n f' st' rs' note' ∧ (s.save d row).cut = false ∧ (s.save d row).n = s.n + 1) ∨
    (s.scode d row = 3 ∧ (s.sdisk d row).met.down = true ∧ ∀ ks, JHolds ((s.sdisk d row).crash ks) s at_ n first start recs note ∨ JHolds ((s.sdisk d row).crash ks) (s.put row) at_ n f' st' rs' note') := by
  have hlo := h.holds.lo
  have hnf : ¬ (480 < row.length ∨ s.n = 4611686018427387904) := by omega
  have hp := h.holds.place
  have hsl : (s.sec row).length = 512 := SL.sec_len (by omega) (by omega) hrl
  have e1 : s.scode d row = d.lcode s.place (s.sec row) := by simp [SL.scode, hnf, hcut]
  have e2 : s.sdisk d row = d.ly s.place (s.sec row) := by simp [SL.sdisk, hnf, hcut]
  have hpl : s.place < at_ + 2 := by
    rw [← h.hat]
    unfold SL.place
    omega
  have hsz : (d.ly s.place (s.sec row)).size = d.size := ly_size _ _ _
  by_cases hc : d.lcode s.place (s.sec row) = 0
  · left
    have e3 : s.save d row = s.put row := by simp [SL.save, hnf, hcut, hc]
    obtain ⟨hg, ho⟩ := ly_yes hc
    rw [e1, e2, e3]
    refine ⟨hc, ly_down_yes hc, ⟨h.holds.yes hn hrl hc, h.hat, hrow, hring.same (fun i hi => ?_), hrecs, hroom, h.n2, h.nm, h.at0, by rw [hsz]; exact h.here, hf1, hnote⟩, hcut, rfl⟩
    rw [hg, if_neg (by omega)]
  · right
    rw [e1, e2]
    refine ⟨?_, ly_down_no hp hsl hc, fun ks => ?_⟩
    · rcases Disk.lcode_03 hp hsl with hx | hx
      · exact absurd hx hc
      · exact hx
    · have hcs : ((d.ly s.place (s.sec row)).crash ks).size = d.size := by rw [crash_size, hsz]
      have hring' : ∀ i, at_ + 2 ≤ i → ((d.ly s.place (s.sec row)).crash ks).get i = d.get i := fun i hi => by
        rcases ly_no h.holds.old hp hsl hc ks with hg | hg
        · exact hg i
        · rw [hg, if_neg (by omega)]
      rcases h.holds.no hn hrl hc ks with hh | hh
      · exact .inl ⟨hh, h.hat, h.row, h.ring.same hring', h.hrecs, h.room, h.n2, h.nm, h.at0, by rw [hcs]; exact h.here, h.first1, h.hnote⟩
      · exact .inr ⟨hh, h.hat, hrow, hring.same hring', hrecs, hroom, h.n2, h.nm, h.at0, by rw [hcs]; exact h.here, hf1, hnote⟩

theorem flush_good {d : Disk} {s : SL} {j : JL} (h : JOk j) (hb : JBig j) (hj : JGood d s j) (hn : s.n < 4611686018427387904) :
    ((j.flushR d s).c = 0 ∧ (j.flushR d s).j = j.all ∧ JGood (j.flushR d s).d (j.flushR d s).s j.all ∧ (j.flushR d s).s.n ≤ s.n + 1) ∨
    ((j.flushR d s).c = 3 ∧ (j.flushR d s).j = j.die true ∧ (j.flushR d s).d.met.down = true ∧ ∀ ks, ∃ m s', j.fl ≤ m ∧ m ≤ j.recs.length ∧ s'.n ≤ s.n + 1 ∧ JHolds ((j.flushR d s).d.crash ks) s' j.at_ j.n j.first j.start (j.recs.take m) j.note) := by
  have hd := hj.dead
  have hdn := hj.down
  have hfl := h.fl
  by_cases h3 : j.fl = j.recs.length
  · left
    rw [flushR_none hd hdn h3]
    have e : j = j.all := by
      show j = { j with fl := j.recs.length }
      rw [← h3]
    exact ⟨rfl, e, by rw [← e]; exact hj, by show s.n ≤ s.n + 1; omega⟩
  have hg := ps_good (d := d) h hb hj.has.here
  rcases wout_end (P := NewAt j) hg hdn hj.has.holds.old (fun x hx => by
      obtain ⟨k, h0, h1, rfl⟩ := mem_ps hx
      exact ⟨k, h0, h1, rfl, rfl⟩) (ps_apart h) with ⟨c0, d0, o0, gn, go⟩ | ⟨c3, d3, hmix⟩
  · have hsize := wout_size d j.ps
    have hslot : ∀ i, j.at_ ≤ i → i ≤ j.at_ + 1 → (d.wout j.ps).2.get i = d.get i := fun i h0 h1 => go i (fun x hx e => by
      obtain ⟨k, _, _, rfl⟩ := mem_ps hx
      have := (place_lt h k).1
      have e' : j.place k = i := e
      omega)
    have hfull := ring_full (d := d) h hb hj.has.ring gn go
    have hold : Ring (d.wout j.ps).2.get (j.at_ + 2) j.n j.start (flat (j.recs.take j.fl)) := by
      rw [take_flat h]
      exact hfull.pre (pos_le _ _)
    have hH : JHolds (d.wout j.ps).2 s j.at_ j.n j.first j.start (j.recs.take j.fl) j.note :=
      ⟨hj.has.holds.same2 hsize o0 (by rw [hj.has.hat]; exact hslot), hj.has.hat, hj.has.row, hold, hj.has.hrecs, hj.has.room, hj.has.n2, hj.has.nm, hj.has.at0, by rw [hsize]; exact hj.has.here, hj.has.first1, hj.has.hnote⟩
    have hroom := h.room
    rw [h.stream] at hroom
    have hrow : j.row 0 j.note = nums [(j.first : Int), (j.start : Int), ((j.start + (flat j.recs).length : Nat) : Int)] ++ j.note := by
      unfold JL.row
      rw [pos_zero]
      simp [JL.fin]
    rcases save_end hH hj.cut hn hrow (by have := JL.row_len hb (Nat.zero_le j.recs.length) j.note; have := h.note; omega) hfull h.recs hroom h.first h.note with ⟨s0, sd, sh, sc, sn⟩ | ⟨s3, sd, sh⟩
    · left
      have hc : (j.saveR (d.wout j.ps).2 s 0 j.note).c = 0 := s0
      rw [flushR_yes hd hdn h3 c0 hc, saveR_die0 hc]
      have e : (j.die false).all = j.all := by
        show ({ j with dead := false, fl := j.recs.length } : JL) = { j with fl := j.recs.length }
        rw [← hd]
      refine ⟨rfl, e, ⟨?_, sc, sd, hd⟩, by show (s.save _ _).n ≤ s.n + 1; rw [sn]; omega⟩
      show JHolds _ _ j.at_ j.n j.first j.start (j.recs.take j.recs.length) j.note
      rw [List.take_length]
      exact sh
    · right
      have hc : (j.saveR (d.wout j.ps).2 s 0 j.note).c ≠ 0 := by
        show s.scode _ _ ≠ 0
        rw [s3]
        decide
      rw [flushR_no hd hdn h3 c0 hc]
      refine ⟨s3, ?_, sd, fun ks => ?_⟩
      · show j.die (decide (s.scode (d.wout j.ps).2 (j.row 0 j.note) ≠ 0)) = j.die true
        rw [s3]
        rfl
      · rcases sh ks with hx | hx
        · exact ⟨j.fl, s, Nat.le_refl _, hfl, by omega, hx⟩
        · exact ⟨j.recs.length, s.put (j.row 0 j.note), hfl, Nat.le_refl _, by simp [SL.put], by rw [List.take_length]; exact hx⟩
  · right
    rw [flushR_cut hd hdn h3 (by rw [c3]; decide)]
    refine ⟨c3, rfl, d3, fun ks => ⟨j.fl, s, Nat.le_refl _, hfl, by omega, ?_⟩⟩
    have hcz : ((d.wout j.ps).2.crash ks).size = d.size := by rw [crash_size, wout_size]
    have hmx := fun i => hmix.crash ks i
    refine ⟨hj.has.holds.same2 hcz rfl (fun i h0 h1 => ?_), hj.has.hat, hj.has.row, ring_mix (d := d) h hb hj.has.ring hmx, hj.has.hrecs, hj.has.room, hj.has.n2, hj.has.nm, hj.has.at0, by rw [hcz]; exact hj.has.here, hj.has.first1, hj.has.hnote⟩
    rcases hmx i with e | ⟨k, _, _, e, _⟩
    · exact e
    · have := (place_lt h k).1
      rw [hj.has.hat] at h0 h1
      omega
end Go.Proofs.YtfnedeaemjchgaaGreat
/- What a Trim leaves; a device whose power is there; a journal that the caller made itself. -/
namespace Go.Proofs.YtfnedeaemjchgaaGreat
open Go.RowKit Go.Maps
set_option linter.unusedSimpArgs false
set_option linter.unusedVariables false

theorem trim_good {d : Disk} {s : SL} {j : JL} {note : Sec} (h : JOk j) (hb : JBig j) (hj : JGood d s j) (hn : s.n + 1 < 4611686018427387904) (k : Nat) (hk : k ≤ j.recs.length) (x : Int) (hx : x = (j.first : Int) + k) (hl : note.length ≤ 400) :
    ((j.trimR d s x note).c = 0 ∧ (j.trimR d s x note).j = (j.all.drop k).noted note ∧ JGood (j.trimR d s x note).d (j.trimR d s x note).s ((j.all.drop k).noted note) ∧ (j.trimR d s x note).s.n ≤ s.n + 2) ∨
    ((j.trimR d s x note).c = 3 ∧ ((j.trimR d s x note).j = j.die true ∨ (j.trimR d s x note).j = j.all.die true) ∧ (j.trimR d s x note).d.met.down = true ∧
      ∀ ks, (∃ m s', j.fl ≤ m ∧ m ≤ j.recs.length ∧ s'.n ≤ s.n + 2 ∧ JHolds ((j.trimR d s x note).d.crash ks) s' j.at_ j.n j.first j.start (j.recs.take m) j.note) ∨
        ∃ s', s'.n ≤ s.n + 2 ∧ JHolds ((j.trimR d s x note).d.crash ks) s' j.at_ j.n (j.first + k) (j.cutP k) (j.recs.drop k) note) := by
  have hd := hj.dead
  have hx1 : ¬ (x < (j.first : Int) ∨ (j.next : Int) < x) := by
    have : j.next = j.first + j.recs.length := rfl
    omega
  have hk2 : (x - (j.first : Int)).toNat = k := by omega
  have hl2 : ¬ 400 < note.length := by omega
  rcases flush_good h hb hj (by omega) with ⟨c0, cj, cg, cn⟩ | ⟨c3, cj, cd, ch⟩
  rotate_left
  · right
    rw [trimR_flush hd hx1 hl2 (by rw [c3]; decide)]
    refine ⟨c3, .inl cj, cd, fun ks => .inl ?_⟩
    obtain ⟨m, s', h1, h2, h3, h4⟩ := ch ks
    exact ⟨m, s', h1, h2, by omega, h4⟩
  have hdrop := h.all.drop (k := k) hk
  have hrow : j.all.row k note = nums [((j.first + k : Nat) : Int), ((j.cutP k : Nat) : Int), ((j.cutP k + (flat (j.recs.drop k)).length : Nat) : Int)] ++ note := by
    have e1 : j.cutP k + (flat (j.recs.drop k)).length = j.fin := by
      have := pos_drop j.recs k
      show j.start + pos j.recs k + _ = j.start + (flat j.recs).length
      omega
    rw [e1]
    have e2 : ((j.first + k : Nat) : Int) = (j.first : Int) + k := by omega
    rw [e2]
    rfl
  have hall : j.all.recs.take j.all.fl = j.recs := List.take_length
  have hhas := cg.has
  rw [hall] at hhas
  have hring : Ring (j.flushR d s).d.get (j.at_ + 2) j.n (j.cutP k) (flat (j.recs.drop k)) := by
    have := hhas.ring.later (p := pos j.recs k) (pos_le _ _)
    rw [flat_drop] at this
    exact this
  have hroom := hdrop.room
  rw [hdrop.stream] at hroom
  rcases save_end hhas cg.cut (by omega) hrow (by have := JL.row_len hb.all (k := k) hk note; omega) hring (fun r hr => h.recs r (List.mem_of_mem_drop hr)) hroom (by have := h.first; omega) hl with ⟨s0, sd, sh, sc, sn⟩ | ⟨s3, sd, sh⟩
  · left
    have hc : (j.all.saveR (j.flushR d s).d (j.flushR d s).s (x - j.first).toNat note).c = 0 := by rw [hk2]; exact s0
    rw [trimR_yes hd hx1 hl2 c0 hc, saveR_die0 hc, hk2]
    have e : ((j.all.die false).drop k).noted note = (j.all.drop k).noted note := by
      have : j.all.die false = j.all := by
        show ({ j with fl := j.recs.length, dead := false } : JL) = { j with fl := j.recs.length }
        rw [← hd]
      rw [this]
    refine ⟨rfl, e, ⟨?_, sc, sd, hd⟩, by show (JL.saveR _ _ _ _ _).s.n ≤ _; show (SL.save _ _ _).n ≤ s.n + 2; rw [sn]; omega⟩
    have et : ((j.all.drop k).noted note).recs.take ((j.all.drop k).noted note).fl = j.recs.drop k := by
      show (j.recs.drop k).take (j.recs.length - k) = j.recs.drop k
      rw [← List.length_drop, List.take_length]
    rw [et]
    exact sh
  · right
    have hc : (j.all.saveR (j.flushR d s).d (j.flushR d s).s (x - j.first).toNat note).c ≠ 0 := by
      rw [hk2]
      show SL.scode _ _ _ ≠ 0
      rw [s3]
      decide
    rw [trimR_no hd hx1 hl2 c0 hc, hk2]
    refine ⟨s3, .inr ?_, sd, fun ks => ?_⟩
    · show j.all.die (decide (SL.scode _ _ _ ≠ 0)) = j.all.die true
      rw [s3]
      rfl
    · rcases sh ks with hx | hx
      · exact .inl ⟨j.recs.length, (j.flushR d s).s, h.fl, Nat.le_refl _, by omega, by rw [List.take_length]; exact hx⟩
      · exact .inr ⟨(j.flushR d s).s.put (j.all.row k note), by simp only [SL.put]; omega, hx⟩

/-! ### power that is there -/
theorem wrs_calm : ∀ (ps : List (Int × Sec)) (d : Disk), Good d.size ps → d.Calm → (d.wrs ps).1 = 0 ∧ (d.wrs ps).2.Calm
  | [], d, _, h => ⟨rfl, h⟩
  | x :: r, d, hg, h => by
    obtain ⟨h1, h2⟩ := hg x (by simp)
    have hc := h.code h1 h2
    rw [wrs_yes hc]
    exact wrs_calm r _ (fun y hy => by rw [wr_size]; exact hg y (by simp [hy])) (h.wr h1 h2)
theorem wout_calm {d : Disk} {ps : List (Int × Sec)} (hg : Good d.size ps) (h : d.Calm) : (d.wout ps).1 = 0 ∧ (d.wout ps).2.Calm := by
  obtain ⟨h1, h2⟩ := wrs_calm ps d hg h
  have hw : d.wout ps = ((d.wrs ps).2.scode, (d.wrs ps).2.sy) := by unfold Disk.wout; rw [if_pos h1]
  rw [hw]
  exact ⟨h2.scode, h2.sy⟩
theorem sdisk_calm {d : Disk} {s : SL} {r : Sec} (h : d.Calm) (hp : inB s.place d.size = true) (hl : (s.sec r).length = 512) : (s.sdisk d r).Calm := by
  unfold SL.sdisk
  split
  · exact h
  · split
    · exact h
    · exact h.ly hp hl
theorem place_in {d : Disk} {s : SL} (hf : fitB s.at_ d.size = true) : inB s.place d.size = true := by
  have := fitB_iff.1 hf
  have h0 := Int.emod_nonneg (s.n + 1) (show (2 : Int) ≠ 0 by omega)
  have h1 := Int.emod_lt_of_pos (s.n + 1) (show (0 : Int) < 2 by omega)
  exact inB_iff.2 ⟨by unfold SL.place; omega, by unfold SL.place; omega⟩
theorem saveR_calm {d : Disk} {s : SL} {j : JL} {k : Nat} {note : Sec} (h : d.Calm) (hf : fitB s.at_ d.size = true) (h0 : 0 ≤ s.n) (hn : s.n < 4611686018427387904) (hb : JBig j) (hk : k ≤ j.recs.length) (hl : note.length ≤ 400) (hc : s.cut = false) : (j.saveR d s k note).c = 0 ∧ (j.saveR d s k note).d.Calm := by
  have hrl := JL.row_len hb hk note
  obtain ⟨e1, _, _, _⟩ := SL.save_calm (r := j.row k note) h (place_in hf) h0 hn hc (by omega)
  exact ⟨e1, sdisk_calm h (place_in hf) (SL.sec_len h0 (by omega) (by omega))⟩
theorem flush_calm {d : Disk} {s : SL} {j : JL} (h : JOk j) (hb : JBig j) (hj : JGood d s j) (hn : s.n < 4611686018427387904) (hc : d.Calm) : (j.flushR d s).c = 0 ∧ (j.flushR d s).d.Calm := by
  by_cases h3 : j.fl = j.recs.length
  · rw [flushR_none hj.dead hj.down h3]
    exact ⟨rfl, hc⟩
  obtain ⟨w1, w2⟩ := wout_calm (ps_good (d := d) h hb hj.has.here) hc
  have hlo := hj.has.holds.lo
  obtain ⟨c1, c2⟩ := saveR_calm (j := j) (k := 0) (note := j.note) (s := s) w2 (by rw [wout_size]; exact hj.has.holds.fit) (by omega) hn hb (Nat.zero_le _) h.note hj.cut
  rw [flushR_yes hj.dead hj.down h3 w1 c1]
  exact ⟨rfl, c2⟩
theorem trim_calm {d : Disk} {s : SL} {j : JL} {note : Sec} (h : JOk j) (hb : JBig j) (hj : JGood d s j) (hn : s.n + 1 < 4611686018427387904) (k : Nat) (hk : k ≤ j.recs.length) (x : Int) (hx : x = (j.first : Int) + k) (hl : note.length ≤ 400) (hc : d.Calm) : (j.trimR d s x note).c = 0 ∧ (j.trimR d s x note).d.Calm := by
  have hx1 : ¬ (x < (j.first : Int) ∨ (j.next : Int) < x) := by
    have : j.next = j.first + j.recs.length := rfl
    omega
  have hk2 : (x - (j.first : Int)).toNat = k := by omega
  obtain ⟨f1, f2⟩ := flush_calm h hb hj (by omega) hc
  rcases flush_good h hb hj (by omega) with ⟨c0, cj, cg, cn⟩ | ⟨c3, _⟩
  rotate_left
  · rw [f1] at c3
    cases c3
  have hlo := cg.has.holds.lo
  have hs := saveR_calm (j := j.all) (k := k) (note := note) f2 cg.has.holds.fit (by omega) (by omega) hb.all hk hl cg.cut
  have hs' : (j.all.saveR (j.flushR d s).d (j.flushR d s).s (x - j.first).toNat note).c = 0 := by rw [hk2]; exact hs.1
  rw [trimR_yes hj.dead hx1 (by omega) f1 hs', hk2]
  exact ⟨rfl, hs.2⟩

/-! ### a journal of one's own -/
/-- Since w0 a journal was made, with its device; nothing that was there has turned. -/
structure JSt (w0 w : World) (p q : Nat) (a : DA) (d : Disk) (j : JL) (s : SL) : Prop where
  jn : ∃ B, Jn w p q a B d j s ∧ ∀ k ∈ B, w0.heap.size ≤ k
  only : Only [] w0 w
section
variable {w0 w w1 : World} {p q : Nat} {a : DA} {d d' : Disk} {j j' : JL} {s s' : SL}
theorem JSt.quiet (h : JSt w0 w p q a d j s) (ho : Only [] w w1) : JSt w0 w1 p q a d j s := by
  obtain ⟨⟨B, h1, h2⟩, h3⟩ := h
  exact ⟨⟨B, h1.quiet ho, h2⟩, h3.trans ho (by simp)⟩
theorem JSt.jm (h : JSt w0 w p q a d j s) : ∃ vs vt vn vr, JM w p q a vs vt vn vr d j s := by
  obtain ⟨⟨B, h1, _⟩, _⟩ := h
  exact h1.jm
theorem JSt.ok (h : JSt w0 w p q a d j s) : JOk j := by
  obtain ⟨vs, vt, vn, vr, hm⟩ := h.jm
  exact hm.ok
theorem JSt.dev (h : JSt w0 w p q a d j s) : Dev w a d := by
  obtain ⟨vs, vt, vn, vr, hm⟩ := h.jm
  exact hm.dev
theorem JSt.here (h : JSt w0 w p q a d j s) : j.at_ + 2 + j.n ≤ d.size := by
  obtain ⟨vs, vt, vn, vr, hm⟩ := h.jm
  exact hm.here
theorem JSt.to {B : List Nat} (ho : Only [] w0 w) (hB : ∀ k ∈ B, w0.heap.size ≤ k) (h : JTo w p q a B d' j' s' w1) : JSt w0 w1 p q a d' j' s' := by
  obtain ⟨B', h1, h2, h3⟩ := h
  refine ⟨⟨B', h1, fun k hk => ?_⟩, ho.trans h2 (fun k hk => .inr (hB k hk))⟩
  rcases h3 k hk with e | e
  · exact hB k e
  · exact Nat.le_trans ho.size e
/-- Bytes in no block that was there. -/
def Fresh (w : World) (v : Value) : Prop := ∀ ad n c, v = .slice (some ad) n c → w.heap.size ≤ ad.block
theorem append_st (h : JSt w0 w p q a d j s) (ho : Only [] w w1) (hb : JBig j) (v : Value) (r : Sec) (hr : Bytes w1 v r) (hf : Fresh w v) (hl : r.length ≤ 9223372036854775807) :
    Calls Tryz.prog 17 #[.pointer (some ⟨p, 0, none⟩), v] w1 fun e w' => e = .returned (.tuple #[.int .i64 (j.anum r (j.free - j.booked)), errV (j.acode r (j.free - j.booked))]) ∧ JSt w0 w' p q a d (j.added r (j.free - j.booked)) s := by
  obtain ⟨⟨B, h1, h2⟩, h3⟩ := h
  refine (jappend_any (h1.quiet ho) hb v r hr (fun ad n c e _ hm => ?_) hl).mono fun e w' h => ⟨h.1, JSt.to (h3.trans ho (by simp)) h2 h.2⟩
  have := h1.lt _ hm
  have := hf ad n c e
  omega
theorem spend_st (h : JSt w0 w p q a d j s) (ho : Only [] w w1) (hb : JBig j) (v : Value) (r : Sec) (hr : Bytes w1 v r) (hf : Fresh w v) (hl : r.length ≤ 9223372036854775807) :
    Calls Tryz.prog 23 #[.pointer (some ⟨p, 0, none⟩), v] w1 fun e w' => e = .returned (.tuple #[.int .i64 (j.anum r j.free), errV (j.acode r j.free)]) ∧ JSt w0 w' p q a d (j.added r j.free) s := by
  obtain ⟨⟨B, h1, h2⟩, h3⟩ := h
  refine (jspend_any (h1.quiet ho) hb v r hr (fun ad n c e _ hm => ?_) hl).mono fun e w' h => ⟨h.1, JSt.to (h3.trans ho (by simp)) h2 h.2⟩
  have := h1.lt _ hm
  have := hf ad n c e
  omega
theorem jflush_st (h : JSt w0 w p q a d j s) (hb : JBig j) :
    Calls Tryz.prog 12 #[.pointer (some ⟨p, 0, none⟩)] w fun e w' => e = .returned (errV (j.flushR d s).c) ∧ JSt w0 w' p q a (j.flushR d s).d (j.flushR d s).j (j.flushR d s).s := by
  obtain ⟨⟨B, ⟨vs, vt, vn, vr, hm, rfl⟩, h2⟩, h3⟩ := h
  exact (jflush_any hm hb).mono fun e w' h => ⟨h.ans, JSt.to h3 h2 (RPost.to hm h).2⟩
theorem jtrim_st (h : JSt w0 w p q a d j s) (ho : Only [] w w1) (hb : JBig j) (x : Int) (v : Value) (r : Sec) (hr : Bytes w1 v r) (hf : Fresh w v) (hl : r.length ≤ 9223372036854775807) :
    Calls Tryz.prog 18 #[.pointer (some ⟨p, 0, none⟩), .int .i64 x, v] w1 fun e w' => e = .returned (errV (j.trimR d s x r).c) ∧ JSt w0 w' p q a (j.trimR d s x r).d (j.trimR d s x r).j (j.trimR d s x r).s := by
  obtain ⟨⟨B, h1, h2⟩, h3⟩ := h
  refine (jtrim_any (h1.quiet ho) hb x v r hr (fun ad n c e _ hm => ?_) hl).mono fun e w' h => ⟨h.1, JSt.to (h3.trans ho (by simp)) h2 h.2⟩
  have := h1.lt _ hm
  have := hf ad n c e
  omega
theorem jbook_st (h : JSt w0 w p q a d j s) (n : Int) :
    Calls Tryz.prog 26 #[.pointer (some ⟨p, 0, none⟩), .int .i64 n] w fun e w' => e = .returned (errV (j.bcode n)) ∧ JSt w0 w' p q a d (j.book n) s := by
  obtain ⟨⟨B, h1, h2⟩, h3⟩ := h
  exact (jbook_any h1 n).mono fun e w' h => ⟨h.1, JSt.to h3 h2 h.2⟩
theorem jfree_st (h : JSt w0 w p q a d j s) (n : Int) (hn : j.free = n) : Calls Tryz.prog 16 #[.pointer (some ⟨p, 0, none⟩)] w fun e w' => e = .returned (.int .i64 n) ∧ JSt w0 w' p q a d j s ∧ Only [] w w' := by
  subst hn
  obtain ⟨vs, vt, vn, vr, hm⟩ := h.jm
  exact (jfree_any hm).mono fun e w' ⟨h1, h2⟩ => ⟨h1, h.quiet h2.only, h2.only⟩
theorem jnext_st (h : JSt w0 w p q a d j s) (hb : JBig j) (n : Int) (hn : (j.next : Int) = n) : Calls Tryz.prog 20 #[.pointer (some ⟨p, 0, none⟩)] w fun e w' => e = .returned (.int .i64 n) ∧ JSt w0 w' p q a d j s ∧ Only [] w w' := by
  subst hn
  obtain ⟨vs, vt, vn, vr, hm⟩ := h.jm
  exact (jnext_any hm hb).mono fun e w' ⟨h1, h2⟩ => ⟨h1, h.quiet h2.only, h2.only⟩
theorem jfirst_st (h : JSt w0 w p q a d j s) (n : Int) (hn : (j.first : Int) = n) : Calls Tryz.prog 19 #[.pointer (some ⟨p, 0, none⟩)] w fun e w' => e = .returned (.int .i64 n) ∧ w = w' := by
  subst hn
  obtain ⟨vs, vt, vn, vr, hm⟩ := h.jm
  exact jfirst_any hm
theorem jnote_st (h : JSt w0 w p q a d j s) (l : Sec) (hl : j.note = l) : Calls Tryz.prog 21 #[.pointer (some ⟨p, 0, none⟩)] w fun e w' => ∃ b c, e = .returned (.slice b l.length c) ∧ Own w' w.heap.size (.slice b l.length c) l ∧ JSt w0 w' p q a d j s ∧ Only [] w w' := by
  obtain ⟨vs, vt, vn, vr, hm⟩ := h.jm
  exact (jnote_any hm l hl).mono fun e w' ⟨b, c, h1, h2, h3⟩ => ⟨b, c, h1, h2, h.quiet h3, h3⟩
theorem JHolds.fresh {d : Disk} {at_ : Int} {n : Nat} (hd : d.Calm) (hf : jfitB at_ n d.size = true) : d.jcode at_ n = 0 ∧ (d.jfm at_ n).Calm ∧ JHolds (d.jfm at_ n) ⟨at_, 1, row0, false⟩ at_ n 1 0 [] [] := by
  obtain ⟨h0, h1, h2, h3⟩ := jfitB_iff.1 hf
  have hr := row0_len
  obtain ⟨c, m, g⟩ := fm_calm (at_ := at_) (r := row0) hd (fitB_iff.2 ⟨h0, by omega⟩) (by omega)
  have e1 : d.jcode at_ n = d.fcode at_ row0 := by unfold Disk.jcode; rw [hf]; rfl
  have e2 : d.jfm at_ n = d.fm at_ row0 := by unfold Disk.jfm; rw [hf]; rfl
  rw [e1, e2]
  refine ⟨c, m, g, rfl, by show row0 = _ ++ []; rw [List.append_nil]; rfl, fun k hk hk2 => ?_, by simp, by simp [flat], by omega, by omega, h0, ?_, Nat.le_refl _, by simp⟩
  · simp [flat] at hk2
  · rw [fm_size]
    omega
theorem format_new {at_ : Int} {n : Nat} (h : St w0 w a d) (hd : d.Calm) (hf : jfitB at_ n d.size = true) :
    Calls Tryz.prog 15 #[.pointer (some ⟨a.p, 0, none⟩), .int .i64 at_, .int .i64 n] w fun e w' => ∃ p q, e = .returned (.tuple #[.pointer (some ⟨p, 0, none⟩), .nilIface]) ∧ JSt w0 w' p q a (d.jfm at_ n) (JL.new at_ n) ⟨at_, 1, row0, false⟩ ∧ (d.jfm at_ n).Calm ∧ JGood (d.jfm at_ n) ⟨at_, 1, row0, false⟩ (JL.new at_ n) := by
  obtain ⟨hc, hm, hh⟩ := JHolds.fresh hd hf
  refine (jformat_any at_ n h.dev).mono ?_
  rintro e w' ⟨hd', ho, hy, _⟩
  obtain ⟨p, q, B, rfl, hj, hB⟩ := hy hc
  refine ⟨p, q, rfl, ⟨⟨B, hj, fun k hk => ?_⟩, h.only.trans ho (fun k hk => .inr (h.new k hk))⟩, hm, hh, rfl, hm.down, rfl⟩
  rcases hB k hk with e | e
  · exact h.new k e
  · exact Nat.le_trans h.only.size e
end
end Go.Proofs.YtfnedeaemjchgaaGreat
/- A journal: the chapter's example runs as it says; a model begins. -/
namespace Go.Proofs.YtfnedeaemjchgaaGreat
open Go.RowKit Go.Maps
set_option linter.unusedSimpArgs false
set_option linter.unusedVariables false

section
variable {j : JL} {r : Sec} {room : Int} {d : Disk} {s : SL}
theorem acode_0 (hd : j.dead = false) (h1 : 1 ≤ r.length) (h2 : r.length ≤ 4096) (h3 : (2 : Int) + r.length ≤ room) : j.acode r room = 0 := by
  unfold JL.acode
  rw [if_neg (by simp [hd]), if_neg (by omega), if_neg (by omega)]
theorem acode_5 (hd : j.dead = false) (h1 : 1 ≤ r.length) (h2 : r.length ≤ 4096) (h3 : ¬ (2 : Int) + r.length ≤ room) : j.acode r room = 5 := by
  unfold JL.acode
  rw [if_neg (by simp [hd]), if_neg (by omega), if_pos (by omega)]
theorem added_0 (h : j.acode r room = 0) : j.added r room = j.put r ∧ j.anum r room = j.next := ⟨if_pos h, if_pos h⟩
theorem added_n (h : j.acode r room ≠ 0) : j.added r room = j ∧ j.anum r room = 0 := ⟨if_neg h, if_neg h⟩
theorem put_fin : (j.put r).fin = j.fin + (r.length + 2) := by
  show j.start + (flat (j.recs ++ [r])).length = j.start + (flat j.recs).length + _
  rw [flat_snoc]
  omega
theorem put_next : (j.put r).next = j.next + 1 := by
  show j.first + (j.recs ++ [r]).length = j.first + j.recs.length + 1
  simp
  omega
theorem put_free : (j.put r).free = j.free - (r.length + 2) := by
  unfold JL.free
  rw [put_len]
  show (j.n : Int) * 470 - _ = _
  omega
theorem JGood.put (h : JGood d s j) (hf : j.fl ≤ j.recs.length) : JGood d s (j.put r) := by
  refine ⟨?_, h.cut, h.down, h.dead⟩
  have e : (j.put r).recs.take (j.put r).fl = j.recs.take j.fl := by
    show (j.recs ++ [r]).take j.fl = _
    rw [List.take_append_of_le_length hf]
  rw [e]
  exact h.has
theorem new_fin (at_ : Int) (n : Nat) : (JL.new at_ n).fin = 0 := rfl
theorem new_next (at_ : Int) (n : Nat) : (JL.new at_ n).next = 1 := rfl
theorem new_free (at_ : Int) (n : Nat) : (JL.new at_ n).free = (n : Int) * 470 := by
  show (n : Int) * 470 - (([] ++ flat [] : Sec).length : Int) = _
  simp [flat]
end
theorem zeros_at {w : World} {g n : Nat} (h : BBlk w g (List.replicate n 0)) : Bytes w (.slice (some ⟨g, 0, none⟩) n n) (zs n) := by
  have h1 : Bytes w (.slice (some ⟨g, 0, none⟩) (List.replicate n (0 : UInt8)).length n) (List.replicate n 0) := h.bytes n
  rw [List.length_replicate] at h1
  exact h1
theorem fresh_at {w : World} {g n c : Nat} (h : w.heap.size ≤ g) : Fresh w (.slice (some ⟨g, 0, none⟩) n c) := fun ad n' c' e => by
  cases e
  exact h
theorem fresh_nil (w : World) : Fresh w (.slice none 0 0) := fun ad n c e => by cases e
theorem err_n55 (w : World) : (binOp .neq 36 (err 5) (err 5)).run Tryz.prog w = .ok (.bool false) w := by kernel_rfl

set_option maxRecDepth 100000 in
set_option maxHeartbeats 4000000 in
theorem alive4_any (w : World) : Calls Tryz.prog 5 #[] w fun e w' => e = .returned (.bool true) ∧ Only [] w w' := by
  have q0 := iface_nil
  have q1 := iface_ne
  have q2 := iface_nerr
  have q5 := err_n55
  go_enter Tryz.func5, Tryz.ntmps5
  go_wp2_with fail
  refine (new_st 8 w (by omega) (by omega)).mono ?_
  rintro e w1 ⟨a, rfl, h1⟩
  go_wp2_with fail
  refine (format_new (at_ := 1) (n := 2) h1 (Disk.Calm.fresh 8) (by decide)).mono ?_
  rintro e w2 ⟨p, q, rfl, s2, m2, g2⟩
  have S2 := Lib.hid s2
  have M2 := Lib.hid m2
  have G2 := Lib.hid g2
  clear h1 s2 m2 g2
  generalize (Disk.fresh 8).jfm 1 (2 : Nat) = d2 at S2 M2 G2
  go_wp2_with fail
  refine (jfree_st S2.out 940 (new_free _ _)).mono ?_
  rintro e w3 ⟨rfl, s3, o3⟩
  have S3 := Lib.hid s3
  clear s3 o3 S2
  go_wp2_with (
    refine wpList_make_zero rfl (.const (.int .i64 468)) (.const (.int .i64 468)) rfl 468 (by rfl) (by rfl) (by omega) ?_
    intro w4 g4 b4 hg4 o4)
  have hB : JBig (JL.new 1 2) := ⟨by rw [new_fin]; omega, by rw [new_next]; omega⟩
  have hz := zs_length 468
  have hc : (JL.new 1 2).acode (zs 468) ((JL.new 1 2).free - (JL.new 1 2).booked) = 0 := acode_0 rfl (by omega) (by omega) (by rw [new_free, hz]; decide)
  have hap := append_st S3.out o4 hB _ (zs 468) (zeros_at b4) (fresh_at hg4) (by omega)
  rw [hc, (added_0 hc).1, (added_0 hc).2, errV_z rfl] at hap
  refine hap.mono ?_
  rintro e w5 ⟨rfl, s5⟩
  have S5 := Lib.hid s5
  have hB1 : JBig ((JL.new 1 2).put (zs 468)) := ⟨by rw [put_fin, new_fin, hz]; omega, by rw [put_next, new_next]; omega⟩
  have hf1 : ((JL.new 1 2).put (zs 468)).free = 470 := by rw [put_free, new_free, hz]; decide
  have hr1 : ((JL.new 1 2).put (zs 468)).recs = [zs 468] := rfl
  have hp1 : pos [zs 468] 1 = 470 := by rw [pos_all (by simp)]; rw [flat_one, recB_length, hz]
  have G5 := Lib.hid (G2.out.put (r := zs 468) (Nat.le_refl _))
  have hn1 : ((JL.new 1 2).next : Int) = 1 := rfl
  rw [hn1]
  have HB1 := Lib.hid hB1
  have HF1 := Lib.hid hf1
  have HR1 := Lib.hid hr1
  have HP1 := Lib.hid hp1
  have HD1 := Lib.hid (show ((JL.new 1 2).put (zs 468)).dead = false from rfl)
  have HK1 := Lib.hid (show ((JL.new 1 2).put (zs 468)).booked = 0 ∧ ((JL.new 1 2).put (zs 468)).first = 1 ∧ ((JL.new 1 2).put (zs 468)).start = 0 ∧ ((JL.new 1 2).put (zs 468)).n = 2 from ⟨rfl, rfl, rfl, rfl⟩)
  have HN1 := Lib.hid (show ((JL.new 1 2).put (zs 468)).next = 2 from rfl)
  clear hap hc hB hz b4 hg4 o4 S3 G2 s5 hB1 hf1 hr1 hp1 hn1
  generalize (JL.new 1 2).put (zs 468) = j1 at S5 G5 HB1 HF1 HR1 HD1 HK1 HN1
  go_wp2_with (
    refine wpList_make_zero rfl (.const (.int .i64 469)) (.const (.int .i64 469)) rfl 469 (by rfl) (by rfl) (by omega) ?_
    intro w6 g6 b6 hg6 o6)
  have hz := zs_length 469
  have hc : j1.acode (zs 469) (j1.free - j1.booked) = 5 := acode_5 HD1.out (by omega) (by omega) (by rw [HF1.out, HK1.out.1, hz]; decide)
  have hap := append_st S5.out o6 HB1.out _ (zs 469) (zeros_at b6) (fresh_at hg6) (by omega)
  rw [hc, (added_n (by rw [hc]; decide)).1, (added_n (by rw [hc]; decide)).2, errV_nz (by decide)] at hap
  refine hap.mono ?_
  rintro e w7 ⟨rfl, s7⟩
  have S7 := Lib.hid s7
  clear hap hc hz b6 hg6 o6 S5 s7
  go_wp2_with fail
  refine (jfree_st S7.out 470 HF1.out).mono ?_
  rintro e w8 ⟨rfl, s8, _⟩
  have S8 := Lib.hid s8
  clear s8 S7
  go_wp2_with fail
  have hfl := jflush_st S8.out HB1.out
  obtain ⟨fc, fm⟩ := flush_calm S8.out.ok HB1.out G5.out (by decide) M2.out
  rcases flush_good S8.out.ok HB1.out G5.out (by decide) with ⟨_, fj, fg, fn⟩ | ⟨c3, _⟩
  rotate_left
  · rw [fc] at c3
    cases c3
  rw [fc, fj, errV_z rfl] at hfl
  refine hfl.mono ?_
  rintro e w9 ⟨rfl, s9⟩
  have S9 := Lib.hid s9
  have M9 := Lib.hid fm
  have G9 := Lib.hid fg
  have N9 := Lib.hid fn
  clear hfl fc fm fj fg fn s9 S8 G5
  generalize (j1.flushR d2 ⟨1, 1, row0, false⟩).d = d9 at S9 M9 G9
  generalize (j1.flushR d2 ⟨1, 1, row0, false⟩).s = s9 at S9 M9 G9 N9
  have kc := conv_lit
  go_wp2_with fail
  have hl1 : j1.all.recs.length = 1 := by show j1.recs.length = 1; rw [HR1.out]; rfl
  have hx1 : (2 : Int) = (j1.all.first : Int) + ((1 : Nat) : Int) := by show (2 : Int) = (j1.first : Int) + _; rw [HK1.out.2.1]; rfl
  have htr := jtrim_st S9.out ((Only.refl [] w9).alloc (.cells #[.int .u8 120] 5 (1, 2))) HB1.out.all 2 _ [120] (lit1 w9 120 120 rfl (1, 2)) (fresh_at (Nat.le_refl _)) (by decide)
  have hn9 : s9.n + 1 < 4611686018427387904 := by have h := N9.out; have e : (⟨1, 1, row0, false⟩ : SL).n = 1 := rfl; omega
  obtain ⟨tc, tm⟩ := trim_calm S9.out.ok HB1.out.all G9.out hn9 1 (by omega) 2 hx1 (note := [120]) (by decide) M9.out
  rcases trim_good S9.out.ok HB1.out.all G9.out hn9 1 (by omega) 2 hx1 (note := [120]) (by decide) with ⟨_, tj, tg, tn⟩ | ⟨c3, _⟩
  rotate_left
  · rw [tc] at c3
    cases c3
  rw [tc, tj, errV_z rfl] at htr
  refine htr.mono ?_
  rintro e w10 ⟨rfl, s10⟩
  have S10 := Lib.hid s10
  have hok := S10.out.ok
  have hst : ((j1.all.all.drop 1).noted [120]).start = 470 := by
    show j1.start + pos j1.recs 1 = 470
    rw [HK1.out.2.2.1, HR1.out, HP1.out]
  have hrc : ((j1.all.all.drop 1).noted [120]).recs = [] := by
    show j1.recs.drop 1 = []
    rw [HR1.out]
    rfl
  have hfr : ((j1.all.all.drop 1).noted [120]).free = 940 := by
    have h1 := hok.stream
    rw [hst, hrc] at h1
    unfold JL.free
    rw [h1]
    show (j1.n : Int) * 470 - _ = _
    rw [HK1.out.2.2.2]
    simp [flat]
  have hbk : ((j1.all.all.drop 1).noted [120]).booked = 0 := HK1.out.1
  have hdd : ((j1.all.all.drop 1).noted [120]).dead = false := HD1.out
  have hff : ((j1.all.all.drop 1).noted [120]).first = 2 := by show j1.first + 1 = 2; rw [HK1.out.2.1]
  have hnn : ((j1.all.all.drop 1).noted [120]).note = [120] := rfl
  have hfi : ((j1.all.all.drop 1).noted [120]).fin = 470 := by unfold JL.fin; rw [hst, hrc]; rfl
  have hne : ((j1.all.all.drop 1).noted [120]).next = 2 := by unfold JL.next; rw [hff, hrc]; rfl
  have HRC := Lib.hid hrc
  clear htr tc tm tj tg tn s10 S9 G9 M9 N9 hn9 hl1 hx1 hok hst hrc
  generalize (j1.all.all.drop 1).noted [120] = j3 at S10 hfr hbk hdd hff hnn hfi hne HRC
  have HFR := Lib.hid hfr
  have HBK := Lib.hid hbk
  have HDD := Lib.hid hdd
  have HFF := Lib.hid hff
  have HNN := Lib.hid hnn
  have HFI := Lib.hid hfi
  have HNE := Lib.hid hne
  clear hfr hbk hdd hff hnn hfi hne
  go_wp2_with fail
  refine (jfree_st S10.out 940 HFR.out).mono ?_
  rintro e w11 ⟨rfl, s11, _⟩
  have S11 := Lib.hid s11
  clear s11 S10
  go_wp2_with fail
  have hB : JBig j3 := ⟨by rw [HFI.out]; omega, by rw [HNE.out]; omega⟩
  have hc : j3.acode [97] (j3.free - j3.booked) = 0 := acode_0 HDD.out (by decide) (by decide) (by rw [HFR.out, HBK.out]; decide)
  have hap := append_st S11.out ((Only.refl [] w11).alloc (.cells #[.int .u8 97] 5 (1, 2))) hB _ [97] (lit1 w11 97 97 rfl (1, 2)) (fresh_at (Nat.le_refl _)) (by decide)
  rw [hc, (added_0 hc).1, (added_0 hc).2, errV_z rfl, HNE.out] at hap
  refine hap.mono ?_
  rintro e w12 ⟨rfl, s12⟩
  have S12 := Lib.hid s12
  have HB3 := Lib.hid (show JBig (j3.put [97]) from ⟨by rw [put_fin, HFI.out]; decide, by rw [put_next, HNE.out]; decide⟩)
  have HX3 := Lib.hid (show (j3.put [97]).first = 2 ∧ (j3.put [97]).next = 3 ∧ (j3.put [97]).note = [120] from ⟨HFF.out, by rw [put_next, HNE.out], HNN.out⟩)
  clear hap hc hB s12 S11 kc
  generalize j3.put [97] = j4 at S12 HB3 HX3
  go_wp2_with fail
  refine (jfirst_st S12.out 2 (by rw [HX3.out.1]; rfl)).mono ?_
  rintro e w13 ⟨rfl, rfl⟩
  go_wp2_with fail
  refine (jnext_st S12.out HB3.out 3 (by rw [HX3.out.2.1]; rfl)).mono ?_
  rintro e w13 ⟨rfl, s13, _⟩
  have S13 := Lib.hid s13
  clear s13 S12
  go_wp2_with fail
  refine (jnote_st S13.out [120] HX3.out.2.2).mono ?_
  rintro e w14 ⟨b14, k14, rfl, h14, s14, _⟩
  have e14 := str_bytes (S := ⟨#[120]⟩) h14.bytes rfl
  have O14 := Lib.hid s14.only
  clear h14 s14 S13
  simp only [List.length_cons, List.length_nil, Nat.zero_add] at e14 ⊢
  go_wp2_with fail
  go_ret
  exact ⟨rfl, O14.out⟩
end Go.Proofs.YtfnedeaemjchgaaGreat
/- A model's journal: what a model's block shows, the calls through it, and its beginning. -/
namespace Go.Proofs.YtfnedeaemjchgaaGreat
open Go.RowKit Go.Maps
set_option linter.unusedSimpArgs false
set_option linter.unusedVariables false

theorem modU (q K : Int) (h0 : 0 < K) (h1 : K ≤ 9223372036854775807) : ∃ j : Nat, (j : Int) < K ∧ IntKind.i64.wrap ((IntKind.u64.wrap q).tmod K) = (j : Int) := by
  have h : 0 ≤ IntKind.u64.wrap q := by rw [IntKind.wrap_u64]; omega
  rw [Int.tmod_eq_emod_of_nonneg h]
  have a := Int.emod_nonneg (IntKind.u64.wrap q) (show K ≠ 0 by omega)
  have b := Int.emod_lt_of_pos (IntKind.u64.wrap q) (show 0 < K by omega)
  refine ⟨(IntKind.u64.wrap q % K).toNat, by omega, ?_⟩
  rw [IntKind.wrap_i64]
  omega
section
variable {w : World} {ops : Array Oper} {o : Oper} {a : Act} {Q : Exit → Act → World → Prop}
/-- 'make([]byte, n)' midway through a region that draws its order. -/
theorem step_make_zero {K : Act → World → Prop} {E : Prop} (hg : o.guard = none) (l c : Operand) (hop : o.op = Op.makeSlice 27 l c) (n : Nat) (hl : a.eval l = .int .i64 (n : Int)) (hc : a.eval c = .int .i64 (n : Int)) (hn : n ≤ 70368744177664)
    (hK : ∀ w' g, BBlk w' g (List.replicate n 0) → w.heap.size ≤ g → Only [] w w' → K (a.put o.dst (.slice (some ⟨g, 0, none⟩) n n)) w') :
    if Region.wanted o (yielded ops a.tmps) = true then Oper.wp Tryz.prog o a w K Q else E := by
  obtain ⟨i, hi, hz⟩ := Option.map_eq_some_iff.1 info_u8'
  simp only [Prod.mk.injEq] at hz
  obtain ⟨z1, z2, z3⟩ := hz
  have hw : Region.wanted o (yielded ops a.tmps) = true := by simp [Region.wanted, hg]
  rw [if_pos hw]
  have hrun := run_make_row (P := Tryz.prog) 27 5 i (.int .u8 0) Tryz.underlying27 hi z1 z2 rfl .i64 .i64 n (by rw [z3]; omega) (by omega) w
  unfold Oper.wp
  simp [execOp, hop, hl, hc, hrun, Result.andThen]
  have := hK (w.alloc (.cells (madeCells #[.int .u8 0] n) 5)) w.heap.size (by rw [made_zeros]; exact heap_new w _) (Nat.le_refl _) ((Only.refl _ _).alloc _)
  exact this
end
/-- Since w0 a model was made, with its device and its journal; nothing that was there has turned. -/
structure JMo (w0 w : World) (m p q : Nat) (a : DA) (d : Disk) (j : JL) (s : SL) : Prop where
  jn : ∃ B, Jn w p q a B d j s ∧ (∀ k ∈ B, w0.heap.size ≤ k) ∧ m ∉ B
  only : Only [] w0 w
  new : w0.heap.size ≤ m
  c0 : w.cell? ⟨m, 0, none⟩ = some (.pointer (some ⟨a.p, 0, none⟩))
  c2 : w.cell? ⟨m, 2, none⟩ = some (.pointer (some ⟨p, 0, none⟩))
section
variable {w0 w w1 w2 : World} {m p q : Nat} {a : DA} {d d' : Disk} {j j' : JL} {s s' : SL}
theorem JMo.quiet (h : JMo w0 w m p q a d j s) (ho : Only [] w w1) : JMo w0 w1 m p q a d j s := by
  obtain ⟨⟨B, h1, h2, h3⟩, h4, h5, h6, h7⟩ := h
  exact ⟨⟨B, h1.quiet ho, h2, h3⟩, h4.trans ho (by simp), h5, cell_kept ho h6 (by simp), cell_kept ho h7 (by simp)⟩
theorem JMo.jm (h : JMo w0 w m p q a d j s) : ∃ vs vt vn vr, JM w p q a vs vt vn vr d j s := by
  obtain ⟨⟨B, h1, _⟩, _⟩ := h
  exact h1.jm
theorem JMo.ok (h : JMo w0 w m p q a d j s) : JOk j := by
  obtain ⟨vs, vt, vn, vr, hm⟩ := h.jm
  exact hm.ok
theorem JMo.to (h : JMo w0 w1 m p q a d j s) (hto : ∀ B, Jn w1 p q a B d j s → (∀ k ∈ B, w0.heap.size ≤ k) → m ∉ B → JTo w1 p q a B d' j' s' w2) : JMo w0 w2 m p q a d' j' s' := by
  obtain ⟨⟨B, h1, h2, h3⟩, h4, h5, h6, h7⟩ := h
  obtain ⟨B', g1, g2, g3⟩ := hto B h1 h2 h3
  refine ⟨⟨B', g1, fun k hk => ?_, fun hk => ?_⟩, h4.trans g2 (fun k hk => .inr (h2 k hk)), h5, cell_kept g2 h6 h3, cell_kept g2 h7 h3⟩
  · rcases g3 k hk with e | e
    · exact h2 k e
    · exact Nat.le_trans h4.size e
  · rcases g3 m hk with e | e
    · exact h3 e
    · have := World.block_lt_of_cell? _ _ h6
      simp only at this
      omega
theorem append_mo (h : JMo w0 w m p q a d j s) (ho : Only [] w w1) (hb : JBig j) (v : Value) (r : Sec) (hr : Bytes w1 v r) (hf : Fresh w v) (hl : r.length ≤ 9223372036854775807) :
    Calls Tryz.prog 17 #[.pointer (some ⟨p, 0, none⟩), v] w1 fun e w' => e = .returned (.tuple #[.int .i64 (j.anum r (j.free - j.booked)), errV (j.acode r (j.free - j.booked))]) ∧ JMo w0 w' m p q a d (j.added r (j.free - j.booked)) s := by
  have h' := h.quiet ho
  obtain ⟨⟨B, h1, h2, h3⟩, h4, h5, h6, h7⟩ := h
  refine (jappend_any (h1.quiet ho) hb v r hr (fun ad n c e _ hm => ?_) hl).mono fun e w' g => ⟨g.1, ?_⟩
  · have := h1.lt _ hm
    have := hf ad n c e
    omega
  · obtain ⟨B', g1, g2, g3⟩ := g.2
    refine ⟨⟨B', g1, fun k hk => ?_, fun hk => ?_⟩, (h4.trans ho (by simp)).trans g2 (fun k hk => .inr (h2 k hk)), h5, cell_kept g2 h'.c0 h3, cell_kept g2 h'.c2 h3⟩
    · rcases g3 k hk with e | e
      · exact h2 k e
      · exact Nat.le_trans (h4.trans ho (by simp)).size e
    · rcases g3 m hk with e | e
      · exact h3 e
      · have := World.block_lt_of_cell? _ _ h'.c0
        simp only at this
        omega
theorem spend_mo (h : JMo w0 w m p q a d j s) (ho : Only [] w w1) (hb : JBig j) (v : Value) (r : Sec) (hr : Bytes w1 v r) (hf : Fresh w v) (hl : r.length ≤ 9223372036854775807) :
    Calls Tryz.prog 23 #[.pointer (some ⟨p, 0, none⟩), v] w1 fun e w' => e = .returned (.tuple #[.int .i64 (j.anum r j.free), errV (j.acode r j.free)]) ∧ JMo w0 w' m p q a d (j.added r j.free) s := by
  have h' := h.quiet ho
  obtain ⟨⟨B, h1, h2, h3⟩, h4, h5, h6, h7⟩ := h
  refine (jspend_any (h1.quiet ho) hb v r hr (fun ad n c e _ hm => ?_) hl).mono fun e w' g => ⟨g.1, ?_⟩
  · have := h1.lt _ hm
    have := hf ad n c e
    omega
  · obtain ⟨B', g1, g2, g3⟩ := g.2
    refine ⟨⟨B', g1, fun k hk => ?_, fun hk => ?_⟩, (h4.trans ho (by simp)).trans g2 (fun k hk => .inr (h2 k hk)), h5, cell_kept g2 h'.c0 h3, cell_kept g2 h'.c2 h3⟩
    · rcases g3 k hk with e | e
      · exact h2 k e
      · exact Nat.le_trans (h4.trans ho (by simp)).size e
    · rcases g3 m hk with e | e
      · exact h3 e
      · have := World.block_lt_of_cell? _ _ h'.c0
        simp only at this
        omega
theorem trim_mo (h : JMo w0 w m p q a d j s) (hb : JBig j) (x : Int) :
    Calls Tryz.prog 18 #[.pointer (some ⟨p, 0, none⟩), .int .i64 x, .slice none 0 0] w fun e w' => e = .returned (errV (j.trimR d s x []).c) ∧ JMo w0 w' m p q a (j.trimR d s x []).d (j.trimR d s x []).j (j.trimR d s x []).s := by
  have h' := h
  obtain ⟨⟨B, h1, h2, h3⟩, h4, h5, h6, h7⟩ := h
  refine (jtrim_any h1 hb x _ [] (bytes_nil _ _) (fun ad n c e _ hm => by cases e) (by decide)).mono fun e w' g => ⟨g.1, ?_⟩
  obtain ⟨B', g1, g2, g3⟩ := g.2
  refine ⟨⟨B', g1, fun k hk => ?_, fun hk => ?_⟩, h4.trans g2 (fun k hk => .inr (h2 k hk)), h5, cell_kept g2 h'.c0 h3, cell_kept g2 h'.c2 h3⟩
  · rcases g3 k hk with e | e
    · exact h2 k e
    · exact Nat.le_trans h4.size e
  · rcases g3 m hk with e | e
    · exact h3 e
    · have := World.block_lt_of_cell? _ _ h'.c0
      simp only at this
      omega
theorem flush_mo (h : JMo w0 w m p q a d j s) (hb : JBig j) :
    Calls Tryz.prog 12 #[.pointer (some ⟨p, 0, none⟩)] w fun e w' => e = .returned (errV (j.flushR d s).c) ∧ JMo w0 w' m p q a (j.flushR d s).d (j.flushR d s).j (j.flushR d s).s := by
  have h' := h
  obtain ⟨⟨B, ⟨vs, vt, vn, vr, hm, rfl⟩, h2, h3⟩, h4, h5, h6, h7⟩ := h
  refine (jflush_any hm hb).mono fun e w' g => ⟨g.ans, ?_⟩
  obtain ⟨B', g1, g2, g3⟩ := (RPost.to hm g).2
  refine ⟨⟨B', g1, fun k hk => ?_, fun hk => ?_⟩, h4.trans g2 (fun k hk => .inr (h2 k hk)), h5, cell_kept g2 h'.c0 h3, cell_kept g2 h'.c2 h3⟩
  · rcases g3 k hk with e | e
    · exact h2 k e
    · exact Nat.le_trans h4.size e
  · rcases g3 m hk with e | e
    · exact h3 e
    · have := World.block_lt_of_cell? _ _ h'.c0
      simp only at this
      omega
theorem book_mo (h : JMo w0 w m p q a d j s) (n : Int) :
    Calls Tryz.prog 26 #[.pointer (some ⟨p, 0, none⟩), .int .i64 n] w fun e w' => e = .returned (errV (j.bcode n)) ∧ JMo w0 w' m p q a d (j.book n) s := by
  have h' := h
  obtain ⟨⟨B, h1, h2, h3⟩, h4, h5, h6, h7⟩ := h
  refine (jbook_any h1 n).mono fun e w' g => ⟨g.1, ?_⟩
  obtain ⟨B', g1, g2, g3⟩ := g.2
  refine ⟨⟨B', g1, fun k hk => ?_, fun hk => ?_⟩, h4.trans g2 (fun k hk => .inr (h2 k hk)), h5, cell_kept g2 h'.c0 h3, cell_kept g2 h'.c2 h3⟩
  · rcases g3 k hk with e | e
    · exact h2 k e
    · exact Nat.le_trans h4.size e
  · rcases g3 m hk with e | e
    · exact h3 e
    · have := World.block_lt_of_cell? _ _ h'.c0
      simp only at this
      omega
theorem free_mo (h : JMo w0 w m p q a d j s) (n : Int) (hn : j.free = n) : Calls Tryz.prog 16 #[.pointer (some ⟨p, 0, none⟩)] w fun e w' => e = .returned (.int .i64 n) ∧ JMo w0 w' m p q a d j s ∧ Only [] w w' := by
  subst hn
  obtain ⟨vs, vt, vn, vr, hm⟩ := h.jm
  exact (jfree_any hm).mono fun e w' ⟨h1, h2⟩ => ⟨h1, h.quiet h2.only, h2.only⟩
theorem next_mo (h : JMo w0 w m p q a d j s) (hb : JBig j) (n : Int) (hn : (j.next : Int) = n) : Calls Tryz.prog 20 #[.pointer (some ⟨p, 0, none⟩)] w fun e w' => e = .returned (.int .i64 n) ∧ JMo w0 w' m p q a d j s ∧ Only [] w w' := by
  subst hn
  obtain ⟨vs, vt, vn, vr, hm⟩ := h.jm
  exact (jnext_any hm hb).mono fun e w' ⟨h1, h2⟩ => ⟨h1, h.quiet h2.only, h2.only⟩
theorem first_mo (h : JMo w0 w m p q a d j s) (n : Int) (hn : (j.first : Int) = n) : Calls Tryz.prog 19 #[.pointer (some ⟨p, 0, none⟩)] w fun e w' => e = .returned (.int .i64 n) ∧ w = w' := by
  subst hn
  obtain ⟨vs, vt, vn, vr, hm⟩ := h.jm
  exact jfirst_any hm
end

set_option maxRecDepth 100000 in
set_option maxHeartbeats 4000000 in
/-- A model begins. -/
theorem begun_any (n : Nat) (w : World) (h0 : 2 ≤ n) (h1 : n ≤ 2048) :
    Calls Tryz.prog 7 #[.int .i64 n] w fun e w' => ∃ m p q a d, e = .returned (.pointer (some ⟨m, 0, none⟩)) ∧ JMo w w' m p q a d (JL.new 1 n) ⟨1, 1, row0, false⟩ ∧ d.Calm ∧ JGood d ⟨1, 1, row0, false⟩ (JL.new 1 n) ∧
      ∃ g, w'.heap[m]? = some (.cells #[.pointer (some ⟨a.p, 0, none⟩), .int .i64 n, .pointer (some ⟨p, 0, none⟩), .slice none 0 0, .slice (some ⟨g, 0, none⟩) 1 1, .int .i64 1, .string ⟨#[]⟩, .int .i64 1, .int .i64 0, .bool false, .slice none 0 0] 44 (0, 0)) := by
  have q0 := iface_nil
  have q1 := iface_ne
  have q2 := iface_nerr
  have e3 : IntKind.i64.wrap ((n : Int) + 3) = (n : Int) + 3 := by rw [IntKind.wrap_i64]; omega
  go_enter Tryz.func7, Tryz.ntmps7
  go_wp2_with fail
  refine (new_st ((n : Int) + 3) w (by omega) (by omega)).mono ?_
  rintro e w1 ⟨a, rfl, s1⟩
  go_wp2_with fail
  refine (format_new (at_ := 1) (n := n) s1 (Disk.Calm.fresh _) (jfitB_iff.2 ⟨by omega, by omega, by omega, by show (1 : Int) ≤ (n : Int) + 3 - 2 - n; omega⟩)).mono ?_
  rintro e w2 ⟨p, q, rfl, s2, m2, g2⟩
  have S2 := Lib.hid s2
  have M2 := Lib.hid m2
  have G2 := Lib.hid g2
  clear s1 s2 m2 g2
  generalize (Disk.fresh ((n : Int) + 3)).jfm 1 n = d2 at S2 M2 G2
  go_wp2_with fail
  go_ret
  have oA : Only [] w2 (w2.alloc (.cells #[.int .i64 0] 3)) := (Only.refl [] w2).alloc _
  have hsz : (w2.alloc (.cells #[.int .i64 0] 3)).heap.size = w2.heap.size + 1 := Array.size_push _
  generalize w2.alloc (.cells #[.int .i64 0] 3) = w3 at oA hsz ⊢
  generalize hC : (Obj.cells #[.pointer (some ⟨a.p, 0, none⟩), .int .i64 n, .pointer (some ⟨p, 0, none⟩), .slice none 0 0, .slice (some ⟨w2.heap.size, 0, none⟩) 1 1, .int .i64 1, .string ⟨#[]⟩, .int .i64 1, .int .i64 0, .bool false, .slice none 0 0] 44) = C
  have oB : Only [] w3 (w3.alloc C) := (Only.refl [] w3).alloc _
  have oC : Only [] w2 (w3.alloc C) := oA.trans oB (by simp)
  have hk : (w3.alloc C).heap[w2.heap.size + 1]? = some C := by rw [← hsz]; exact heap_new _ _
  subst hC
  obtain ⟨⟨B, j2, hB⟩, o2⟩ := S2.out
  exact ⟨w2.heap.size + 1, p, q, a, d2, rfl, ⟨⟨B, j2.quiet oC, hB, fun hm => by have := j2.lt _ hm; omega⟩, o2.trans oC (by simp), by have := o2.size; omega, cell_at 0 hk, cell_at 2 hk⟩, M2.out, G2.out, w2.heap.size, hk⟩
end Go.Proofs.YtfnedeaemjchgaaGreat
/- A journal over a model's device: crashes, openings, what is read. -/
namespace Go.Proofs.YtfnedeaemjchgaaGreat
open Go.RowKit Go.Maps
set_option linter.unusedSimpArgs false
set_option linter.unusedVariables false

/-- A journal over a device that a model names, made since w0; nothing that was there has turned. -/
structure JMq (w0 w : World) (m p q : Nat) (a : DA) (d : Disk) (j : JL) (s : SL) : Prop where
  jn : ∃ B, Jn w p q a B d j s ∧ (∀ k ∈ B, w0.heap.size ≤ k) ∧ m ∉ B
  only : Only [] w0 w
  c0 : w.cell? ⟨m, 0, none⟩ = some (.pointer (some ⟨a.p, 0, none⟩))
section
variable {w0 w w1 w2 : World} {m p q : Nat} {a : DA} {d d' : Disk} {j j' : JL} {s s' s0 : SL}
theorem JMo.jq (h : JMo w0 w m p q a d j s) : JMq w0 w m p q a d j s := ⟨h.jn, h.only, h.c0⟩
theorem JMq.quiet (h : JMq w0 w m p q a d j s) (ho : Only [] w w1) : JMq w0 w1 m p q a d j s := by
  obtain ⟨⟨B, h1, h2, h3⟩, h4, h6⟩ := h
  exact ⟨⟨B, h1.quiet ho, h2, h3⟩, h4.trans ho (by simp), cell_kept ho h6 (by simp)⟩
theorem JMq.jm (h : JMq w0 w m p q a d j s) : ∃ vs vt vn vr, JM w p q a vs vt vn vr d j s := by
  obtain ⟨⟨B, h1, _⟩, _⟩ := h
  exact h1.jm
theorem JMq.dev (h : JMq w0 w m p q a d j s) : Dev w a d := by
  obtain ⟨vs, vt, vn, vr, hm⟩ := h.jm
  exact hm.dev
theorem JMq.bl (h : JMq w0 w m p q a d j s) : (∀ k ∈ a.bl, w0.heap.size ≤ k) ∧ m ∉ a.bl := by
  obtain ⟨⟨B, ⟨vs, vt, vn, vr, hm, rfl⟩, h2, h3⟩, _, _⟩ := h
  exact ⟨fun k hk => h2 k (jbl_dev hk), fun hk => h3 (jbl_dev hk)⟩
theorem JMq.turn (h : JMq w0 w m p q a d j s) (ho : Only a.bl w w1) (hd : Dev w1 a d') (hz : d'.size = d.size) : JMq w0 w1 m p q a d' j s := by
  have hb := h.bl
  obtain ⟨⟨B, ⟨vs, vt, vn, vr, hm, rfl⟩, h2, h3⟩, h4, h6⟩ := h
  exact ⟨⟨_, ⟨vs, vt, vn, vr, hm.setD ho hd hz, rfl⟩, h2, h3⟩, h4.trans ho (fun k hk => .inr (hb.1 k hk)), cell_kept ho h6 hb.2⟩
theorem JMo.turn (h : JMo w0 w m p q a d j s) (ho : Only a.bl w w1) (hd : Dev w1 a d') (hz : d'.size = d.size) : JMo w0 w1 m p q a d' j s := by
  have hb := h.jq.bl
  obtain ⟨h1, h2, h3⟩ := h.jq.turn ho hd hz
  exact ⟨h1, h2, h.new, h3, cell_kept ho h.c2 hb.2⟩
theorem arm_mo (h : JMo w0 w m p q a d j s) (n : Int) (hn : 0 ≤ n) :
    Calls Tryz.prog 10 #[.pointer (some ⟨a.p, 0, none⟩), .int .i64 n] w fun e w' => e = .returned .nilIface ∧ JMo w0 w' m p q a { d with met := d.met.arm n } j s :=
  (arm_all n h.jq.dev hn).mono fun e w' ⟨h1, h2, h3⟩ => ⟨h1, h.turn h3 h2 rfl⟩
theorem JMq.offI (h : JMq w0 w m p q a d j s) {kv : Value} {ks : List Int} (hk : IntsV w0 kv ks) : Off kv a.bl := fun ad n c e hn hm => by
  obtain ⟨ka, kc, rfl, hc⟩ := hk
  cases e
  obtain ⟨_, b, off, e2, hcell⟩ := hc 0 (ks[0]'hn) (List.getElem?_eq_getElem hn)
  cases e2
  have h1 := World.block_lt_of_cell? _ _ hcell
  have h2 := h.bl.1 _ hm
  simp only at h1 h2
  omega
theorem crash_mq (h : JMq w0 w m p q a d j s) (kv : Value) (ks : List Int) (hk : IntsV w0 kv ks) (hl : ks.length ≤ 9223372036854775807) :
    Calls Tryz.prog 42 #[.pointer (some ⟨a.p, 0, none⟩), kv] w fun e w' => e = .returned (.tuple #[]) ∧ JMq w0 w' m p q a (d.crash ks) j s :=
  (Crash_any a d kv ks w h.dev (hk.kept h.only (fun _ _ _ _ _ => by simp)) (h.offI hk) hl).mono fun e w' ⟨h1, h2, h3⟩ => ⟨h1, h.turn h3 h2 rfl⟩
theorem ints_nil (w : World) : IntsV w (.slice none 0 0) [] := ⟨none, 0, rfl, fun i k h => by simp at h⟩
theorem opened_big {recs : List Sec} {note : Sec} (h : JHolds d s0 1 60 1 0 recs note) : 2 * recs.length ≤ 28200 ∧ (flat recs).length ≤ 28200 := by
  have h1 := h.room
  have h2 := flat_count recs
  omega
theorem opened_jbig {recs : List Sec} {note : Sec} (h : JHolds d s0 1 60 1 0 recs note) : JBig (JL.opened 1 60 1 0 recs note) := by
  obtain ⟨h1, h2⟩ := opened_big h
  exact ⟨by show 0 + (flat recs).length ≤ _; omega, by show 1 + recs.length ≤ _; omega⟩
theorem open_mq {recs : List Sec} {note : Sec} (h : JMq w0 w m p q a d j s) (hdn : d.met.down = false) (hj : JHolds d s0 1 60 1 0 recs note) :
    Calls Tryz.prog 43 #[.pointer (some ⟨a.p, 0, none⟩), .int .i64 1, .int .i64 60] w fun e w' => ∃ p2 q2, e = .returned (.tuple #[.pointer (some ⟨p2, 0, none⟩), .nilIface]) ∧
      JMq w0 w' m p2 q2 a d (JL.opened 1 60 1 0 recs note) ⟨1, s0.n, s0.row, false⟩ ∧ Only [] w w' := by
  obtain ⟨h1, h2⟩ := opened_big hj
  refine (jopen_any (n := 60) h.dev hdn hj (by omega) (by omega)).mono ?_
  rintro e w' ⟨p2, q2, B, rfl, hn, ho, hB⟩
  have hb := h.bl
  refine ⟨p2, q2, rfl, ⟨⟨B, hn, fun k hk => ?_, fun hk => ?_⟩, h.only.trans ho (by simp), cell_kept ho h.c0 (by simp)⟩, ho⟩
  · rcases hB k hk with e | e
    · exact hb.1 k e
    · exact Nat.le_trans h.only.size e
  · rcases hB m hk with e | e
    · exact hb.2 e
    · have := World.block_lt_of_cell? _ _ h.c0
      simp only at this
      omega
theorem free_mq (h : JMq w0 w m p q a d j s) (n : Int) (hn : j.free = n) : Calls Tryz.prog 16 #[.pointer (some ⟨p, 0, none⟩)] w fun e w' => e = .returned (.int .i64 n) ∧ Only [] w w' := by
  subst hn
  obtain ⟨vs, vt, vn, vr, hm⟩ := h.jm
  exact (jfree_any hm).mono fun e w' ⟨h1, h2⟩ => ⟨h1, h2.only⟩
theorem next_mq (h : JMq w0 w m p q a d j s) (hb : JBig j) (n : Int) (hn : (j.next : Int) = n) : Calls Tryz.prog 20 #[.pointer (some ⟨p, 0, none⟩)] w fun e w' => e = .returned (.int .i64 n) ∧ Only [] w w' := by
  subst hn
  obtain ⟨vs, vt, vn, vr, hm⟩ := h.jm
  exact (jnext_any hm hb).mono fun e w' ⟨h1, h2⟩ => ⟨h1, h2.only⟩
theorem first_mq (h : JMq w0 w m p q a d j s) (n : Int) (hn : (j.first : Int) = n) : Calls Tryz.prog 19 #[.pointer (some ⟨p, 0, none⟩)] w fun e w' => e = .returned (.int .i64 n) ∧ w = w' := by
  subst hn
  obtain ⟨vs, vt, vn, vr, hm⟩ := h.jm
  exact jfirst_any hm
theorem get_mq (h : JMq w0 w m p q a d j s) (hb : JBig j) (k : Nat) (r : Sec) (hr : j.recs[k]? = some r) (x : Int) (hx : x = (j.first : Int) + k) :
    Calls Tryz.prog 30 #[.pointer (some ⟨p, 0, none⟩), .int .i64 x] w fun e w' => ∃ b c, e = .returned (.tuple #[.slice b r.length c, .nilIface]) ∧ Own w' w.heap.size (.slice b r.length c) r ∧ Only [] w w' := by
  obtain ⟨vs, vt, vn, vr, hm⟩ := h.jm
  exact jget_yes hm hb k r hr x hx
/-- Behind a Flush that may be cut and a crash, the device holds a journal. -/
theorem after_flush (h : JOk j) (hb : JBig j) (hj : JGood d s j) (hn : s.n < 4611686018427387904) (ks : List Int) : ∃ s' recs, JHolds ((j.flushR d s).d.crash ks) s' j.at_ j.n j.first j.start recs j.note := by
  rcases flush_good h hb hj hn with ⟨_, _, g, _⟩ | ⟨_, _, _, g⟩
  · exact ⟨_, _, g.has.crash ks⟩
  · obtain ⟨m, s', _, _, _, hh⟩ := g ks
    exact ⟨s', _, hh⟩
theorem JGood.arm (hj : JGood d s j) (n : Int) : JGood { d with met := d.met.arm n } s j := ⟨hj.has.arm n, hj.cut, hj.down, hj.dead⟩
end
end Go.Proofs.YtfnedeaemjchgaaGreat

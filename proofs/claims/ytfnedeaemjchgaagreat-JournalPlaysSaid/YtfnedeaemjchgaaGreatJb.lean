/- A journal: Append, Spend, Book, Unbook, met. -/
import Derived.Test.YtfnedeaemjchgaaGreatJa
namespace Go.Proofs.YtfnedeaemjchgaaGreat
open Go.RowKit Go.Maps
set_option linter.unusedSimpArgs false
set_option linter.unusedVariables false

section
variable {w w1 w2 : World} {p q : Nat} {a : DA} {B : List Nat} {d d' : Disk} {j j' : JL} {s s' : SL}
theorem JTo.before (ho : Only [] w w1) (h : JTo w1 p q a B d j s w2) : JTo w p q a B d j s w2 := by
  obtain ⟨B', h1, h2, h3⟩ := h
  exact ⟨B', h1, (ho.mono (by simp)).trans h2 (fun k hk => .inl hk), fun k hk => (h3 k hk).imp id (fun h => Nat.le_trans ho.size h)⟩
theorem Jn.jm (h : Jn w p q a B d j s) : ∃ vs vt vn vr, JM w p q a vs vt vn vr d j s := by
  obtain ⟨vs, vt, vn, vr, hm, _⟩ := h
  exact ⟨vs, vt, vn, vr, hm⟩
theorem Jn.ok (h : Jn w p q a B d j s) : JOk j := by
  obtain ⟨vs, vt, vn, vr, hm⟩ := h.jm
  exact hm.ok
end
theorem off_same {S : List Nat} {v : Value} {w w1 : World} {l : Sec} (h : Off v S) (hb : Bytes w v l) (ho : Only [] w w1) : Off v S := h

set_option maxRecDepth 100000 in
theorem jappend_nil (rv : Value) (r : Sec) (w : World) (hr : Bytes w rv r) : Calls Tryz.prog 17 #[.pointer none, rv] w fun e w' => e = .returned (.tuple #[.int .i64 0, err 3]) ∧ w = w' := by
  obtain ⟨ra, rc, rfl, -⟩ := hr
  go_enter Tryz.func17, Tryz.ntmps17
  go_wp2_with fail
  refine (jfree_nil _).mono ?_
  rintro e w' ⟨rfl, rfl⟩
  go_wp2_with fail
  refine (jbooked_nil _).mono ?_
  rintro e w' ⟨rfl, rfl⟩
  go_wp2_with fail
  refine ((?_ : Calls Tryz.prog 47 #[.pointer none, .slice ra r.length rc, .int .i64 0] w fun e w' => e = .returned (.tuple #[.int .i64 0, err 3]) ∧ w = w')).mono ?_
  · go_enter Tryz.func47, Tryz.ntmps47
    go_wp2_with fail
    refine (jdead_nil _).mono ?_
    rintro e w' ⟨rfl, rfl⟩
    go_wp2_with fail
    go_ret2
    exact ⟨rfl, rfl⟩
  rintro e w' ⟨rfl, rfl⟩
  go_wp2_with fail
  go_ret2
  exact ⟨rfl, rfl⟩
set_option maxRecDepth 100000 in
theorem jspend_nil (rv : Value) (r : Sec) (w : World) (hr : Bytes w rv r) : Calls Tryz.prog 23 #[.pointer none, rv] w fun e w' => e = .returned (.tuple #[.int .i64 0, err 3]) ∧ w = w' := by
  obtain ⟨ra, rc, rfl, -⟩ := hr
  go_enter Tryz.func23, Tryz.ntmps23
  go_wp2_with fail
  refine (jfree_nil _).mono ?_
  rintro e w' ⟨rfl, rfl⟩
  go_wp2_with fail
  refine ((?_ : Calls Tryz.prog 47 #[.pointer none, .slice ra r.length rc, .int .i64 0] w fun e w' => e = .returned (.tuple #[.int .i64 0, err 3]) ∧ w = w')).mono ?_
  · go_enter Tryz.func47, Tryz.ntmps47
    go_wp2_with fail
    refine (jdead_nil _).mono ?_
    rintro e w' ⟨rfl, rfl⟩
    go_wp2_with fail
    go_ret2
    exact ⟨rfl, rfl⟩
  rintro e w' ⟨rfl, rfl⟩
  go_wp2_with fail
  go_ret2
  exact ⟨rfl, rfl⟩
theorem ret_pair {n : Int} {v : Value} {x : Value} (h : x = .tuple #[.int .i64 n, v]) : Ending.returned x = .returned (.tuple #[.int .i64 n, v]) := by rw [h]

set_option maxRecDepth 100000 in
theorem jappend_any {w : World} {p q : Nat} {a : DA} {B : List Nat} {d : Disk} {j : JL} {s : SL} (h : Jn w p q a B d j s) (hb : JBig j) (rv : Value) (r : Sec) (hr : Bytes w rv r) (hoff : Off rv B) (hrl : r.length ≤ 9223372036854775807) :
    Calls Tryz.prog 17 #[.pointer (some ⟨p, 0, none⟩), rv] w (AddPost w p q a B d j s r (j.free - j.booked)) := by
  obtain ⟨vs, vt, vn, vr, hm⟩ := h.jm
  have H := Lib.hid h
  have HB := Lib.hid hb
  have HM := Lib.hid hm
  have HR := Lib.hid hr
  have HO := Lib.hid hoff
  have hn := hm.ok.nm
  have hl := hm.ok.len
  have hk := hm.ok.booked
  have e0 : j.free = (j.n : Int) * 470 - (j.stream.length : Int) := rfl
  have hf0 : -962560 ≤ j.free := by omega
  have hf1 : j.free ≤ 962560 := by omega
  have hk0 : (j.booked : Int) ≤ 962560 := by omega
  clear h hb hm hr hoff hn hl hk e0
  obtain ⟨ra, rc, rfl, -⟩ := id HR.out
  go_enter Tryz.func17, Tryz.ntmps17
  go_wp2_with fail
  refine (jfree_any HM.out).mono ?_
  rintro e w1 ⟨rfl, hd1⟩
  have O1 := Lib.hid hd1.only
  have M1 := Lib.hid (HM.out.quiet hd1.only)
  clear hd1 HM
  go_wp2_with fail
  refine (jbooked_any M1.out).mono ?_
  rintro e w2 ⟨rfl, rfl⟩
  go_wp2_with fail
  refine (jadd_any (H.out.quiet O1.out) HB.out _ r (HR.out.kept O1.out (clean_nil _)) HO.out hrl _ (by omega)).mono ?_
  rintro e w3 ⟨rfl, h3⟩
  have F := Lib.hid (JTo.before O1.out h3)
  clear h3 H HR O1 M1
  go_wp2_with fail
  go_ret2
  exact ⟨rfl, F.out⟩
set_option maxRecDepth 100000 in
theorem jspend_any {w : World} {p q : Nat} {a : DA} {B : List Nat} {d : Disk} {j : JL} {s : SL} (h : Jn w p q a B d j s) (hb : JBig j) (rv : Value) (r : Sec) (hr : Bytes w rv r) (hoff : Off rv B) (hrl : r.length ≤ 9223372036854775807) :
    Calls Tryz.prog 23 #[.pointer (some ⟨p, 0, none⟩), rv] w (AddPost w p q a B d j s r j.free) := by
  obtain ⟨vs, vt, vn, vr, hm⟩ := h.jm
  have H := Lib.hid h
  have HB := Lib.hid hb
  have HM := Lib.hid hm
  have HR := Lib.hid hr
  have HO := Lib.hid hoff
  clear h hb hm hr hoff
  obtain ⟨ra, rc, rfl, -⟩ := id HR.out
  go_enter Tryz.func23, Tryz.ntmps23
  go_wp2_with fail
  refine (jfree_any HM.out).mono ?_
  rintro e w1 ⟨rfl, hd1⟩
  have O1 := Lib.hid hd1.only
  clear hd1 HM
  go_wp2_with fail
  refine (jadd_any (H.out.quiet O1.out) HB.out _ r (HR.out.kept O1.out (clean_nil _)) HO.out hrl _ (Int.le_refl _)).mono ?_
  rintro e w3 ⟨rfl, h3⟩
  have F := Lib.hid (JTo.before O1.out h3)
  clear h3 H HR O1
  go_wp2_with fail
  go_ret2
  exact ⟨rfl, F.out⟩

/-! ### Book, Unbook -/
def JL.bcode (j : JL) (n : Int) : Int := if n < 0 then 1 else if j.free - j.booked < n then 5 else 0
def JL.book (j : JL) (n : Int) : JL := if j.bcode n = 0 then { j with booked := j.booked + n.toNat } else j
def JL.unbook (j : JL) (n : Int) : JL := if n < 0 then j else { j with booked := j.booked - n.toNat }
theorem bcode_1 {j : JL} {n : Int} (h : n < 0) : j.bcode n = 1 := if_pos h
theorem bcode_5 {j : JL} {n : Int} (h : ¬ n < 0) (h2 : j.free - j.booked < n) : j.bcode n = 5 := by unfold JL.bcode; rw [if_neg h, if_pos h2]
theorem bcode_0 {j : JL} {n : Int} (h : ¬ n < 0) (h2 : ¬ j.free - j.booked < n) : j.bcode n = 0 := by unfold JL.bcode; rw [if_neg h, if_neg h2]
theorem book_no {j : JL} {n : Int} (h : j.bcode n ≠ 0) : j.book n = j := if_neg h
theorem book_yes {j : JL} {n : Int} (h : j.bcode n = 0) : j.book n = { j with booked := j.booked + n.toNat } := if_pos h
theorem JOk.free_le {j : JL} (h : JOk j) : j.free ≤ (j.n : Int) * 470 ∧ 0 ≤ j.free := by
  have := h.room
  unfold JL.free
  omega
def BookPost (w : World) (p q : Nat) (a : DA) (B : List Nat) (d : Disk) (j : JL) (s : SL) (n : Int) (e : Ending) (w' : World) : Prop :=
  e = .returned (errV (j.bcode n)) ∧ JTo w p q a B d (j.book n) s w'
set_option maxRecDepth 100000 in
theorem jbook_any {w : World} {p q : Nat} {a : DA} {B : List Nat} {d : Disk} {j : JL} {s : SL} (h : Jn w p q a B d j s) (n : Int) :
    Calls Tryz.prog 26 #[.pointer (some ⟨p, 0, none⟩), .int .i64 n] w (BookPost w p q a B d j s n) := by
  obtain ⟨vs, vt, vn, vr, hm, rfl⟩ := h
  have HM := Lib.hid hm
  have hok := hm.ok
  have hn := hok.nm
  have hk := hok.booked
  have hf := hok.free_le
  have HOK := Lib.hid hok
  have hf0 : 0 ≤ j.free := by omega
  have hf1 : j.free ≤ 962560 := by omega
  have hk0 : (j.booked : Int) ≤ 962560 := by omega
  by_cases h0 : n < 0
  · have f : BookPost w p q a (jbl p q a vs vt vn vr) d j s n (.returned (err 1)) w := ⟨by rw [bcode_1 h0]; rfl, by rw [book_no (by rw [bcode_1 h0]; decide)]; exact .stay ⟨_, _, _, _, hm, rfl⟩⟩
    have F := Lib.hid f
    clear hm f hok hf
    go_enter Tryz.func26, Tryz.ntmps26
    go_wp2_with fail
    go_ret
    exact F.out
  by_cases h5 : j.free - j.booked < n
  · have hno : j.book n = j := book_no (by rw [bcode_5 h0 h5]; decide)
    have HNO := Lib.hid hno
    have HC := Lib.hid (bcode_5 h0 h5)
    have H5 := Lib.hid h5
    clear hm hok hf hno
    go_enter Tryz.func26, Tryz.ntmps26
    go_wp2_with fail
    refine (jfree_any HM.out).mono ?_
    rintro e w1 ⟨rfl, hd1⟩
    have O1 := Lib.hid hd1.only
    have M1 := Lib.hid (HM.out.quiet hd1.only)
    clear hd1
    go_wp2_with fail
    refine (jbooked_any M1.out).mono ?_
    rintro e w2 ⟨rfl, rfl⟩
    go_wp2_with fail
    go_ret
    exact ⟨by rw [HC.out]; rfl, by rw [HNO.out]; exact .same ⟨_, _, _, _, M1.out, rfl⟩ O1.out⟩
  have hc := bcode_0 h0 h5
  have HC := Lib.hid hc
  have hno : j.book n = { j with booked := j.booked + n.toNat } := book_yes hc
  have HNO := Lib.hid hno
  have hn2 : n ≤ 962560 := by omega
  clear hm hok hf hno hc
  go_enter Tryz.func26, Tryz.ntmps26
  go_wp2_with fail
  refine (jfree_any HM.out).mono ?_
  rintro e w1 ⟨rfl, hd1⟩
  have O1 := Lib.hid hd1.only
  have M1 := Lib.hid (HM.out.quiet hd1.only)
  clear hd1
  go_wp2_with fail
  refine (jbooked_any M1.out).mono ?_
  rintro e w2 ⟨rfl, rfl⟩
  have c10 := M1.out.c10
  have f10 := M1.out.free 10
  go_wp2_with fail
  have H2 := M1.out.jw.set 10 (.int .i64 ((j.booked : Int) + n))
  have o2 : Only [p] w1 (w1.setCell ⟨p, 10, none⟩ (.int .i64 ((j.booked : Int) + n))) := (Only.refl _ _).setCell (by simp) _
  go_ret
  refine ⟨by rw [HC.out]; rfl, ?_⟩
  rw [HNO.out]
  have hj : JOk { j with booked := j.booked + n.toNat } := ⟨HOK.out.pre, HOK.out.fl, HOK.out.first, HOK.out.recs, HOK.out.room, HOK.out.n2, HOK.out.nm, HOK.out.note, (by have := HOK.out.free_le; show j.booked + n.toNat ≤ j.n * 470; omega), HOK.out.at0, HOK.out.at1⟩
  refine JTo.before O1.out (JM.to M1.out (H2.jm (j := { j with booked := j.booked + n.toNat }) ?_ rfl rfl rfl hj M1.out.here M1.out.at_) (o2.mono (fun k hk => jbl_one hk)) (fun g hg => .inl hg) (fun g hg => .inl hg) (fun g hg => .inl hg) (fun g hg => .inl hg))
  have e1 : ((j.booked + n.toNat : Nat) : Int) = (j.booked : Int) + n := by omega
  simp only [jcells, e1]
  rfl
set_option maxRecDepth 100000 in
theorem junbook_any {w : World} {p q : Nat} {a : DA} {B : List Nat} {d : Disk} {j : JL} {s : SL} (h : Jn w p q a B d j s) (n : Int) (hn : n ≤ 9223372036854775807) :
    Calls Tryz.prog 28 #[.pointer (some ⟨p, 0, none⟩), .int .i64 n] w fun e w' => e = .returned (.tuple #[]) ∧ JTo w p q a B d (j.unbook n) s w' := by
  obtain ⟨vs, vt, vn, vr, hm, rfl⟩ := h
  by_cases h0 : n < 0
  · have f : JTo w p q a (jbl p q a vs vt vn vr) d (j.unbook n) s w := by
      rw [show j.unbook n = j from if_pos h0]
      exact .stay ⟨_, _, _, _, hm, rfl⟩
    have F := Lib.hid f
    clear hm f
    go_enter Tryz.func28, Tryz.ntmps28
    go_wp2_with fail
    go_returns
    exact ⟨rfl, F.out⟩
  have hok := hm.ok
  have hn2 := hok.nm
  have hk := hok.booked
  have hk0 : (j.booked : Int) ≤ 962560 := by omega
  have hj : JOk { j with booked := j.booked - n.toNat } := ⟨hok.pre, hok.fl, hok.first, hok.recs, hok.room, hok.n2, hok.nm, hok.note, (by show j.booked - n.toNat ≤ j.n * 470; omega), hok.at0, hok.at1⟩
  have HJ := Lib.hid hj
  have M1 := Lib.hid hm
  have hno : j.unbook n = { j with booked := j.booked - n.toNat } := if_neg h0
  have HNO := Lib.hid hno
  have c10 := hm.c10
  have f10 := hm.free 10
  clear hm hok hj hno
  have key : ∀ x : Int, x = ((j.booked - n.toNat : Nat) : Int) → JTo w p q a (jbl p q a vs vt vn vr) d (j.unbook n) s (w.setCell ⟨p, 10, none⟩ (.int .i64 x)) := fun x hx => by
    have H2 := M1.out.jw.set 10 (.int .i64 x)
    have o2 : Only [p] w (w.setCell ⟨p, 10, none⟩ (.int .i64 x)) := (Only.refl _ _).setCell (by simp) _
    rw [HNO.out]
    refine JM.to M1.out (H2.jm (j := { j with booked := j.booked - n.toNat }) ?_ rfl rfl rfl HJ.out M1.out.here M1.out.at_) (o2.mono (fun k hk => jbl_one hk)) (fun g hg => .inl hg) (fun g hg => .inl hg) (fun g hg => .inl hg) (fun g hg => .inl hg)
    subst hx
    rfl
  have KEY := Lib.hid key
  clear key
  by_cases h1 : (j.booked : Int) - n ≤ 0
  · go_enter Tryz.func28, Tryz.ntmps28
    go_wp2_with fail
    all_goals
      go_returns
      exact ⟨rfl, KEY.out _ (by omega)⟩
  · go_enter Tryz.func28, Tryz.ntmps28
    go_wp2_with fail
    all_goals
      go_returns
      exact ⟨rfl, KEY.out _ (by omega)⟩

/-! ### met -/
def JL.die (j : JL) (b : Bool) : JL := { j with dead := b }
theorem JOk.die {j : JL} (h : JOk j) (b : Bool) : JOk (j.die b) := ⟨h.pre, h.fl, h.first, h.recs, h.room, h.n2, h.nm, h.note, h.booked, h.at0, h.at1⟩
theorem jmet_any {w : World} {p q : Nat} {a : DA} {vs vt vn vr : Value} {d : Disk} {j : JL} {s : SL} (hm : JM w p q a vs vt vn vr d j s) (c : Int) :
    Calls Tryz.prog 39 #[.pointer (some ⟨p, 0, none⟩), errV c] w fun e w' => e = .returned (errV c) ∧ JM w' p q a vs vt vn vr d (j.die (decide (c ≠ 0))) s ∧ Only [p] w w' := by
  have M1 := Lib.hid hm
  have c11 := hm.c11
  have f11 := hm.free 11
  clear hm
  have key : ∀ b : Bool, JM (w.setCell ⟨p, 11, none⟩ (.bool b)) p q a vs vt vn vr d (j.die b) s ∧ Only [p] w (w.setCell ⟨p, 11, none⟩ (.bool b)) := fun b =>
    ⟨(M1.out.jw.set 11 (.bool b)).jm rfl rfl rfl rfl (M1.out.ok.die b) M1.out.here M1.out.at_, (Only.refl _ _).setCell (by simp) _⟩
  have KEY := Lib.hid key
  clear key
  have q0 := iface_ne
  have q1 := iface_nerr
  by_cases h : c = 0
  · rw [errV_z h]
    go_enter Tryz.func39, Tryz.ntmps39
    go_wp2_with fail
    go_ret
    refine ⟨rfl, ?_⟩
    rw [show decide (c ≠ 0) = false from by simp [h]]
    exact KEY.out false
  · rw [errV_nz h]
    go_enter Tryz.func39, Tryz.ntmps39
    go_wp2_with fail
    go_ret
    refine ⟨rfl, ?_⟩
    rw [show decide (c ≠ 0) = true from by simp [h]]
    exact KEY.out true
end Go.Proofs.YtfnedeaemjchgaaGreat
/- A journal: its ring: place, write. -/
namespace Go.Proofs.YtfnedeaemjchgaaGreat
open Go.RowKit Go.Maps
set_option linter.unusedSimpArgs false
set_option linter.unusedVariables false

/-! ### the device turns -/
theorem JW.setD {w w' : World} {p q : Nat} {a : DA} {cs : Array Value} {vs vt vn vr : Value} {S N : Sec} {T : List Int} {d d' : Disk} {s : SL} (h : JW w p q a cs vs vt vn vr S T N d s) (ho : Only a.bl w w') (hd : Dev w' a d') : JW w' p q a cs vs vt vn vr S T N d' s := by
  have hu : ∀ {x : Value} {l : Sec}, Held w x l → ∀ k ∈ a.bl, x.ownBlock ≠ some k := fun hx k hk e => by
    obtain ⟨c, hc⟩ := hx.blk k e
    exact h.dev.off_ty hc (by decide) hk
  refine ⟨ho.heap h.blk (h.dev.off_ty h.blk (by decide)), h.slot.kept ho (h.dev.off_ty h.slot.blk (by decide)) (hu h.slot.row), hd, h.str.kept ho (hu h.str.held), h.sts.kept ho (fun k hk e => ?_), h.note.kept ho (hu h.note), h.sn, h.sr⟩
  obtain ⟨c, hc⟩ := h.int_blk e
  exact h.dev.off_ty hc (by decide) hk
theorem JM.setD {w w' : World} {p q : Nat} {a : DA} {vs vt vn vr : Value} {d d' : Disk} {j : JL} {s : SL} (h : JM w p q a vs vt vn vr d j s) (ho : Only a.bl w w') (hd : Dev w' a d') (hz : d'.size = d.size) : JM w' p q a vs vt vn vr d' j s :=
  (h.jw.setD ho hd).jm rfl rfl rfl rfl h.ok (by rw [hz]; exact h.here) h.at_

/-! ### place -/
def JL.place (j : JL) (k : Nat) : Int := j.at_ + 2 + (k % j.n : Nat)
set_option maxRecDepth 100000 in
theorem jplace_any {w : World} {p q : Nat} {a : DA} {vs vt vn vr : Value} {d : Disk} {j : JL} {s : SL} (hm : JM w p q a vs vt vn vr d j s) (k : Nat) (hk : k ≤ 1152921504606846976) :
    Calls Tryz.prog 69 #[.pointer (some ⟨p, 0, none⟩), .int .i64 k] w fun e w' => e = .returned (.int .i64 (j.place k)) ∧ Drew w w' := by
  have c1 := hm.c1
  have c2 := hm.c2
  have hn := hm.ok.n2
  have hx := hm.ok.nm
  have ha := hm.ok.at0
  have hb := hm.ok.at1
  unfold JL.place
  clear hm
  generalize j.n = n at *
  generalize j.at_ = at_ at *
  have hlt := Nat.mod_lt k (show 0 < n by omega)
  have e1 : (k : Int).tmod (n : Int) = ((k % n : Nat) : Int) := by rw [Int.tmod_eq_emod_of_nonneg (by omega)]; rfl
  have n0 : ¬ n = 0 := by omega
  have e4 : (k : Int) % (n : Int) = ((k % n : Nat) : Int) := rfl
  generalize k % n = r at *
  have e2 : IntKind.i64.wrap (at_ + 2 + (r : Int)) = at_ + 2 + (r : Int) := by
    rw [IntKind.wrap_i64]
    omega
  clear e4
  have k0 : (0 : Int) ≤ (k : Int) := by omega
  go_enter Tryz.func69, Tryz.ntmps69
  go_wp2_with fail
  refine wp_region_held_drew (S := fun w' => w'.cell? ⟨p, 1, none⟩ = some (.int .i64 (at_ + 2)) ∧ w'.cell? ⟨p, 2, none⟩ = some (.int .i64 n)) (by kernel_rfl) ⟨c1, c2⟩ (fun hH => ?_)
  refine take_list (i := 0) (v := ?_) rfl (by kernel_rfl) (by kernel_rfl) (by kernel_rfl) (fun _ _ _ h => h) (Or.inl ⟨by rfl, ?_⟩) hH ?_
  rotate_left
  · ((intro w hSw; (try dsimp only at hSw); go_simp); try with_reducible rfl)
  simp only [Act.put, List.setIfInBounds_toArray, List.set_cons_zero, List.set_cons_succ]
  refine take_list (i := 1) (v := ?_) rfl (by kernel_rfl) (by kernel_rfl) (by kernel_rfl) (fun _ _ _ h => h) (Or.inl ⟨by rfl, ?_⟩) hH ?_
  rotate_left
  · ((intro w hSw; (try dsimp only at hSw); go_simp); try with_reducible rfl)
  simp only [Act.put, List.setIfInBounds_toArray, List.set_cons_zero, List.set_cons_succ]
  refine take_list (i := 2) (v := ?_) rfl (by kernel_rfl) (by kernel_rfl) (by kernel_rfl) (fun _ _ _ h => h) (Or.inl ⟨by rfl, ?_⟩) hH ?_
  rotate_left
  · ((intro w hSw; (try dsimp only at hSw); go_simp); try with_reducible rfl)
  simp only [Act.put, List.setIfInBounds_toArray, List.set_cons_zero, List.set_cons_succ]
  refine take_list (i := 3) (v := ?_) rfl (by kernel_rfl) (by kernel_rfl) (by kernel_rfl) (fun _ _ _ h => h) (Or.inl ⟨by rfl, ?_⟩) hH ?_
  rotate_left
  · ((intro w hSw; (try dsimp only at hSw); go_simp); try with_reducible rfl)
  simp only [Act.put, List.setIfInBounds_toArray, List.set_cons_zero, List.set_cons_succ]
  refine take_list (i := 4) (v := ?_) rfl (by kernel_rfl) (by kernel_rfl) (by kernel_rfl) (fun _ _ _ h => h) (Or.inl ⟨by rfl, ?_⟩) hH ?_
  rotate_left
  · ((intro w hSw; (try dsimp only at hSw); go_simp); try with_reducible rfl)
  simp only [Act.put, List.setIfInBounds_toArray, List.set_cons_zero, List.set_cons_succ]
  refine take_list (i := 5) (v := ?_) rfl (by kernel_rfl) (by kernel_rfl) (by kernel_rfl) (fun _ _ _ h => h) (Or.inl ⟨by rfl, ?_⟩) hH ?_
  rotate_left
  · ((intro w hSw; (try dsimp only at hSw); go_simp); try with_reducible rfl)
  simp only [Act.put, List.setIfInBounds_toArray, List.set_cons_zero, List.set_cons_succ]
  refine take_list (i := 6) (v := ?_) rfl (by kernel_rfl) (by kernel_rfl) (by kernel_rfl) (fun _ _ _ h => h) (Or.inl ⟨by rfl, ?_⟩) hH ?_
  rotate_left
  · ((intro w hSw; (try dsimp only at hSw); go_simp); try with_reducible rfl)
  simp only [Act.put, List.setIfInBounds_toArray, List.set_cons_zero, List.set_cons_succ]
  refine take_list (i := 7) (v := ?_) rfl (by kernel_rfl) (by kernel_rfl) (by kernel_rfl) (fun _ _ _ h => h) (Or.inl ⟨by rfl, ?_⟩) hH ?_
  rotate_left
  · ((intro w hSw; (try dsimp only at hSw); go_simp); try with_reducible rfl)
  simp only [Act.put, List.setIfInBounds_toArray, List.set_cons_zero, List.set_cons_succ]
  refine take_list (i := 8) (v := ?_) rfl (by kernel_rfl) (by kernel_rfl) (by kernel_rfl) (fun _ _ _ h => h) (Or.inl ⟨by rfl, ?_⟩) hH ?_
  rotate_left
  · ((intro w hSw; (try dsimp only at hSw); go_simp); try with_reducible rfl)
  simp only [Act.put, List.setIfInBounds_toArray, List.set_cons_zero, List.set_cons_succ]
  refine take_list (i := 9) (v := ?_) rfl (by kernel_rfl) (by kernel_rfl) (by kernel_rfl) (fun _ _ _ h => h) (Or.inl ⟨by rfl, ?_⟩) hH ?_
  rotate_left
  · ((intro w hSw; (try dsimp only at hSw); go_simp); try with_reducible rfl)
  simp only [Act.put, List.setIfInBounds_toArray, List.set_cons_zero, List.set_cons_succ]
  refine take_list (i := 10) (v := ?_) rfl (by kernel_rfl) (by kernel_rfl) (by kernel_rfl) (fun _ _ _ h => h) (Or.inl ⟨by rfl, ?_⟩) hH ?_
  rotate_left
  · ((intro w hSw; (try dsimp only at hSw); go_simp); try with_reducible rfl)
  simp only [Act.put, List.setIfInBounds_toArray, List.set_cons_zero, List.set_cons_succ]
  refine take_list (i := 11) (v := ?_) rfl (by kernel_rfl) (by kernel_rfl) (by kernel_rfl) (fun _ _ _ h => h) (Or.inl ⟨by rfl, ?_⟩) hH ?_
  rotate_left
  · ((intro w hSw; (try dsimp only at hSw); go_simp); try with_reducible rfl)
  simp only [Act.put, List.setIfInBounds_toArray, List.set_cons_zero, List.set_cons_succ]
  refine wpAnyH_done (by kernel_rfl) ?_ _
  go_wp2_with fail
  go_ret
  exact ⟨rfl, 1, rfl⟩

/-! ### write -/
theorem spl_pad (b : Sec) (h : b.length ≤ 470) : spl (zs 470) 0 b = pad b := by
  unfold spl pad zs
  rw [List.take_of_length_le (l := b) h]
  simp only [List.take_zero, List.nil_append, Nat.zero_add, List.drop_replicate]
theorem zero_piece (w : World) : (zeroValue 113).run Tryz.prog w = .ok (.agg (enc (zs 470))) w := by kernel_rfl
theorem slice_piece (g : Nat) (w : World) : (Instr.sliceAt 113 (.pointer (some ⟨g, 0, none⟩)) none none none).run Tryz.prog w = .ok (.slice (some ⟨g, 0, none⟩) 470 470) w := by kernel_rfl
theorem piece_bytes {w : World} {g : Nat} {l : Sec} {t : TypeId} {fr : Nat × Nat} (h : w.heap[g]? = some (.cells (enc l) t fr)) (hl : l.length = 470) : Bytes w (.slice (some ⟨g, 0, none⟩) 470 470) l :=
  ⟨_, 470, by rw [hl], fun i c hi => ⟨g, 0, rfl, by rw [Nat.zero_add, cell_at i h, enc_get, hi]; rfl⟩⟩

set_option maxRecDepth 100000 in
set_option maxHeartbeats 4000000 in
theorem jwrite_any {w : World} {p q : Nat} {a : DA} {vs vt vn vr : Value} {d : Disk} {j : JL} {s : SL} (hm : JM w p q a vs vt vn vr d j s) (k : Nat) (hk : k ≤ 1152921504606846976) (rv : Value) (b : Sec) (hb : Bytes w rv b) (hbl : b.length ≤ 470) :
    Calls Tryz.prog 53 #[.pointer (some ⟨p, 0, none⟩), .int .i64 k, rv] w fun e w' => e = .returned (errV (d.code (j.place k) 512)) ∧ JM w' p q a vs vt vn vr (d.wr (j.place k) (pieceSec k b)) j s ∧ Only a.bl w w' := by
  obtain ⟨ra, rc, rfl, -⟩ := id hb
  have hsl : (pieceSec k b).length = 512 := pieceSec_length (by omega)
  have hnl := num_len (k := k) (by omega)
  have hpl := pad_length b
  have M0 := Lib.hid hm
  have R0 := Lib.hid hb
  have HSL := Lib.hid hsl
  have HNL := Lib.hid hnl
  have HPL := Lib.hid hpl
  have q1 := iface_ne
  have q2 := slice_piece
  clear hm hb hsl hnl hpl
  go_enter Tryz.func53, Tryz.ntmps53
  go_wp2_with (first
    | (refine wpList_alloc_row rfl 113 rfl (enc (zs 470)) zero_piece ?_
       have o1 : Only [] w (w.alloc (.cells (enc (zs 470)) 113)) := (Only.refl [] w).alloc _
       have B1 := heap_new w (.cells (enc (zs 470)) 113)
       have R1 := Lib.hid (R0.out.kept o1 (clean_nil _)))
    | (refine wpList_copy_bytes rfl (.tmp 10) (.tmp 11) rfl (zs 470) b w.heap.size 0 113 B1 (some ⟨w.heap.size, 0, none⟩) 470 470 (by rfl) (fun _ => rfl) hbl (by rw [zs_length]; omega) _ (by rfl) R1.out ?_
       rw [spl_pad b hbl]
       intro w2 b2 o2
       have B2 := Lib.hid b2
       have O2 := Lib.hid (o1.trans o2 (fun k hk => .inr (by rw [List.mem_singleton.1 hk]; exact Nat.le_refl _)))
       clear b2 o2))
  have M2 := Lib.hid (M0.out.quiet O2.out)
  generalize w.heap.size = g at B2 ⊢
  clear B1 o1 R0 R1 M0
  have B3 := Lib.hid (show w2.drew.heap[g]? = some (.cells (enc (pad b)) 113 (0, 0)) from B2.out)
  have M3 := Lib.hid (M2.out.quiet (Only.refl [] w2).drew)
  have O3 := Lib.hid (O2.out.trans (Only.refl [] w2).drew (by simp))
  clear B2 M2 O2
  refine wp_region_held_drew (S := fun _ => True) (by kernel_rfl) trivial (fun hH => ?_)
  refine take_list (i := 0) (v := ?_) rfl (by kernel_rfl) (by kernel_rfl) (by kernel_rfl) (fun _ _ _ h => h) (Or.inl ⟨by rfl, ?_⟩) hH ?_
  rotate_left
  · ((intro w hSw; (try dsimp only at hSw); go_simp); try with_reducible rfl)
  simp only [Act.put, List.setIfInBounds_toArray, List.set_cons_zero, List.set_cons_succ]
  refine take_list (i := 3) (v := ?_) rfl (by kernel_rfl) (by kernel_rfl) (by kernel_rfl) (fun _ _ _ h => h) (Or.inl ⟨by rfl, ?_⟩) hH ?_
  rotate_left
  · ((intro w hSw; (try dsimp only at hSw); go_simp); try with_reducible rfl)
  simp only [Act.put, List.setIfInBounds_toArray, List.set_cons_zero, List.set_cons_succ]
  refine wpAnyH_ready (rs := [1]) (by kernel_rfl) (by simp) ?_
  refine ready_list rfl (fun K hK => ?_)
  go_simp
  refine hK.out _ _ trivial (fun hH => ?_)
  clear hK K
  refine wpAnyH_ready (rs := [2]) (by kernel_rfl) (by simp) ?_
  refine ready_list rfl (fun K hK => ?_)
  go_simp
  refine (put_one (k : Int) w2.drew (WalkArith.wf_i64 (by omega))).mono ?_
  rintro e w4 ⟨a4, k4, rfl, h4, o4⟩
  have H4 := Lib.hid h4.bytes
  have B4 := Lib.hid (o4.heap B3.out (by simp))
  have M4 := Lib.hid (M3.out.quiet o4)
  have O4 := Lib.hid (O3.out.trans o4 (by simp))
  refine hK.out _ _ trivial (fun hH => ?_)
  clear hK K h4 o4 B3 M3 O3
  refine wpAnyH_ready (rs := [4]) (by kernel_rfl) (by simp) ?_
  refine ready_list rfl (fun K hK => ?_)
  go_simp
  have P4 := Lib.hid (parts_made2 (v := .slice (some ⟨w4.heap.size, 0, none⟩) 2 2) H4.out (piece_bytes B4.out HPL.out) rfl)
  have o5 : Only [] w4 (w4.alloc (.cells #[.slice a4 (num (k : Int)).length k4, .slice (some ⟨g, 0, none⟩) 470 470] 27)) := (Only.refl [] w4).alloc _
  have M5 := Lib.hid (M4.out.quiet o5)
  have O5 := Lib.hid (O4.out.trans o5 (by simp))
  refine hK.out _ _ trivial (fun hH => ?_)
  clear hK K o5 M4 O4 H4 B4
  refine wpAnyH_ready (rs := [5]) (by kernel_rfl) (by simp) ?_
  refine ready_list rfl (fun K hK => ?_)
  go_simp
  refine (Box_any 512 _ [num (k : Int), pad b] _ (by decide) (by decide) P4.out (by simp) (by intro x hx; simp at hx; rcases hx with rfl | rfl; (have := HNL.out; omega); (have := HPL.out; omega)) (by simp [total]; have := HNL.out; have := HPL.out; omega)).mono ?_
  rintro e w6 ⟨g6, rfl, b6, hg6, o6⟩
  have B6 := Lib.hid (show BBlk w6 g6 (pieceSec k b) from by simpa [pieceSec] using b6)
  have M6 := Lib.hid (M5.out.quiet o6)
  have O6 := Lib.hid (O5.out.trans o6 (by simp))
  refine hK.out _ _ trivial (fun hH => ?_)
  clear hK K b6 hg6 o6 M5 O5 P4
  refine take_list (i := 6) (v := ?_) rfl (by kernel_rfl) (by kernel_rfl) (by kernel_rfl) (fun _ _ _ h => h) (Or.inl ⟨by rfl, ?_⟩) hH ?_
  rotate_left
  · ((intro w hSw; (try dsimp only at hSw); go_simp); try with_reducible rfl)
  simp only [Act.put, List.setIfInBounds_toArray, List.set_cons_zero, List.set_cons_succ]
  refine take_list (i := 7) (v := ?_) rfl (by kernel_rfl) (by kernel_rfl) (by kernel_rfl) (fun _ _ _ h => h) (Or.inl ⟨by rfl, ?_⟩) hH ?_
  rotate_left
  · ((intro w hSw; (try dsimp only at hSw); go_simp); try with_reducible rfl)
  simp only [Act.put, List.setIfInBounds_toArray, List.set_cons_zero, List.set_cons_succ]
  refine take_list (i := 8) (v := ?_) rfl (by kernel_rfl) (by kernel_rfl) (by kernel_rfl) (fun _ _ _ h => h) (Or.inl ⟨by rfl, ?_⟩) hH ?_
  rotate_left
  · ((intro w hSw; (try dsimp only at hSw); go_simp); try with_reducible rfl)
  simp only [Act.put, List.setIfInBounds_toArray, List.set_cons_zero, List.set_cons_succ]
  refine take_list (i := 9) (v := ?_) rfl (by kernel_rfl) (by kernel_rfl) (by kernel_rfl) (fun _ _ _ h => h) (Or.inl ⟨by rfl, ?_⟩) hH ?_
  rotate_left
  · ((intro w hSw; (try dsimp only at hSw); go_simp); try with_reducible rfl)
  simp only [Act.put, List.setIfInBounds_toArray, List.set_cons_zero, List.set_cons_succ]
  refine take_list (i := 10) (v := ?_) rfl (by kernel_rfl) (by kernel_rfl) (by kernel_rfl) (fun _ _ _ h => h) (Or.inl ⟨by rfl, ?_⟩) hH ?_
  rotate_left
  · ((intro w hSw; (try dsimp only at hSw); go_simp); try with_reducible rfl)
  simp only [Act.put, List.setIfInBounds_toArray, List.set_cons_zero, List.set_cons_succ]
  refine wpAnyH_done (by kernel_rfl) ?_ _
  clear hH
  go_wp2_with fail
  have o7 : Only [] w6 w6.drew := (Only.refl [] w6).drew
  have M7 := Lib.hid (M6.out.quiet o7)
  have B7 := Lib.hid (show BBlk w6.drew g6 (pieceSec k b) from B6.out)
  have O7 := Lib.hid (O6.out.trans o7 (by simp))
  clear o7 M6 B6 O6
  refine wp_region_held_drew (S := fun w' => w'.cell? ⟨p, 0, none⟩ = some (.pointer (some ⟨a.p, 0, none⟩))) (by kernel_rfl) M7.out.c0 (fun hH => ?_)
  refine take_list (i := 0) (v := ?_) rfl (by kernel_rfl) (by kernel_rfl) (by kernel_rfl) (fun _ _ _ h => h) (Or.inl ⟨by rfl, ?_⟩) hH ?_
  rotate_left
  · ((intro w hSw; (try dsimp only at hSw); go_simp); try with_reducible rfl)
  simp only [Act.put, List.setIfInBounds_toArray, List.set_cons_zero, List.set_cons_succ]
  refine take_list (i := 1) (v := ?_) rfl (by kernel_rfl) (by kernel_rfl) (by kernel_rfl) (fun _ _ _ h => h) (Or.inl ⟨by rfl, ?_⟩) hH ?_
  rotate_left
  · ((intro w hSw; (try dsimp only at hSw); go_simp); try with_reducible rfl)
  simp only [Act.put, List.setIfInBounds_toArray, List.set_cons_zero, List.set_cons_succ]
  refine take_list (i := 2) (v := ?_) rfl (by kernel_rfl) (by kernel_rfl) (by kernel_rfl) (fun _ _ _ h => h) (Or.inl ⟨by rfl, ?_⟩) hH ?_
  rotate_left
  · ((intro w hSw; (try dsimp only at hSw); go_simp); try with_reducible rfl)
  simp only [Act.put, List.setIfInBounds_toArray, List.set_cons_zero, List.set_cons_succ]
  refine take_list (i := 3) (v := ?_) rfl (by kernel_rfl) (by kernel_rfl) (by kernel_rfl) (fun _ _ _ h => h) (Or.inl ⟨by rfl, ?_⟩) hH ?_
  rotate_left
  · ((intro w hSw; (try dsimp only at hSw); go_simp); try with_reducible rfl)
  simp only [Act.put, List.setIfInBounds_toArray, List.set_cons_zero, List.set_cons_succ]
  refine take_list (i := 4) (v := ?_) rfl (by kernel_rfl) (by kernel_rfl) (by kernel_rfl) (fun _ _ _ h => h) (Or.inl ⟨by rfl, ?_⟩) hH ?_
  rotate_left
  · ((intro w hSw; (try dsimp only at hSw); go_simp); try with_reducible rfl)
  simp only [Act.put, List.setIfInBounds_toArray, List.set_cons_zero, List.set_cons_succ]
  refine take_list (i := 5) (v := ?_) rfl (by kernel_rfl) (by kernel_rfl) (by kernel_rfl) (fun _ _ _ h => h) (Or.inl ⟨by rfl, ?_⟩) hH ?_
  rotate_left
  · ((intro w hSw; (try dsimp only at hSw); go_simp); try with_reducible rfl)
  simp only [Act.put, List.setIfInBounds_toArray, List.set_cons_zero, List.set_cons_succ]
  refine take_list (i := 7) (v := ?_) rfl (by kernel_rfl) (by kernel_rfl) (by kernel_rfl) (fun _ _ _ h => h) (Or.inl ⟨by rfl, ?_⟩) hH ?_
  rotate_left
  · ((intro w hSw; (try dsimp only at hSw); go_simp); try with_reducible rfl)
  simp only [Act.put, List.setIfInBounds_toArray, List.set_cons_zero, List.set_cons_succ]
  refine wpAnyH_ready (rs := [6, 8]) (by kernel_rfl) (by simp) ?_
  refine ready_two rfl rfl (fun K hK => ?_) (fun K hK => ?_)
  · go_simp
    refine (jplace_any M7.out k hk).mono ?_
    rintro e w8 ⟨rfl, hd8⟩
    have o8 := hd8.only
    have M8 := Lib.hid (M7.out.quiet o8)
    have B8 := Lib.hid (B7.out.kept o8 (by simp))
    have O8 := Lib.hid (O7.out.trans o8 (by simp))
    refine hK.out _ _ M8.out.c0 (fun hH => ?_)
    clear hK K hd8 o8 M7 B7 O7
    refine wpAnyH_ready (rs := [8]) (by kernel_rfl) (by simp) ?_
    refine ready_list rfl (fun K hK => ?_)
    go_simp
    have o5 := (Only.refl [] w8).alloc (.cells #[.slice (some ⟨g6, 0, none⟩) 512 512] 27)
    have P5 := Lib.hid (parts_one B8.out HSL.out)
    have M5 := Lib.hid (M8.out.quiet o5)
    have O5 := Lib.hid (O8.out.trans o5 (by simp))
    refine hK.out _ _ M5.out.c0 (fun hH => ?_)
    clear hK K o5 M8 B8 O8
    refine wpAnyH_ready (rs := [9]) (by kernel_rfl) (by simp) ?_
    refine ready_list rfl (fun K hK => ?_)
    go_simp
    refine (write_all (j.place k) _ [pieceSec k b] M5.out.dev P5.out (fits_one HSL.out)).mono ?_
    rintro e w6 ⟨rfl, d6, o6⟩
    rw [show [pieceSec k b].flatten = pieceSec k b from by simp] at d6 ⊢
    rw [HSL.out]
    have M6 := Lib.hid (M5.out.setD o6 d6 (wr_size _ _ _))
    have O6 := Lib.hid ((O5.out.mono (T := a.bl) (by simp)).trans o6 (fun k hk => .inl hk))
    refine hK.out _ _ M6.out.c0 (fun hH => ?_)
    clear hK K d6 o6 M5 O5 P5
    refine take_list (i := 10) (v := ?_) rfl (by kernel_rfl) (by kernel_rfl) (by kernel_rfl) (fun _ _ _ h => h) (Or.inl ⟨by rfl, ?_⟩) hH ?_
    rotate_left
    · ((intro w hSw; (try dsimp only at hSw); go_simp); try with_reducible rfl)
    simp only [Act.put, List.setIfInBounds_toArray, List.set_cons_zero, List.set_cons_succ]
    refine wpAnyH_done (by kernel_rfl) ?_ _
    clear hH
    go_wp2_with fail
    go_ret
    exact ⟨rfl, M6.out, O6.out⟩
  · go_simp
    have o8 := (Only.refl [] w6.drew).alloc (.cells #[.slice (some ⟨g6, 0, none⟩) 512 512] 27)
    have P8 := Lib.hid (parts_one B7.out HSL.out)
    have M8 := Lib.hid (M7.out.quiet o8)
    have O8 := Lib.hid (O7.out.trans o8 (by simp))
    refine hK.out _ _ M8.out.c0 (fun hH => ?_)
    clear hK K o8 M7 B7 O7
    refine wpAnyH_ready (rs := [6]) (by kernel_rfl) (by simp) ?_
    refine ready_list rfl (fun K hK => ?_)
    go_simp
    refine (jplace_any M8.out k hk).mono ?_
    rintro e w5 ⟨rfl, hd5⟩
    have o5 := hd5.only
    have M5 := Lib.hid (M8.out.quiet o5)
    have P5 := Lib.hid (P8.out.kept o5 (clean_nil _))
    have O5 := Lib.hid (O8.out.trans o5 (by simp))
    refine hK.out _ _ M5.out.c0 (fun hH => ?_)
    clear hK K hd5 o5 M8 P8 O8
    refine wpAnyH_ready (rs := [9]) (by kernel_rfl) (by simp) ?_
    refine ready_list rfl (fun K hK => ?_)
    go_simp
    refine (write_all (j.place k) _ [pieceSec k b] M5.out.dev P5.out (fits_one HSL.out)).mono ?_
    rintro e w6 ⟨rfl, d6, o6⟩
    rw [show [pieceSec k b].flatten = pieceSec k b from by simp] at d6 ⊢
    rw [HSL.out]
    have M6 := Lib.hid (M5.out.setD o6 d6 (wr_size _ _ _))
    have O6 := Lib.hid ((O5.out.mono (T := a.bl) (by simp)).trans o6 (fun k hk => .inl hk))
    refine hK.out _ _ M6.out.c0 (fun hH => ?_)
    clear hK K d6 o6 M5 O5 P5
    refine take_list (i := 10) (v := ?_) rfl (by kernel_rfl) (by kernel_rfl) (by kernel_rfl) (fun _ _ _ h => h) (Or.inl ⟨by rfl, ?_⟩) hH ?_
    rotate_left
    · ((intro w hSw; (try dsimp only at hSw); go_simp); try with_reducible rfl)
    simp only [Act.put, List.setIfInBounds_toArray, List.set_cons_zero, List.set_cons_succ]
    refine wpAnyH_done (by kernel_rfl) ?_ _
    clear hH
    go_wp2_with fail
    go_ret
    exact ⟨rfl, M6.out, O6.out⟩
end Go.Proofs.YtfnedeaemjchgaaGreat
/- A journal: writeOut. -/
namespace Go.Proofs.YtfnedeaemjchgaaGreat
open Go.RowKit Go.Maps
set_option linter.unusedSimpArgs false
set_option linter.unusedVariables false

theorem pad_take (b : Sec) : pad (b.take 470) = pad b := by
  unfold pad
  rw [List.take_take, Nat.min_self, List.length_take, show 470 - min 470 b.length = 470 - b.length by omega]
theorem pieceSec_take (k : Nat) (b : Sec) : pieceSec k (b.take 470) = pieceSec k b := by unfold pieceSec; rw [pad_take]
theorem take_min (b : Sec) : b.take (min b.length 470) = b.take 470 := by
  by_cases h : b.length ≤ 470
  · rw [Nat.min_eq_left h, List.take_of_length_le (Nat.le_refl _), List.take_of_length_le h]
  · rw [Nat.min_eq_right (by omega)]
/-- The pieces from k on that have a byte of the stream: where each stands, and its sector. -/
def JL.bytes (j : JL) (k : Nat) : Sec := j.stream.drop (k * 470 - j.base)
def JL.top (j : JL) : Nat := (j.fin + 469) / 470
def JL.psFrom (j : JL) (k : Nat) : List (Int × Sec) := (List.range' k (j.top - k)).map fun i => (j.place i, pieceSec i (j.bytes i))
def JL.low (j : JL) : Nat := (j.start + pos j.recs j.fl) / 470
def JL.ps (j : JL) : List (Int × Sec) := j.psFrom j.low
theorem psFrom_cons {j : JL} {k : Nat} (h : k < j.top) : j.psFrom k = (j.place k, pieceSec k (j.bytes k)) :: j.psFrom (k + 1) := by
  unfold JL.psFrom
  rw [show j.top - k = (j.top - (k + 1)) + 1 by omega, List.range'_succ, List.map_cons]
theorem psFrom_nil {j : JL} {k : Nat} (h : j.top ≤ k) : j.psFrom k = [] := by
  unfold JL.psFrom
  rw [show j.top - k = 0 by omega]
  rfl
theorem top_iff {j : JL} {k : Nat} : k < j.top ↔ k * 470 < j.fin := by
  unfold JL.top
  omega

theorem sec_code {d : Disk} {i : Int} {l : Sec} (h : l.length = 512) : d.code i 512 = d.code i l.length := by rw [h]

set_option maxRecDepth 100000 in
set_option maxHeartbeats 4000000 in
theorem jwriteOut_any {w : World} {p q : Nat} {a : DA} {vs vt vn vr : Value} {d : Disk} {j : JL} {s : SL} (hm : JM w p q a vs vt vn vr d j s) (hb : JBig j) :
    Calls Tryz.prog 40 #[.pointer (some ⟨p, 0, none⟩)] w fun e w' => e = .returned (errV (d.wout j.ps).1) ∧ JM w' p q a vs vt vn vr (d.wout j.ps).2 j s ∧ Only a.bl w w' := by
  have M0 := Lib.hid hm
  have HB := Lib.hid hb
  have hfl := hm.ok.fl
  have hfin := hb.fin
  have hpl := pos_le j.recs j.fl
  have hlow : j.low = (j.start + pos j.recs j.fl) / 470 := rfl
  have hfe : j.fin = j.start + (flat j.recs).length := rfl
  have hlowle : j.low * 470 ≤ j.fin := by omega
  have hbase : j.base ≤ j.low * 470 := by
    have : j.base = j.start - j.start % 470 := rfl
    omega
  have hend := hm.ok.end_
  have hlen := hm.ok.len
  have c8 := hm.c8
  have q1 := iface_ne
  have q2 := iface_nerr
  obtain ⟨sa, sc, rfl, hsc⟩ := hm.strS
  have hsf := hm.str.fit _ _ _ rfl
  unfold maxLen at hsf
  have hofs := joffset_any hm hb j.fl hfl _ rfl
  generalize hO : j.start + pos j.recs j.fl = off at hlow hofs
  have hl1 : j.low * 470 ≤ off := by omega
  have hl2 : off < j.low * 470 + 470 := by omega
  have hl3 : off ≤ 1152921504606846976 := by omega
  have htop : j.top * 470 ≤ j.fin + 469 := by
    have : j.top = (j.fin + 469) / 470 := rfl
    omega
  have hlt : j.low ≤ j.top := by
    have : j.top = (j.fin + 469) / 470 := rfl
    omega
  have hps : d.wrs j.ps = d.wrs (j.psFrom j.low) := rfl
  have HPS := Lib.hid hps
  have HEND := Lib.hid hend
  clear hm hb hlow hfe hend hpl hps hO
  generalize hLOW : j.low = low at *
  have HLOW := Lib.hid hLOW
  clear hLOW
  go_enter Tryz.func40, Tryz.ntmps40
  go_wp2_with fail
  refine hofs.mono ?_
  rintro e w1 ⟨rfl, hd1⟩
  have O1 := Lib.hid hd1.only
  have M1 := Lib.hid (M0.out.quiet hd1.only)
  clear hd1 M0 c8 hofs
  go_wp2_with fail
  have e0 : ((off : Nat) : Int) / 470 = (low : Nat) := by omega
  rw [e0]
  clear e0 hl1 hl2 hl3
  go_loopw [3, 4, 5] (fun x _ _ wr => ∃ (k : Nat) (dk : Disk), x = .int .i64 k ∧ low ≤ k ∧ k ≤ j.top ∧ d.wrs j.ps = dk.wrs (j.psFrom k) ∧ JM wr p q a (.slice sa j.stream.length sc) vt vn vr dk j s ∧ Only a.bl w wr) (fun x _ _ _ => j.top + 1 - (intOf x).toNat)
  case atStart => exact ⟨low, d, rfl, Nat.le_refl _, hlt, HPS.out, M1.out, O1.out.mono (by simp)⟩
  case round =>
    clear M1 O1 HPS HLOW
    obtain ⟨k, dk, rfl, hk1, hk2, hw, hm2, ho2⟩ := hrel
    have M2 := Lib.hid hm2
    have O2 := Lib.hid ho2
    have W2 := Lib.hid hw
    clear hm2 ho2 hw
    have k0 : (0 : Int) ≤ (k : Int) := by omega
    go_wp2_with fail
    refine (jend_any M2.out HB.out).mono ?_
    rintro e w3 ⟨rfl, hd3⟩
    have o3 := hd3.only
    have M3 := Lib.hid (M2.out.quiet o3)
    have O3 := Lib.hid (O2.out.trans o3 (by simp))
    clear hd3 o3 M2 O2
    by_cases hc : k * 470 < j.fin
    rotate_left
    · have hnil : j.psFrom k = [] := psFrom_nil (by have := @top_iff j k; omega)
      have hc' : ¬ (k : Int) * 470 < (j.fin : Int) := by omega
      have HN := Lib.hid (show d.wrs j.ps = (0, dk) from by rw [W2.out, hnil]; rfl)
      clear W2 hnil hc
      have c0 := M3.out.c0
      go_wp2_with fail
      refine (sync_all M3.out.dev).mono ?_
      rintro e w4 ⟨rfl, d4, o4⟩
      have F := Lib.hid (And.intro (M3.out.setD o4 d4 (sy_size _)) (O3.out.trans o4 (fun k hk => .inl hk)))
      clear d4 o4 M3 O3 c0
      go_wp2_with fail
      go_ret
      have e1 : d.wout j.ps = (dk.scode, dk.sy) := by unfold Disk.wout; rw [HN.out]; rfl
      rw [e1]
      exact ⟨rfl, F.out.1, F.out.2⟩
    have hc' : (k : Int) * 470 < (j.fin : Int) := by omega
    have hcons := psFrom_cons (j := j) (k := k) (top_iff.2 hc)
    have HCONS := Lib.hid hcons
    clear hcons
    have hkb : j.base ≤ k * 470 := by omega
    have hkl : k * 470 - j.base ≤ j.stream.length := by have := HEND.out; omega
    have ebd : j.stream.drop (k * 470 - j.base) = j.bytes k := rfl
    have hd1 : (k : Int) * 470 - (j.base : Int) = ((k * 470 - j.base : Nat) : Int) := by omega
    have hwr : IntKind.i64.wrap ((k : Int) * 470 - (j.base : Int)) = ((k * 470 - j.base : Nat) : Int) := by
      rw [IntKind.wrap_i64]
      omega
    have hwm : IntKind.i64.wrap ((k : Int) * 470) = (k : Int) * 470 := by
      rw [IntKind.wrap_i64]
      omega
    generalize k * 470 - j.base = m at hkl ebd hd1 hwr
    obtain ⟨bb, hrun, hbb⟩ := slice_from M3.out.str.bytes hsc m hkl .i64
    have ebl : j.stream.length - m = (j.bytes k).length := by rw [← ebd, List.length_drop]
    rw [ebd] at hbb
    rw [ebl] at hbb hrun
    have hbc : (j.bytes k).length ≤ sc - m := by omega
    generalize sc - m = cb at hbb hrun hbc
    have BB := Lib.hid hbb
    have hbl : (j.bytes k).length ≤ 962560 := by omega
    obtain ⟨b2, hrun2, hb2⟩ := slice_to hbb hbc (min (j.bytes k).length 470) (Nat.min_le_left _ _) .i64
    rw [take_min] at hb2
    have hmin : (if (470 : Int) < ((j.bytes k).length : Int) then (470 : Int) else ((j.bytes k).length : Int)) = ((min (j.bytes k).length 470 : Nat) : Int) := by
      split <;> omega
    have hmt : ((j.bytes k).take 470).length = min (j.bytes k).length 470 := by rw [List.length_take, Nat.min_comm]
    have hm7 : min (j.bytes k).length 470 ≤ 470 := Nat.min_le_right _ _
    generalize min (j.bytes k).length 470 = mm at hrun2 hb2 hmin hmt hm7
    have HMIN := Lib.hid hmin
    have HMT := Lib.hid hmt
    have B2 := Lib.hid hb2
    have HRUN2 := Lib.hid hrun2
    have HBC := Lib.hid hbc
    clear hbb hb2 ebl ebd hrun2 hkb hbc hd1 hmin hmt
    have c4 := M3.out.c4
    have c5 := M3.out.c5
    go_wp2_with fail
    have o4 : Only [] w3 w3.drew := (Only.refl [] w3).drew
    refine wp_region_held_drew (S := fun w' => w'.cell? ⟨p, 4, none⟩ = some (.int .i64 j.base) ∧ w'.cell? ⟨p, 5, none⟩ = some (.slice sa j.stream.length sc)) (by kernel_rfl) ⟨c4, c5⟩ (fun hH => ?_)
    refine take_list (i := 0) (v := ?_) rfl (by kernel_rfl) (by kernel_rfl) (by kernel_rfl) (fun _ _ _ h => h) (Or.inl ⟨by rfl, ?_⟩) hH ?_
    rotate_left
    · ((intro w hSw; (try dsimp only at hSw); go_simp); try with_reducible rfl)
    simp only [Act.put, List.setIfInBounds_toArray, List.set_cons_zero, List.set_cons_succ]
    refine take_list (i := 1) (v := ?_) rfl (by kernel_rfl) (by kernel_rfl) (by kernel_rfl) (fun _ _ _ h => h) (Or.inl ⟨by rfl, ?_⟩) hH ?_
    rotate_left
    · ((intro w hSw; (try dsimp only at hSw); go_simp); try with_reducible rfl)
    simp only [Act.put, List.setIfInBounds_toArray, List.set_cons_zero, List.set_cons_succ]
    refine take_list (i := 2) (v := ?_) rfl (by kernel_rfl) (by kernel_rfl) (by kernel_rfl) (fun _ _ _ h => h) (Or.inl ⟨by rfl, ?_⟩) hH ?_
    rotate_left
    · ((intro w hSw; (try dsimp only at hSw); go_simp); try with_reducible rfl)
    simp only [Act.put, List.setIfInBounds_toArray, List.set_cons_zero, List.set_cons_succ]
    refine take_list (i := 3) (v := ?_) rfl (by kernel_rfl) (by kernel_rfl) (by kernel_rfl) (fun _ _ _ h => h) (Or.inl ⟨by rfl, ?_⟩) hH ?_
    rotate_left
    · ((intro w hSw; (try dsimp only at hSw); go_simp); try with_reducible rfl)
    simp only [Act.put, List.setIfInBounds_toArray, List.set_cons_zero, List.set_cons_succ]
    refine take_list (i := 4) (v := ?_) rfl (by kernel_rfl) (by kernel_rfl) (by kernel_rfl) (fun _ _ _ h => h) (Or.inl ⟨by rfl, ?_⟩) hH ?_
    rotate_left
    · ((intro w hSw; (try dsimp only at hSw); go_simp); try with_reducible rfl)
    simp only [Act.put, List.setIfInBounds_toArray, List.set_cons_zero, List.set_cons_succ]
    refine take_list (i := 5) (v := ?_) rfl (by kernel_rfl) (by kernel_rfl) (by kernel_rfl) (fun _ _ _ h => h) (Or.inl ⟨by rfl, ?_⟩) hH ?_
    rotate_left
    · ((intro w hSw; (try dsimp only at hSw); go_simp); try with_reducible rfl)
    simp only [Act.put, List.setIfInBounds_toArray, List.set_cons_zero, List.set_cons_succ]
    refine take_list (i := 6) (v := ?_) rfl (by kernel_rfl) (by kernel_rfl) (by kernel_rfl) (fun _ _ _ h => h) (Or.inl ⟨by rfl, ?_⟩) hH ?_
    rotate_left
    · ((intro w hSw; (try dsimp only at hSw); go_simp); try with_reducible rfl)
    simp only [Act.put, List.setIfInBounds_toArray, List.set_cons_zero, List.set_cons_succ]
    refine take_list (i := 7) (v := ?_) rfl (by kernel_rfl) (by kernel_rfl) (by kernel_rfl) (fun _ _ _ h => h) (Or.inl ⟨by rfl, ?_⟩) hH ?_
    rotate_left
    · ((intro w hSw; (try dsimp only at hSw); go_simp); try with_reducible rfl)
    simp only [Act.put, List.setIfInBounds_toArray, List.set_cons_zero, List.set_cons_succ]
    refine take_list (i := 8) (v := ?_) rfl (by kernel_rfl) (by kernel_rfl) (by kernel_rfl) (fun _ _ _ h => h) (Or.inl ⟨by rfl, ?_⟩) hH ?_
    rotate_left
    · ((intro w hSw; (try dsimp only at hSw); go_simp); try with_reducible rfl)
    simp only [Act.put, List.setIfInBounds_toArray, List.set_cons_zero, List.set_cons_succ]
    refine take_list (i := 9) (v := ?_) rfl (by kernel_rfl) (by kernel_rfl) (by kernel_rfl) (fun _ _ _ h => h) (Or.inl ⟨by rfl, ?_⟩) hH ?_
    rotate_left
    · ((intro w hSw; (try dsimp only at hSw); go_simp); try with_reducible rfl)
    simp only [Act.put, List.setIfInBounds_toArray, List.set_cons_zero, List.set_cons_succ]
    refine take_list (i := 10) (v := ?_) rfl (by kernel_rfl) (by kernel_rfl) (by kernel_rfl) (fun _ _ _ h => h) (Or.inl ⟨by rfl, ?_⟩) hH ?_
    rotate_left
    · ((intro w hSw; (try dsimp only at hSw); go_simp); try with_reducible rfl)
    simp only [Act.put, List.setIfInBounds_toArray, List.set_cons_zero, List.set_cons_succ]
    refine take_list (i := 11) (v := ?_) rfl (by kernel_rfl) (by kernel_rfl) (by kernel_rfl) (fun _ _ _ h => h) (Or.inl ⟨by rfl, ?_⟩) hH ?_
    rotate_left
    · ((intro w hSw; (try dsimp only at hSw); go_simp); try with_reducible rfl)
    simp only [Act.put, List.setIfInBounds_toArray, List.set_cons_zero, List.set_cons_succ]
    refine take_list (i := 12) (v := ?_) rfl (by kernel_rfl) (by kernel_rfl) (by kernel_rfl) (fun _ _ _ h => h) (Or.inl ⟨by rfl, ?_⟩) hH ?_
    rotate_left
    · ((intro w hSw; (try dsimp only at hSw); go_simp); try with_reducible rfl)
    simp only [Act.put, List.setIfInBounds_toArray, List.set_cons_zero, List.set_cons_succ]
    refine wpAnyH_done (by kernel_rfl) ?_ _
    have M4 := Lib.hid (M3.out.quiet o4)
    have B4 := Lib.hid (B2.out.kept o4 (clean_nil _))
    have O4 := Lib.hid (O3.out.trans o4 (by simp))
    have hrun2 := HRUN2.out
    generalize w3.drew = w4 at M4 B4 O4 ⊢
    clear o4 M3 BB B2 O3 c4 c5 hH hrun hwr hwm
    go_wp2_with fail
    have o5 : Only [] w4 w4.drew := (Only.refl [] w4).drew
    have M5 := Lib.hid (M4.out.quiet o5)
    have B5 := Lib.hid (B4.out.kept o5 (clean_nil _))
    have O5 := Lib.hid (O4.out.trans o5 (by simp))
    clear o5 M4 B4 O4
    refine wp_region_held_drew (S := fun _ => True) (by kernel_rfl) trivial (fun hH => ?_)
    have hmin := HMIN.out
    refine take_list (i := 0) (v := ?_) rfl (by kernel_rfl) (by kernel_rfl) (by kernel_rfl) (fun _ _ _ h => h) (Or.inl ⟨by rfl, ?_⟩) hH ?_
    rotate_left
    · ((intro w hSw; (try dsimp only at hSw); go_simp); try with_reducible rfl)
    simp only [Act.put, List.setIfInBounds_toArray, List.set_cons_zero, List.set_cons_succ]
    refine take_list (i := 1) (v := ?_) rfl (by kernel_rfl) (by kernel_rfl) (by kernel_rfl) (fun _ _ _ h => h) (Or.inl ⟨by rfl, ?_⟩) hH ?_
    rotate_left
    · ((intro w hSw; (try dsimp only at hSw); go_simp); try with_reducible rfl)
    simp only [Act.put, List.setIfInBounds_toArray, List.set_cons_zero, List.set_cons_succ]
    refine take_list (i := 2) (v := ?_) rfl (by kernel_rfl) (by kernel_rfl) (by kernel_rfl) (fun _ _ _ h => h) (Or.inl ⟨by rfl, ?_⟩) hH ?_
    rotate_left
    · ((intro w hSw; (try dsimp only at hSw); go_simp); try with_reducible rfl)
    simp only [Act.put, List.setIfInBounds_toArray, List.set_cons_zero, List.set_cons_succ]
    refine take_list (i := 3) (v := ?_) rfl (by kernel_rfl) (by kernel_rfl) (by kernel_rfl) (fun _ _ _ h => h) (Or.inl ⟨by rfl, ?_⟩) hH ?_
    rotate_left
    · ((intro w hSw; (try dsimp only at hSw); go_simp); try with_reducible rfl)
    simp only [Act.put, List.setIfInBounds_toArray, List.set_cons_zero, List.set_cons_succ]
    refine take_list (i := 4) (v := ?_) rfl (by kernel_rfl) (by kernel_rfl) (by kernel_rfl) (fun _ _ _ h => h) (Or.inl ⟨by rfl, ?_⟩) hH ?_
    rotate_left
    · ((intro w hSw; (try dsimp only at hSw); go_simp); try with_reducible rfl)
    simp only [Act.put, List.setIfInBounds_toArray, List.set_cons_zero, List.set_cons_succ]
    refine take_list (i := 5) (v := ?_) rfl (by kernel_rfl) (by kernel_rfl) (by kernel_rfl) (fun _ _ _ h => h) (Or.inl ⟨by rfl, ?_⟩) hH ?_
    rotate_left
    · ((intro w hSw; (try dsimp only at hSw); go_simp); try with_reducible rfl)
    simp only [Act.put, List.setIfInBounds_toArray, List.set_cons_zero, List.set_cons_succ]
    refine take_list (i := 6) (v := ?_) rfl (by kernel_rfl) (by kernel_rfl) (by kernel_rfl) (fun _ _ _ h => h) (Or.inl ⟨by rfl, ?_⟩) hH ?_
    rotate_left
    · ((intro w hSw; (try dsimp only at hSw); go_simp); try with_reducible rfl)
    simp only [Act.put, List.setIfInBounds_toArray, List.set_cons_zero, List.set_cons_succ]
    refine take_list (i := 7) (v := ?_) rfl (by kernel_rfl) (by kernel_rfl) (by kernel_rfl) (fun _ _ _ h => h) (Or.inl ⟨by rfl, ?_⟩) hH ?_
    rotate_left
    · ((intro w hSw; (try dsimp only at hSw); go_simp); try with_reducible rfl)
    simp only [Act.put, List.setIfInBounds_toArray, List.set_cons_zero, List.set_cons_succ]
    refine take_list (i := 8) (v := ?_) rfl (by kernel_rfl) (by kernel_rfl) (by kernel_rfl) (fun _ _ _ h => h) (Or.inl ⟨by rfl, ?_⟩) hH ?_
    rotate_left
    · ((intro w hSw; (try dsimp only at hSw); go_simp); try with_reducible rfl)
    simp only [Act.put, List.setIfInBounds_toArray, List.set_cons_zero, List.set_cons_succ]
    clear hmin hrun2
    refine wpAnyH_ready (rs := [9]) (by kernel_rfl) (by simp) ?_
    refine ready_list rfl (fun K hK => ?_)
    go_simp
    refine (jwrite_any M5.out k (by omega) _ ((j.bytes k).take 470) B5.out (by have := HMT.out; omega)).mono ?_
    rintro e w6 ⟨rfl, m6, o6⟩
    rw [pieceSec_take] at m6
    have M6 := Lib.hid m6
    have O6 := Lib.hid (O5.out.trans o6 (fun k hk => .inl hk))
    refine hK.out _ _ trivial (fun hH => ?_)
    clear hK K m6 o6 M5 B5 O5
    refine take_list (i := 10) (v := ?_) rfl (by kernel_rfl) (by kernel_rfl) (by kernel_rfl) (fun _ _ _ h => h) (Or.inl ⟨by rfl, ?_⟩) hH ?_
    rotate_left
    · ((intro w hSw; (try dsimp only at hSw); go_simp); try with_reducible rfl)
    simp only [Act.put, List.setIfInBounds_toArray, List.set_cons_zero, List.set_cons_succ]
    refine wpAnyH_done (by kernel_rfl) ?_ _
    have hsl : (pieceSec k (j.bytes k)).length = 512 := pieceSec_length (by omega)
    have HSL := Lib.hid hsl
    clear hsl hH
    by_cases hcz : dk.code (j.place k) 512 = 0
    · have hw : d.wrs j.ps = (dk.wr (j.place k) (pieceSec k (j.bytes k))).wrs (j.psFrom (k + 1)) := by
        rw [W2.out, HCONS.out, wrs_yes (by rw [HSL.out]; exact hcz)]
      have HW := Lib.hid hw
      clear hw
      rw [errV_z hcz]
      clear hcz
      go_wp2_with fail
      go_roundw
      case rel => exact ⟨k + 1, _, by go_num, by omega, (by have := @top_iff j k; omega), HW.out, M6.out, O6.out⟩
      case measure => simp [intOf]; (have := @top_iff j k); omega
    · have hw : d.wrs j.ps = (dk.code (j.place k) 512, dk.wr (j.place k) (pieceSec k (j.bytes k))) := by
        rw [W2.out, HCONS.out, wrs_no (by rw [HSL.out]; exact hcz), HSL.out]
      have HW := Lib.hid hw
      clear hw
      rw [errV_nz hcz]
      have HCZ := Lib.hid hcz
      clear hcz
      go_wp2_with fail
      go_ret
      have e1 : d.wout j.ps = (dk.code (j.place k) 512, dk.wr (j.place k) (pieceSec k (j.bytes k))) := by
        unfold Disk.wout
        rw [HW.out, if_neg HCZ.out]
      rw [e1, errV_nz HCZ.out]
      exact ⟨rfl, M6.out, O6.out⟩
end Go.Proofs.YtfnedeaemjchgaaGreat
/- A journal: row, save, Flush. -/
namespace Go.Proofs.YtfnedeaemjchgaaGreat
open Go.RowKit Go.Maps
set_option linter.unusedSimpArgs false
set_option linter.unusedVariables false

def JL.row (j : JL) (k : Nat) (note : Sec) : Sec := nums [((j.first : Int) + k), ((j.start + pos j.recs k : Nat) : Int), ((j.fin : Nat) : Int)] ++ note
theorem ints_three (w : World) (x y z : Int) (hx : (Lit.int .i64 x).wf = true) (hy : (Lit.int .i64 y).wf = true) (hz : (Lit.int .i64 z).wf = true) : IntsV (w.alloc (.cells #[.int .i64 x, .int .i64 y, .int .i64 z] 3)) (.slice (some ⟨w.heap.size, 0, none⟩) 3 3) [x, y, z] := by
  refine ⟨_, 3, rfl, fun i u hi => ?_⟩
  match i with
  | 0 =>
    simp at hi
    subst hi
    exact ⟨hx, w.heap.size, 0, rfl, by simp⟩
  | 1 =>
    simp at hi
    subst hi
    exact ⟨hy, w.heap.size, 0, rfl, by simp⟩
  | 2 =>
    simp at hi
    subst hi
    exact ⟨hz, w.heap.size, 0, rfl, by simp⟩
  | i + 3 => simp at hi
theorem nums_30 {x y z : Int} (hx : -9223372036854775808 ≤ x ∧ x ≤ 9223372036854775807) (hy : -9223372036854775808 ≤ y ∧ y ≤ 9223372036854775807) (hz : -9223372036854775808 ≤ z ∧ z ≤ 9223372036854775807) : (nums [x, y, z]).length ≤ 30 := by
  have := nums_len [x, y, z] (by intro n hn; simp at hn; rcases hn with rfl | rfl | rfl <;> assumption)
  simpa using this
theorem JBig.row {j : JL} (h : JBig j) {k : Nat} (hk : k ≤ j.recs.length) : (j.first : Int) + k ≤ 1152921504606846976 ∧ j.start + pos j.recs k ≤ 1152921504606846976 := by
  have h1 := h.next
  have h2 := h.fin
  have h3 := pos_le j.recs k
  unfold JL.next at h1
  unfold JL.fin at h2
  omega
theorem JL.row_len {j : JL} (h : JBig j) {k : Nat} (hk : k ≤ j.recs.length) (note : Sec) : (j.row k note).length ≤ 30 + note.length := by
  have h1 := h.row hk
  have h2 := h.fin
  have := nums_30 (x := (j.first : Int) + k) (y := ((j.start + pos j.recs k : Nat) : Int)) (z := ((j.fin : Nat) : Int)) (by omega) (by omega) (by omega)
  unfold JL.row
  rw [List.length_append]
  omega

set_option maxRecDepth 100000 in
theorem jrow_any {w : World} {p q : Nat} {a : DA} {vs vt vn vr : Value} {d : Disk} {j : JL} {s : SL} (hm : JM w p q a vs vt vn vr d j s) (hb : JBig j) (k : Nat) (hk : k ≤ j.recs.length) (x : Int) (hx : x = (j.first : Int) + k) (nv : Value) (note : Sec) (hn : Bytes w nv note) (hl : note.length ≤ 400) :
    Calls Tryz.prog 46 #[.pointer (some ⟨p, 0, none⟩), .int .i64 x, nv] w fun e w' => ∃ b c, e = .returned (.slice b (j.row k note).length c) ∧ Own w' w.heap.size (.slice b (j.row k note).length c) (j.row k note) ∧ Only [] w w' := by
  obtain ⟨na, nc, rfl, -⟩ := id hn
  have M0 := Lib.hid hm
  have HB := Lib.hid hb
  have N0 := Lib.hid hn
  have hr := hb.row hk
  have hf := hb.fin
  have hofs := joffset_any hm hb k hk x hx
  have hrow : nums [x, ((j.start + pos j.recs k : Nat) : Int), ((j.fin : Nat) : Int)] ++ note = j.row k note := by rw [hx]; rfl
  have hx2 : 0 ≤ x ∧ x ≤ 1152921504606846976 := by omega
  have h30 := nums_30 (x := x) (y := ((j.start + pos j.recs k : Nat) : Int)) (z := ((j.fin : Nat) : Int)) (by omega) (by omega) (by omega)
  have hlen : (nums [x, ((j.start + pos j.recs k : Nat) : Int), ((j.fin : Nat) : Int)]).length + note.length = (j.row k note).length := by rw [← hrow, List.length_append]
  generalize j.start + pos j.recs k = y at hofs hr hrow hlen h30
  have HROW := Lib.hid hrow
  have HLEN := Lib.hid hlen
  have hrl : (j.row k note).length ≤ 430 := by omega
  have HX := Lib.hid hx
  clear hm hb hn hrow hx hlen
  go_enter Tryz.func46, Tryz.ntmps46
  go_wp2_with fail
  refine hofs.mono ?_
  rintro e w1 ⟨rfl, hd1⟩
  have O1 := Lib.hid hd1.only
  have M1 := Lib.hid (M0.out.quiet hd1.only)
  have N1 := Lib.hid (N0.out.kept hd1.only (clean_nil _))
  clear hd1 M0 N0 hofs
  go_wp2_with fail
  refine (jend_any M1.out HB.out).mono ?_
  rintro e w2 ⟨rfl, hd2⟩
  have O2 := Lib.hid (O1.out.trans hd2.only (by simp))
  have N2 := Lib.hid (N1.out.kept hd2.only (clean_nil _))
  clear hd2 M1 O1 N1
  go_wp2_with fail
  have o3 := (Only.refl [] w2).alloc (.cells #[.int .i64 x, .int .i64 (y : Nat), .int .i64 (j.fin : Nat)] 3)
  have I3 := Lib.hid (ints_three w2 x (y : Nat) (j.fin : Nat) (WalkArith.wf_i64 (by omega)) (WalkArith.wf_i64 (by omega)) (WalkArith.wf_i64 (by omega)))
  refine (Put_any (.slice none 0 0) [] _ [x, (y : Nat), (j.fin : Nat)] _ (bytes_nil _ _) I3.out (by simp) (by simp)).mono ?_
  rintro e w4 ⟨a4, k4, rfl, h4, o4⟩
  simp only [List.nil_append, List.length_nil, Nat.zero_add] at h4 ⊢
  have O4 := Lib.hid ((O2.out.trans o3 (by simp)).trans o4 (by simp))
  have H4 := Lib.hid (h4.mono (base' := w.heap.size) (Nat.le_trans O2.out.size (by simp)))
  have N4 := Lib.hid ((N2.out.kept o3 (clean_nil _)).kept o4 (clean_nil _))
  have Z4 := O4.out.size
  clear h4 o4 o3 I3 N2 O2
  go_wp2_with (
    refine wpList_append_any rfl (.tmp 14) (.tmp 15) rfl w.heap.size _ (nums [x, (y : Nat), (j.fin : Nat)]) (by rfl) H4.out _ note (by rfl) N4.out (j.row k note).length HLEN.out (j.row k note) HROW.out (by omega) Z4 ?_
    intro a5 k5 w5 h5 x5
    have F := Lib.hid (And.intro h5 (Ext.fresh O4.out H4.out (Nat.le_refl _) x5))
    clear h5 x5 H4 N4 O4)
  go_ret
  exact ⟨_, _, rfl, F.out.1, F.out.2⟩

/-! ### save -/
theorem JW.setQ {w w' : World} {p q : Nat} {a : DA} {cs : Array Value} {vs vt vn vr vr' : Value} {S N : Sec} {T : List Int} {d d' : Disk} {s s' : SL} (h : JW w p q a cs vs vt vn vr S T N d s) (ho : Only (SA q a) w w') (hd : Dev w' a d') (hs : Slot w' q a vr' s') (hv : vr' = vr ∨ ∀ g, vr'.ownBlock = some g → w.heap.size ≤ g) : JW w' p q a cs vs vt vn vr' S T N d' s' := by
  have hu : ∀ {x : Value} {l : Sec}, Held w x l → ∀ k ∈ SA q a, x.ownBlock ≠ some k := fun hx k hk e => by
    obtain ⟨c, hc⟩ := hx.blk k e
    simp only [SA, List.mem_cons] at hk
    rcases hk with rfl | hk
    · exact absurd (block_ty hc h.slot.blk) (by decide)
    · exact h.dev.off_ty hc (by decide) hk
  refine ⟨ho.heap h.blk (fun hk => ?_), hs, hd, h.str.kept ho (hu h.str.held), h.sts.kept ho (fun k hk e => ?_), h.note.kept ho (hu h.note), h.sn, ?_⟩
  · simp only [SA, List.mem_cons] at hk
    rcases hk with e | hk
    · have hb := h.slot.blk
      rw [← e] at hb
      exact absurd (block_ty hb h.blk) (by decide)
    · exact h.dev.off_ty h.blk (by decide) hk
  · obtain ⟨c, hc⟩ := h.int_blk e
    simp only [SA, List.mem_cons] at hk
    rcases hk with rfl | hk
    · exact absurd (block_ty hc h.slot.blk) (by decide)
    · exact h.dev.off_ty hc (by decide) hk
  · rcases hv with rfl | hv
    · exact h.sr
    · intro g hg e
      have h1 := hv g e
      have h2 := (h.str.lt hg).2
      omega
theorem sdisk_size (s : SL) (d : Disk) (r : Sec) : (s.sdisk d r).size = d.size := by
  unfold SL.sdisk
  split
  · rfl
  · split
    · rfl
    · exact ly_size _ _ _
theorem save_at (s : SL) (d : Disk) (r : Sec) : (s.save d r).at_ = s.at_ := by
  unfold SL.save
  split
  · rfl
  · split
    · rfl
    · split <;> rfl
theorem JM.fitB {w : World} {p q : Nat} {a : DA} {vs vt vn vr : Value} {d : Disk} {j : JL} {s : SL} (h : JM w p q a vs vt vn vr d j s) : fitB s.at_ d.size = true := by
  have h1 := h.here
  have h2 := h.ok.at0
  have h3 := h.ok.n2
  rw [h.at_]
  exact fitB_iff.2 ⟨h2, by omega⟩
/-- What turns behind a save: the journal's block, the slots' and the device. -/
def PA (p q : Nat) (a : DA) : List Nat := p :: SA q a
theorem jbl_pa {p q k : Nat} {a : DA} {vs vt vn vr : Value} (h : k ∈ PA p q a) : k ∈ jbl p q a vs vt vn vr := by
  simp only [PA, SA, List.mem_cons] at h
  rcases h with rfl | rfl | h
  · exact jbl_p
  · exact jbl_q
  · exact jbl_dev h
theorem jbl_dev_sub {p q k : Nat} {a : DA} (h : k ∈ a.bl) : k ∈ PA p q a := by simp [PA, SA, h]
theorem jbl_p_sub {p q : Nat} {a : DA} : p ∈ PA p q a := by simp [PA]

structure JR where
  c : Int
  d : Disk
  j : JL
  s : SL
def JL.saveR (j : JL) (d : Disk) (s : SL) (k : Nat) (note : Sec) : JR := ⟨s.scode d (j.row k note), s.sdisk d (j.row k note), j.die (decide (s.scode d (j.row k note) ≠ 0)), s.save d (j.row k note)⟩
/-- The journal, its slots and the device are what r tells; the slots' row may have become a new one. -/
structure RPost (w : World) (p q : Nat) (a : DA) (vs vt vn vr : Value) (r : JR) (e : Ending) (w' : World) : Prop where
  ans : e = .returned (errV r.c)
  mem : ∃ vr', JM w' p q a vs vt vn vr' r.d r.j r.s ∧ ∀ g, vr'.ownBlock = some g → vr.ownBlock = some g ∨ w.heap.size ≤ g
  only : Only (PA p q a) w w'

set_option maxRecDepth 100000 in
set_option maxHeartbeats 1600000 in
theorem jsave_any {w : World} {p q : Nat} {a : DA} {vs vt vn vr : Value} {d : Disk} {j : JL} {s : SL} (hm : JM w p q a vs vt vn vr d j s) (hb : JBig j) (k : Nat) (hk : k ≤ j.recs.length) (x : Int) (hx : x = (j.first : Int) + k) (nv : Value) (note : Sec) (hn : Bytes w nv note) (hl : note.length ≤ 400) :
    Calls Tryz.prog 41 #[.pointer (some ⟨p, 0, none⟩), .int .i64 x, nv] w (RPost w p q a vs vt vn vr (j.saveR d s k note)) := by
  obtain ⟨na, nc, rfl, -⟩ := id hn
  have M0 := Lib.hid hm
  have HB := Lib.hid hb
  have N0 := Lib.hid hn
  have HX := Lib.hid hx
  have HRL := Lib.hid (JL.row_len hb hk note)
  clear hm hb hn hx
  go_enter Tryz.func41, Tryz.ntmps41
  go_wp2_with fail
  have o1 : Only [] w w.drew := (Only.refl [] w).drew
  have M1 := Lib.hid (M0.out.quiet o1)
  have N1 := Lib.hid (N0.out.kept o1 (clean_nil _))
  have O1 := Lib.hid o1
  clear o1 M0 N0
  refine wp_region_held_drew (S := fun w' => w'.cell? ⟨p, 3, none⟩ = some (.pointer (some ⟨q, 0, none⟩))) (by kernel_rfl) M1.out.c3 (fun hH => ?_)
  refine take_list (i := 0) (v := ?_) rfl (by kernel_rfl) (by kernel_rfl) (by kernel_rfl) (fun _ _ _ h => h) (Or.inl ⟨by rfl, ?_⟩) hH ?_
  rotate_left
  · ((intro w hSw; (try dsimp only at hSw); go_simp); try with_reducible rfl)
  simp only [Act.put, List.setIfInBounds_toArray, List.set_cons_zero, List.set_cons_succ]
  refine take_list (i := 1) (v := ?_) rfl (by kernel_rfl) (by kernel_rfl) (by kernel_rfl) (fun _ _ _ h => h) (Or.inl ⟨by rfl, ?_⟩) hH ?_
  rotate_left
  · ((intro w hSw; (try dsimp only at hSw); go_simp); try with_reducible rfl)
  simp only [Act.put, List.setIfInBounds_toArray, List.set_cons_zero, List.set_cons_succ]
  refine take_list (i := 2) (v := ?_) rfl (by kernel_rfl) (by kernel_rfl) (by kernel_rfl) (fun _ _ _ h => h) (Or.inl ⟨by rfl, ?_⟩) hH ?_
  rotate_left
  · ((intro w hSw; (try dsimp only at hSw); go_simp); try with_reducible rfl)
  simp only [Act.put, List.setIfInBounds_toArray, List.set_cons_zero, List.set_cons_succ]
  refine take_list (i := 3) (v := ?_) rfl (by kernel_rfl) (by kernel_rfl) (by kernel_rfl) (fun _ _ _ h => h) (Or.inl ⟨by rfl, ?_⟩) hH ?_
  rotate_left
  · ((intro w hSw; (try dsimp only at hSw); go_simp); try with_reducible rfl)
  simp only [Act.put, List.setIfInBounds_toArray, List.set_cons_zero, List.set_cons_succ]
  refine take_list (i := 4) (v := ?_) rfl (by kernel_rfl) (by kernel_rfl) (by kernel_rfl) (fun _ _ _ h => h) (Or.inl ⟨by rfl, ?_⟩) hH ?_
  rotate_left
  · ((intro w hSw; (try dsimp only at hSw); go_simp); try with_reducible rfl)
  simp only [Act.put, List.setIfInBounds_toArray, List.set_cons_zero, List.set_cons_succ]
  refine take_list (i := 5) (v := ?_) rfl (by kernel_rfl) (by kernel_rfl) (by kernel_rfl) (fun _ _ _ h => h) (Or.inl ⟨by rfl, ?_⟩) hH ?_
  rotate_left
  · ((intro w hSw; (try dsimp only at hSw); go_simp); try with_reducible rfl)
  simp only [Act.put, List.setIfInBounds_toArray, List.set_cons_zero, List.set_cons_succ]
  refine take_list (i := 6) (v := ?_) rfl (by kernel_rfl) (by kernel_rfl) (by kernel_rfl) (fun _ _ _ h => h) (Or.inl ⟨by rfl, ?_⟩) hH ?_
  rotate_left
  · ((intro w hSw; (try dsimp only at hSw); go_simp); try with_reducible rfl)
  simp only [Act.put, List.setIfInBounds_toArray, List.set_cons_zero, List.set_cons_succ]
  refine take_list (i := 7) (v := ?_) rfl (by kernel_rfl) (by kernel_rfl) (by kernel_rfl) (fun _ _ _ h => h) (Or.inl ⟨by rfl, ?_⟩) hH ?_
  rotate_left
  · ((intro w hSw; (try dsimp only at hSw); go_simp); try with_reducible rfl)
  simp only [Act.put, List.setIfInBounds_toArray, List.set_cons_zero, List.set_cons_succ]
  refine wpAnyH_ready (rs := [8]) (by kernel_rfl) (by simp) ?_
  refine ready_list rfl (fun K hK => ?_)
  go_simp
  refine (jrow_any M1.out HB.out k hk x HX.out _ note N1.out hl).mono ?_
  rintro e w2 ⟨b2, k2, rfl, h2, o2⟩
  have M2 := Lib.hid (M1.out.quiet o2)
  have R2 := Lib.hid h2.bytes
  have O2 := Lib.hid (O1.out.trans o2 (by simp))
  refine hK.out _ _ M2.out.c3 (fun hH => ?_)
  clear hK K h2 o2 M1 N1 O1
  refine wpAnyH_ready (rs := [9]) (by kernel_rfl) (by simp) ?_
  refine ready_list rfl (fun K hK => ?_)
  go_simp
  refine (save_any _ (j.row k note) M2.out.slot M2.out.dev R2.out M2.out.fitB (by have := HRL.out; omega)).mono ?_
  rintro e w3 ⟨rfl, d3, o3, v3, s3, hv3⟩
  have M3 := Lib.hid ((M2.out.jw.setQ o3 d3 s3 hv3).jm rfl rfl rfl rfl M2.out.ok (by rw [sdisk_size]; exact M2.out.here) ((save_at _ _ _).trans M2.out.at_))
  have O3 := Lib.hid ((O2.out.mono (T := PA p q a) (by simp)).trans o3 (fun k hk => .inl (by simp [PA, hk])))
  have Z2 := O2.out.size
  have V3 := Lib.hid (show ∀ g, v3.ownBlock = some g → vr.ownBlock = some g ∨ w.heap.size ≤ g from fun g hg => by
    rcases hv3 with e | hv3
    · exact .inl (by rw [← e]; exact hg)
    · exact .inr (Nat.le_trans Z2 (hv3 g hg)))
  refine hK.out _ _ M3.out.c3 (fun hH => ?_)
  clear hK K d3 o3 s3 hv3 M2 R2 O2 Z2
  refine wpAnyH_ready (rs := [10]) (by kernel_rfl) (by simp) ?_
  refine ready_list rfl (fun K hK => ?_)
  go_simp
  refine (jmet_any M3.out _).mono ?_
  rintro e w4 ⟨rfl, m4, o4⟩
  have F := Lib.hid (show RPost w p q a vs vt vn vr (j.saveR d s k note) (.returned (errV (s.scode d (j.row k note)))) w4 from ⟨rfl, ⟨v3, m4, V3.out⟩, O3.out.trans o4 (fun k hk => .inl (by rw [List.mem_singleton.1 hk]; exact jbl_p_sub))⟩)
  refine hK.out _ _ m4.c3 (fun hH => ?_)
  clear hK K m4 o4 M3 O3 V3
  refine take_list (i := 11) (v := ?_) rfl (by kernel_rfl) (by kernel_rfl) (by kernel_rfl) (fun _ _ _ h => h) (Or.inl ⟨by rfl, ?_⟩) hH ?_
  rotate_left
  · ((intro w hSw; (try dsimp only at hSw); go_simp); try with_reducible rfl)
  simp only [Act.put, List.setIfInBounds_toArray, List.set_cons_zero, List.set_cons_succ]
  refine wpAnyH_done (by kernel_rfl) ?_ _
  clear hH
  go_wp2_with fail
  go_ret
  exact F.out
end Go.Proofs.YtfnedeaemjchgaaGreat

/- Slots: where they fit, what they hold in memory, and the small calls. -/
import Derived.Test.YtfnedeaemjchgaaGreatD8
import Derived.Test.YtfnedeaemjchgaaGreatN8
import Derived.Test.YtfnedeaemjchgaaGreatLw
import Derived.Test.YtfnedeaemjchgaaGreatM5
namespace Go.Proofs.YtfnedeaemjchgaaGreat
open Go.RowKit Go.Maps
set_option linter.unusedSimpArgs false
set_option linter.unusedVariables false

def fitB (at_ size : Int) : Bool := decide (0 ≤ at_) && decide (at_ ≤ size - 2)
theorem fits_nil (at_ : Int) (w : World) : Calls Tryz.prog 62 #[.pointer none, .int .i64 at_] w fun e w' => e = .returned (.bool false) ∧ w = w' := by
  by_cases h0 : 0 ≤ at_
  · go_enter Tryz.func62, Tryz.ntmps62
    go_wp2_with fail
    refine (size_nil _).mono ?_
    rintro e w' ⟨rfl, rfl⟩
    go_wp2_with fail
    go_ret
    exact ⟨ret_bool (by first | rfl | (simp; omega)), rfl⟩
  · have h1 : at_ < 0 := by omega
    go_enter Tryz.func62, Tryz.ntmps62
    go_wp2_with fail
    go_ret
    exact ⟨rfl, rfl⟩
theorem fits_dev (a : DA) (d : Disk) (at_ : Int) (w : World) (h : Dev w a d) : Calls Tryz.prog 62 #[.pointer (some ⟨a.p, 0, none⟩), .int .i64 at_] w fun e w' => e = .returned (.bool (fitB at_ d.size)) ∧ w = w' := by
  have hlo := h.lo
  have hhi := h.hi
  by_cases h0 : 0 ≤ at_
  · go_enter Tryz.func62, Tryz.ntmps62
    go_wp2_with fail
    refine (size_any _ _ _ _ _ _ h.blk).mono ?_
    rintro e w' ⟨rfl, rfl⟩
    go_wp2_with fail
    go_ret
    exact ⟨ret_bool (by simp [fitB, h0]), rfl⟩
  · have h1 : at_ < 0 := by omega
    go_enter Tryz.func62, Tryz.ntmps62
    go_wp2_with fail
    go_ret
    exact ⟨ret_bool (by simp [fitB]; omega), rfl⟩
theorem fitB_iff {at_ size : Int} : fitB at_ size = true ↔ 0 ≤ at_ ∧ at_ ≤ size - 2 := by simp [fitB]

/-! ### what slots hold -/
/-- The number of the row that holds, that row, and whether a Save of theirs was cut. -/
structure SL where
  at_ : Int
  n : Int
  row : Sec
  cut : Bool
/-- v is bytes, in a block of bytes. -/
structure Held (w : World) (v : Value) (l : Sec) : Prop where
  bytes : Bytes w v l
  blk : ∀ g, v.ownBlock = some g → ∃ cur, w.heap[g]? = some (.cells cur 5 (0, 0))
theorem Held.kept {S : List Nat} {w w' : World} {v : Value} {l : Sec} (h : Held w v l) (ho : Only S w w') (hs : ∀ k ∈ S, v.ownBlock ≠ some k) : Held w' v l := by
  obtain ⟨h1, h2⟩ := h
  refine ⟨h1.keptOff ho (fun a n c e h0 hm => hs _ hm (by rw [e]; rfl)), fun g hg => ?_⟩
  obtain ⟨cur, hc⟩ := h2 g hg
  exact ⟨cur, ho.heap hc (fun hm => hs g hm hg)⟩
theorem Own.held {w : World} {base : Nat} {v : Value} {l : Sec} (h : Own w base v l) : Held w v l := by
  refine ⟨h.bytes, fun g hg => ?_⟩
  rcases h.2 with ⟨rfl, _⟩ | ⟨g', cap, cur, rfl, _, hc, _⟩
  · cases hg
  · cases hg
    exact ⟨cur, hc⟩
/-- Block p is slots of a device. -/
structure Slot (w : World) (p : Nat) (a : DA) (v : Value) (s : SL) : Prop where
  blk : w.heap[p]? = some (.cells #[.pointer (some ⟨a.p, 0, none⟩), .int .i64 s.at_, .int .i64 s.n, v, .bool s.cut] 106 (0, 0))
  row : Held w v s.row
  lo : 0 ≤ s.n
  hi : s.n ≤ 4611686018427387904
  len : s.row.length ≤ 480

section
variable {w w' : World} {p : Nat} {a : DA} {v : Value} {s : SL} (h : Slot w p a v s)
include h
theorem Slot.c0 : w.cell? ⟨p, 0, none⟩ = some (.pointer (some ⟨a.p, 0, none⟩)) := (cell_at 0 h.blk).trans rfl
theorem Slot.c1 : w.cell? ⟨p, 1, none⟩ = some (.int .i64 s.at_) := (cell_at 1 h.blk).trans rfl
theorem Slot.c2 : w.cell? ⟨p, 2, none⟩ = some (.int .i64 s.n) := (cell_at 2 h.blk).trans rfl
theorem Slot.c3 : w.cell? ⟨p, 3, none⟩ = some v := (cell_at 3 h.blk).trans rfl
theorem Slot.c4 : w.cell? ⟨p, 4, none⟩ = some (.bool s.cut) := (cell_at 4 h.blk).trans rfl
theorem Slot.free (i : Nat) : w.frozen? ⟨p, i, none⟩ = false := free_at i h.blk
theorem Slot.lt : p < w.heap.size := lt_of_heap h.blk
theorem Slot.kept {S : List Nat} (ho : Only S w w') (hp : p ∉ S) (hs : ∀ k ∈ S, v.ownBlock ≠ some k) : Slot w' p a v s :=
  ⟨ho.heap h.blk hp, h.row.kept ho hs, h.lo, h.hi, h.len⟩
theorem Slot.quiet (ho : Only [] w w') : Slot w' p a v s := h.kept ho (by simp) (by simp)
/-- The slots are no part of a device, nor is their row. -/
theorem Slot.off_dev {a' : DA} {d : Disk} (hd : Dev w a' d) : p ∉ a'.bl ∧ ∀ k ∈ a'.bl, v.ownBlock ≠ some k := by
  have key : ∀ (g : Nat) (cs : Array Value) (t : TypeId), w.heap[g]? = some (.cells cs t (0, 0)) → t ≠ 79 → g ∉ a'.bl := fun g cs t hg ht => by
    have h1 := hd.blk
    have h2 := hd.now.ne hg
    have h3 := hd.old.ne hg
    simp only [DA.bl, List.mem_cons, List.not_mem_nil, or_false]
    rintro (e | e | e)
    · rw [e, show w.heap[a'.p]? = _ from h1] at hg
      cases hg
      exact ht rfl
    · exact h2 e.symm
    · exact h3 e.symm
  refine ⟨key _ _ _ h.blk (by decide), fun k hk e => ?_⟩
  obtain ⟨cur, hc⟩ := h.row.blk k e
  exact key _ _ _ hc (by decide) hk
theorem Slot.dev {a' : DA} {d : Disk} (hd : Dev w a' d) (ho : Only a'.bl w w') : Slot w' p a v s := h.kept ho (h.off_dev hd).1 (h.off_dev hd).2
end

theorem row_nil (w : World) : Calls Tryz.prog 59 #[.pointer none] w fun e w' => e = .returned (.slice none 0 0) ∧ w = w' := by
  go_enter Tryz.func59, Tryz.ntmps59
  go_wp2
  go_ret
  exact ⟨rfl, rfl⟩
theorem save_nil (v : Value) (w : World) : Calls Tryz.prog 55 #[.pointer none, v] w fun e w' => e = .returned (err 3) ∧ w = w' := by
  go_enter Tryz.func55, Tryz.ntmps55
  go_wp2
  go_ret
  exact ⟨rfl, rfl⟩
theorem row_slot {p : Nat} {a : DA} {v : Value} {s : SL} (w : World) (h : Slot w p a v s) (r : Sec) (hr : s.row = r) :
    Calls Tryz.prog 59 #[.pointer (some ⟨p, 0, none⟩)] w fun e w' => ∃ b c, e = .returned (.slice b r.length c) ∧ Own w' w.heap.size (.slice b r.length c) r ∧ Only [] w w' := by
  subst hr
  have c3 := h.c3
  have hb := h.row.bytes
  have hl := h.len
  obtain ⟨va, vc, rfl, -⟩ := id hb
  have HB := Lib.hid hb
  clear h hb
  go_enter Tryz.func59, Tryz.ntmps59
  go_wp2_with fail
  refine (clone_any _ s.row _ HB.out (by omega)).mono ?_
  rintro e w1 ⟨b, c, rfl, h1, o1⟩
  go_wp2_with fail
  go_ret
  exact ⟨b, c, rfl, h1, o1⟩

/-! ### what a sector says -/
def NumbPost (w : World) (l : Sec) (e : Ending) (w' : World) : Prop :=
  (numb l = none → e = .returned (.tuple #[.int .i64 0, .slice none 0 0])) ∧
  (∀ n r, numb l = some (n, r) → ∃ a c, e = .returned (.tuple #[.int .i64 n, .slice a r.length c]) ∧ Own w' w.heap.size (.slice a r.length c) r) ∧ Only [] w w'
theorem NumbPost.no {w w' : World} {l : Sec} (h : numb l = none) (ho : Only [] w w') : NumbPost w l (.returned (.tuple #[.int .i64 0, .slice none 0 0])) w' :=
  ⟨(fun _ => rfl), (fun n r hr => by rw [h] at hr; cases hr), ho⟩
theorem Own.len_fit {w : World} {base : Nat} {a : Option Addr} {n c : Nat} {l : Sec} (h : Own w base (.slice a n c) l) : n ≤ c := (h.fit a n c rfl).1

set_option maxRecDepth 100000 in
theorem numbered_any (v : Value) (l : Sec) (w : World) (hv : Bytes w v l) (hf : Fit v) (hl : l.length ≤ 65536) :
    Calls Tryz.prog 73 #[v] w (NumbPost w l) := by
  go_enter Tryz.func73, Tryz.ntmps73
  go_wp2_with fail
  refine (Unbox_any v l w hv hf (by omega)).mono ?_
  rintro e w1 ⟨hn1, hs1, o1⟩
  have q := iface_nerr
  have q0 := iface_ne
  cases hu : unbox l with
  | none =>
    have hnone : numb l = none := by unfold numb; rw [hu]
    rw [hn1 hu]
    have HN := Lib.hid hnone
    clear hn1 hs1 hu hnone
    go_wp2_with fail
    go_ret2
    exact NumbPost.no HN.out o1
  | some d =>
    obtain ⟨a1, c1, rfl, hd⟩ := hs1 d hu
    have hdl : d.length ≤ 65536 := by have := unbox_inv hu; omega
    have HD := Lib.hid hd
    have HU := Lib.hid hu
    clear hn1 hs1 hu hd
    go_wp2_with fail
    cases ht : takeN d with
    | none =>
      have hnone : numb l = none := by unfold numb; rw [HU.out]; simp only [ht]
      have HN := Lib.hid hnone
      refine (Take_none _ d w1 HD.out.bytes (by omega) ht).mono ?_
      rintro e w2 ⟨rfl, rfl⟩
      clear ht hnone
      go_wp2_with fail
      go_ret2
      exact NumbPost.no HN.out o1
    | some nk =>
      obtain ⟨n, k⟩ := nk
      refine (Take_some _ d w1 HD.out.bytes HD.out.fit (by omega) n k ht).mono ?_
      rintro e w2 ⟨a2, c2, rfl, hd2, o2⟩
      obtain ⟨_, hk, _, n0, n1⟩ := takeN_inv ht
      have HT := Lib.hid ht
      have HD2 := Lib.hid hd2
      have O2 := Lib.hid (o1.trans o2 (by simp))
      clear ht hd2 o1 o2
      by_cases hb1 : n < 1
      · have hnone : numb l = none := by unfold numb; rw [HU.out]; simp only [HT.out]; rw [if_pos (by omega)]
        have HN := Lib.hid hnone
        clear hnone
        go_wp2_with fail
        go_ret2
        exact NumbPost.no HN.out O2.out
      by_cases hb2 : 4611686018427387904 < n
      · have hnone : numb l = none := by unfold numb; rw [HU.out]; simp only [HT.out]; rw [if_pos (by omega)]
        have HN := Lib.hid hnone
        clear hnone
        go_wp2_with fail
        go_ret2
        exact NumbPost.no HN.out O2.out
      go_wp2_with fail
      have e1 : (d.drop k).length = d.length - k := List.length_drop
      have hfit2 := HD2.out.fit
      cases hr : takeR (d.drop k) with
      | none =>
        have hnone : numb l = none := by unfold numb; rw [HU.out]; simp only [HT.out]; rw [if_neg (by omega), hr]
        have HN := Lib.hid hnone
        refine (TakeRow_none _ (d.drop k) w2 HD2.out.bytes hfit2 (by omega) hr).mono ?_
        rintro e w3 ⟨rfl, rfl⟩
        clear hr hnone
        go_wp2_with fail
        go_ret2
        exact NumbPost.no HN.out O2.out
      | some rr =>
        obtain ⟨r, rest⟩ := rr
        refine (TakeRow_some _ (d.drop k) w2 HD2.out.bytes hfit2 (by omega) r rest hr).mono ?_
        rintro e w3 ⟨a3, c3, a4, c4, rfl, h3, h4, _, o3⟩
        have HR := Lib.hid hr
        have H3 := Lib.hid h3
        have O3 := Lib.hid (O2.out.trans o3 (by simp))
        have hnum : numb l = if 480 < r.length ∨ 0 < rest.length then none else some (n, r) := by
          unfold numb
          rw [HU.out]
          simp only [HT.out]
          rw [if_neg (by omega), HR.out]
        have HN := Lib.hid hnum
        have z3 : w.heap.size ≤ w2.heap.size := O2.out.size
        clear hr h3 h4 o3 hnum e1 hfit2
        by_cases hb3 : 480 < r.length
        · have hb3' : (480 : Int) < (r.length : Int) := by omega
          go_wp2_with fail
          go_ret2
          exact NumbPost.no (by rw [HN.out, if_pos (.inl hb3)]) O3.out
        by_cases hb4 : 0 < rest.length
        · have hb3' : ¬ (480 : Int) < (r.length : Int) := by omega
          have hb4' : (0 : Int) < (rest.length : Int) := by omega
          go_wp2_with fail
          go_ret2
          exact NumbPost.no (by rw [HN.out, if_pos (.inr hb4)]) O3.out
        have hb3' : ¬ (480 : Int) < (r.length : Int) := by omega
        have hb4' : ¬ (0 : Int) < (rest.length : Int) := by omega
        go_wp2_with fail
        go_ret2
        refine ⟨fun hx => ?_, fun n' r' hx => ?_, O3.out⟩
        · rw [HN.out, if_neg (by omega)] at hx
          cases hx
        · rw [HN.out, if_neg (by omega)] at hx
          cases hx
          exact ⟨_, _, rfl, H3.out.mono z3⟩
end Go.Proofs.YtfnedeaemjchgaaGreat

/- Slots: where they fit, what they hold in memory, and the small calls. -/
import Derived.Test.YtdmkmjlkogkmgaaD8
import Derived.Test.YtdmkmjlkogkmgaaN8
import Derived.Test.YtdmkmjlkogkmgaaLw
import Derived.Test.YtdmkmjlkogkmgaaM5
import Derived.Test.YtdmkmjlkogkmgaaAll
namespace Go.Proofs.Ytdmkmjlkogkmgaa
open Go.RowKit Go.Maps
set_option linter.unusedSimpArgs false
set_option linter.unusedVariables false

def fitB (at_ size : Int) : Bool := decide (0 ≤ at_) && decide (at_ ≤ size - 2)
theorem fits_nil (at_ : Int) (w : World) : Calls Try.prog 36 #[.pointer none, .int .i64 at_] w fun e w' => e = .returned (.bool false) ∧ w = w' := by
  by_cases h0 : 0 ≤ at_
  · go_enter Try.func36, Try.ntmps36
    go_wp2_with fail
    refine (size_nil _).mono ?_
    rintro e w' ⟨rfl, rfl⟩
    go_wp2_with fail
    go_ret
    exact ⟨ret_bool (by first | rfl | (simp; omega)), rfl⟩
  · have h1 : at_ < 0 := by omega
    go_enter Try.func36, Try.ntmps36
    go_wp2_with fail
    go_ret
    exact ⟨rfl, rfl⟩
theorem fits_dev (a : DA) (d : Disk) (at_ : Int) (w : World) (h : Dev w a d) : Calls Try.prog 36 #[.pointer (some ⟨a.p, 0, none⟩), .int .i64 at_] w fun e w' => e = .returned (.bool (fitB at_ d.size)) ∧ w = w' := by
  have hlo := h.lo
  have hhi := h.hi
  by_cases h0 : 0 ≤ at_
  · go_enter Try.func36, Try.ntmps36
    go_wp2_with fail
    refine (size_any _ _ _ _ _ _ h.blk).mono ?_
    rintro e w' ⟨rfl, rfl⟩
    go_wp2_with fail
    go_ret
    exact ⟨ret_bool (by simp [fitB, h0]), rfl⟩
  · have h1 : at_ < 0 := by omega
    go_enter Try.func36, Try.ntmps36
    go_wp2_with fail
    go_ret
    exact ⟨ret_bool (by simp [fitB]; omega), rfl⟩
theorem fitB_iff {at_ size : Int} : fitB at_ size = true ↔ 0 ≤ at_ ∧ at_ ≤ size - 2 := by simp [fitB]

/-! ### what slots hold -/
/-- The number of the row that holds, that row, and whether a Save of theirs was cut. -/
structure SL where
  at_ : Int
  n : Int
  row : Sec
  cut : Bool
/-- v is bytes, in a block of bytes. -/
structure Held (w : World) (v : Value) (l : Sec) : Prop where
  bytes : Bytes w v l
  blk : ∀ g, v.ownBlock = some g → ∃ cur, w.heap[g]? = some (.cells cur 5 (0, 0))
theorem Held.kept {S : List Nat} {w w' : World} {v : Value} {l : Sec} (h : Held w v l) (ho : Only S w w') (hs : ∀ k ∈ S, v.ownBlock ≠ some k) : Held w' v l := by
  obtain ⟨h1, h2⟩ := h
  refine ⟨h1.keptOff ho (fun a n c e h0 hm => hs _ hm (by rw [e]; rfl)), fun g hg => ?_⟩
  obtain ⟨cur, hc⟩ := h2 g hg
  exact ⟨cur, ho.heap hc (fun hm => hs g hm hg)⟩
theorem Own.held {w : World} {base : Nat} {v : Value} {l : Sec} (h : Own w base v l) : Held w v l := by
  refine ⟨h.bytes, fun g hg => ?_⟩
  rcases h.2 with ⟨rfl, _⟩ | ⟨g', cap, cur, rfl, _, hc, _⟩
  · cases hg
  · cases hg
    exact ⟨cur, hc⟩
/-- Block p is slots of a device. -/
structure Slot (w : World) (p : Nat) (a : DA) (v : Value) (s : SL) : Prop where
  blk : w.heap[p]? = some (.cells #[.pointer (some ⟨a.p, 0, none⟩), .int .i64 s.at_, .int .i64 s.n, v, .bool s.cut] 91 (0, 0))
  row : Held w v s.row
  lo : 0 ≤ s.n
  hi : s.n ≤ 4611686018427387904
  len : s.row.length ≤ 480

section
variable {w w' : World} {p : Nat} {a : DA} {v : Value} {s : SL} (h : Slot w p a v s)
include h
theorem Slot.c0 : w.cell? ⟨p, 0, none⟩ = some (.pointer (some ⟨a.p, 0, none⟩)) := (cell_at 0 h.blk).trans rfl
theorem Slot.c1 : w.cell? ⟨p, 1, none⟩ = some (.int .i64 s.at_) := (cell_at 1 h.blk).trans rfl
theorem Slot.c2 : w.cell? ⟨p, 2, none⟩ = some (.int .i64 s.n) := (cell_at 2 h.blk).trans rfl
theorem Slot.c3 : w.cell? ⟨p, 3, none⟩ = some v := (cell_at 3 h.blk).trans rfl
theorem Slot.c4 : w.cell? ⟨p, 4, none⟩ = some (.bool s.cut) := (cell_at 4 h.blk).trans rfl
theorem Slot.free (i : Nat) : w.frozen? ⟨p, i, none⟩ = false := free_at i h.blk
theorem Slot.lt : p < w.heap.size := lt_of_heap h.blk
theorem Slot.kept {S : List Nat} (ho : Only S w w') (hp : p ∉ S) (hs : ∀ k ∈ S, v.ownBlock ≠ some k) : Slot w' p a v s :=
  ⟨ho.heap h.blk hp, h.row.kept ho hs, h.lo, h.hi, h.len⟩
theorem Slot.quiet (ho : Only [] w w') : Slot w' p a v s := h.kept ho (by simp) (by simp)
/-- The slots are no part of a device, nor is their row. -/
theorem Slot.off_dev {a' : DA} {d : Disk} (hd : Dev w a' d) : p ∉ a'.bl ∧ ∀ k ∈ a'.bl, v.ownBlock ≠ some k := by
  have key : ∀ (g : Nat) (cs : Array Value) (t : TypeId), w.heap[g]? = some (.cells cs t (0, 0)) → t ≠ 70 → g ∉ a'.bl := fun g cs t hg ht => by
    have h1 := hd.blk
    have h2 := hd.now.ne hg
    have h3 := hd.old.ne hg
    simp only [DA.bl, List.mem_cons, List.not_mem_nil, or_false]
    rintro (e | e | e)
    · rw [e, show w.heap[a'.p]? = _ from h1] at hg
      cases hg
      exact ht rfl
    · exact h2 e.symm
    · exact h3 e.symm
  refine ⟨key _ _ _ h.blk (by decide), fun k hk e => ?_⟩
  obtain ⟨cur, hc⟩ := h.row.blk k e
  exact key _ _ _ hc (by decide) hk
theorem Slot.dev {a' : DA} {d : Disk} (hd : Dev w a' d) (ho : Only a'.bl w w') : Slot w' p a v s := h.kept ho (h.off_dev hd).1 (h.off_dev hd).2
end

theorem row_nil (w : World) : Calls Try.prog 18 #[.pointer none] w fun e w' => e = .returned (.slice none 0 0) ∧ w = w' := by
  go_enter Try.func18, Try.ntmps18
  go_wp2
  go_ret
  exact ⟨rfl, rfl⟩
theorem number_nil (w : World) : Calls Try.prog 19 #[.pointer none] w fun e w' => e = .returned (.int .i64 0) ∧ w = w' := by
  go_enter Try.func19, Try.ntmps19
  go_wp2
  go_ret
  exact ⟨rfl, rfl⟩
theorem save_nil (v : Value) (w : World) : Calls Try.prog 14 #[.pointer none, v] w fun e w' => e = .returned (err 3) ∧ w = w' := by
  go_enter Try.func14, Try.ntmps14
  go_wp2
  go_ret
  exact ⟨rfl, rfl⟩
theorem number_slot {p : Nat} {a : DA} {v : Value} {s : SL} (w : World) (h : Slot w p a v s) (n : Int) (hn : s.n = n) : Calls Try.prog 19 #[.pointer (some ⟨p, 0, none⟩)] w fun e w' => e = .returned (.int .i64 n) ∧ w = w' := by
  have c2 := h.c2
  rw [hn] at c2
  clear h hn
  go_enter Try.func19, Try.ntmps19
  go_wp2
  go_ret
  exact ⟨rfl, rfl⟩
theorem row_slot {p : Nat} {a : DA} {v : Value} {s : SL} (w : World) (h : Slot w p a v s) (r : Sec) (hr : s.row = r) :
    Calls Try.prog 18 #[.pointer (some ⟨p, 0, none⟩)] w fun e w' => ∃ b c, e = .returned (.slice b r.length c) ∧ Own w' w.heap.size (.slice b r.length c) r ∧ Only [] w w' := by
  subst hr
  have c3 := h.c3
  have hb := h.row.bytes
  have hl := h.len
  obtain ⟨va, vc, rfl, -⟩ := id hb
  have HB := Lib.hid hb
  clear h hb
  go_enter Try.func18, Try.ntmps18
  go_wp2_with fail
  refine (clone_any _ s.row _ HB.out (by omega)).mono ?_
  rintro e w1 ⟨b, c, rfl, h1, o1⟩
  go_wp2_with fail
  go_ret
  exact ⟨b, c, rfl, h1, o1⟩

/-! ### what a sector says -/
def NumbPost (w : World) (l : Sec) (e : Ending) (w' : World) : Prop :=
  (numb l = none → e = .returned (.tuple #[.int .i64 0, .slice none 0 0])) ∧
  (∀ n r, numb l = some (n, r) → ∃ a c, e = .returned (.tuple #[.int .i64 n, .slice a r.length c]) ∧ Own w' w.heap.size (.slice a r.length c) r) ∧ Only [] w w'
theorem NumbPost.no {w w' : World} {l : Sec} (h : numb l = none) (ho : Only [] w w') : NumbPost w l (.returned (.tuple #[.int .i64 0, .slice none 0 0])) w' :=
  ⟨(fun _ => rfl), (fun n r hr => by rw [h] at hr; cases hr), ho⟩
theorem Own.len_fit {w : World} {base : Nat} {a : Option Addr} {n c : Nat} {l : Sec} (h : Own w base (.slice a n c) l) : n ≤ c := (h.fit a n c rfl).1

set_option maxRecDepth 100000 in
theorem numbered_any (v : Value) (l : Sec) (w : World) (hv : Bytes w v l) (hf : Fit v) (hl : l.length ≤ 65536) :
    Calls Try.prog 40 #[v] w (NumbPost w l) := by
  go_enter Try.func40, Try.ntmps40
  go_wp2_with fail
  refine (Unbox_any v l w hv hf (by omega)).mono ?_
  rintro e w1 ⟨hn1, hs1, o1⟩
  have q := iface_nerr
  have q0 := iface_ne
  cases hu : unbox l with
  | none =>
    have hnone : numb l = none := by unfold numb; rw [hu]
    rw [hn1 hu]
    have HN := Lib.hid hnone
    clear hn1 hs1 hu hnone
    go_wp2_with fail
    go_ret2
    exact NumbPost.no HN.out o1
  | some d =>
    obtain ⟨a1, c1, rfl, hd⟩ := hs1 d hu
    have hdl : d.length ≤ 65536 := by have := unbox_inv hu; omega
    have HD := Lib.hid hd
    have HU := Lib.hid hu
    clear hn1 hs1 hu hd
    go_wp2_with fail
    cases ht : takeN d with
    | none =>
      have hnone : numb l = none := by unfold numb; rw [HU.out]; simp only [ht]
      have HN := Lib.hid hnone
      refine (Take_none _ d w1 HD.out.bytes (by omega) ht).mono ?_
      rintro e w2 ⟨rfl, rfl⟩
      clear ht hnone
      go_wp2_with fail
      go_ret2
      exact NumbPost.no HN.out o1
    | some nk =>
      obtain ⟨n, k⟩ := nk
      refine (Take_some _ d w1 HD.out.bytes HD.out.fit (by omega) n k ht).mono ?_
      rintro e w2 ⟨a2, c2, rfl, hd2, o2⟩
      obtain ⟨_, hk, _, n0, n1⟩ := takeN_inv ht
      have HT := Lib.hid ht
      have HD2 := Lib.hid hd2
      have O2 := Lib.hid (o1.trans o2 (by simp))
      clear ht hd2 o1 o2
      by_cases hb1 : n < 1
      · have hnone : numb l = none := by unfold numb; rw [HU.out]; simp only [HT.out]; rw [if_pos (by omega)]
        have HN := Lib.hid hnone
        clear hnone
        go_wp2_with fail
        go_ret2
        exact NumbPost.no HN.out O2.out
      by_cases hb2 : 4611686018427387904 < n
      · have hnone : numb l = none := by unfold numb; rw [HU.out]; simp only [HT.out]; rw [if_pos (by omega)]
        have HN := Lib.hid hnone
        clear hnone
        go_wp2_with fail
        go_ret2
        exact NumbPost.no HN.out O2.out
      go_wp2_with fail
      have e1 : (d.drop k).length = d.length - k := List.length_drop
      have hfit2 := HD2.out.fit
      cases hr : takeR (d.drop k) with
      | none =>
        have hnone : numb l = none := by unfold numb; rw [HU.out]; simp only [HT.out]; rw [if_neg (by omega), hr]
        have HN := Lib.hid hnone
        refine (TakeRow_none _ (d.drop k) w2 HD2.out.bytes hfit2 (by omega) hr).mono ?_
        rintro e w3 ⟨rfl, rfl⟩
        clear hr hnone
        go_wp2_with fail
        go_ret2
        exact NumbPost.no HN.out O2.out
      | some rr =>
        obtain ⟨r, rest⟩ := rr
        refine (TakeRow_some _ (d.drop k) w2 HD2.out.bytes hfit2 (by omega) r rest hr).mono ?_
        rintro e w3 ⟨a3, c3, a4, c4, rfl, h3, h4, _, o3⟩
        have HR := Lib.hid hr
        have H3 := Lib.hid h3
        have O3 := Lib.hid (O2.out.trans o3 (by simp))
        have hnum : numb l = if 480 < r.length ∨ 0 < rest.length then none else some (n, r) := by
          unfold numb
          rw [HU.out]
          simp only [HT.out]
          rw [if_neg (by omega), HR.out]
        have HN := Lib.hid hnum
        have z3 : w.heap.size ≤ w2.heap.size := O2.out.size
        clear hr h3 h4 o3 hnum e1 hfit2
        by_cases hb3 : 480 < r.length
        · have hb3' : (480 : Int) < (r.length : Int) := by omega
          go_wp2_with fail
          go_ret2
          exact NumbPost.no (by rw [HN.out, if_pos (.inl hb3)]) O3.out
        by_cases hb4 : 0 < rest.length
        · have hb3' : ¬ (480 : Int) < (r.length : Int) := by omega
          have hb4' : (0 : Int) < (rest.length : Int) := by omega
          go_wp2_with fail
          go_ret2
          exact NumbPost.no (by rw [HN.out, if_pos (.inr hb4)]) O3.out
        have hb3' : ¬ (480 : Int) < (r.length : Int) := by omega
        have hb4' : ¬ (0 : Int) < (rest.length : Int) := by omega
        go_wp2_with fail
        go_ret2
        refine ⟨fun hx => ?_, fun n' r' hx => ?_, O3.out⟩
        · rw [HN.out, if_neg (by omega)] at hx
          cases hx
        · rw [HN.out, if_neg (by omega)] at hx
          cases hx
          exact ⟨_, _, rfl, H3.out.mono z3⟩
end Go.Proofs.Ytdmkmjlkogkmgaa
/- Slots: lay, Save. -/
namespace Go.Proofs.Ytdmkmjlkogkmgaa
open Go.RowKit Go.Maps
set_option linter.unusedSimpArgs false
set_option linter.unusedVariables false

/-! ### a sector is written, and the device synced -/
def Disk.lcode (d : Disk) (k : Int) (l : Sec) : Int := if d.code k l.length = 0 then (d.wr k l).scode else d.code k l.length
def Disk.ly (d : Disk) (k : Int) (l : Sec) : Disk := if d.code k l.length = 0 then (d.wr k l).sy else d.wr k l
theorem Disk.code_in {d : Disk} {k : Int} {l : Sec} (hk : inB k d.size = true) (hl : l.length = 512) : d.code k l.length = if d.met.off = true then 3 else 0 := by
  unfold Disk.code
  rw [hk, hl]
  simp
theorem Disk.code_03 {d : Disk} {k : Int} {l : Sec} (hk : inB k d.size = true) (hl : l.length = 512) : d.code k l.length = 0 ∨ d.code k l.length = 3 := by
  rw [Disk.code_in hk hl]
  cases d.met.off <;> simp
theorem Disk.scode_03 (d : Disk) : d.scode = 0 ∨ d.scode = 3 := by
  unfold Disk.scode
  cases d.met.off <;> simp
theorem Disk.lcode_03 {d : Disk} {k : Int} {l : Sec} (hk : inB k d.size = true) (hl : l.length = 512) : d.lcode k l = 0 ∨ d.lcode k l = 3 := by
  unfold Disk.lcode
  split
  · exact Disk.scode_03 _
  · exact Disk.code_03 hk hl
theorem errV_nz {c : Int} (h : c ≠ 0) : errV c = err c := if_neg h
theorem errV_z {c : Int} (h : c = 0) : errV c = .nilIface := if_pos h

/-- The slots behind a row that holds. -/
def SL.put (s : SL) (r : Sec) : SL := { s with n := s.n + 1, row := r }
def SL.die (s : SL) (b : Bool) : SL := { s with cut := b }
/-- Where the next row stands, and its sector. -/
def SL.place (s : SL) : Int := s.at_ + (s.n + 1) % 2
def SL.sec (s : SL) (r : Sec) : Sec := rowSec (s.n + 1) r

/-- What turns: the slots' own block and the device. -/
def SA (p : Nat) (a : DA) : List Nat := p :: a.bl

structure LayPost (w : World) (p : Nat) (a : DA) (v : Value) (s : SL) (d : Disk) (r : Sec) (e : Ending) (w' : World) : Prop where
  ans : e = .returned (errV (d.lcode s.place (s.sec r)))
  dev : Dev w' a (d.ly s.place (s.sec r))
  only : Only (SA p a) w w'
  yes : d.lcode s.place (s.sec r) = 0 → ∃ v', Slot w' p a v' (s.put r) ∧ ∀ g, v'.ownBlock = some g → w.heap.size ≤ g
  no : d.lcode s.place (s.sec r) ≠ 0 → Slot w' p a v s

theorem tmod_two {n : Int} (h : 0 ≤ n) : n.tmod 2 = n % 2 := Int.tmod_eq_emod_of_nonneg h
theorem slot_new {w : World} {p : Nat} {a : DA} {v : Value} {s : SL} (h : Slot w p a v s) (b : Bool) : Slot (w.setCell ⟨p, 4, none⟩ (.bool b)) p a v (s.die b) := by
  have hk := heap_cell (i := 4) (.bool b) h.blk
  have ho : Only [p] w (w.setCell ⟨p, 4, none⟩ (.bool b)) := (Only.refl _ _).setCell (by simp) _
  refine ⟨hk, h.row.kept ho (fun k hk' e => ?_), h.lo, h.hi, h.len⟩
  simp at hk'
  subst hk'
  obtain ⟨cur, hc⟩ := h.row.blk _ e
  have hb := h.blk
  rw [hc] at hb
  cases hb

theorem slot_put {w : World} {p : Nat} {a : DA} {v v' : Value} {s : SL} {r : Sec} (h : Slot w p a v s) (hv : Held w v' r) (hn : s.n < 4611686018427387904) (hl : r.length ≤ 480) :
    Slot ((w.setCell ⟨p, 2, none⟩ (.int .i64 (s.n + 1))).setCell ⟨p, 3, none⟩ v') p a v' (s.put r) := by
  have hk := heap_cell (i := 3) v' (heap_cell (i := 2) (.int .i64 (s.n + 1)) h.blk)
  have ho : Only [p] w ((w.setCell ⟨p, 2, none⟩ (.int .i64 (s.n + 1))).setCell ⟨p, 3, none⟩ v') := ((Only.refl _ _).setCell (by simp) _).setCell (by simp) _
  have hlo := h.lo
  refine ⟨hk, hv.kept ho (fun k hk' e => ?_), by simp only [SL.put]; omega, by simp only [SL.put]; omega, hl⟩
  simp at hk'
  subst hk'
  obtain ⟨cur, hc⟩ := hv.blk _ e
  have hb := h.blk
  rw [hc] at hb
  cases hb
/-- Bytes lie in no slots' own block, and in no device. -/
theorem off_slot {w : World} {p : Nat} {a : DA} {v rv : Value} {s : SL} {d : Disk} {r : Sec} (h : Slot w p a v s) (hd : Dev w a d) (hr : Bytes w rv r) : Off rv (SA p a) := by
  intro x n c e hn hm
  obtain ⟨x', cap, e2, hc⟩ := hr
  rw [e2] at e
  cases e
  obtain ⟨b, off, e3, hcell⟩ := hc 0 r[0] (List.getElem?_eq_getElem hn)
  cases e3
  simp only [SA, List.mem_cons] at hm
  rcases hm with rfl | hm
  · have hb := h.blk
    unfold World.cell? at hcell
    rw [show w.heap[b]? = _ from hb] at hcell
    dsimp only at hcell
    have hm : Value.int .u8 (r[0].toNat : Int) ∈ #[Value.pointer (some ⟨a.p, 0, none⟩), .int .i64 s.at_, .int .i64 s.n, v, .bool s.cut] := by
      rw [Array.mem_iff_getElem?]
      exact ⟨_, hcell⟩
    obtain ⟨_, _, ev, _⟩ := h.row.bytes
    simp [ev] at hm
  · exact hd.clean _ _ hcell (.inl ⟨_, rfl⟩) hm

theorem nums_one (n : Int) : nums [n] = num n := by simp [nums]
theorem put_one (n : Int) (w : World) (hn : (Lit.int .i64 n).wf = true) :
    Calls Try.prog 58 #[.slice none 0 0, .slice (some ⟨w.heap.size, 0, none⟩) 1 1] (w.alloc (.cells #[.int .i64 n] 3)) fun e w' => ∃ a cap, e = .returned (.slice a (num n).length cap) ∧ Own w' w.heap.size (.slice a (num n).length cap) (num n) ∧ Only [] w w' := by
  refine (Put_any (.slice none 0 0) [] _ [n] _ (bytes_nil _ _) (ints_one w n hn) (by simp) (by simp)).mono ?_
  rintro e w' ⟨a, cap, rfl, h, o⟩
  simp only [nums_one, List.nil_append, List.length_nil, Nat.zero_add] at h ⊢
  exact ⟨a, cap, rfl, h.mono (by simp), ((Only.refl [] w).alloc _).trans o (by simp)⟩

set_option maxRecDepth 100000 in
set_option maxHeartbeats 1600000 in
theorem lay_any {w : World} {p : Nat} {a : DA} {v : Value} {s : SL} {d : Disk} (rv : Value) (r : Sec) (h : Slot w p a v s) (hd : Dev w a d) (hr : Bytes w rv r) (hl : r.length ≤ 480) (hn : s.n < 4611686018427387904) (ha : fitB s.at_ d.size = true) :
    Calls Try.prog 37 #[.pointer (some ⟨p, 0, none⟩), rv] w (LayPost w p a v s d r) := by
  have hat := fitB_iff.1 ha
  have hoff := off_slot h hd hr
  have hhi := hd.hi
  have hlo := h.lo
  have hnum := inRow_len (n := s.n + 1) (r := r) (by omega) (by omega) hl
  have hsl : (s.sec r).length = 512 := rowSec_length (by omega) (by omega) hl
  have hm0 := Int.emod_nonneg (s.n + 1) (show (2 : Int) ≠ 0 by omega)
  have hm1 := Int.emod_lt_of_pos (s.n + 1) (show (0 : Int) < 2 by omega)
  have hpl : inB s.place d.size = true := inB_iff.2 ⟨by unfold SL.place; omega, by unfold SL.place; omega⟩
  have hpe : IntKind.i64.wrap (s.at_ + (s.n + 1) % 2) = s.place := by
    rw [IntKind.wrap_i64]
    unfold SL.place
    omega
  have htm := tmod_two (n := s.n + 1) (by omega)
  have c0 := h.c0
  have c1 := h.c1
  have c2 := h.c2
  obtain ⟨ra, rc, rfl, -⟩ := id hr
  have HR := Lib.hid hr
  have H := Lib.hid h
  have HD := Lib.hid hd
  have HPL := Lib.hid hpl
  have HPE := Lib.hid hpe
  have HSL := Lib.hid hsl
  have HNUM := Lib.hid hnum
  have HOFF := Lib.hid hoff
  clear hr h hd ha hpl hpe hsl hnum hoff
  go_enter Try.func37, Try.ntmps37
  go_wp2_with fail
  refine (put_one (s.n + 1) w (WalkArith.wf_i64 (by omega))).mono ?_
  rintro e w1 ⟨a1, k1, rfl, h1, o1⟩
  have H1 := Lib.hid h1
  have O1 := Lib.hid o1
  clear h1 o1
  go_wp2_with fail
  refine (PutRow_any _ (num (s.n + 1)) _ r w1 H1.out.bytes (HR.out.kept O1.out (clean_nil _)) (by have := HNUM.out; simp [inRow] at this; omega) (by omega)).mono ?_
  rintro e w2 ⟨a2, k2, rfl, h2, o2⟩
  have e2 : (num (s.n + 1)).length + (rowB r).length = (inRow (s.n + 1) r).length := by simp [inRow]
  rw [e2] at h2 ⊢
  have H2 := Lib.hid h2
  have O2 := Lib.hid (O1.out.trans o2 (by simp))
  clear h2 o2 H1 O1 e2
  go_wp2_with fail
  refine (Box_any 512 _ [inRow (s.n + 1) r] _ (by decide) (by decide) (parts_made H2.out.bytes rfl) (by simp) (by have := HNUM.out; simp; omega) (by have := HNUM.out; simp [total]; omega)).mono ?_
  rintro e w3 ⟨g3, rfl, b3, hg3, o3⟩
  have B3 := Lib.hid (show BBlk w3 g3 (s.sec r) from by simpa [SL.sec, rowSec] using b3)
  have O3 := Lib.hid ((O2.out.alloc _).trans o3 (by simp))
  have G3 := Lib.hid (show w.heap.size ≤ g3 from Nat.le_trans (Nat.le_trans O2.out.size (by simp)) hg3)
  clear b3 hg3 o3 O2 H2
  go_wp2_with fail
  have S3 := H.out.quiet O3.out
  have c0 : w3.drew.cell? ⟨p, 0, none⟩ = some (.pointer (some ⟨a.p, 0, none⟩)) := S3.c0
  have c1 : w3.drew.cell? ⟨p, 1, none⟩ = some (.int .i64 s.at_) := S3.c1
  have D4 := Lib.hid ((HD.out.kept O3.out (by simp)).kept (Only.refl [] w3).drew (by simp))
  have S4 := Lib.hid (S3.quiet (Only.refl [] w3).drew)
  have R4 := Lib.hid ((HR.out.kept O3.out (clean_nil _)).kept (Only.refl [] w3).drew (clean_nil _))
  have B4 := Lib.hid (show BBlk w3.drew g3 (s.sec r) from B3.out)
  clear S3 B3 HR H HD
  refine wp_region_held_drew (S := fun w' => w'.cell? ⟨p, 0, none⟩ = some (.pointer (some ⟨a.p, 0, none⟩)) ∧ w'.cell? ⟨p, 1, none⟩ = some (.int .i64 s.at_)) (by kernel_rfl) ⟨c0, c1⟩ (fun hH => ?_)
  clear c0 c1
  refine take_list (i := 0) (v := ?_) rfl (by kernel_rfl) (by kernel_rfl) (by kernel_rfl) (fun _ _ _ h => h) (Or.inl ⟨by rfl, ?_⟩) hH ?_
  rotate_left
  · ((intro w hSw; (try dsimp only at hSw); go_simp); try with_reducible rfl)
  simp only [Act.put, List.setIfInBounds_toArray, List.set_cons_zero, List.set_cons_succ]
  refine take_list (i := 1) (v := ?_) rfl (by kernel_rfl) (by kernel_rfl) (by kernel_rfl) (fun _ _ _ h => h) (Or.inl ⟨by rfl, ?_⟩) hH ?_
  rotate_left
  · ((intro w hSw; (try dsimp only at hSw); go_simp); try with_reducible rfl)
  simp only [Act.put, List.setIfInBounds_toArray, List.set_cons_zero, List.set_cons_succ]
  refine take_list (i := 2) (v := ?_) rfl (by kernel_rfl) (by kernel_rfl) (by kernel_rfl) (fun _ _ _ h => h) (Or.inl ⟨by rfl, ?_⟩) hH ?_
  rotate_left
  · ((intro w hSw; (try dsimp only at hSw); go_simp); try with_reducible rfl)
  simp only [Act.put, List.setIfInBounds_toArray, List.set_cons_zero, List.set_cons_succ]
  refine take_list (i := 3) (v := ?_) rfl (by kernel_rfl) (by kernel_rfl) (by kernel_rfl) (fun _ _ _ h => h) (Or.inl ⟨by rfl, ?_⟩) hH ?_
  rotate_left
  · ((intro w hSw; (try dsimp only at hSw); go_simp); try with_reducible rfl)
  simp only [Act.put, List.setIfInBounds_toArray, List.set_cons_zero, List.set_cons_succ]
  refine take_list (i := 4) (v := ?_) rfl (by kernel_rfl) (by kernel_rfl) (by kernel_rfl) (fun _ _ _ h => h) (Or.inl ⟨by rfl, ?_⟩) hH ?_
  rotate_left
  · ((intro w hSw; (try dsimp only at hSw); go_simp); try with_reducible rfl)
  simp only [Act.put, List.setIfInBounds_toArray, List.set_cons_zero, List.set_cons_succ]
  refine take_list (i := 5) (v := ?_) rfl (by kernel_rfl) (by kernel_rfl) (by kernel_rfl) (fun _ _ _ h => h) (Or.inl ⟨by rfl, ?_⟩) hH ?_
  rotate_left
  · ((intro w hSw; (try dsimp only at hSw); go_simp); try with_reducible rfl)
  simp only [Act.put, List.setIfInBounds_toArray, List.set_cons_zero, List.set_cons_succ]
  refine take_list (i := 6) (v := ?_) rfl (by kernel_rfl) (by kernel_rfl) (by kernel_rfl) (fun _ _ _ h => h) (Or.inl ⟨by rfl, ?_⟩) hH ?_
  rotate_left
  · ((intro w hSw; (try dsimp only at hSw); go_simp); try with_reducible rfl)
  simp only [Act.put, List.setIfInBounds_toArray, List.set_cons_zero, List.set_cons_succ]
  refine take_list (i := 7) (v := ?_) rfl (by kernel_rfl) (by kernel_rfl) (by kernel_rfl) (fun _ _ _ h => h) (Or.inl ⟨by rfl, ?_⟩) hH ?_
  rotate_left
  · ((intro w hSw; (try dsimp only at hSw); go_simp); try with_reducible rfl)
  simp only [Act.put, List.setIfInBounds_toArray, List.set_cons_zero, List.set_cons_succ]
  refine take_list (i := 8) (v := ?_) rfl (by kernel_rfl) (by kernel_rfl) (by kernel_rfl) (fun _ _ _ h => h) (Or.inl ⟨by rfl, ?_⟩) hH ?_
  rotate_left
  · ((intro w hSw; (try dsimp only at hSw); go_simp); try with_reducible rfl)
  simp only [Act.put, List.setIfInBounds_toArray, List.set_cons_zero, List.set_cons_succ]
  refine take_list (i := 9) (v := ?_) rfl (by kernel_rfl) (by kernel_rfl) (by kernel_rfl) (fun _ _ _ h => h) (Or.inl ⟨by rfl, ?_⟩) hH ?_
  rotate_left
  · ((intro w hSw; (try dsimp only at hSw); go_simp); try with_reducible rfl)
  simp only [Act.put, List.setIfInBounds_toArray, List.set_cons_zero, List.set_cons_succ]
  refine take_list (i := 10) (v := ?_) rfl (by kernel_rfl) (by kernel_rfl) (by kernel_rfl) (fun _ _ _ h => h) (Or.inl ⟨by rfl, ?_⟩) hH ?_
  rotate_left
  · ((intro w hSw; (try dsimp only at hSw); go_simp); try with_reducible rfl)
  simp only [Act.put, List.setIfInBounds_toArray, List.set_cons_zero, List.set_cons_succ]
  refine take_list (i := 11) (v := ?_) rfl (by kernel_rfl) (by kernel_rfl) (by kernel_rfl) (fun _ _ _ h => h) (Or.inl ⟨by rfl, ?_⟩) hH ?_
  rotate_left
  · ((intro w hSw; (try dsimp only at hSw); go_simp); try with_reducible rfl)
  simp only [Act.put, List.setIfInBounds_toArray, List.set_cons_zero, List.set_cons_succ]
  refine wpAnyH_ready (rs := [12]) (by kernel_rfl) (by simp) ?_
  refine ready_list rfl (fun K hK => ?_)
  go_simp
  have o5 := (Only.refl [] w3.drew).alloc (.cells #[.slice (some ⟨g3, 0, none⟩) 512 512] 37)
  have P5 := Lib.hid (parts_one B4.out HSL.out)
  have D5 := Lib.hid (D4.out.kept o5 (by simp))
  have S5 := Lib.hid (S4.out.quiet o5)
  have R5 := Lib.hid (R4.out.kept o5 (clean_nil _))
  have O5 := Lib.hid (O3.out.drew.trans o5 (by simp))
  refine hK.out _ _ ⟨S5.out.c0, S5.out.c1⟩ (fun hH => ?_)
  clear hK K D4 S4 R4 B4 o5 O3
  refine wpAnyH_ready (rs := [13]) (by kernel_rfl) (by simp) ?_
  refine ready_list rfl (fun K hK => ?_)
  go_simp
  rw [HPE.out]
  refine (write_all s.place _ [s.sec r] D5.out P5.out (fits_one HSL.out)).mono ?_
  rintro e w6 ⟨rfl, d6, o6⟩
  rw [show [s.sec r].flatten = s.sec r from by simp] at d6 ⊢
  have D6 := Lib.hid d6
  have S6 := Lib.hid (S5.out.dev D5.out o6)
  have hoffD : Off (.slice ra r.length rc) a.bl := fun x n c e h0 hm => HOFF.out x n c e h0 (by simp [SA, hm])
  have R6 := Lib.hid (R5.out.keptOff o6 hoffD)
  have O6 := Lib.hid ((O5.out.mono (T := a.bl) (by simp)).trans o6 (fun k hk => .inl hk))
  have HOFD := Lib.hid hoffD
  refine hK.out _ _ ⟨S6.out.c0, S6.out.c1⟩ (fun hH => ?_)
  clear hK K D5 S5 R5 P5 O5 d6 o6 hoffD
  refine take_list (i := 14) (v := ?_) rfl (by kernel_rfl) (by kernel_rfl) (by kernel_rfl) (fun _ _ _ h => h) (Or.inl ⟨by rfl, ?_⟩) hH ?_
  rotate_left
  · ((intro w hSw; (try dsimp only at hSw); go_simp); try with_reducible rfl)
  simp only [Act.put, List.setIfInBounds_toArray, List.set_cons_zero, List.set_cons_succ]
  refine wpAnyH_done (by kernel_rfl) ?_ _
  clear hH
  have hc := Disk.code_03 HPL.out HSL.out
  by_cases hcz : d.code s.place (s.sec r).length = 0
  rotate_left
  · have hl : d.lcode s.place (s.sec r) = d.code s.place (s.sec r).length := if_neg hcz
    have hy : d.ly s.place (s.sec r) = d.wr s.place (s.sec r) := if_neg hcz
    rw [errV_nz hcz]
    have HL := Lib.hid hl
    have HY := Lib.hid hy
    clear hl hy hc
    go_wp2_with fail
    go_ret
    exact ⟨by rw [HL.out, errV_nz hcz]; rfl, by rw [HY.out]; exact D6.out, O6.out.mono (fun k hk => by simp [SA, hk]), fun h0 => absurd (HL.out.symm.trans h0) hcz, fun _ => S6.out⟩
  rw [errV_z hcz]
  have hl : d.lcode s.place (s.sec r) = (d.wr s.place (s.sec r)).scode := if_pos hcz
  have hy : d.ly s.place (s.sec r) = (d.wr s.place (s.sec r)).sy := if_pos hcz
  have HL := Lib.hid hl
  have HY := Lib.hid hy
  clear hl hy hc hcz
  have c0 := S6.out.c0
  go_wp2_with fail
  clear c0
  refine (sync_all D6.out).mono ?_
  rintro e w7 ⟨rfl, d7, o7⟩
  have S7 := Lib.hid (S6.out.dev D6.out o7)
  have R7 := Lib.hid (R6.out.keptOff o7 HOFD.out)
  have O7 := Lib.hid (O6.out.trans o7 (fun k hk => .inl hk))
  have D7 := Lib.hid d7
  clear d7 o7 D6 S6 R6 O6
  rw [← HL.out]
  rw [← HY.out] at D7
  by_cases hcz : d.lcode s.place (s.sec r) = 0
  rotate_left
  · rw [errV_nz hcz]
    go_wp2_with fail
    go_ret
    exact ⟨by rw [errV_nz hcz]; rfl, D7.out, O7.out.mono (fun k hk => by simp [SA, hk]), fun h0 => absurd h0 hcz, fun _ => S7.out⟩
  rw [errV_z hcz]
  go_wp2_with fail
  refine (clone_any _ r _ R7.out (by omega)).mono ?_
  rintro e w8 ⟨b8, k8, rfl, h8, o8⟩
  have S8 := Lib.hid (S7.out.quiet o8)
  have c2 := S8.out.c2
  have c3 := S8.out.c3
  have f2 := S8.out.free 2
  have f3 := S8.out.free 3
  have D8 := Lib.hid (D7.out.kept o8 (by simp))
  have H8 := Lib.hid h8
  have O8 := Lib.hid (O7.out.trans o8 (by simp))
  clear h8 o8 S7 D7 R7
  go_wp2_with fail
  have hp := slot_put S8.out H8.out.held hn hl
  have hz := O8.out.size
  have ho : Only (SA p a) w ((w8.setCell ⟨p, 2, none⟩ (.int .i64 (s.n + 1))).setCell ⟨p, 3, none⟩ (.slice b8 r.length k8)) := ((O8.out.mono (T := SA p a) (fun k hk => by simp [SA, hk])).setCell (by simp [SA]) _).setCell (by simp [SA]) _
  have h1 : Only [p] w8 ((w8.setCell ⟨p, 2, none⟩ (.int .i64 (s.n + 1))).setCell ⟨p, 3, none⟩ (.slice b8 r.length k8)) := ((Only.refl _ _).setCell (by simp) _).setCell (by simp) _
  have hpd : p ∉ a.bl := (S8.out.off_dev D8.out).1
  have z7 : w.heap.size ≤ w7.heap.size := O7.out.size
  go_ret
  exact ⟨by rw [errV_z hcz]; rfl, D8.out.kept h1 (by simpa using hpd), ho, fun _ => ⟨_, hp, fun g hg => Nat.le_trans z7 (H8.out.lt hg).1⟩, fun h0 => absurd hcz h0⟩

/-! ### Save -/
def SL.scode (s : SL) (d : Disk) (r : Sec) : Int := if 480 < r.length ∨ s.n = 4611686018427387904 then 2 else if s.cut = true then 3 else d.lcode s.place (s.sec r)
def SL.sdisk (s : SL) (d : Disk) (r : Sec) : Disk := if 480 < r.length ∨ s.n = 4611686018427387904 then d else if s.cut = true then d else d.ly s.place (s.sec r)
def SL.save (s : SL) (d : Disk) (r : Sec) : SL := if 480 < r.length ∨ s.n = 4611686018427387904 then s else if s.cut = true then s else if d.lcode s.place (s.sec r) = 0 then s.put r else s.die true
structure SavePost (w : World) (p : Nat) (a : DA) (v : Value) (s : SL) (d : Disk) (r : Sec) (e : Ending) (w' : World) : Prop where
  ans : e = .returned (errV (s.scode d r))
  dev : Dev w' a (s.sdisk d r)
  only : Only (SA p a) w w'
  slot : ∃ v', Slot w' p a v' (s.save d r) ∧ (v' = v ∨ ∀ g, v'.ownBlock = some g → w.heap.size ≤ g)
theorem only_slot {w : World} {p : Nat} {a : DA} {d : Disk} {v : Value} {s : SL} {x : Value} (h : Slot w p a v s) (hd : Dev w a d) (i : Nat) : Dev (w.setCell ⟨p, i, none⟩ x) a d := by
  have hpd : p ∉ a.bl := (h.off_dev hd).1
  exact hd.kept (S := [p]) ((Only.refl _ _).setCell (by simp) _) (by simpa using hpd)

set_option maxRecDepth 100000 in
set_option maxHeartbeats 1600000 in
theorem save_any {w : World} {p : Nat} {a : DA} {v : Value} {s : SL} {d : Disk} (rv : Value) (r : Sec) (h : Slot w p a v s) (hd : Dev w a d) (hr : Bytes w rv r) (ha : fitB s.at_ d.size = true) (hrl : r.length ≤ 4611686018427387904) :
    Calls Try.prog 14 #[.pointer (some ⟨p, 0, none⟩), rv] w (SavePost w p a v s d r) := by
  have c2 := h.c2
  have c4 := h.c4
  have hlo := h.lo
  have hhi := h.hi
  obtain ⟨ra, rc, rfl, -⟩ := id hr
  have HR := Lib.hid hr
  have H := Lib.hid h
  have HD := Lib.hid hd
  have HA := Lib.hid ha
  clear h hr hd ha
  by_cases hl : 480 < r.length
  · have hl' : (480 : Int) < (r.length : Int) := by omega
    have f : SavePost w p a v s d r (.returned (err 2)) w := by
      refine ⟨?_, ?_, Only.refl _ _, v, ?_, .inl rfl⟩
      · simp [SL.scode, hl, errV]
      · simpa [SL.sdisk, hl] using HD.out
      · simpa [SL.save, hl] using H.out
    have F := Lib.hid f
    clear f
    go_enter Try.func14, Try.ntmps14
    go_wp2_with fail
    go_ret
    exact F.out
  have hl' : ¬ (480 : Int) < (r.length : Int) := by omega
  by_cases hm : s.n = 4611686018427387904
  · have f : SavePost w p a v s d r (.returned (err 2)) w := by
      refine ⟨?_, ?_, Only.refl _ _, v, ?_, .inl rfl⟩
      · simp [SL.scode, hm, errV]
      · simpa [SL.sdisk, hm] using HD.out
      · simpa [SL.save, hm] using H.out
    have F := Lib.hid f
    rw [hm] at c2
    clear f
    go_enter Try.func14, Try.ntmps14
    go_wp2_with fail
    go_ret
    exact F.out
  have hm' : (s.n == 4611686018427387904) = false := by simpa using hm
  have hnf : ¬ (480 < r.length ∨ s.n = 4611686018427387904) := by omega
  cases hcut : s.cut
  rotate_left
  · have f : SavePost w p a v s d r (.returned (err 3)) w := by
      refine ⟨?_, ?_, Only.refl _ _, v, ?_, .inl rfl⟩
      · simp [SL.scode, hnf, hcut, errV]
      · simpa [SL.sdisk, hnf, hcut] using HD.out
      · simpa [SL.save, hnf, hcut] using H.out
    have F := Lib.hid f
    rw [hcut] at c4
    clear f hcut
    go_enter Try.func14, Try.ntmps14
    go_wp2_with fail
    go_ret
    exact F.out
  have e1 : s.scode d r = d.lcode s.place (s.sec r) := by simp [SL.scode, hnf, hcut]
  have e2 : s.sdisk d r = d.ly s.place (s.sec r) := by simp [SL.sdisk, hnf, hcut]
  have e3 : s.save d r = if d.lcode s.place (s.sec r) = 0 then s.put r else s.die true := by simp [SL.save, hnf, hcut]
  have E1 := Lib.hid e1
  have E2 := Lib.hid e2
  have E3 := Lib.hid e3
  rw [hcut] at c4
  have HC := Lib.hid hcut
  clear e1 e2 e3 hcut hnf
  go_enter Try.func14, Try.ntmps14
  go_wp2_with fail
  refine (lay_any _ r H.out HD.out HR.out (by omega) (by omega) HA.out).mono ?_
  rintro e w1 ⟨rfl, d1, o1, hy, hn⟩
  clear c2 c4
  by_cases hcz : d.lcode s.place (s.sec r) = 0
  · obtain ⟨v', s1, hnew⟩ := hy hcz
    rw [errV_z hcz]
    have c4 : w1.cell? ⟨p, 4, none⟩ = some (.bool s.cut) := s1.c4
    have f4 := s1.free 4
    have s2 := slot_new s1 false
    have e4 : (s.put r).die false = s.put r := by have := HC.out; unfold SL.put SL.die; rw [this]
    rw [e4] at s2
    have f : SavePost w p a v s d r (.returned .nilIface) (w1.setCell ⟨p, 4, none⟩ (.bool false)) := by
      refine ⟨by rw [E1.out, errV_z hcz], ?_, o1.setCell (by simp [SA]) _, v', ?_, .inr hnew⟩
      · rw [E2.out]
        exact only_slot s1 d1 4
      · rw [E3.out, if_pos hcz]
        exact s2
    have F := Lib.hid f
    clear f s1 s2 d1 o1 hy hn hnew e4
    go_wp2_with fail
    go_ret
    exact F.out
  · have s1 := hn hcz
    rw [errV_nz hcz]
    have c4 : w1.cell? ⟨p, 4, none⟩ = some (.bool s.cut) := s1.c4
    have f4 := s1.free 4
    have s2 := slot_new s1 true
    have f : SavePost w p a v s d r (.returned (err (d.lcode s.place (s.sec r)))) (w1.setCell ⟨p, 4, none⟩ (.bool true)) := by
      refine ⟨by rw [E1.out, errV_nz hcz], ?_, o1.setCell (by simp [SA]) _, v, ?_, .inl rfl⟩
      · rw [E2.out]
        exact only_slot s1 d1 4
      · rw [E3.out, if_neg hcz]
        exact s2
    have F := Lib.hid f
    clear f s1 s2 d1 o1 hy hn
    go_wp2_with fail
    go_ret
    exact F.out
end Go.Proofs.Ytdmkmjlkogkmgaa
/- Slots: Format, Open. -/
namespace Go.Proofs.Ytdmkmjlkogkmgaa
open Go.RowKit Go.Maps
set_option linter.unusedSimpArgs false
set_option linter.unusedVariables false

theorem zeros_512 : zeros.length = 512 := zeros_length
def SL.at0 (at_ : Int) : SL := ⟨at_, 0, [], false⟩
theorem SL.at0_place (at_ : Int) : (SL.at0 at_).place = at_ + 1 := rfl
theorem SL.at0_sec (at_ : Int) (r : Sec) : (SL.at0 at_).sec r = rowSec 1 r := rfl
theorem SL.at0_put (at_ : Int) (r : Sec) : (SL.at0 at_).put r = ⟨at_, 1, r, false⟩ := rfl
def Disk.fcode (d : Disk) (at_ : Int) (r : Sec) : Int := if fitB at_ d.size = false then 1 else if 480 < r.length then 2 else if d.code at_ 512 = 0 then (d.wr at_ zeros).lcode (at_ + 1) (rowSec 1 r) else d.code at_ 512
def Disk.fm (d : Disk) (at_ : Int) (r : Sec) : Disk := if fitB at_ d.size = false then d else if 480 < r.length then d else if d.code at_ 512 = 0 then (d.wr at_ zeros).ly (at_ + 1) (rowSec 1 r) else d.wr at_ zeros
structure MadePost (w : World) (a : DA) (d' : Disk) (s : SL) (c : Int) (e : Ending) (w' : World) : Prop where
  dev : Dev w' a d'
  only : Only a.bl w w'
  yes : c = 0 → ∃ p v, e = .returned (.tuple #[.pointer (some ⟨p, 0, none⟩), .nilIface]) ∧ Slot w' p a v s ∧ w.heap.size ≤ p ∧ ∀ g, v.ownBlock = some g → w.heap.size ≤ g
  no : c ≠ 0 → e = .returned (.tuple #[.pointer none, err c])
theorem wr_size (d : Disk) (k : Int) (l : Sec) : (d.wr k l).size = d.size := by
  unfold Disk.wr
  split
  · rfl
  · split <;> rfl
theorem Slot.fresh {w : World} {a : DA} {at_ : Int} {p : Nat} (hp : w.heap.size = p) : Slot (w.alloc (.cells #[.pointer (some ⟨a.p, 0, none⟩), .int .i64 at_, .int .i64 0, .slice none 0 0, .bool false] 91)) p a (.slice none 0 0) (SL.at0 at_) := by
  subst hp
  exact ⟨heap_new w _, ⟨bytes_nil _ _, fun g hg => by cases hg⟩, by simp [SL.at0], by simp [SL.at0], by simp [SL.at0]⟩

theorem Format_nil (at_ : Int) (v : Value) (w : World) : Calls Try.prog 13 #[.pointer none, .int .i64 at_, v] w fun e w' => e = .returned (.tuple #[.pointer none, err 1]) ∧ w = w' := by
  go_enter Try.func13, Try.ntmps13
  go_wp2_with fail
  refine (fits_nil _ _).mono ?_
  rintro e w' ⟨rfl, rfl⟩
  go_wp2_with fail
  go_ret2
  exact ⟨rfl, rfl⟩

set_option maxRecDepth 100000 in
set_option maxHeartbeats 1600000 in
theorem Format_any {w : World} {a : DA} {d : Disk} (at_ : Int) (rv : Value) (r : Sec) (hd : Dev w a d) (hr : Bytes w rv r) (hrl : r.length ≤ 4611686018427387904) :
    Calls Try.prog 13 #[.pointer (some ⟨a.p, 0, none⟩), .int .i64 at_, rv] w (MadePost w a (d.fm at_ r) ⟨at_, 1, r, false⟩ (d.fcode at_ r)) := by
  obtain ⟨ra, rc, rfl, -⟩ := id hr
  have HR := Lib.hid hr
  have HD := Lib.hid hd
  have hc := fits_dev a d at_ w hd
  have hsz := hd.hi
  clear hr hd
  cases ha : fitB at_ d.size
  · rw [ha] at hc
    have e1 : d.fcode at_ r = 1 := by simp [Disk.fcode, ha]
    have e2 : d.fm at_ r = d := by simp [Disk.fm, ha]
    have E1 := Lib.hid e1
    have E2 := Lib.hid e2
    clear e1 e2 ha
    go_enter Try.func13, Try.ntmps13
    go_wp2_with fail
    refine hc.mono ?_
    rintro e w' ⟨rfl, rfl⟩
    go_wp2_with fail
    go_ret2
    exact ⟨by rw [E2.out]; exact HD.out, Only.refl _ _, (fun h => by rw [E1.out] at h; cases h), (fun _ => by rw [E1.out]; rfl)⟩
  rw [ha] at hc
  have hat := fitB_iff.1 ha
  by_cases hl : 480 < r.length
  · have hl' : (480 : Int) < (r.length : Int) := by omega
    have e1 : d.fcode at_ r = 2 := by simp [Disk.fcode, ha, hl]
    have e2 : d.fm at_ r = d := by simp [Disk.fm, ha, hl]
    have E1 := Lib.hid e1
    have E2 := Lib.hid e2
    clear e1 e2 ha
    go_enter Try.func13, Try.ntmps13
    go_wp2_with fail
    refine hc.mono ?_
    rintro e w' ⟨rfl, rfl⟩
    go_wp2_with fail
    go_ret2
    exact ⟨by rw [E2.out]; exact HD.out, Only.refl _ _, (fun h => by rw [E1.out] at h; cases h), (fun _ => by rw [E1.out]; rfl)⟩
  have hl' : ¬ (480 : Int) < (r.length : Int) := by omega
  have e1 : d.fcode at_ r = if d.code at_ 512 = 0 then (d.wr at_ zeros).lcode (at_ + 1) (rowSec 1 r) else d.code at_ 512 := by simp [Disk.fcode, ha, hl]
  have e2 : d.fm at_ r = if d.code at_ 512 = 0 then (d.wr at_ zeros).ly (at_ + 1) (rowSec 1 r) else d.wr at_ zeros := by simp [Disk.fm, ha, hl]
  have E1 := Lib.hid e1
  have E2 := Lib.hid e2
  have HA := Lib.hid ha
  clear e1 e2 ha
  go_enter Try.func13, Try.ntmps13
  go_wp2_with fail
  refine hc.mono ?_
  rintro e w' ⟨rfl, rfl⟩
  go_wp2_with (refine wpList_make512 rfl rfl ?_; intro w1 g1 b1 hg1 o1)
  have o2 : Only [] w (w1.alloc (.cells #[.slice (some ⟨g1, 0, none⟩) 512 512] 37)) := o1.alloc _
  have D2 := Lib.hid (HD.out.kept o2 (by simp))
  have P2 := Lib.hid (parts_one b1 zeros_length)
  have R2 := Lib.hid (HR.out.kept o2 (clean_nil _))
  have O2 := Lib.hid o2
  clear o2 b1 o1 hg1 HD HR
  refine (write_all at_ _ [zeros] D2.out P2.out (fits_one zeros_length)).mono ?_
  rintro e w3 ⟨rfl, d3, o3⟩
  rw [show [zeros].flatten = zeros from by simp] at d3 ⊢
  rw [zeros_512]
  have R3 := Lib.hid (R2.out.keptOff o3 (fun x n c e h0 hm => by
    obtain ⟨x', cap, e2, hcc⟩ := R2.out
    rw [e2] at e
    cases e
    obtain ⟨b, off, e3, hcell⟩ := hcc 0 r[0] (List.getElem?_eq_getElem h0)
    cases e3
    exact D2.out.clean _ _ hcell (.inl ⟨_, rfl⟩) hm))
  have D3 := Lib.hid d3
  have O3 := Lib.hid ((O2.out.mono (T := a.bl) (by simp)).trans o3 (fun k hk => .inl hk))
  clear d3 o3 D2 P2 R2 O2
  by_cases hcz : d.code at_ 512 = 0
  rotate_left
  · rw [errV_nz hcz]
    go_wp2_with fail
    go_ret2
    exact ⟨by rw [E2.out, if_neg hcz]; exact D3.out, O3.out, (fun h => absurd h (by rw [E1.out, if_neg hcz]; exact hcz)), (fun _ => by rw [E1.out, if_neg hcz]; rfl)⟩
  rw [errV_z hcz]
  rw [if_pos hcz] at E1 E2
  go_wp2_with fail
  have S4 := Lib.hid (Slot.fresh (w := w3) (a := a) (at_ := at_) rfl)
  have o4 : Only [] w3 (w3.alloc (.cells #[.pointer (some ⟨a.p, 0, none⟩), .int .i64 at_, .int .i64 0, .slice none 0 0, .bool false] 91)) := (Only.refl [] w3).alloc _
  have D4 := Lib.hid (D3.out.kept o4 (by simp))
  have R4 := Lib.hid (R3.out.kept o4 (clean_nil _))
  have O4 := Lib.hid (O3.out.trans o4 (by simp))
  have Z4 := Lib.hid (show w.heap.size ≤ w3.heap.size from O3.out.size)
  clear o4 D3 R3 O3
  refine (lay_any _ r S4.out D4.out R4.out (by omega) (by simp [SL.at0]) (by rw [wr_size]; exact HA.out)).mono ?_
  rintro e w5 ⟨rfl, d5, o5, hy, hn⟩
  rw [SL.at0_place, SL.at0_sec] at d5 hy hn ⊢
  rw [SL.at0_put] at hy
  have o6 : Only a.bl w w5 := O4.out.trans o5 (fun k hk => by
    simp only [SA, List.mem_cons] at hk
    rcases hk with rfl | hk
    · exact .inr Z4.out
    · exact .inl hk)
  have D5 := Lib.hid d5
  have O6 := Lib.hid o6
  by_cases hcz2 : (d.wr at_ zeros).lcode (at_ + 1) (rowSec 1 r) = 0
  rotate_left
  · rw [errV_nz hcz2]
    clear d5 o5 hy hn o6 S4 D4 R4
    go_wp2_with fail
    go_ret2
    exact ⟨by rw [E2.out]; exact D5.out, O6.out, (fun h => absurd h (by rw [E1.out]; exact hcz2)), (fun _ => by rw [E1.out]; rfl)⟩
  · obtain ⟨v5, s5, hnew⟩ := hy hcz2
    rw [errV_z hcz2]
    have S5 := Lib.hid s5
    have N5 := Lib.hid (fun g (hg : v5.ownBlock = some g) => Nat.le_trans O4.out.size (hnew g hg))
    clear d5 o5 hy hn o6 S4 D4 R4 s5 hnew
    go_wp2_with fail
    go_ret2
    exact ⟨by rw [E2.out]; exact D5.out, O6.out, fun _ => ⟨_, v5, rfl, S5.out, Z4.out, N5.out⟩, fun h => absurd (E1.out.trans hcz2) h⟩
end Go.Proofs.Ytdmkmjlkogkmgaa
/- Slots: Open; the errors side by side. -/
namespace Go.Proofs.Ytdmkmjlkogkmgaa
open Go.RowKit Go.Maps
set_option linter.unusedSimpArgs false
set_option linter.unusedVariables false

/-- The greater of what was found so far and what a sector says. -/
def pick (x : Int × Sec) (y : Option (Int × Sec)) : Int × Sec := match y with
  | none => x
  | some q => if x.1 < q.1 then q else x
theorem pick_none (x : Int × Sec) : pick x none = x := rfl
theorem pick_some (x q : Int × Sec) : pick x (some q) = if x.1 < q.1 then q else x := rfl
def Disk.upto (d : Disk) (at_ : Int) : Nat → Int × Sec
  | 0 => (0, [])
  | k + 1 => pick (d.upto at_ k) (says (d.get (at_ + k)) k)
def Disk.op (d : Disk) (at_ : Int) : Int × Sec := d.upto at_ 2
def Disk.ocode (d : Disk) (at_ : Int) : Int := if fitB at_ d.size = false then 1 else if d.met.down = true then 3 else if (d.op at_).1 = 0 then 20 else 0
theorem upto_ok (d : Disk) (at_ : Int) : ∀ k, 0 ≤ (d.upto at_ k).1 ∧ (d.upto at_ k).1 ≤ 4611686018427387904 ∧ (d.upto at_ k).2.length ≤ 480
  | 0 => by simp [Disk.upto]
  | k + 1 => by
    have ih := upto_ok d at_ k
    unfold Disk.upto
    cases h : says (d.get (at_ + k)) k with
    | none => exact ih
    | some q =>
      obtain ⟨n, r⟩ := q
      have := says_inv h
      rw [pick_some]
      split
      · exact ⟨by simp; omega, by simp; omega, by simp; omega⟩
      · exact ih
def SL.of (at_ : Int) (x : Int × Sec) : SL := ⟨at_, x.1, x.2, false⟩

theorem Open_nil (at_ : Int) (w : World) : Calls Try.prog 17 #[.pointer none, .int .i64 at_] w fun e w' => e = .returned (.tuple #[.pointer none, err 1]) ∧ w = w' := by
  go_enter Try.func17, Try.ntmps17
  go_wp2_with fail
  refine (fits_nil _ _).mono ?_
  rintro e w' ⟨rfl, rfl⟩
  go_wp2_with fail
  go_ret2
  exact ⟨rfl, rfl⟩

theorem fit_at {g : Nat} {n c : Nat} (h : n ≤ c) (h2 : c ≤ 65536) : Fit (.slice (some ⟨g, 0, none⟩) n c) := fun a n' c' e => by
  cases e
  exact ⟨h, by unfold maxLen; omega⟩
set_option maxRecDepth 100000 in
set_option maxHeartbeats 1600000 in
theorem Open_any {w : World} {a : DA} {d : Disk} (at_ : Int) (hd : Dev w a d) :
    Calls Try.prog 17 #[.pointer (some ⟨a.p, 0, none⟩), .int .i64 at_] w (fun e w' => MadePost w a d (SL.of at_ (d.op at_)) (d.ocode at_) e w' ∧ Only [] w w') := by
  have HD := Lib.hid hd
  have hc := fits_dev a d at_ w hd
  have hsz := hd.hi
  clear hd
  cases ha : fitB at_ d.size
  · rw [ha] at hc
    have e1 : d.ocode at_ = 1 := by simp [Disk.ocode, ha]
    have E1 := Lib.hid e1
    clear e1 ha
    go_enter Try.func17, Try.ntmps17
    go_wp2_with fail
    refine hc.mono ?_
    rintro e w' ⟨rfl, rfl⟩
    go_wp2_with fail
    go_ret2
    exact ⟨⟨HD.out, Only.refl _ _, (fun h => by rw [E1.out] at h; cases h), (fun _ => by rw [E1.out]; rfl)⟩, Only.refl _ _⟩
  rw [ha] at hc
  have hat := fitB_iff.1 ha
  cases hdn : d.met.down
  rotate_left
  · have e1 : d.ocode at_ = 3 := by simp [Disk.ocode, ha, hdn]
    have E1 := Lib.hid e1
    have e2 : d.rcode at_ = 3 := by
      unfold Disk.rcode
      rw [inB_iff.2 ⟨hat.1, by omega⟩, hdn]
      simp
    have E2 := Lib.hid e2
    clear e1 e2 ha hdn
    go_enter Try.func17, Try.ntmps17
    go_wp2_with fail
    refine hc.mono ?_
    rintro e w' ⟨rfl, rfl⟩
    go_wp2_with fail
    have o1 : Only [] w (w.alloc (.cells #[.pointer (some ⟨a.p, 0, none⟩), .int .i64 at_, .int .i64 0, .slice none 0 0, .bool false] 91)) := (Only.refl [] w).alloc _
    have D1 := Lib.hid (HD.out.kept o1 (by simp))
    have O1 := Lib.hid o1
    clear o1
    refine wp_loop_rounds 1 ?_
    rw [rounds_succ]
    go_wp2_with fail
    refine (read_all at_ D1.out).mono ?_
    rintro e w2 ⟨v, rfl, _, _, _, _, o2⟩
    rw [E2.out]
    rw [show errV 3 = err 3 from rfl]
    have D2 := Lib.hid (D1.out.kept o2 (by simp))
    have O2 := Lib.hid (O1.out.trans o2 (by simp))
    clear o2 D1 O1
    go_wp2_with fail
    go_ret2
    exact ⟨⟨D2.out, O2.out.mono (by simp), (fun h => by rw [E1.out] at h; cases h), (fun _ => by rw [E1.out]; rfl)⟩, O2.out⟩
  have e1 : d.ocode at_ = if (d.op at_).1 = 0 then 20 else 0 := by simp [Disk.ocode, ha, hdn]
  have E1 := Lib.hid e1
  have HDN := Lib.hid hdn
  clear e1 ha hdn
  go_enter Try.func17, Try.ntmps17
  go_wp2_with fail
  refine hc.mono ?_
  rintro e w' ⟨rfl, rfl⟩
  go_wp2_with fail
  have o1 : Only [] w (w.alloc (.cells #[.pointer (some ⟨a.p, 0, none⟩), .int .i64 at_, .int .i64 0, .slice none 0 0, .bool false] 91)) := (Only.refl [] w).alloc _
  have s1 := Slot.fresh (w := w) (a := a) (at_ := at_) rfl
  generalize hp : w.heap.size = p at s1
  have HP := Lib.hid hp
  clear hp
  go_loopw [21] (fun i wr => ∃ (k : Nat) (v : Value), k ≤ 2 ∧ i = .int .i64 k ∧ Slot wr p a v (SL.of at_ (d.upto at_ k)) ∧ Only [] w wr ∧ ∀ g, v.ownBlock = some g → w.heap.size ≤ g) (fun i _ => 2 - (intOf i).toNat)
  case atStart => exact ⟨0, _, by omega, rfl, s1, o1, fun g h => by cases h⟩
  case round =>
    clear s1 o1
    obtain ⟨k, v, hk, rfl, hs, ho, hnew⟩ := hrel
    have S2 := Lib.hid hs
    have O2 := Lib.hid ho
    have N2 := Lib.hid hnew
    have c2 : wr.cell? ⟨p, 2, none⟩ = some (.int .i64 (d.upto at_ k).1) := hs.c2
    have k0 : (0 : Int) ≤ (k : Int) := by omega
    have hu := upto_ok d at_ k
    clear hs ho hnew
    by_cases hlt : k < 2
    · have k1 : (k : Int) < 2 := by omega
      have hwr : IntKind.i64.wrap (at_ + (k : Int)) = at_ + k := by
        rw [IntKind.wrap_i64]
        omega
      have hin : inB (at_ + (k : Int)) d.size = true := inB_iff.2 ⟨by omega, by omega⟩
      have hup : d.upto at_ (k + 1) = pick (d.upto at_ k) (says (d.get (at_ + k)) k) := rfl
      generalize hx : d.upto at_ k = x at S2 c2 hu hup
      obtain ⟨xn, xr⟩ := x
      dsimp only at c2 hu
      have HUP := Lib.hid hup
      clear hx hup
      go_wp2_with fail
      refine (Read_any a d (at_ + k) wr (HD.out.kept O2.out (by simp)) hin HDN.out).mono ?_
      rintro e w3 ⟨g3, rfl, b3, _, o3⟩
      have hl3 : (d.get (at_ + k)).length = 512 := HD.out.get_length _
      have B3 := b3.bytes 512
      rw [hl3] at B3
      have HB3 := Lib.hid B3
      have O3 := Lib.hid (O2.out.trans o3 (by simp))
      have S3 := Lib.hid (S2.out.quiet o3)
      clear B3 b3 o3 S2 O2 c2
      go_wp2_with fail
      refine (numbered_any _ (d.get (at_ + k)) w3 HB3.out (fit_at (Nat.le_refl _) (by decide)) (by omega)).mono ?_
      rintro e w4 ⟨hn0, hn1, o4⟩
      have O4 := Lib.hid (O3.out.trans o4 (by simp))
      have z4 : w.heap.size ≤ w3.heap.size := O3.out.size
      have s4 := S3.out.quiet o4
      have c2 : w4.cell? ⟨p, 2, none⟩ = some (.int .i64 xn) := s4.c2
      have f2 := s4.free 2
      have c3 : w4.cell? ⟨p, 3, none⟩ = some v := s4.c3
      have f3 := s4.free 3
      have S4 := Lib.hid s4
      clear O3 S3 o4 HB3
      cases hnum : numb (d.get (at_ + k)) with
      | none =>
        rw [hn0 hnum]
        have hsy : d.upto at_ (k + 1) = (xn, xr) := by
          rw [HUP.out]
          unfold says
          rw [hnum]
          rfl
        have HSY := Lib.hid hsy
        have hk2 : ((0 : Int) == (k : Int)) = true ∨ ((0 : Int) == (k : Int)) = false := by cases ((0 : Int) == (k : Int)) <;> simp
        clear hn0 hn1 hnum hsy s4
        rcases hk2 with hk2 | hk2
        · go_wp2_with fail
          go_roundw
          case rel => exact ⟨k + 1, v, by omega, by go_num, by rw [HSY.out]; exact S4.out, O4.out, N2.out⟩
          case measure => simp [intOf]; omega
        · go_wp2_with fail
          go_roundw
          case rel => exact ⟨k + 1, v, by omega, by go_num, by rw [HSY.out]; exact S4.out, O4.out, N2.out⟩
          case measure => simp [intOf]; omega
      | some nr =>
        obtain ⟨n, r⟩ := nr
        obtain ⟨a5, k5, rfl, h5⟩ := hn1 n r hnum
        have hnb := numb_inv hnum
        have htm := tmod_two (n := n) (by omega)
        have H5 := Lib.hid h5
        have HN := Lib.hid hnum
        clear hn0 hn1 hnum h5 s4
        by_cases hpar : n % 2 = (k : Int)
        rotate_left
        · have hsy : d.upto at_ (k + 1) = (xn, xr) := by
            rw [HUP.out]
            unfold says
            rw [HN.out]
            simp only
            rw [if_neg hpar]
            rfl
          have HSY := Lib.hid hsy
          have hpar' : (n % 2 == (k : Int)) = false := by simpa using hpar
          clear hsy hpar
          go_wp2_with fail
          go_roundw
          case rel => exact ⟨k + 1, v, by omega, by go_num, by rw [HSY.out]; exact S4.out, O4.out, N2.out⟩
          case measure => simp [intOf]; omega
        have hsy : d.upto at_ (k + 1) = if xn < n then (n, r) else (xn, xr) := by
          rw [HUP.out]
          unfold says
          rw [HN.out]
          simp only
          rw [if_pos hpar]
          rfl
        have HSY := Lib.hid hsy
        have hpar' : (n % 2 == (k : Int)) = true := by simpa using hpar
        clear hsy hpar
        by_cases hgt : xn < n
        rotate_left
        · go_wp2_with fail
          go_roundw
          case rel => exact ⟨k + 1, v, by omega, by go_num, by rw [HSY.out, if_neg (by omega)]; exact S4.out, O4.out, N2.out⟩
          case measure => simp [intOf]; omega
        · have hk := heap_cell (i := 3) (.slice a5 r.length k5) (heap_cell (i := 2) (.int .i64 n) S4.out.blk)
          have ho : Only [p] w4 ((w4.setCell ⟨p, 2, none⟩ (.int .i64 n)).setCell ⟨p, 3, none⟩ (.slice a5 r.length k5)) := ((Only.refl _ _).setCell (by simp) _).setCell (by simp) _
          have hne : ∀ g ∈ [p], (Value.slice a5 r.length k5).ownBlock ≠ some g := fun g hg e => by
            simp at hg
            subst hg
            obtain ⟨cur, hc5⟩ := H5.out.held.blk _ e
            have hb := S4.out.blk
            rw [hc5] at hb
            cases hb
          have s6 : Slot ((w4.setCell ⟨p, 2, none⟩ (.int .i64 n)).setCell ⟨p, 3, none⟩ (.slice a5 r.length k5)) p a (.slice a5 r.length k5) (SL.of at_ (n, r)) :=
            ⟨hk, H5.out.held.kept ho hne, by simp only [SL.of]; omega, by simp only [SL.of]; omega, by simp only [SL.of]; omega⟩
          have o6 := O4.out.trans ho (fun g hg => by simp at hg; subst hg; exact .inr (Nat.le_of_eq HP.out))
          have S6 := Lib.hid s6
          have O6 := Lib.hid o6
          clear s6 o6 hk ho hne
          go_wp2_with fail
          go_roundw
          case rel => exact ⟨k + 1, _, by omega, by go_num, by rw [HSY.out, if_pos hgt]; exact S6.out, O6.out, fun g hg => Nat.le_trans z4 (H5.out.lt hg).1⟩
          case measure => simp [intOf]; omega
    · obtain rfl : k = 2 := by omega
      have hop : d.op at_ = d.upto at_ 2 := rfl
      rw [← hop] at S2 c2 hu
      generalize hxop : d.op at_ = x at S2 c2 hu E1
      obtain ⟨xn, xr⟩ := x
      have HX := Lib.hid hxop
      clear hxop hop
      dsimp only at c2 hu E1
      by_cases h0 : xn = 0
      · rw [if_pos h0] at E1
        rw [h0] at c2
        go_wp2_with fail
        go_ret2
        exact ⟨⟨HD.out.kept O2.out (by simp), O2.out.mono (by simp), (fun h => by rw [E1.out] at h; cases h), (fun _ => by rw [E1.out]; rfl)⟩, O2.out⟩
      · rw [if_neg h0] at E1
        have h0' : (xn == 0) = false := by simpa using h0
        go_wp2_with fail
        go_ret2
        exact ⟨⟨HD.out.kept O2.out (by simp), O2.out.mono (by simp), (fun _ => ⟨p, v, rfl, by rw [HX.out]; exact S2.out, Nat.le_of_eq HP.out, N2.out⟩), (fun h => absurd E1.out h)⟩, O2.out⟩
end Go.Proofs.Ytdmkmjlkogkmgaa
/- What slots leave on a device: behind each call, and behind a crash. No walk. -/
namespace Go.Proofs.Ytdmkmjlkogkmgaa
open Go.RowKit Go.Maps
set_option linter.unusedSimpArgs false
set_option linter.unusedVariables false

/-- Power is there, and nothing is armed. -/
structure Disk.Calm (d : Disk) : Prop where
  armed : d.met.armed = false
  down : d.met.down = false
section
variable {d : Disk} {k at_ : Int} {l r : Sec}
theorem Disk.Calm.off (h : d.Calm) : d.met.off = false := by simp [Met.off, h.armed, h.down]
theorem Disk.Calm.code (h : d.Calm) (hk : inB k d.size = true) (hl : l.length = 512) : d.code k l.length = 0 := by rw [Disk.code_in hk hl, h.off]; rfl
theorem Disk.wr_yes (hc : d.code k l.length = 0) : d.wr k l = d.write k l := by unfold Disk.wr; rw [if_pos hc]
theorem Disk.wr_cut (hc : d.code k l.length = 3) : d.wr k l = d.fall := by unfold Disk.wr; rw [hc]; rfl
theorem Disk.Calm.write (h : d.Calm) : (d.write k l).Calm := ⟨h.armed, h.down⟩
theorem Disk.Calm.wr (h : d.Calm) (hk : inB k d.size = true) (hl : l.length = 512) : (d.wr k l).Calm := by rw [Disk.wr_yes (h.code hk hl)]; exact h.write
theorem Disk.Calm.scode (h : d.Calm) : d.scode = 0 := by unfold Disk.scode; rw [h.off]; rfl
theorem Disk.Calm.lcode (h : d.Calm) (hk : inB k d.size = true) (hl : l.length = 512) : d.lcode k l = 0 := by
  unfold Disk.lcode
  rw [if_pos (h.code hk hl)]
  exact (h.wr hk hl).scode
theorem Disk.Calm.sy (h : d.Calm) : d.sy.Calm := by unfold Disk.sy; rw [h.off]; exact ⟨h.armed, h.down⟩
theorem Disk.Calm.ly (h : d.Calm) (hk : inB k d.size = true) (hl : l.length = 512) : (d.ly k l).Calm := by
  unfold Disk.ly
  rw [if_pos (h.code hk hl)]
  exact (h.wr hk hl).sy
theorem sy_size (d : Disk) : d.sy.size = d.size := by unfold Disk.sy; split <;> rfl
theorem ly_size (d : Disk) (k : Int) (l : Sec) : (d.ly k l).size = d.size := by
  unfold Disk.ly
  split
  · rw [sy_size, wr_size]
  · exact wr_size d k l
theorem fm_size (d : Disk) (at_ : Int) (r : Sec) : (d.fm at_ r).size = d.size := by
  unfold Disk.fm
  split
  · rfl
  · split
    · rfl
    · split
      · rw [ly_size, wr_size]
      · exact wr_size _ _ _
theorem Disk.Calm.fresh (n : Int) : (Disk.fresh n).Calm := ⟨rfl, rfl⟩
theorem Disk.Calm.crash (d : Disk) (ks : List Int) : (d.crash ks).Calm := ⟨rfl, rfl⟩
theorem crash_size (d : Disk) (ks : List Int) : (d.crash ks).size = d.size := rfl

/-- What a device holds behind a sector that was written and synced. -/
theorem ly_yes (hc : d.lcode k l = 0) : (∀ i, (d.ly k l).get i = if i = k then l else d.get i) ∧ (d.ly k l).old = fun _ => none := by
  unfold Disk.lcode at hc
  split at hc
  · rename_i h0
    unfold Disk.ly
    rw [if_pos h0]
    rw [Disk.wr_yes h0] at hc ⊢
    unfold Disk.scode at hc
    unfold Disk.sy
    split at hc
    · cases hc
    · rename_i h1
      rw [if_neg h1]
      exact ⟨fun i => by rw [sync_get, write_get], rfl⟩
  · exact absurd hc ‹_›
/-- .. and behind a crash, where the power went before that was done. -/
theorem ly_no (ho : d.old = fun _ => none) (hk : inB k d.size = true) (hl : l.length = 512) (hc : d.lcode k l ≠ 0) (ks : List Int) :
    (∀ i, ((d.ly k l).crash ks).get i = d.get i) ∨ (∀ i, ((d.ly k l).crash ks).get i = if i = k then l else d.get i) := by
  rcases Disk.code_03 hk hl with h0 | h3
  · unfold Disk.lcode at hc
    rw [if_pos h0] at hc
    unfold Disk.ly
    rw [if_pos h0, Disk.wr_yes h0] at *
    have hoff : (d.write k l).met.off = true := by
      unfold Disk.scode at hc
      cases h : (d.write k l).met.off <;> simp [h] at hc ⊢
    have hsy : (d.write k l).sy = (d.write k l).fall := by unfold Disk.sy; rw [hoff]; rfl
    rw [hsy]
    have hold : (d.write k l).fall.old = upd (fun _ => none) k (d.get k) := by
      show (if (d.old k).isSome then d.old else upd d.old k (d.get k)) = _
      rw [ho]
      rfl
    have hget : ∀ i, (d.write k l).fall.get i = if i = k then l else d.get i := fun i => write_get d k i l
    by_cases hm : k ∈ ks
    · refine .inr fun i => ?_
      rw [crash_get, hget, hold]
      by_cases e : i = k
      · subst e
        simp [hm]
      · simp [upd, e]
    · refine .inl fun i => ?_
      rw [crash_get, hget, hold]
      by_cases e : i = k
      · subst e
        simp [hm, upd]
      · simp [upd, e]
  · have hly : d.ly k l = d.fall := by
      unfold Disk.ly
      rw [if_neg (by omega), Disk.wr_cut h3]
    rw [hly]
    refine .inl fun i => ?_
    rw [crash_get]
    show (if i ∈ ks then d.get i else (d.old i).getD (d.get i)) = _
    rw [ho]
    simp

/-- The device holds these slots: their row is in force. -/
structure Holds (d : Disk) (s : SL) : Prop where
  fit : fitB s.at_ d.size = true
  old : d.old = fun _ => none
  lo : 1 ≤ s.n
  this : says (d.get (s.at_ + s.n % 2)) (s.n % 2) = some (s.n, s.row)
  that : ∀ m x, says (d.get (s.at_ + (s.n + 1) % 2)) ((s.n + 1) % 2) = some (m, x) → m < s.n
theorem pick_keep (x : Int × Sec) (y : Option (Int × Sec)) (h : ∀ m z, y = some (m, z) → m < x.1) : pick x y = x := by
  cases y with
  | none => rfl
  | some q =>
    have := h q.1 q.2 rfl
    rw [pick_some, if_neg (by omega)]
theorem Holds.op {d : Disk} {s : SL} (h : Holds d s) : d.op s.at_ = (s.n, s.row) := by
  have hlo := h.lo
  have ht := h.this
  have hx := h.that
  have e : d.op s.at_ = pick (pick (0, []) (says (d.get (s.at_ + 0)) 0)) (says (d.get (s.at_ + 1)) 1) := rfl
  rw [e]
  rcases (show s.n % 2 = 0 ∨ s.n % 2 = 1 by omega) with hp | hp
  · have hq : (s.n + 1) % 2 = 1 := by omega
    rw [hp] at ht
    rw [hq] at hx
    rw [ht, pick_some, if_pos (by simp; omega)]
    exact pick_keep _ _ hx
  · have hq : (s.n + 1) % 2 = 0 := by omega
    rw [hp] at ht
    rw [hq] at hx
    rw [ht, pick_some, if_pos]
    generalize says (d.get (s.at_ + 0)) 0 = y at hx
    cases y with
    | none =>
      rw [pick_none]
      simp
      omega
    | some q =>
      have := hx q.1 q.2 rfl
      rw [pick_some]
      split
      · exact this
      · simp
        omega
theorem Holds.same {d d' : Disk} {s : SL} (h : Holds d s) (hz : d'.size = d.size) (ho : d'.old = fun _ => none) (hg : ∀ i, d'.get i = d.get i) : Holds d' s :=
  ⟨by rw [hz]; exact h.fit, ho, h.lo, by rw [hg]; exact h.this, fun m x => by rw [hg]; exact h.that m x⟩
theorem Holds.crash {d : Disk} {s : SL} (h : Holds d s) (ks : List Int) : Holds (d.crash ks) s :=
  h.same rfl rfl (fun i => by rw [crash_get, h.old]; simp)
theorem Holds.arm {d : Disk} {s : SL} (h : Holds d s) (n : Int) : Holds { d with met := d.met.arm n } s := h.same rfl h.old (fun _ => rfl)
theorem Holds.put {d d' : Disk} {s : SL} {r : Sec} (h : Holds d s) (hn : s.n < 4611686018427387904) (hr : r.length ≤ 480) (hz : d'.size = d.size) (ho : d'.old = fun _ => none) (hg : ∀ i, d'.get i = if i = s.place then s.sec r else d.get i) : Holds d' (s.put r) := by
  have hlo := h.lo
  have hm : (s.n + 1 + 1) % 2 = s.n % 2 := by omega
  have hne : s.at_ + s.n % 2 ≠ s.place := by unfold SL.place; omega
  refine ⟨by rw [hz]; exact h.fit, ho, by simp only [SL.put]; omega, ?_, fun m x => ?_⟩
  · show says (d'.get s.place) ((s.n + 1) % 2) = some (s.n + 1, r)
    rw [hg, if_pos rfl]
    exact says_row (by omega) (by omega) hr
  · show says (d'.get (s.at_ + (s.n + 1 + 1) % 2)) ((s.n + 1 + 1) % 2) = some (m, x) → m < s.n + 1
    rw [hm, hg, if_neg hne, h.this]
    intro e
    cases e
    omega
theorem Holds.place {d : Disk} {s : SL} (h : Holds d s) : inB s.place d.size = true := by
  have hf := fitB_iff.1 h.fit
  have hlo := h.lo
  exact inB_iff.2 ⟨by unfold SL.place; omega, by unfold SL.place; omega⟩
theorem SL.sec_len {s : SL} {r : Sec} (h0 : 0 ≤ s.n) (h1 : s.n ≤ 4611686018427387904) (hr : r.length ≤ 480) : (s.sec r).length = 512 := rowSec_length (by omega) (by omega) hr
theorem Holds.yes {d : Disk} {s : SL} {r : Sec} (h : Holds d s) (hn : s.n < 4611686018427387904) (hr : r.length ≤ 480) (hc : d.lcode s.place (s.sec r) = 0) : Holds (d.ly s.place (s.sec r)) (s.put r) :=
  h.put hn hr (ly_size _ _ _) (ly_yes hc).2 (ly_yes hc).1
theorem Holds.no {d : Disk} {s : SL} {r : Sec} (h : Holds d s) (hn : s.n < 4611686018427387904) (hr : r.length ≤ 480) (hc : d.lcode s.place (s.sec r) ≠ 0) (ks : List Int) : Holds ((d.ly s.place (s.sec r)).crash ks) s ∨ Holds ((d.ly s.place (s.sec r)).crash ks) (s.put r) := by
  have hlo := h.lo
  rcases ly_no h.old h.place (SL.sec_len (by omega) (by omega) hr) hc ks with hg | hg
  · exact .inl (h.same (by rw [crash_size, ly_size]) rfl hg)
  · exact .inr (h.put hn hr (by rw [crash_size, ly_size]) rfl hg)

/-! ### a device whose power is there -/
theorem SL.save_calm {d : Disk} {s : SL} {r : Sec} (hd : d.Calm) (hp : inB s.place d.size = true) (h0 : 0 ≤ s.n) (hn : s.n < 4611686018427387904) (hc : s.cut = false) (hr : r.length ≤ 480) :
    s.scode d r = 0 ∧ s.sdisk d r = d.ly s.place (s.sec r) ∧ s.save d r = s.put r ∧ d.lcode s.place (s.sec r) = 0 := by
  have hl := hd.lcode hp (SL.sec_len (r := r) h0 (by omega) hr)
  have hnf : ¬ (480 < r.length ∨ s.n = 4611686018427387904) := by omega
  refine ⟨?_, ?_, ?_, hl⟩
  · simp [SL.scode, hnf, hc, hl]
  · simp [SL.sdisk, hnf, hc]
  · simp [SL.save, hnf, hc, hl]
theorem fm_calm {d : Disk} {at_ : Int} {r : Sec} (hd : d.Calm) (hf : fitB at_ d.size = true) (hr : r.length ≤ 480) : d.fcode at_ r = 0 ∧ (d.fm at_ r).Calm ∧ Holds (d.fm at_ r) ⟨at_, 1, r, false⟩ := by
  have hat := fitB_iff.1 hf
  have h1 : inB at_ d.size = true := inB_iff.2 ⟨by omega, by omega⟩
  have hc0 : d.code at_ 512 = 0 := by
    have := hd.code h1 zeros_length
    rwa [zeros_512] at this
  have hcw : (d.wr at_ zeros).Calm := hd.wr h1 zeros_length
  have hz : (d.wr at_ zeros).size = d.size := wr_size _ _ _
  have h2 : inB (at_ + 1) (d.wr at_ zeros).size = true := by rw [hz]; exact inB_iff.2 ⟨by omega, by omega⟩
  have hsl : (rowSec 1 r).length = 512 := rowSec_length (by omega) (by omega) hr
  have hl := hcw.lcode h2 hsl
  have hnl : ¬ 480 < r.length := by omega
  have e1 : d.fcode at_ r = 0 := by simp [Disk.fcode, hf, hnl, hc0, hl]
  have e2 : d.fm at_ r = (d.wr at_ zeros).ly (at_ + 1) (rowSec 1 r) := by simp [Disk.fm, hf, hnl, hc0]
  have hy := ly_yes hl
  have hw : d.wr at_ zeros = d.write at_ zeros := Disk.wr_yes (hd.code h1 zeros_length)
  refine ⟨e1, by rw [e2]; exact hcw.ly h2 hsl, ?_⟩
  rw [e2]
  refine ⟨by rw [ly_size, hz]; exact hf, hy.2, Int.le_refl _, ?_, fun m x => ?_⟩
  · show says (((d.wr at_ zeros).ly (at_ + 1) (rowSec 1 r)).get (at_ + 1)) 1 = some (1, r)
    rw [hy.1, if_pos rfl]
    exact says_row (n := 1) (by omega) (by omega) hr
  · show says (((d.wr at_ zeros).ly (at_ + 1) (rowSec 1 r)).get (at_ + 0)) 0 = some (m, x) → m < 1
    rw [hy.1, if_neg (by omega), hw, write_get, if_pos (by omega)]
    have := says_zeros 512 0
    intro e
    rw [show zeros = List.replicate 512 0 from rfl, this] at e
    cases e
theorem op_fresh (n : Int) (at_ : Int) : (Disk.fresh n).op at_ = (0, []) := by
  have hz : ∀ (i t : Int), says ((Disk.fresh n).get i) t = none := fun i t => says_zeros 512 t
  show pick (pick (0, []) (says ((Disk.fresh n).get (at_ + 0)) 0)) (says ((Disk.fresh n).get (at_ + 1)) 1) = _
  rw [hz, hz]
  rfl
end
end Go.Proofs.Ytdmkmjlkogkmgaa
/- Slots on a device that the caller made itself; the chapter's example runs as it says. -/
namespace Go.Proofs.Ytdmkmjlkogkmgaa
open Go.RowKit Go.Maps
set_option linter.unusedSimpArgs false
set_option linter.unusedVariables false

/-- Since w0 a device and slots on it were made, and nothing that was there has turned. -/
structure SSt (w0 w : World) (a : DA) (d : Disk) (p : Nat) (v : Value) (s : SL) : Prop where
  st : St w0 w a d
  slot : Slot w p a v s
  newp : w0.heap.size ≤ p
section
variable {w0 w w' : World} {a : DA} {d d' : Disk} {p : Nat} {v v' : Value} {s s' : SL}
theorem SSt.quiet (h : SSt w0 w a d p v s) (ho : Only [] w w') : SSt w0 w' a d p v s := ⟨h.st.quiet ho, h.slot.quiet ho, h.newp⟩
theorem SSt.dev (h : SSt w0 w a d p v s) (ho : Only a.bl w w') (hd : Dev w' a d') : SSt w0 w' a d' p v s := ⟨h.st.step ho hd, h.slot.dev h.st.dev ho, h.newp⟩
theorem format_st {at_ : Int} {rv : Value} {r : Sec} (h : St w0 w a d) (hr : Bytes w rv r) (hl : r.length ≤ 480) (hd : d.Calm) (hf : fitB at_ d.size = true) (hw : w0.heap.size ≤ w.heap.size) :
    Calls Try.prog 13 #[.pointer (some ⟨a.p, 0, none⟩), .int .i64 at_, rv] w fun e w' => ∃ p v, e = .returned (.tuple #[.pointer (some ⟨p, 0, none⟩), .nilIface]) ∧ SSt w0 w' a (d.fm at_ r) p v ⟨at_, 1, r, false⟩ := by
  refine (Format_any at_ rv r h.dev hr (by omega)).mono ?_
  rintro e w' ⟨hd', ho, hy, _⟩
  obtain ⟨p, v, rfl, hs, hp, _⟩ := hy (fm_calm hd hf hl).1
  exact ⟨p, v, rfl, h.step ho hd', hs, Nat.le_trans hw hp⟩
theorem save_st {rv : Value} {r : Sec} (h : SSt w0 w a d p v s) (hr : Bytes w rv r) (hf : fitB s.at_ d.size = true) (hl : r.length ≤ 4611686018427387904) :
    Calls Try.prog 14 #[.pointer (some ⟨p, 0, none⟩), rv] w fun e w' => e = .returned (errV (s.scode d r)) ∧ ∃ v', SSt w0 w' a (s.sdisk d r) p v' (s.save d r) := by
  refine (save_any rv r h.slot h.st.dev hr hf hl).mono ?_
  rintro e w' ⟨rfl, hd', ho, v', hs, _⟩
  refine ⟨rfl, v', ⟨hd', h.st.only.trans ho (fun k hk => ?_), h.st.new⟩, hs, h.newp⟩
  simp only [SA, List.mem_cons] at hk
  rcases hk with rfl | hk
  · exact .inr h.newp
  · exact .inr (h.st.new k hk)
/-- A Save with the power there. -/
theorem save_calm {rv : Value} {r : Sec} (h : SSt w0 w a d p v s) (hr : Bytes w rv r) (hl : r.length ≤ 480) (hd : d.Calm) (hh : Holds d s) (hn : s.n < 4611686018427387904) (hc : s.cut = false) :
    Calls Try.prog 14 #[.pointer (some ⟨p, 0, none⟩), rv] w fun e w' => e = .returned .nilIface ∧ ∃ v' d', SSt w0 w' a d' p v' (s.put r) ∧ d'.Calm ∧ Holds d' (s.put r) := by
  have hlo := hh.lo
  obtain ⟨e1, e2, e3, e4⟩ := SL.save_calm (r := r) hd hh.place (by omega) hn hc hl
  refine (save_st h hr hh.fit (by omega)).mono ?_
  rintro e w' ⟨rfl, v', h'⟩
  rw [e1, e2, e3] at *
  exact ⟨rfl, v', _, h', hd.ly hh.place (SL.sec_len (by omega) (by omega) hl), hh.yes hn hl e4⟩
/-- An Open where a row is in force. -/
theorem open_holds {s : SL} (h : St w0 w a d) (hd : d.met.down = false) (hh : Holds d s) (hw : w0.heap.size ≤ w.heap.size) :
    Calls Try.prog 17 #[.pointer (some ⟨a.p, 0, none⟩), .int .i64 s.at_] w fun e w' => ∃ p v, e = .returned (.tuple #[.pointer (some ⟨p, 0, none⟩), .nilIface]) ∧ SSt w0 w' a d p v ⟨s.at_, s.n, s.row, false⟩ ∧ Only [] w w' := by
  have hlo := hh.lo
  have hc : d.ocode s.at_ = 0 := by
    have h0 : ¬ s.n = 0 := by omega
    simp [Disk.ocode, hh.fit, hd, hh.op, h0]
  refine (Open_any s.at_ h.dev).mono ?_
  rintro e w' ⟨⟨hd', ho, hy, _⟩, hq⟩
  obtain ⟨p, v, rfl, hs, hp, _⟩ := hy hc
  rw [hh.op] at hs
  exact ⟨p, v, rfl, ⟨h.quiet hq, hs, Nat.le_trans hw hp⟩, hq⟩
end

theorem lit1 (w : World) (c : UInt8) (x : Int) (hx : x = c.toNat) (fr : Nat × Nat) : Bytes (w.alloc (.cells #[.int .u8 x] 5 fr)) (.slice (some ⟨w.heap.size, 0, none⟩) 1 1) [c] :=
  bytes_made w [c] (by rw [hx]; rfl) 1 rfl rfl

set_option maxRecDepth 100000 in
set_option maxHeartbeats 1600000 in
theorem alive3_any (w : World) : Calls Try.prog 8 #[] w fun e w' => e = .returned (.bool true) ∧ Only [] w w' := by
  go_enter Try.func8, Try.ntmps8
  have kc := conv_lit
  go_wp2_with fail
  refine (new_st 4 w (by omega) (by omega)).mono ?_
  rintro e w1 ⟨a, rfl, h1⟩
  go_wp2_with fail
  have q1 : Only [] w1 (w1.alloc (.cells #[.int .u8 97] 5 (1, 2))) := (Only.refl [] w1).alloc _
  refine (format_st (h1.quiet q1) (lit1 w1 97 97 rfl (1, 2)) (by decide) (Disk.Calm.fresh 4) rfl (Nat.le_trans h1.only.size q1.size)).mono ?_
  rintro e w2 ⟨p, v2, rfl, s2⟩
  obtain ⟨c0, m2, g2⟩ := fm_calm (at_ := 0) (r := [97]) (Disk.Calm.fresh 4) rfl (by decide)
  have S2 := Lib.hid s2
  have M2 := Lib.hid m2
  have G2 := Lib.hid g2
  clear h1 q1 s2 m2 g2 c0
  generalize (Disk.fresh 4).fm 0 [97] = d2 at S2 M2 G2
  go_wp2_with fail
  have q2 : Only [] w2 (w2.alloc (.cells #[.int .u8 98] 5 (1, 2))) := (Only.refl [] w2).alloc _
  refine (save_calm (S2.out.quiet q2) (lit1 w2 98 98 rfl (1, 2)) (by decide) M2.out G2.out (by decide) rfl).mono ?_
  rintro e w3 ⟨rfl, v3, d3, s3, m3, g3⟩
  have S3 := Lib.hid s3
  have M3 := Lib.hid m3
  have G3 := Lib.hid g3
  clear S2 M2 G2 s3 m3 g3 q2
  go_wp2_with fail
  have q3 : Only [] w3 (w3.alloc (.cells #[.int .u8 99] 5 (1, 2))) := (Only.refl [] w3).alloc _
  refine (save_calm (S3.out.quiet q3) (lit1 w3 99 99 rfl (1, 2)) (by decide) M3.out G3.out (by decide) rfl).mono ?_
  rintro e w4 ⟨rfl, v4, d4, s4, m4, g4⟩
  have S4 := Lib.hid s4
  have M4 := Lib.hid m4
  have G4 := Lib.hid g4
  clear S3 M3 G3 s4 m4 g4 q3 kc
  go_wp2_with fail
  refine (open_holds S4.out.st M4.out.down G4.out S4.out.st.only.size).mono ?_
  rintro e w5 ⟨p5, v5, rfl, s5, o5⟩
  have S5 := Lib.hid s5
  have S45 := Lib.hid (S4.out.quiet o5)
  clear S4 M4 G4 s5 o5
  go_wp2_with fail
  refine (number_slot _ S5.out.slot 3 rfl).mono ?_
  rintro e w6 ⟨rfl, rfl⟩
  go_wp2_with fail
  refine (row_slot _ S5.out.slot [99] rfl).mono ?_
  rintro e w6 ⟨b6, k6, rfl, h6, o6⟩
  have e6 := str_bytes (S := ⟨#[99]⟩) h6.bytes rfl
  have S6 := Lib.hid (S45.out.quiet o6)
  clear S5 S45 h6 o6
  simp only [List.length_cons, List.length_nil, Nat.zero_add] at e6 ⊢
  go_wp2_with fail
  clear e6
  refine (row_slot _ S6.out.slot [99] rfl).mono ?_
  rintro e w7 ⟨b7, k7, rfl, h7, o7⟩
  have e7 := str_bytes (S := ⟨#[99]⟩) h7.bytes rfl
  have S7 := Lib.hid (S6.out.quiet o7)
  clear S6 h7 o7
  simp only [List.length_cons, List.length_nil, Nat.zero_add] at e7 ⊢
  go_wp2_with fail
  go_ret
  exact ⟨rfl, S7.out.st.only⟩
end Go.Proofs.Ytdmkmjlkogkmgaa

/- Unsynced in general: its numbers rise. -/
import Derived.Test.YtchljhjngnbclaaD11
import Derived.Test.YtchljhjngnbclaaSort
namespace Go.Proofs.Ytchljhjngnbclaa
open Go.RowKit Go.Maps
set_option linter.unusedSimpArgs false
set_option linter.unusedVariables false

theorem only_sorted {w : World} {n blk off : Nat} {d : Array Int} {os : Array Obj} : Only [blk] w (Go.Sort.grow (Go.Sort.putRow (Value.int .i64) (Go.Sort.ahead w n) blk off d) os) := by
  refine ⟨rfl, rfl, rfl, by simp [Go.Sort.grow, Go.Sort.putRow, Go.Sort.mapBlock, Go.Sort.ahead], fun k hk hn => ?_⟩
  have hne : blk ≠ k := fun e => hn (by simp [e])
  simp only [Go.Sort.grow, Go.Sort.putRow, Go.Sort.mapBlock, Go.Sort.ahead]
  rw [Array.getElem?_append_left (by simpa using hk), Array.getElem?_modify, if_neg hne]

/-- One of the sorted cells. -/
theorem sorted_cell {w : World} {n blk j : Nat} {d : Array Int} {os : Array Obj} {cur : Array Value} {t : TypeId} {fr : Nat × Nat} (hb : w.heap[blk]? = some (.cells cur t fr)) (hj : j < d.size) (hc : d.size ≤ cur.size) :
    (Go.Sort.grow (Go.Sort.putRow (Value.int .i64) (Go.Sort.ahead w n) blk 0 d) os).cell? ⟨blk, j, none⟩ = some (.int .i64 d[j]!) := by
  have h1 : (Go.Sort.grow (Go.Sort.putRow (Value.int .i64) (Go.Sort.ahead w n) blk 0 d) os).heap[blk]? = some (.cells (Go.Sort.putCells (Value.int .i64) 0 d cur) t fr) := by
    simp only [Go.Sort.grow, Go.Sort.putRow, Go.Sort.mapBlock, Go.Sort.ahead]
    rw [Array.getElem?_append_left (by simpa using lt_of_heap hb), Array.getElem?_modify, if_pos rfl, hb]
    rfl
  rw [cell_at j h1]
  simp only [Go.Sort.putCells, Array.getElem?_mapIdx]
  rw [Array.getElem?_eq_getElem (by omega), Option.map_some, if_pos ⟨by omega, by omega⟩, Nat.sub_zero]

theorem sort_any (base : Nat) (v : Value) (xs : List Int) (w : World) (hown : w.ownsRow base 3 1 v xs.length (iv xs)) (hn : xs.length ≤ 4096) :
    Calls Try.prog 39 #[v] w fun e w' => e = .returned (.tuple #[]) ∧ Only v.ownBlock.toList w w' ∧ ∀ (j : Nat) (x : Int), (xs.mergeSort fun x y => decide (x ≤ y))[j]? = some x → ∃ g, v.ownBlock = some g ∧ w'.cell? ⟨g, j, none⟩ = some (.int .i64 x) := by
  by_cases h1 : xs.length ≤ 1
  · obtain ⟨a, cap, hv⟩ : ∃ a cap, v = .slice a xs.length cap := by
      rcases hown.2 with ⟨e, h0⟩ | ⟨g, cap, cur, e, _⟩
      · exact ⟨none, 0, by rw [e, h0]⟩
      · exact ⟨_, _, e⟩
    have hms : (xs.mergeSort fun x y => decide (x ≤ y)) = xs := by
      cases xs with
      | nil => simp
      | cons p t => cases t with
        | nil => simp
        | cons q t => simp at h1
    subst hv
    refine (sort_small _ _ _ _ h1).mono ?_
    rintro e w' ⟨rfl, rfl⟩
    refine ⟨rfl, Only.refl _ _, fun j x hj => ?_⟩
    rw [hms] at hj
    have hlt := (List.getElem?_eq_some_iff.1 hj).1
    rcases hown.2 with ⟨e, h0⟩ | ⟨g, cap, cur, e, _, hg, hc, _, _, ht⟩
    · omega
    · cases e
      refine ⟨g, rfl, ?_⟩
      have h2 : (iv xs)[j]? = some (Value.int .i64 x) := by simp [iv, hj]
      rw [← ht, Nat.mul_one, List.getElem?_take_of_lt hlt] at h2
      rw [cell_at j hg]
      simpa using h2
  · rcases hown.2 with ⟨e, h0⟩ | ⟨g, cap, cur, rfl, _, hg, hc, _, hs, ht⟩
    · omega
    · have hcell : ∀ j (hj : j < xs.length), cur[j]? = some (.int .i64 xs[j]) := fun j hj => by
        have h2 : (iv xs)[j]? = some (Value.int .i64 xs[j]) := by simp [iv]
        rw [← ht, Nat.mul_one, List.getElem?_take_of_lt hj] at h2
        simpa using h2
      have hH : Go.Sort.Holds (Value.int .i64) w g 0 xs.toArray := fun j hj => by
        have hj' : j < xs.length := by simpa using hj
        refine ⟨?_, free_at _ hg⟩
        rw [Nat.zero_add, cell_at j hg, hcell j hj']
        simp [hj']
      refine (Try.slices_Sort_int g 0 cap xs w hH (lt_of_heap hg) (by omega)).mono ?_
      rintro e w' ⟨rfl, n, os, rfl⟩
      refine ⟨rfl, only_sorted, fun j x hj => ⟨g, rfl, ?_⟩⟩
      have hlt := (List.getElem?_eq_some_iff.1 hj).1
      have hlen : (xs.mergeSort fun x y => decide (x ≤ y)).length = xs.length := List.length_mergeSort _
      rw [sorted_cell hg (by simpa using hlt) (by simp; omega)]
      simp [hj]

theorem own_addr {w : World} {base n m c g : Nat} {e : TypeId} {a : Option Addr} {xs : List Value} (h : w.ownsRow base e 1 (.slice a n c) m xs) (hg : (Value.slice a n c).ownBlock = some g) : a = some ⟨g, 0, none⟩ := by
  rcases h.2 with ⟨e1, _⟩ | ⟨g', cap', cur, e1, _⟩
  · injection e1 with e1 _ _
    subst e1
    cases hg
  · injection e1 with e1 _ _
    subst e1
    cases hg
    rfl

/-- What Unsynced answers: a list of numbers, new, rising. -/
def UnsAll (d : Disk) (w : World) (e : Ending) (w' : World) : Prop := ∃ (v : Value) (xs : List Int), e = .returned v ∧ IntsV w' v xs ∧ (∀ k, k ∈ xs ↔ (d.old k).isSome = true) ∧ xs.Pairwise (· < ·) ∧ xs.length ≤ 4096 ∧ Only [] w w'

theorem rising {xs : List Int} (hn : xs.Nodup) : (xs.mergeSort fun x y => decide (x ≤ y)).Pairwise (· < ·) := by
  have h1 : (xs.mergeSort fun x y => decide (x ≤ y)).Pairwise (fun x y => decide (x ≤ y) = true) := List.pairwise_mergeSort (fun a b c h1 h2 => by simp at *; omega) (fun a b => by simp; omega) xs
  have h2 : (xs.mergeSort fun x y => decide (x ≤ y)).Nodup := (List.mergeSort_perm xs _).nodup_iff.2 hn
  rw [List.Nodup] at h2
  refine (h1.and h2).imp (fun {a b} h => ?_)
  obtain ⟨h3, h4⟩ := h
  simp at h3
  omega

set_option maxRecDepth 100000 in
theorem unsynced_any (a : DA) (d : Disk) (w : World) (h : Dev w a d) :
    Calls Try.prog 19 #[.pointer (some ⟨a.p, 0, none⟩)] w (UnsAll d w) := by
  have c7 := h.blk.c7
  have hbd : ∀ k, (d.old k).isSome = true → 0 ≤ k ∧ k < 4096 := fun k hk => by
    obtain ⟨_, _, _, hr⟩ := h.old
    obtain ⟨l, hl⟩ := Option.isSome_iff_exists.1 hk
    exact (hr.len k l hl).2
  have HB := Lib.hid hbd
  have HD := Lib.hid h
  clear h hbd
  go_enter Try.func19, Try.ntmps19
  go_wp2_with (refine wpList_smap_range rfl (.tmp 10) rfl key_int Try.underlying65 (by rfl) HD.out.old ?_; intro w5 r cnt hr hrl o5)
  go_frame
  go_loopw [3, 4] (fun v _ wr => ∃ (left : Int → Bool) (cnt : Nat) (xs : List Int), SRange Try.prog wr a.bs r d.old left cnt ∧ wr.ownsRow w.heap.size 3 1 v xs.length (iv xs) ∧ v.ownBlock ≠ some r ∧ Found d.old left xs ∧ Only [] w wr) (fun _ _ wr => wr.rangeLeft a.bs r)
  case atStart => exact ⟨_, cnt, [], hr, World.ownsRow_nil _ _ _ _, by simp [Value.ownBlock], Found.start _, o5⟩
  case round =>
    clear hr c7
    have HR := Lib.hid hrl
    clear hrl
    obtain ⟨left, cnt1, xs, hr, hown, hob, hf, ho⟩ := hrel
    have HL := Lib.hid hr.left_eq
    have HW := Lib.hid hown
    have HF := Lib.hid hf
    have HX := Lib.hid hob
    clear hown hf hob
    have hz := ho.size
    go_wp2_with (first
      | (refine wpList_smap_next rfl (.tmp 11) rfl key_int (by rfl) hr (fun hc0 hl0 => ?_) (fun x l w6 cnt2 hlx hmx hr6 hlt6 o6 hen => ?_))
      | (refine wpList_append_int rfl (.tmp 16) (.tmp 18) rfl w.heap.size _ xs (by rfl) (owns_kept (owns_kept HW.out o6 (fun k hk => by simp at hk; subst hk; exact HX.out)) ((Only.refl [] w6).alloc _) (by simp)) w6.heap.size (by rfl) x (by simp) (HF.out.small HB.out) (by have := o6.size; simp; omega) ?_
         intro g cap w8 hown8 o8))
    · have hmem : ∀ k, k ∈ xs ↔ (d.old k).isSome = true := fun k => by rw [HF.out.mem, hl0 k]; simp
      have HM := Lib.hid hmem
      have hlen := HF.out.small HB.out
      have hge : ∀ k ∈ Option.toList (Value.ownBlock _), w.heap.size ≤ k := fun k hk => (HW.out.lt k (by simpa using hk)).1
      have hshape : ∃ (a' : Option Addr) (c' : Nat), _ = Value.slice a' xs.length c' := let ⟨a', c', e, _⟩ := owns_ints HW.out (fun x hx => wf_i64 (HB.out x ((hmem x).1 hx)).1 (HB.out x ((hmem x).1 hx)).2); ⟨a', c', e⟩
      obtain ⟨a', c', ev⟩ := hshape
      subst ev
      refine (sort_any _ _ _ _ HW.out hlen).mono ?_
      rintro e w' ⟨rfl, o9, hcell⟩
      have hfin : UnsAll d w (.returned (.slice a' xs.length c')) w' := by
        refine ⟨_, xs.mergeSort fun x y => decide (x ≤ y), rfl, ⟨a', c', by rw [List.length_mergeSort], fun i k hi => ⟨?_, ?_⟩⟩, fun k => ?_, rising HF.out.nodup, by rw [List.length_mergeSort]; exact hlen, ho.trans o9 (fun k hk => .inr (hge k hk))⟩
        · have hk : k ∈ xs := (List.mergeSort_perm xs _).mem_iff.1 (List.mem_of_getElem? hi)
          have := HB.out k ((HM.out k).1 hk)
          exact wf_i64 this.1 this.2
        · obtain ⟨g, hg, hc⟩ := hcell i k hi
          exact ⟨g, 0, own_addr HW.out hg, by rw [Nat.zero_add]; exact hc⟩
        · rw [← HM.out k]
          exact (List.mergeSort_perm xs _).mem_iff
      have HFIN := Lib.hid hfin
      clear hfin hcell hmem hlen hl0 hge
      go_wp2_with fail
      go_ret
      exact HFIN.out
    · have q6 : Only [] w w6 := ho.trans o6 (by simpa using HR.out)
      have hge : ∀ k, _ → w.heap.size ≤ k := fun k (hk : k ∈ Option.toList _) => (HW.out.lt k (by simpa using hk)).1
      have q8 := (q6.alloc (.cells #[.int .i64 x] 3)).trans o8 (fun k hk => .inr (hge k hk))
      have p8 := (((Only.refl [] w6).alloc (.cells #[.int .i64 x] 3)).mono (by simp)).trans o8 (fun k hk => .inl hk)
      have r8 := hr6.kept p8 (fun e => by have := hge _ e; have := HD.out.old.lt; omega) (fun e => HX.out (by simpa using e))
      have hgr : (Value.slice (some ⟨g, 0, none⟩) (xs.length + 1) cap).ownBlock ≠ some r := fun e => by
        obtain ⟨_, _, _, _, hit⟩ := r8.iter
        rcases hown8.2 with ⟨ev, _⟩ | ⟨g', cap', cur, ev, _, hg', _⟩
        · cases ev
        · injection ev with e1 _ _
          have e2 : g = g' := congrArg Addr.block (Option.some.inj e1)
          subst e2
          simp only [Value.ownBlock, Option.some.injEq] at e
          rw [e, hit] at hg'
          cases hg'
      go_roundw
      case rel => exact ⟨_, cnt2, xs ++ [x], r8, hown8, hgr, HF.out.step hlx, q8⟩
      case measure => rw [r8.left_eq, HL.out]; exact hlt6
end Go.Proofs.Ytchljhjngnbclaa

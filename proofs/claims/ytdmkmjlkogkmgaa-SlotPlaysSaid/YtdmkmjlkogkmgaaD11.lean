/- Unsynced: the list that it makes. -/
import Derived.Test.YtdmkmjlkogkmgaaD10
import Derived.Deep.AppendLies
namespace Go.Proofs.Ytdmkmjlkogkmgaa
open Go.RowKit Go.Maps
set_option linter.unusedSimpArgs false

/-- The numbers found so far: just those that are no longer to come. -/
structure Found (old : Int → Option Sec) (left : Int → Bool) (xs : List Int) : Prop where
  mem : ∀ k, k ∈ xs ↔ ((old k).isSome = true ∧ left k = false)
  nodup : xs.Nodup
  sub : ∀ k, left k = true → (old k).isSome = true
theorem Found.start (old : Int → Option Sec) : Found old (fun k => (old k).isSome) [] := ⟨fun k => by cases h : old k <;> simp [h], List.nodup_nil, fun _ h => h⟩
theorem Found.step {old : Int → Option Sec} {left : Int → Bool} {xs : List Int} (h : Found old left xs) {x : Int} (hx : left x = true) : Found old (fun z => left z && z != x) (xs ++ [x]) := by
  refine ⟨fun k => ?_, ?_, fun k hk => h.sub k (by simp at hk; exact hk.1)⟩
  · rw [List.mem_append, h.mem, List.mem_singleton]
    by_cases e : k = x
    · subst e
      simp [h.sub k hx]
    · simp [e]
  · rw [List.nodup_append]
    refine ⟨h.nodup, by simp, fun a ha b hb e => ?_⟩
    simp at hb
    subst hb; subst e
    have := ((h.mem a).1 ha).2
    rw [hx] at this
    cases this
theorem Found.small {old : Int → Option Sec} {left : Int → Bool} {xs : List Int} (h : Found old left xs) (hb : ∀ k, (old k).isSome = true → 0 ≤ k ∧ k < 4096) : xs.length ≤ 4096 :=
  nodup_bound 4096 xs h.nodup (fun x hx => hb x ((h.mem x).1 hx).1)

def UnsPost (d : Disk) (w : World) (e : Ending) (w' : World) : Prop := ∃ (v : Value) (xs : List Int), e = .returned v ∧ IntsV w' v xs ∧ (∀ k, k ∈ xs ↔ (d.old k).isSome = true) ∧ xs.Nodup ∧ Off v [] ∧ Only [] w w'

set_option maxRecDepth 100000 in
theorem unsynced_few (a : DA) (d : Disk) (w : World) (h : Dev w a d) (hone : ∀ x y, (d.old x).isSome = true → (d.old y).isSome = true → x = y) :
    Calls Try.prog 21 #[.pointer (some ⟨a.p, 0, none⟩)] w (UnsPost d w) := by
  have c7 := h.blk.c7
  have hbd : ∀ k, (d.old k).isSome = true → 0 ≤ k ∧ k < 4096 := fun k hk => by
    obtain ⟨_, _, _, hr⟩ := h.old
    obtain ⟨l, hl⟩ := Option.isSome_iff_exists.1 hk
    exact (hr.len k l hl).2
  have HB := Lib.hid hbd
  have HO := Lib.hid hone
  have HD := Lib.hid h
  clear hone h hbd
  go_enter Try.func21, Try.ntmps21
  go_wp2_with (refine wpList_smap_range rfl (.tmp 10) rfl key_int Try.underlying61 (by rfl) HD.out.old ?_; intro w5 r cnt hr hrl o5)
  go_frame
  go_loopw [3, 4] (fun v _ wr => ∃ (left : Int → Bool) (cnt : Nat) (xs : List Int), SRange Try.prog wr a.bs r d.old left cnt ∧ wr.ownsRow w.heap.size 3 1 v xs.length (iv xs) ∧ v.ownBlock ≠ some r ∧ Found d.old left xs ∧ Only [] w wr) (fun _ _ wr => wr.rangeLeft a.bs r)
  case atStart => exact ⟨_, cnt, [], hr, World.ownsRow_nil _ _ _ _, by simp [Value.ownBlock], Found.start _, o5⟩
  case round =>
    clear hr c7
    have HR := Lib.hid hrl
    clear hrl
    obtain ⟨left, cnt1, xs, hr, hown, hob, hf, ho⟩ := hrel
    have HL := Lib.hid hr.left_eq
    have HW := Lib.hid hown
    have HF := Lib.hid hf
    have HX := Lib.hid hob
    clear hown hf hob
    have hz := ho.size
    go_wp2_with (first
      | (refine wpList_smap_next rfl (.tmp 11) rfl key_int (by rfl) hr (fun hc0 hl0 => ?_) (fun x l w6 cnt2 hlx hmx hr6 hlt6 o6 hen => ?_))
      | (refine wpList_append_int rfl (.tmp 16) (.tmp 18) rfl w.heap.size _ xs (by rfl) (owns_kept (owns_kept HW.out o6 (fun k hk => by simp at hk; subst hk; exact HX.out)) ((Only.refl [] w6).alloc _) (by simp)) w6.heap.size (by rfl) x (by simp) (Nat.le_trans (HF.out.small HB.out) (by decide)) (by have := o6.size; simp; omega) ?_
         intro g cap w8 hown8 o8))
    · have hx1 : xs.length ≤ 1 := by
        cases xs with
        | nil => simp
        | cons p t => cases t with
          | nil => simp
          | cons p2 t2 =>
            have h1 := ((HF.out.mem p).1 (by simp)).1
            have h2 := ((HF.out.mem p2).1 (by simp)).1
            have h3 := HF.out.nodup
            rw [HO.out p p2 h1 h2] at h3
            simp at h3
      have hmem : ∀ k, k ∈ xs ↔ (d.old k).isSome = true := fun k => by rw [HF.out.mem, hl0 k]; simp
      have hi := owns_ints HW.out (fun x hx => wf_i64 (HB.out x ((hmem x).1 hx)).1 (HB.out x ((hmem x).1 hx)).2)
      have hp : UnsPost d w (.returned _) _ := ⟨_, xs, rfl, hi, hmem, HF.out.nodup, fun _ _ _ _ _ => by simp, ho⟩
      have HP := Lib.hid hp
      have hsz : ∃ (a' : Option Addr) (c' : Nat), _ = Value.slice a' xs.length c' := let ⟨a', c', e, _⟩ := hi; ⟨a', c', e⟩
      obtain ⟨a', c', ev⟩ := hsz
      clear hp hi hmem hl0
      subst ev
      refine (sort_small _ _ _ _ hx1).mono ?_
      rintro e w' ⟨rfl, rfl⟩
      go_wp2_with fail
      go_ret
      exact HP.out
    · have q6 : Only [] w w6 := ho.trans o6 (by simpa using HR.out)
      have hge : ∀ k, _ → w.heap.size ≤ k := fun k (hk : k ∈ Option.toList _) => (HW.out.lt k (by simpa using hk)).1
      have q8 := (q6.alloc (.cells #[.int .i64 x] 3)).trans o8 (fun k hk => .inr (hge k hk))
      have p8 := (((Only.refl [] w6).alloc (.cells #[.int .i64 x] 3)).mono (by simp)).trans o8 (fun k hk => .inl hk)
      have r8 := hr6.kept p8 (fun e => by have := hge _ e; have := HD.out.old.lt; omega) (fun e => HX.out (by simpa using e))
      have hgr : (Value.slice (some ⟨g, 0, none⟩) (xs.length + 1) cap).ownBlock ≠ some r := fun e => by
        obtain ⟨_, _, _, _, hit⟩ := r8.iter
        rcases hown8.2 with ⟨ev, _⟩ | ⟨g', cap', cur, ev, _, hg', _⟩
        · cases ev
        · injection ev with e1 _ _
          have e2 : g = g' := congrArg Addr.block (Option.some.inj e1)
          subst e2
          simp only [Value.ownBlock, Option.some.injEq] at e
          rw [e, hit] at hg'
          cases hg'
      go_roundw
      case rel => exact ⟨_, cnt2, xs ++ [x], r8, hown8, hgr, HF.out.step hlx, q8⟩
      case measure => rw [r8.left_eq, HL.out]; exact hlt6
end Go.Proofs.Ytdmkmjlkogkmgaa

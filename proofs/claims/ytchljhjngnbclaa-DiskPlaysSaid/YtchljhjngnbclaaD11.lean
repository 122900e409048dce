/- Unsynced: the list that it makes. -/
import Derived.Test.YtchljhjngnbclaaD10
import Derived.Deep.AppendLies
namespace Go.Proofs.Ytchljhjngnbclaa
open Go.RowKit Go.Maps
set_option linter.unusedSimpArgs false

def iv (xs : List Int) : List Value := xs.map (Value.int .i64)
theorem iv_length (xs : List Int) : (iv xs).length = xs.length := by simp [iv]
theorem info_int : (Try.prog.info? 3).map (fun i => (i.zero, i.size, i.bytes)) = some (some (.int .i64 0), 1, 8) := by kernel_rfl

section
variable {w : World} {ops : Array Oper} {rest : List Oper} {o : Oper} {a : Act} {Q : Exit → Act → World → Prop}
theorem wpList_append_int (hgd : o.guard = none) (s x : Operand) (ho : o.op = .call { callee := .builtin .append, args := #[s, x], argTypes := #[35, 35] })
    (base : Nat) (v : Value) (xs : List Int) (hs : a.eval s = v) (hown : w.ownsRow base 3 1 v xs.length (iv xs)) (bx : Nat) (hx : a.eval x = .slice (some ⟨bx, 0, none⟩) 1 1) (k : Int) (hk : w.cell? ⟨bx, 0, none⟩ = some (.int .i64 k)) (hn : xs.length ≤ 4096) (hb : base ≤ w.heap.size)
    (h : ∀ g cap w', w'.ownsRow base 3 1 (.slice (some ⟨g, 0, none⟩) (xs.length + 1) cap) (xs ++ [k]).length (iv (xs ++ [k])) → Only v.ownBlock.toList w w' → wpList Try.prog ops Q rest (a.put o.dst (.slice (some ⟨g, 0, none⟩) (xs.length + 1) cap)) w') : wpList Try.prog ops Q (o :: rest) a w := by
  obtain ⟨i, hi, hz⟩ := Option.map_eq_some_iff.1 info_int
  simp only [Prod.mk.injEq] at hz
  obtain ⟨z1, z2, z3⟩ := hz
  refine wpList_append_lies _ hgd s x 35 ho base 3 i (.int .i64 0) 1 8 Try.underlying35 hi z1 z2 z3 rfl (by omega) v xs.length (iv xs) hs hown ⟨bx, 0, none⟩ 1 1 [.int .i64 k] hx rfl ?_ (by simp [Value.oneCell']) (by omega) (by unfold maxLen; omega) (by omega) hb w.heap.size rfl ?_
  · intro j u hj
    cases j with
    | zero =>
      simp at hj
      subst hj
      have : (⟨bx, 0, none⟩ : Addr).add 0 = ⟨bx, 0, none⟩ := by simp [Addr.add]
      rw [this]
      exact hk
    | succ j => simp at hj
  · intro g cap w' h1 h2 _ _
    refine h g cap w' ?_ (Only.of_grown h2)
    have e1 : iv (xs ++ [k]) = iv xs ++ [.int .i64 k] := by simp [iv]
    rw [e1, List.length_append]
    exact h1
end

theorem owns_kept {w w' : World} {base n : Nat} {v : Value} {xs : List Value} {S : List Nat} (h : w.ownsRow base 3 1 v n xs) (ho : Only S w w') (hs : ∀ k ∈ S, v.ownBlock ≠ some k) : w'.ownsRow base 3 1 v n xs := by
  refine ⟨h.1, ?_⟩
  rcases h.2 with hn | ⟨g, cap, cur, rfl, hb, hg, r⟩
  · exact .inl hn
  · exact .inr ⟨g, cap, cur, rfl, hb, ho.heap hg (fun e => hs g e rfl), r⟩
theorem owns_ints {w : World} {base : Nat} {v : Value} {xs : List Int} (h : w.ownsRow base 3 1 v xs.length (iv xs)) (hw : ∀ x ∈ xs, (Lit.int .i64 x).wf = true) : IntsV w v xs := by
  rcases h.2 with ⟨rfl, hn⟩ | ⟨g, cap, cur, rfl, hb, hg, hc, _, _, ht⟩
  · obtain rfl : xs = [] := List.eq_nil_of_length_eq_zero hn
    exact ⟨none, 0, rfl, fun i k hi => by simp at hi⟩
  · refine ⟨_, cap, rfl, fun i k hi => ⟨hw k (List.mem_of_getElem? hi), g, 0, rfl, ?_⟩⟩
    rw [Nat.zero_add, cell_at i hg]
    have h1 : (iv xs)[i]? = some (Value.int .i64 k) := by simp [iv, hi]
    rw [← ht, Nat.mul_one] at h1
    have hlt : i < xs.length := (List.getElem?_eq_some_iff.1 hi).1
    rw [List.getElem?_take_of_lt hlt] at h1
    simpa using h1

/-- The numbers found so far: just those that are no longer to come. -/
structure Found (old : Int → Option Sec) (left : Int → Bool) (xs : List Int) : Prop where
  mem : ∀ k, k ∈ xs ↔ ((old k).isSome = true ∧ left k = false)
  nodup : xs.Nodup
  sub : ∀ k, left k = true → (old k).isSome = true
theorem Found.start (old : Int → Option Sec) : Found old (fun k => (old k).isSome) [] := ⟨fun k => by cases h : old k <;> simp [h], List.nodup_nil, fun _ h => h⟩
theorem Found.step {old : Int → Option Sec} {left : Int → Bool} {xs : List Int} (h : Found old left xs) {x : Int} (hx : left x = true) : Found old (fun z => left z && z != x) (xs ++ [x]) := by
  refine ⟨fun k => ?_, ?_, fun k hk => h.sub k (by simp at hk; exact hk.1)⟩
  · rw [List.mem_append, h.mem, List.mem_singleton]
    by_cases e : k = x
    · subst e
      simp [h.sub k hx]
    · simp [e]
  · rw [List.nodup_append]
    refine ⟨h.nodup, by simp, fun a ha b hb e => ?_⟩
    simp at hb
    subst hb; subst e
    have := ((h.mem a).1 ha).2
    rw [hx] at this
    cases this
theorem Found.small {old : Int → Option Sec} {left : Int → Bool} {xs : List Int} (h : Found old left xs) (hb : ∀ k, (old k).isSome = true → 0 ≤ k ∧ k < 4096) : xs.length ≤ 4096 :=
  nodup_bound 4096 xs h.nodup (fun x hx => hb x ((h.mem x).1 hx).1)

def UnsPost (d : Disk) (w : World) (e : Ending) (w' : World) : Prop := ∃ (v : Value) (xs : List Int), e = .returned v ∧ IntsV w' v xs ∧ (∀ k, k ∈ xs ↔ (d.old k).isSome = true) ∧ xs.Nodup ∧ Off v [] ∧ Only [] w w'

set_option maxRecDepth 100000 in
theorem unsynced_few (a : DA) (d : Disk) (w : World) (h : Dev w a d) (hone : ∀ x y, (d.old x).isSome = true → (d.old y).isSome = true → x = y) :
    Calls Try.prog 19 #[.pointer (some ⟨a.p, 0, none⟩)] w (UnsPost d w) := by
  have c7 := h.blk.c7
  have hbd : ∀ k, (d.old k).isSome = true → 0 ≤ k ∧ k < 4096 := fun k hk => by
    obtain ⟨_, _, _, hr⟩ := h.old
    obtain ⟨l, hl⟩ := Option.isSome_iff_exists.1 hk
    exact (hr.len k l hl).2
  have HB := Lib.hid hbd
  have HO := Lib.hid hone
  have HD := Lib.hid h
  clear hone h hbd
  go_enter Try.func19, Try.ntmps19
  go_wp2_with (refine wpList_smap_range rfl (.tmp 10) rfl key_int Try.underlying65 (by rfl) HD.out.old ?_; intro w5 r cnt hr hrl o5)
  go_frame
  go_loopw [3, 4] (fun v _ wr => ∃ (left : Int → Bool) (cnt : Nat) (xs : List Int), SRange Try.prog wr a.bs r d.old left cnt ∧ wr.ownsRow w.heap.size 3 1 v xs.length (iv xs) ∧ v.ownBlock ≠ some r ∧ Found d.old left xs ∧ Only [] w wr) (fun _ _ wr => wr.rangeLeft a.bs r)
  case atStart => exact ⟨_, cnt, [], hr, World.ownsRow_nil _ _ _ _, by simp [Value.ownBlock], Found.start _, o5⟩
  case round =>
    clear hr c7
    have HR := Lib.hid hrl
    clear hrl
    obtain ⟨left, cnt1, xs, hr, hown, hob, hf, ho⟩ := hrel
    have HL := Lib.hid hr.left_eq
    have HW := Lib.hid hown
    have HF := Lib.hid hf
    have HX := Lib.hid hob
    clear hown hf hob
    have hz := ho.size
    go_wp2_with (first
      | (refine wpList_smap_next rfl (.tmp 11) rfl key_int (by rfl) hr (fun hc0 hl0 => ?_) (fun x l w6 cnt2 hlx hmx hr6 hlt6 o6 hen => ?_))
      | (refine wpList_append_int rfl (.tmp 16) (.tmp 18) rfl w.heap.size _ xs (by rfl) (owns_kept (owns_kept HW.out o6 (fun k hk => by simp at hk; subst hk; exact HX.out)) ((Only.refl [] w6).alloc _) (by simp)) w6.heap.size (by rfl) x (by simp) (HF.out.small HB.out) (by have := o6.size; simp; omega) ?_
         intro g cap w8 hown8 o8))
    · have hx1 : xs.length ≤ 1 := by
        cases xs with
        | nil => simp
        | cons p t => cases t with
          | nil => simp
          | cons p2 t2 =>
            have h1 := ((HF.out.mem p).1 (by simp)).1
            have h2 := ((HF.out.mem p2).1 (by simp)).1
            have h3 := HF.out.nodup
            rw [HO.out p p2 h1 h2] at h3
            simp at h3
      have hmem : ∀ k, k ∈ xs ↔ (d.old k).isSome = true := fun k => by rw [HF.out.mem, hl0 k]; simp
      have hi := owns_ints HW.out (fun x hx => wf_i64 (HB.out x ((hmem x).1 hx)).1 (HB.out x ((hmem x).1 hx)).2)
      have hp : UnsPost d w (.returned _) _ := ⟨_, xs, rfl, hi, hmem, HF.out.nodup, fun _ _ _ _ _ => by simp, ho⟩
      have HP := Lib.hid hp
      have hsz : ∃ (a' : Option Addr) (c' : Nat), _ = Value.slice a' xs.length c' := let ⟨a', c', e, _⟩ := hi; ⟨a', c', e⟩
      obtain ⟨a', c', ev⟩ := hsz
      clear hp hi hmem hl0
      subst ev
      refine (sort_small _ _ _ _ hx1).mono ?_
      rintro e w' ⟨rfl, rfl⟩
      go_wp2_with fail
      go_ret
      exact HP.out
    · have q6 : Only [] w w6 := ho.trans o6 (by simpa using HR.out)
      have hge : ∀ k, _ → w.heap.size ≤ k := fun k (hk : k ∈ Option.toList _) => (HW.out.lt k (by simpa using hk)).1
      have q8 := (q6.alloc (.cells #[.int .i64 x] 3)).trans o8 (fun k hk => .inr (hge k hk))
      have p8 := (((Only.refl [] w6).alloc (.cells #[.int .i64 x] 3)).mono (by simp)).trans o8 (fun k hk => .inl hk)
      have r8 := hr6.kept p8 (fun e => by have := hge _ e; have := HD.out.old.lt; omega) (fun e => HX.out (by simpa using e))
      have hgr : (Value.slice (some ⟨g, 0, none⟩) (xs.length + 1) cap).ownBlock ≠ some r := fun e => by
        obtain ⟨_, _, _, _, hit⟩ := r8.iter
        rcases hown8.2 with ⟨ev, _⟩ | ⟨g', cap', cur, ev, _, hg', _⟩
        · cases ev
        · injection ev with e1 _ _
          have e2 : g = g' := congrArg Addr.block (Option.some.inj e1)
          subst e2
          simp only [Value.ownBlock, Option.some.injEq] at e
          rw [e, hit] at hg'
          cases hg'
      go_roundw
      case rel => exact ⟨_, cnt2, xs ++ [x], r8, hown8, hgr, HF.out.step hlx, q8⟩
      case measure => rw [r8.left_eq, HL.out]; exact hlt6
end Go.Proofs.Ytchljhjngnbclaa

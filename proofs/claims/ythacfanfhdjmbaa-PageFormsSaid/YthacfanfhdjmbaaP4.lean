/- page: images in memory; Diff, Set. -/
import Derived.Test.YthacfanfhdjmbaaP3
namespace Go.Proofs.Ythacfanfhdjmbaa
open Go.RowKit Go.Maps
set_option linter.unusedSimpArgs false
set_option linter.unusedVariables false

abbrev Img := Int × Int
def im (l : List Img) : List Value := (l.map fun p => [Value.int .i64 p.1, Value.int .i64 p.2]).flatten
theorem im_length : ∀ l : List Img, (im l).length = 2 * l.length
  | [] => rfl
  | p :: l => by
    have := im_length l
    simp only [im, List.map_cons, List.flatten_cons, List.length_append, List.length_cons, List.length_nil] at this ⊢
    omega
theorem im_get0 : ∀ (l : List Img) (i : Nat) (p : Img), l[i]? = some p → (im l)[i * 2]? = some (.int .i64 p.1)
  | [], i, p, h => by simp at h
  | q :: l, 0, p, h => by
    simp at h
    subst h
    rfl
  | q :: l, i + 1, p, h => by
    have := im_get0 l i p (by simpa using h)
    have e : (i + 1) * 2 = i * 2 + 1 + 1 := by omega
    rw [e]
    exact this
theorem im_get1 : ∀ (l : List Img) (i : Nat) (p : Img), l[i]? = some p → (im l)[i * 2 + 1]? = some (.int .i64 p.2)
  | [], i, p, h => by simp at h
  | q :: l, 0, p, h => by
    simp at h
    subst h
    rfl
  | q :: l, i + 1, p, h => by
    have := im_get1 l i p (by simpa using h)
    have e : (i + 1) * 2 + 1 = (i * 2 + 1) + 1 + 1 := by omega
    rw [e]
    exact this
def ImgsV (w : World) (v : Value) (l : List Img) : Prop :=
  ∃ (a : Option Addr) (cap : Nat), v = .slice a l.length cap ∧ ∀ i p, l[i]? = some p → (In64 p.1 ∧ In64 p.2) ∧ ∃ b off, a = some ⟨b, off, none⟩ ∧ w.cell? ⟨b, off + i * 2, none⟩ = some (.int .i64 p.1) ∧ w.cell? ⟨b, off + i * 2 + 1, none⟩ = some (.int .i64 p.2)
section
variable {w w' : World} {v : Value} {l : List Img}
theorem ImgsV.kept {S : List Nat} (h : ImgsV w v l) (ho : Only S w w') (hs : Off v S) : ImgsV w' v l := by
  obtain ⟨a, cap, hv, hc⟩ := h
  refine ⟨a, cap, hv, fun i p hi => ?_⟩
  obtain ⟨hw, b, off, ha, h1, h2⟩ := hc i p hi
  have hn := hs ⟨b, off, none⟩ _ _ (by rw [hv, ha]) (Nat.lt_of_le_of_lt (Nat.zero_le _) (List.getElem?_eq_some_iff.1 hi).1)
  exact ⟨hw, b, off, ha, cell_kept ho h1 hn, cell_kept ho h2 hn⟩
theorem ImgsV.quiet (h : ImgsV w v l) (ho : Only [] w w') : ImgsV w' v l := h.kept ho (by intro a n c e h; simp)
theorem ImgsV.at_ (h : ImgsV w v l) {i : Nat} {p : Img} (hi : l[i]? = some p) :
    (In64 p.1 ∧ In64 p.2) ∧ ∃ b off cap, v = .slice (some ⟨b, off, none⟩) l.length cap ∧ w.cell? ⟨b, off + i * 2, none⟩ = some (.int .i64 p.1) ∧ w.cell? ⟨b, off + i * 2 + 1, none⟩ = some (.int .i64 p.2) := by
  obtain ⟨a, cap, hv, hc⟩ := h
  obtain ⟨hw, b, off, ha, h1, h2⟩ := hc i p hi
  exact ⟨hw, b, off, cap, by rw [hv, ha], h1, h2⟩
end
/-- Images of one's own. -/
def OIm (w : World) (base : Nat) (v : Value) (l : List Img) : Prop := w.ownsRow base 46 2 v l.length (im l)
section
variable {w w' : World} {base : Nat} {v : Value} {l : List Img}
theorem OIm.nil (w : World) (base : Nat) : OIm w base (.slice none 0 0) [] := World.ownsRow_nil w base _ 2
theorem OIm.kept {S : List Nat} (h : OIm w base v l) (ho : Only S w w') (hs : ∀ k ∈ S, v.ownBlock ≠ some k) : OIm w' base v l := by
  refine ⟨h.1, ?_⟩
  rcases h.2 with hn | ⟨g, cap, cur, rfl, hb, hg, r⟩
  · exact .inl hn
  · exact .inr ⟨g, cap, cur, rfl, hb, ho.heap hg (fun e => hs g e rfl), r⟩
theorem OIm.lt (h : OIm w base v l) {k : Nat} (hk : v.ownBlock = some k) : base ≤ k ∧ k < w.heap.size := by
  rcases h.2 with ⟨rfl, _⟩ | ⟨g, cap, cur, rfl, hb, hg, r⟩
  · simp [Value.ownBlock] at hk
  · simp [Value.ownBlock] at hk
    subst hk
    exact ⟨hb, lt_of_heap hg⟩
theorem OIm.mono {base' : Nat} (h : OIm w base v l) (hb : base' ≤ base) : OIm w base' v l := by
  refine ⟨h.1, ?_⟩
  rcases h.2 with hn | ⟨g, cap, cur, rfl, h2, r⟩
  · exact .inl hn
  · exact .inr ⟨g, cap, cur, rfl, Nat.le_trans hb h2, r⟩
theorem OIm.shape (h : OIm w base v l) : ∃ a cap, v = .slice a l.length cap := by
  rcases h.2 with ⟨rfl, hn⟩ | ⟨g, cap, cur, rfl, hb, hg, r⟩
  · exact ⟨none, 0, by rw [hn]⟩
  · exact ⟨_, _, rfl⟩
theorem OIm.imgs (h : OIm w base v l) (hw : ∀ p ∈ l, In64 p.1 ∧ In64 p.2) : ImgsV w v l := by
  rcases h.2 with ⟨rfl, hn⟩ | ⟨g, cap, cur, rfl, hb, hg, hc, _, hz, ht⟩
  · obtain rfl : l = [] := List.eq_nil_of_length_eq_zero hn
    exact ⟨none, 0, rfl, fun i k hi => by simp at hi⟩
  · refine ⟨_, cap, rfl, fun i p hi => ⟨hw p (List.mem_of_getElem? hi), g, 0, rfl, ?_, ?_⟩⟩
    · have hlt : i < l.length := (List.getElem?_eq_some_iff.1 hi).1
      rw [Nat.zero_add, cell_at _ hg]
      have h1 := im_get0 l i p hi
      rw [← ht, List.getElem?_take_of_lt (by omega)] at h1
      simpa using h1
    · have hlt : i < l.length := (List.getElem?_eq_some_iff.1 hi).1
      rw [Nat.zero_add, cell_at _ hg]
      have h1 := im_get1 l i p hi
      rw [← ht, List.getElem?_take_of_lt (by omega)] at h1
      simpa using h1
end
theorem info_image : (Try.prog.info? 46).map (fun i => (i.zero, i.size, i.bytes)) = some (some (.agg #[.int .i64 0, .int .i64 0]), 2, 16) := by kernel_rfl
section
variable {w : World} {ops : Array Oper} {rest : List Oper} {o : Oper} {a : Act} {Q : Exit → Act → World → Prop}
theorem wpList_append_img (hgd : o.guard = none) (s x : Operand) (ho : o.op = .call { callee := .builtin .append, args := #[s, x], argTypes := #[42, 42] })
    (base : Nat) (v : Value) (l : List Img) (hs : a.eval s = v) (hown : OIm w base v l) (bx : Nat) (hx : a.eval x = .slice (some ⟨bx, 0, none⟩) 1 1) (p q : Int) (hp : w.cell? ⟨bx, 0, none⟩ = some (.int .i64 p)) (hq : w.cell? ⟨bx, 1, none⟩ = some (.int .i64 q)) (hn : l.length ≤ 1099511627776) (hb : base ≤ w.heap.size)
    (h : ∀ v' w', OIm w' base v' (l ++ [(p, q)]) → Only v.ownBlock.toList w w' → (∀ k, v'.ownBlock = some k → v.ownBlock = some k ∨ w.heap.size ≤ k) → wpList Try.prog ops Q rest (a.put o.dst v') w') : wpList Try.prog ops Q (o :: rest) a w := by
  obtain ⟨i, hi, hz⟩ := Option.map_eq_some_iff.1 info_image
  simp only [Prod.mk.injEq] at hz
  obtain ⟨z1, z2, z3⟩ := hz
  refine wpList_append_lies _ hgd s x 42 ho base 46 i (.agg #[.int .i64 0, .int .i64 0]) 2 16 Try.underlying42 hi z1 z2 z3 rfl (by omega) v l.length (im l) hs hown ⟨bx, 0, none⟩ 1 1 [.int .i64 p, .int .i64 q] hx rfl ?_ (by simp [Value.oneCell']) (by omega) (by unfold maxLen; omega) (by omega) hb w.heap.size rfl ?_
  · intro j u hj
    match j with
    | 0 =>
      simp at hj
      subst hj
      have : (⟨bx, 0, none⟩ : Addr).add 0 = ⟨bx, 0, none⟩ := by simp [Addr.add]
      rw [this]
      exact hp
    | 1 =>
      simp at hj
      subst hj
      have : (⟨bx, 0, none⟩ : Addr).add 1 = ⟨bx, 1, none⟩ := by simp [Addr.add]
      rw [this]
      exact hq
    | j + 2 => simp at hj
  · intro g cap w' h1 h2 h3 _
    refine h _ w' ?_ (Only.of_grown h2) ?_
    · unfold OIm
      have e1 : im (l ++ [(p, q)]) = im l ++ [.int .i64 p, .int .i64 q] := by simp [im]
      rw [e1, List.length_append]
      exact h1
    · intro k hk
      simp [Value.ownBlock] at hk
      subst hk
      rcases h3 with h3 | h3
      · exact .inl h3
      · exact .inr (by omega)
end

/-! ### Diff -/
def dif (c d : List Int) (k : Nat) : List Img := (List.range k).filterMap fun i => if c.getD i 0 = d.getD i 0 then none else some ((i : Int), c.getD i 0)
theorem dif_succ (c d : List Int) (k : Nat) : dif c d (k + 1) = dif c d k ++ (if c.getD k 0 = d.getD k 0 then [] else [((k : Int), c.getD k 0)]) := by
  unfold dif
  rw [List.range_succ, List.filterMap_append]
  congr 1
  simp only [List.filterMap_cons, List.filterMap_nil]
  by_cases h : c.getD k 0 = d.getD k 0
  · simp only [if_pos h]
  · simp only [if_neg h]
theorem dif_length (c d : List Int) (k : Nat) : (dif c d k).length ≤ k := by
  have := List.length_filterMap_le (fun i => if c.getD i 0 = d.getD i 0 then none else some ((i : Int), c.getD i 0)) (List.range k)
  simpa [dif] using this
theorem dif_mem {c d : List Int} {k : Nat} {p : Img} (h : p ∈ dif c d k) : ∃ i, i < k ∧ p.1 = (i : Int) ∧ p.2 = c.getD i 0 ∧ c.getD i 0 ≠ d.getD i 0 := by
  simp only [dif, List.mem_filterMap, List.mem_range] at h
  obtain ⟨i, hi, h2⟩ := h
  split at h2
  · simp at h2
  · rename_i hne
    simp at h2
    subst h2
    exact ⟨i, hi, rfl, rfl, hne⟩
theorem getD_in {c : List Int} (h : ∀ z ∈ c, In64 z) (i : Nat) : In64 (c.getD i 0) := by
  by_cases hi : i < c.length
  · rw [List.getD_eq_getElem?_getD, List.getElem?_eq_getElem hi]
    exact h _ (List.getElem_mem hi)
  · rw [List.getD_eq_getElem?_getD, List.getElem?_eq_none (by omega)]
    exact ⟨by decide, by decide⟩
theorem dif_in {c d : List Int} (h : ∀ z ∈ c, In64 z) {k : Nat} (hk : k ≤ 60) : ∀ p ∈ dif c d k, In64 p.1 ∧ In64 p.2 := by
  intro p hp
  obtain ⟨i, hi, h1, h2, _⟩ := dif_mem hp
  rw [h1, h2]
  exact ⟨⟨by omega, by omega⟩, getD_in h i⟩

theorem index_cells (c : List Int) (k : Nat) (x : Int) (h : c[k]? = some x) (hc : c.length = 60) (w : World) : (Instr.index 25 (.agg (ivA c)) (.int .i64 (k : Int))).run Try.prog w = .ok (.int .i64 x) w := by
  have hk : k < 60 := by have := (List.getElem?_eq_some_iff.1 h).1; omega
  have hs := size_run (P := Try.prog) (t := 3) (n := 1) (by kernel_rfl) w
  simp [Instr.index, asIntOf, run_underlying Try.underlying25, part, isAgg, run_underlying Try.underlying3, hs, ivA_get, h, hk, Result.andThen]

set_option maxRecDepth 100000 in
theorem Diff_any (n m : Int) (c d : List Int) (w : World) (hc : c.length = 60) (hd : d.length = 60) :
    Calls Try.prog 18 #[.agg (ivA (n :: c)), .agg (ivA (m :: d))] w fun e w' => ∃ v, e = .returned v ∧ OIm w' w.heap.size v (dif c d 60) ∧ Only [] w w' := by
  have T1 := trivial
  have T2 := trivial
  go_enter Try.func18, Try.ntmps18
  go_wp2_with (first
    | (clear T1
       refine wpList_box_page rfl _ rfl (n :: c) (by rfl) ?_
       intro w1 g1 hb1 hg1 ho1
       have HB1 := Lib.hid hb1
       have HO1 := Lib.hid ho1
       clear hb1 hg1 ho1)
    | (clear T2
       refine wpList_box_page rfl _ rfl (m :: d) (by rfl) ?_
       intro w2 g2 hb2 hg2 ho2
       have HO2 := Lib.hid (HO1.out.trans ho2 (by simp))
       have HB1' := Lib.hid (HB1.out.kept ho2 (by simp))
       have HB2 := Lib.hid hb2
       clear hb2 hg2 ho2 HB1 HO1)
    | (refine wpList_load_mid rfl _ rfl g1 (by rfl) n c HB1'.out hc ?_))
  have hsz2 : g2 < w2.heap.size := HB2.out.lt
  go_loopw [5, 6, 7, 10] (fun s _ _ i wr => ∃ k : Nat, k ≤ 60 ∧ i = .int .i64 k ∧ OIm wr w2.heap.size s (dif c d k) ∧ PB wr g2 27 (m :: d) ∧ Only [] w2 wr) (fun _ _ _ i _ => 60 - (intOf i).toNat)
  case atStart => exact ⟨0, by omega, rfl, OIm.nil _ _, HB2.out, Only.refl [] _⟩
  case round =>
    obtain ⟨k, hk, rfl, hs, hb, ho⟩ := hrel
    by_cases hlt : k < 60
    · have hck : c[k]? = some (c.getD k 0) := by rw [List.getD_eq_getElem?_getD, List.getElem?_eq_getElem (by omega)]; rfl
      have hdk : d[k]? = some (d.getD k 0) := by rw [List.getD_eq_getElem?_getD, List.getElem?_eq_getElem (by omega)]; rfl
      have hcell : wr.cell? ⟨g2, 1 + k, none⟩ = some (.int .i64 (d.getD k 0)) := hb.cell (by rw [Nat.add_comm, List.getElem?_cons_succ]; exact hdk)
      have hcv : ∀ w, (Instr.index 25 (.agg (ivA c)) (.int .i64 (k : Int))).run Try.prog w = .ok (.int .i64 (c.getD k 0)) w := fun w => index_cells c k _ hck hc w
      have hdif := dif_succ c d k
      have hdl := dif_length c d k
      obtain ⟨x, hx⟩ : ∃ x, x = c.getD k 0 := ⟨_, rfl⟩
      obtain ⟨y, hy⟩ : ∃ y, y = d.getD k 0 := ⟨_, rfl⟩
      rw [← hx] at hcv hdif
      rw [← hy] at hcell hdif
      have HS := Lib.hid hs
      have HB := Lib.hid hb
      have HO := Lib.hid ho
      clear hs hb ho hck hdk hx hy
      by_cases hxy : x = y
      · rw [if_pos hxy, List.append_nil] at hdif
        have HD := Lib.hid hdif
        clear hdif
        go_wp2_with fail
        go_roundw
        case rel => exact ⟨k + 1, by omega, by go_num, by rw [HD.out]; exact HS.out, HB.out, HO.out⟩
        case measure => simp [intOf]; omega
      · rw [if_neg hxy] at hdif
        have HD := Lib.hid hdif
        clear hdif
        go_wp2_with (refine wpList_append_img rfl _ _ rfl w2.heap.size _ (dif c d k) (by rfl) (HS.out.kept ((Only.refl [] wr).alloc _) (by simp)) wr.heap.size (by rfl) k x (by rw [cell_at 0 (heap_new wr _)]; rfl) (by rw [cell_at 1 (heap_new wr _)]; rfl) (by omega) (Nat.le_trans HO.out.size ((Only.refl [] wr).alloc _).size) ?_; intro v5 w5 h5 ho5 hf5)
        have hown : ∀ b ∈ u5.ownBlock.toList, w2.heap.size ≤ b := fun b hb => (HS.out.lt (by simpa using hb)).1
        have ho6 : Only u5.ownBlock.toList wr w5 := ((Only.refl _ wr).alloc _).trans ho5 (fun b hb => .inl hb)
        have HB5 := Lib.hid (HB.out.kept ho6 (fun hb => by have := hown _ hb; omega))
        have HO5 := Lib.hid (HO.out.trans ho6 (fun b hb => .inr (hown b hb)))
        have H5 := Lib.hid h5
        clear ho5 hf5 ho6 h5
        go_roundw
        case rel => exact ⟨k + 1, by omega, by go_num, by rw [HD.out]; exact H5.out, HB5.out, HO5.out⟩
        case measure => simp [intOf]; omega
    · obtain rfl : k = 60 := by omega
      have HS := Lib.hid hs
      have HO := Lib.hid ho
      clear hs ho hb
      go_wp2
      go_ret
      exact ⟨_, rfl, HS.out.mono HO2.out.size, HO2.out.trans HO.out (by simp)⟩

end Go.Proofs.Ythacfanfhdjmbaa

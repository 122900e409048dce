/- The document's own device: New. -/
import Derived.Test.YtdmkmjlkogkmgaaR4
import Derived.Test.YtdmkmjlkogkmgaaAp2
namespace Go.Proofs.Ytdmkmjlkogkmgaa
open Go.RowKit Go.Maps
set_option linter.unusedSimpArgs false
set_option linter.unusedVariables false

theorem rblank_any (w : World) : Calls Try.prog 22 #[] w fun e w' => ∃ g, e = .returned (.slice (some ⟨g, 0, none⟩) 512 512) ∧ BBlk w' g zeros ∧ w.heap.size ≤ g ∧ Only [] w w' := by
  go_enter Try.func22, Try.ntmps22
  go_wp2_with (refine wpList_make512 rfl rfl ?_; intro w1 g hb1 hg1 ho1)
  go_ret
  exact ⟨g, rfl, hb1, hg1, ho1⟩
theorem BBlk.rowB {w : World} {g : Nat} {l : Sec} (h : BBlk w g l) (hl : l.length = 512) (cap : Nat) (hc : 512 ≤ cap ∧ cap ≤ maxLen) : RowB w [] (.slice (some ⟨g, 0, none⟩) 512 cap) l :=
  ⟨g, cap, _, rfl, hc, by simp, hl, h, fun j c hj => by rw [enc_get, hj]; rfl⟩

theorem info_bool : (Try.prog.info? 4).map (fun i => (i.zero, i.size, i.bytes)) = some (some (.bool false), 1, 1) := by kernel_rfl
section
variable {w : World} {ops : Array Oper} {rest : List Oper} {o : Oper} {a : Act} {Q : Exit → Act → World → Prop}
theorem one_new {w : World} {bx : Nat} {l : Value} (hk : w.cell? ⟨bx, 0, none⟩ = some l) : ∀ j u, [l][j]? = some u → w.cell? ((⟨bx, 0, none⟩ : Addr).add j) = some u := fun j u hj => by
  cases j with
  | zero =>
    simp at hj
    subst hj
    have : (⟨bx, 0, none⟩ : Addr).add 0 = ⟨bx, 0, none⟩ := by simp [Addr.add]
    rw [this]
    exact hk
  | succ j => simp at hj
theorem step_append_rows {K : Act → World → Prop} {E : Prop} (hgd : o.guard = none) (s x : Operand) (ho : o.op = .call { callee := .builtin .append, args := #[s, x], argTypes := #[43, 43] })
    (base : Nat) (v : Value) (xs : List Value) (hs : a.eval s = v) (hown : w.ownsRow base 37 1 v xs.length xs) (bx : Nat) (hx : a.eval x = .slice (some ⟨bx, 0, none⟩) 1 1) (l : Value) (hk : w.cell? ⟨bx, 0, none⟩ = some l) (hl : l.oneCell' = true) (hn : xs.length ≤ 4096) (hb : base ≤ w.heap.size)
    (h : ∀ g cap w', w'.ownsRow base 37 1 (.slice (some ⟨g, 0, none⟩) (xs.length + 1) cap) (xs ++ [l]).length (xs ++ [l]) → Only v.ownBlock.toList w w' → (v.ownBlock = some g ∨ w.heap.size ≤ g) → K (a.put o.dst (.slice (some ⟨g, 0, none⟩) (xs.length + 1) cap)) w') : if Region.wanted o (yielded ops a.tmps) = true then Oper.wp Try.prog o a w K Q else E := by
  obtain ⟨i, hi, hz⟩ := Option.map_eq_some_iff.1 info_rows
  simp only [Prod.mk.injEq] at hz
  obtain ⟨z1, z2, z3⟩ := hz
  refine step_append_lies _ hgd s x 43 ho base 37 i (.slice none 0 0) 1 24 Try.underlying43 hi z1 z2 z3 rfl (by omega) v xs.length xs hs hown ⟨bx, 0, none⟩ 1 1 [l] hx rfl (one_new hk) (by simpa using hl) (by omega) (by unfold maxLen; omega) (by omega) hb w.heap.size rfl ?_
  intro g cap w' h1 h2 h3 _
  refine h g cap w' ?_ (Only.of_grown h2) (h3.imp id (fun e => Nat.le_of_eq e.symm))
  rw [List.length_append]
  exact h1
theorem wpList_append_bool (hgd : o.guard = none) (s x : Operand) (ho : o.op = .call { callee := .builtin .append, args := #[s, x], argTypes := #[71, 71] })
    (base : Nat) (v : Value) (xs : List Value) (n : Nat) (hxn : xs.length = n) (hs : a.eval s = v) (hown : w.ownsRow base 4 1 v n xs) (bx : Nat) (hx : a.eval x = .slice (some ⟨bx, 0, none⟩) 1 1) (l : Value) (hk : w.cell? ⟨bx, 0, none⟩ = some l) (hl : l.oneCell' = true) (hn : n ≤ 4096) (hb : base ≤ w.heap.size)
    (h : ∀ g cap w', w'.ownsRow base 4 1 (.slice (some ⟨g, 0, none⟩) (n + 1) cap) (n + 1) (xs ++ [l]) → Only v.ownBlock.toList w w' → wpList Try.prog ops Q rest (a.put o.dst (.slice (some ⟨g, 0, none⟩) (n + 1) cap)) w') : wpList Try.prog ops Q (o :: rest) a w := by
  obtain ⟨i, hi, hz⟩ := Option.map_eq_some_iff.1 info_bool
  simp only [Prod.mk.injEq] at hz
  obtain ⟨z1, z2, z3⟩ := hz
  refine wpList_append_lies _ hgd s x 71 ho base 4 i (.bool false) 1 1 Try.underlying71 hi z1 z2 z3 rfl (by omega) v n xs hs hown ⟨bx, 0, none⟩ 1 1 [l] hx rfl (one_new hk) (by simpa using hl) (by omega) (by unfold maxLen; omega) (by omega) hb w.heap.size rfl ?_
  intro g cap w' h1 h2 _ _
  exact h g cap w' h1 (Only.of_grown h2)
end

theorem own_type_ne {w : World} {base n p : Nat} {t u : TypeId} {v : Value} {xs : List Value} {c : Array Value} {fr : Nat × Nat} (h : w.ownsRow base t 1 v n xs) (hp : w.heap[p]? = some (.cells c u fr)) (ht : t ≠ u) : ∀ g, v.ownBlock = some g → g ≠ p := by
  intro g hg
  rcases h.2 with ⟨rfl, _⟩ | ⟨g1, cap, cur, rfl, _, h1, _⟩
  · cases hg
  · cases hg
    exact type_ne h1 hp ht
theorem own_own_ne {w : World} {base n m : Nat} {t u : TypeId} {v v' : Value} {xs ys : List Value} (h : w.ownsRow base t 1 v n xs) (h' : w.ownsRow base u 1 v' m ys) (ht : t ≠ u) : ∀ g, v.ownBlock = some g → v'.ownBlock ≠ some g := by
  intro g hg hg'
  rcases h'.2 with ⟨rfl, _⟩ | ⟨g1, cap, cur, rfl, _, h1, _⟩
  · cases hg'
  · cases hg'
    exact own_type_ne h h1 ht g1 hg rfl
theorem own_foreign {w : World} {base n : Nat} {F : List Nat} {t : TypeId} {v : Value} {xs : List Value} (h : w.ownsRow base t 1 v n xs) (ht : t ≠ 5) : Foreign w F v.ownBlock.toList := fun k hk => .inr fun cur e => own_type_ne h e ht k (by simpa using hk) rfl

/-- The device while New makes it. -/
structure NS (w wr : World) (p : Nat) (vN vS vC : Value) (rN rS : List Value) (kC : Nat) : Prop where
  blk : wr.heap[p]? = some (.cells #[vN, vS, vC, .int .i64 0, .int .i64 0, .bool false, .int .i64 0, .bool false] 73 (0, 0))
  oN : wr.ownsRow w.heap.size 37 1 vN rN.length rN
  oS : wr.ownsRow w.heap.size 37 1 vS rS.length rS
  oC : wr.ownsRow w.heap.size 4 1 vC kC (List.replicate kC (.bool false))
  ne : ∀ g, vN.ownBlock = some g → vS.ownBlock ≠ some g
  rowN : ∀ r ∈ rN, RowB wr [] r zeros
  rowS : ∀ r ∈ rS, RowB wr [] r zeros
  only : Only [] w wr
  pge : w.heap.size ≤ p

section
variable {w wr wr' : World} {p g cap kC : Nat} {vN vS vC r : Value} {rN rS : List Value}
theorem NS.quiet (h : NS w wr p vN vS vC rN rS kC) (ho : Only [] wr wr') : NS w wr' p vN vS vC rN rS kC :=
  ⟨ho.heap h.blk (by simp), own_kept h.oN ho (by simp), own_kept h.oS ho (by simp), own_kept h.oC ho (by simp), h.ne, fun r hr => (h.rowN r hr).kept ho (foreign_nil _ _), fun r hr => (h.rowS r hr).kept ho (foreign_nil _ _), h.only.trans ho (by simp), h.pge⟩
theorem p_foreign {w : World} {p : Nat} {c : Array Value} {F : List Nat} (h : w.heap[p]? = some (.cells c 73 (0, 0))) : Foreign w F [p] := fun k hk => .inr fun cur e => by
  simp at hk
  subst hk
  exact type_ne h e (by decide) rfl
theorem NS.growN (h : NS w wr p vN vS vC rN rS kC) (hr : RowB wr [] r zeros) (hown : wr'.ownsRow w.heap.size 37 1 (.slice (some ⟨g, 0, none⟩) (rN.length + 1) cap) (rN ++ [r]).length (rN ++ [r])) (ho : Only vN.ownBlock.toList wr wr') (hg : vN.ownBlock = some g ∨ wr.heap.size ≤ g) :
    NS w (wr'.setCell ⟨p, 0, none⟩ (.slice (some ⟨g, 0, none⟩) (rN.length + 1) cap)) p (.slice (some ⟨g, 0, none⟩) (rN.length + 1) cap) vS vC (rN ++ [r]) rS kC := by
  have hp : ∀ x ∈ vN.ownBlock.toList, x ≠ p := fun x hx => own_type_ne h.oN h.blk (by decide) x (by simpa using hx)
  have hb : wr'.heap[p]? = _ := ho.heap h.blk (fun hm => hp p hm rfl)
  have q : Only [p] wr' (wr'.setCell ⟨p, 0, none⟩ (.slice (some ⟨g, 0, none⟩) (rN.length + 1) cap)) := (Only.refl [p] wr').setCell (p := ⟨p, 0, none⟩) (by simp) _
  have hS := own_kept h.oS ho (fun x hx e => h.ne x (by simpa using hx) e)
  have hC := own_kept h.oC ho (fun x hx e => own_own_ne h.oN h.oC (by decide) x (by simpa using hx) e)
  have hf : Foreign wr [] vN.ownBlock.toList := own_foreign h.oN (by decide)
  have hf2 : Foreign wr' [] [p] := p_foreign hb
  refine ⟨heap_cell _ hb, own_kept hown q (fun x hx e => by simp at hx; subst hx; exact own_type_ne hown hb (by decide) x e rfl), own_kept hS q (fun x hx e => by simp at hx; subst hx; exact own_type_ne hS hb (by decide) x e rfl), own_kept hC q (fun x hx e => by simp at hx; subst hx; exact own_type_ne hC hb (by decide) x e rfl), fun x hx e => ?_, fun r' hr' => ?_, fun r' hr' => ((h.rowS r' hr').kept ho hf).kept q hf2, ?_, h.pge⟩
  · cases hx
    rcases hg with hg | hg
    · exact h.ne _ hg e
    · have := (h.oS.lt g e).2
      omega
  · rcases List.mem_append.1 hr' with h1 | h1
    · exact ((h.rowN r' h1).kept ho hf).kept q hf2
    · simp at h1
      subst h1
      exact (hr.kept ho hf).kept q hf2
  · exact (h.only.trans ho (fun x hx => .inr (h.oN.lt x (by simpa using hx)).1)).trans q (fun x hx => .inr (by simp at hx; subst hx; exact h.pge))
theorem NS.growS (h : NS w wr p vN vS vC rN rS kC) (hr : RowB wr [] r zeros) (hown : wr'.ownsRow w.heap.size 37 1 (.slice (some ⟨g, 0, none⟩) (rS.length + 1) cap) (rS ++ [r]).length (rS ++ [r])) (ho : Only vS.ownBlock.toList wr wr') (hg : vS.ownBlock = some g ∨ wr.heap.size ≤ g) :
    NS w (wr'.setCell ⟨p, 1, none⟩ (.slice (some ⟨g, 0, none⟩) (rS.length + 1) cap)) p vN (.slice (some ⟨g, 0, none⟩) (rS.length + 1) cap) vC rN (rS ++ [r]) kC := by
  have hp : ∀ x ∈ vS.ownBlock.toList, x ≠ p := fun x hx => own_type_ne h.oS h.blk (by decide) x (by simpa using hx)
  have hb : wr'.heap[p]? = _ := ho.heap h.blk (fun hm => hp p hm rfl)
  have q : Only [p] wr' (wr'.setCell ⟨p, 1, none⟩ (.slice (some ⟨g, 0, none⟩) (rS.length + 1) cap)) := (Only.refl [p] wr').setCell (p := ⟨p, 1, none⟩) (by simp) _
  have hN := own_kept h.oN ho (fun x hx e => h.ne x e (by simpa using hx))
  have hC := own_kept h.oC ho (fun x hx e => own_own_ne h.oS h.oC (by decide) x (by simpa using hx) e)
  have hf : Foreign wr [] vS.ownBlock.toList := own_foreign h.oS (by decide)
  have hf2 : Foreign wr' [] [p] := p_foreign hb
  refine ⟨heap_cell _ hb, own_kept hN q (fun x hx e => by simp at hx; subst hx; exact own_type_ne hN hb (by decide) x e rfl), own_kept hown q (fun x hx e => by simp at hx; subst hx; exact own_type_ne hown hb (by decide) x e rfl), own_kept hC q (fun x hx e => by simp at hx; subst hx; exact own_type_ne hC hb (by decide) x e rfl), fun x hx e => ?_, fun r' hr' => ((h.rowN r' hr').kept ho hf).kept q hf2, fun r' hr' => ?_, ?_, h.pge⟩
  · cases e
    rcases hg with hg | hg
    · exact h.ne _ hx hg
    · have := (h.oN.lt g hx).2
      omega
  · rcases List.mem_append.1 hr' with h1 | h1
    · exact ((h.rowS r' h1).kept ho hf).kept q hf2
    · simp at h1
      subst h1
      exact (hr.kept ho hf).kept q hf2
  · exact (h.only.trans ho (fun x hx => .inr (h.oS.lt x (by simpa using hx)).1)).trans q (fun x hx => .inr (by simp at hx; subst hx; exact h.pge))
theorem NS.growC (h : NS w wr p vN vS vC rN rS kC) (hown : wr'.ownsRow w.heap.size 4 1 (.slice (some ⟨g, 0, none⟩) (kC + 1) cap) (kC + 1) (List.replicate kC (.bool false) ++ [.bool false])) (ho : Only vC.ownBlock.toList wr wr') :
    NS w (wr'.setCell ⟨p, 2, none⟩ (.slice (some ⟨g, 0, none⟩) (kC + 1) cap)) p vN vS (.slice (some ⟨g, 0, none⟩) (kC + 1) cap) rN rS (kC + 1) := by
  have hp : ∀ x ∈ vC.ownBlock.toList, x ≠ p := fun x hx => own_type_ne h.oC h.blk (by decide) x (by simpa using hx)
  have hb : wr'.heap[p]? = _ := ho.heap h.blk (fun hm => hp p hm rfl)
  have q : Only [p] wr' (wr'.setCell ⟨p, 2, none⟩ (.slice (some ⟨g, 0, none⟩) (kC + 1) cap)) := (Only.refl [p] wr').setCell (p := ⟨p, 2, none⟩) (by simp) _
  have hN := own_kept h.oN ho (fun x hx e => own_own_ne h.oN h.oC (by decide) x e (by simpa using hx))
  have hS := own_kept h.oS ho (fun x hx e => own_own_ne h.oS h.oC (by decide) x e (by simpa using hx))
  have hf : Foreign wr [] vC.ownBlock.toList := own_foreign h.oC (by decide)
  have hf2 : Foreign wr' [] [p] := p_foreign hb
  have hrep : List.replicate kC (Value.bool false) ++ [.bool false] = List.replicate (kC + 1) (.bool false) := by rw [List.replicate_succ']
  rw [hrep] at hown
  exact ⟨heap_cell _ hb, own_kept hN q (fun x hx e => by simp at hx; subst hx; exact own_type_ne hN hb (by decide) x e rfl), own_kept hS q (fun x hx e => by simp at hx; subst hx; exact own_type_ne hS hb (by decide) x e rfl), own_kept hown q (fun x hx e => by simp at hx; subst hx; exact own_type_ne hown hb (by decide) x e rfl), h.ne, fun r' hr' => ((h.rowN r' hr').kept ho hf).kept q hf2, fun r' hr' => ((h.rowS r' hr').kept ho hf).kept q hf2,
    (h.only.trans ho (fun x hx => .inr (h.oC.lt x (by simpa using hx)).1)).trans q (fun x hx => .inr (by simp at hx; subst hx; exact h.pge)), h.pge⟩
end

def Ref.fresh (n : Nat) : Ref := ⟨n, fun _ => zeros, fun _ => zeros, fun _ => false, 0, 0, false, 0, false⟩
theorem NS.rows {w : World} {base n : Nat} {v : Value} {rs : List Value} (h : w.ownsRow base 37 1 v rs.length rs) (hn : rs.length = n) (h1 : 1 ≤ n) (hr : ∀ r ∈ rs, RowB w [] r zeros) : ∃ g cap, v = .slice (some ⟨g, 0, none⟩) n cap ∧ base ≤ g ∧ Rows w [] g n (fun _ => zeros) := by
  rcases h.2 with ⟨_, e⟩ | ⟨g, cap, cur, e, hb, hg, _, _, _, ht⟩
  · omega
  · refine ⟨g, cap, by rw [e, hn], hb, cur, hg, fun i hi => ?_⟩
    have hi' : i < rs.length := by omega
    refine ⟨rs[i], ?_, hr _ (List.getElem_mem hi')⟩
    rw [Nat.mul_one] at ht
    rw [take_get ht hi', List.getElem?_eq_getElem hi']
/-- What New has made. -/
theorem NS.done {w wr : World} {p n : Nat} {vN vS vC : Value} {rN rS : List Value} (h : NS w wr p vN vS vC rN rS n) (h1 : 1 ≤ n) (h2 : n ≤ 4096) (eN : rN.length = n) (eS : rS.length = n) :
    ∃ b : RA, b.p = p ∧ RDev wr [] b (.fresh n) ∧ ∀ k ∈ b.bl, w.heap.size ≤ k := by
  obtain ⟨gN, cN, rfl, bN, RN⟩ := NS.rows h.oN eN h1 h.rowN
  obtain ⟨gS, cS, rfl, bS, RS⟩ := NS.rows h.oS eS h1 h.rowS
  rcases h.oC.2 with ⟨_, e⟩ | ⟨gC, cC, cur, rfl, hb, hg, _, _, _, ht⟩
  · omega
  · refine ⟨⟨p, gN, cN, gS, cS, gC, cC⟩, rfl, ⟨h.blk, RN, RS, ⟨cur, hg, fun i hi => ?_⟩, fun e => h.ne gN rfl (by dsimp only at e; rw [e]; rfl), h2⟩, fun k hk => ?_⟩
    · have hi' : i < n := hi
      rw [Nat.mul_one] at ht
      rw [take_get ht hi', List.getElem?_replicate, if_pos hi']
      rfl
    · have := h.pge
      simp [RA.bl] at hk
      omega
end Go.Proofs.Ytdmkmjlkogkmgaa

/- Numbers of one's own, append; a journal midway through a call. -/
import Derived.Test.YtmjnbpcjpjefeaaJa
import Derived.Test.YtmjnbpcjpjefeaaW2
import Derived.Deep.Cut
namespace Go.Proofs.Ytmjnbpcjpjefeaa
open Go.RowKit Go.Maps
set_option linter.unusedSimpArgs false
set_option linter.unusedVariables false

theorem ints_news {w : World} {a : Option Addr} {n cap : Nat} {l : List Int} (h : IntsV w (.slice a n cap) l) : n = l.length ∧ ∀ ad, a = some ad → ∀ (j : Nat) (u : Value), (iv l)[j]? = some u → w.cell? (ad.add j) = some u := by
  obtain ⟨a', cap', e, hc⟩ := h
  injection e with e1 e2 e3
  subst e1
  refine ⟨e2, fun ad had j u hu => ?_⟩
  rw [iv, List.getElem?_map, Option.map_eq_some_iff] at hu
  obtain ⟨c, hc', rfl⟩ := hu
  obtain ⟨_, b, off, hb, hcell⟩ := hc j c hc'
  rw [had] at hb
  cases hb
  rw [Addr.add_lit]
  exact hcell
theorem iv_append (l m : List Int) : iv (l ++ m) = iv l ++ iv m := by simp [iv]
theorem OwnI.kept {w w' : World} {base : Nat} {v : Value} {l : List Int} {S : List Nat} (h : OwnI w base v l) (ho : Only S w w') (hs : ∀ k ∈ S, v.ownBlock ≠ some k) : OwnI w' base v l := ⟨owns_kept h.1 ho hs, h.2⟩
theorem OwnI.lt {w : World} {base : Nat} {v : Value} {l : List Int} (h : OwnI w base v l) {k : Nat} (hk : v.ownBlock = some k) : base ≤ k ∧ k < w.heap.size := World.ownsRow.lt h.1 k hk
theorem OwnI.zero {w : World} {base : Nat} {v : Value} {l : List Int} (h : OwnI w base v l) : OwnI w 0 v l := by
  refine ⟨⟨h.1.1, ?_⟩, h.2⟩
  rcases h.1.2 with hn | ⟨g, cap, cur, rfl, _, r⟩
  · exact .inl hn
  · exact .inr ⟨g, cap, cur, rfl, Nat.zero_le _, r⟩
theorem run_append_ints {w : World} (base : Nat) (ty : TypeId) (v : Value) (l : List Int) (hown : OwnI w base v l) (x : Value) (m : List Int) (hx : IntsV w x m) (hl : l.length + m.length ≤ 1099511627776) (hbase : base ≤ w.heap.size) :
    ∃ a cap w', (Builtin.append_ #[32, 32] ty #[v, x]).run Try.prog w = .ok (.slice a (l.length + m.length) cap) w' ∧ OwnI w' base (.slice a (l.length + m.length) cap) (l ++ m) ∧ Ext w v w' (.slice a (l.length + m.length) cap) := by
  obtain ⟨i, hi, hz⟩ := Option.map_eq_some_iff.1 info_int
  simp only [Prod.mk.injEq] at hz
  obtain ⟨z1, z2, z3⟩ := hz
  have hwf : ∀ y ∈ l ++ m, (Lit.int .i64 y).wf = true := fun y hy => by
    rcases List.mem_append.1 hy with h | h
    · exact hown.2 y h
    · obtain ⟨k, hk⟩ := List.mem_iff_getElem?.1 h
      obtain ⟨_, _, _, hc⟩ := hx
      exact (hc k y hk).1
  have hx' := hx
  obtain ⟨ao, capx, rfl, hc⟩ := hx'
  by_cases h0 : m.length = 0
  · obtain rfl : m = [] := List.eq_nil_of_length_eq_zero h0
    obtain ⟨a, cap, rfl, _⟩ := own_shape hown.1
    refine ⟨a, cap, w, run_append_empty (P := Try.prog) base 32 ty 3 i 1 Try.underlying32 hi _ _ _ hown.1 ao capx, by simpa using hown, by simpa using Ext.refl w _⟩
  · obtain ⟨_, b, off, rfl, _⟩ := hc 0 m[0] (List.getElem?_eq_getElem (by omega))
    obtain ⟨v', w', hr, h1, h2, _, h5⟩ := run_append_own_at (P := Try.prog) w base 32 ty 3 i (.int .i64 0) 1 8 Try.underlying32 hi z1 z2 z3 rfl (by omega) v l.length (iv l) hown.1 ⟨b, off, none⟩ m.length capx (iv m) (by simp [iv]) ((ints_news hx).2 _ rfl) (by simp [iv, Value.oneCell']) (by unfold maxLen; omega) (by omega) hbase
    obtain ⟨a, cap, rfl, _⟩ := own_shape h1
    refine ⟨a, cap, w', hr, ⟨?_, hwf⟩, Only.of_grown h2, fun g hg => ?_⟩
    · rw [iv_append, List.length_append]
      exact h1
    · rcases h5 with h5 | h5
      · exact .inl (by rw [← h5]; exact hg)
      · rw [h5] at hg
        exact .inr (Nat.le_of_eq (Option.some.inj hg))
section
variable {w : World} {ops : Array Oper} {rest : List Oper} {o : Oper} {a : Act} {Q : Exit → Act → World → Prop}
theorem step_append_ints {K : Act → World → Prop} {E : Prop} (hg : o.guard = none) (s x : Operand) (hop : o.op = Op.call { callee := Callee.builtin Builtin.append, args := #[s, x], argTypes := #[32, 32] })
    (base : Nat) (v : Value) (l : List Int) (hs : a.eval s = v) (hown : OwnI w base v l) (xv : Value) (m : List Int) (hx : a.eval x = xv) (hb : IntsV w xv m) (n : Nat) (hn : l.length + m.length = n) (lm : List Int) (hlm : l ++ m = lm) (hl : n ≤ 1099511627776) (hbase : base ≤ w.heap.size)
    (hK : ∀ a' cap w', OwnI w' base (.slice a' n cap) lm → Ext w v w' (.slice a' n cap) → K (a.put o.dst (.slice a' n cap)) w') :
    if Region.wanted o (yielded ops a.tmps) = true then Oper.wp Try.prog o a w K Q else E := by
  subst hn
  subst hlm
  have hw : Region.wanted o (yielded ops a.tmps) = true := by simp [Region.wanted, hg]
  rw [if_pos hw]
  obtain ⟨a', cap, w', hrun, h1, h2⟩ := run_append_ints base o.type v l hown xv m hb hl hbase
  unfold Oper.wp
  simp [execOp, hop, resolve, invoke, builtin, hs, hx, hrun, Result.andThen]
  exact hK a' cap w' h1 h2
theorem wpList_append_ints (hg : o.guard = none) (s x : Operand) (hop : o.op = Op.call { callee := Callee.builtin Builtin.append, args := #[s, x], argTypes := #[32, 32] })
    (base : Nat) (v : Value) (l : List Int) (hs : a.eval s = v) (hown : OwnI w base v l) (xv : Value) (m : List Int) (hx : a.eval x = xv) (hb : IntsV w xv m) (n : Nat) (hn : l.length + m.length = n) (lm : List Int) (hlm : l ++ m = lm) (hl : n ≤ 1099511627776) (hbase : base ≤ w.heap.size)
    (hK : ∀ a' cap w', OwnI w' base (.slice a' n cap) lm → Ext w v w' (.slice a' n cap) → wpList Try.prog ops Q rest (a.put o.dst (.slice a' n cap)) w') :
    wpList Try.prog ops Q (o :: rest) a w := by
  subst hn
  subst hlm
  refine wpList_plain hg fun K' hK' => ?_
  obtain ⟨a', cap, w', hrun, h1, h2⟩ := run_append_ints base o.type v l hown xv m hb hl hbase
  unfold Oper.wp
  simp [execOp, hop, resolve, invoke, builtin, hs, hx, hrun, Result.andThen]
  exact hK' _ _ (hK a' cap w' h1 h2)
end

/-- A journal whose blocks are B. -/
def Jn (w : World) (p q : Nat) (a : DA) (B : List Nat) (d : Disk) (j : JL) (s : SL) : Prop := ∃ vs vt vn vr, JM w p q a vs vt vn vr d j s ∧ B = jbl p q a vs vt vn vr
/-- The journal has become another, in its blocks and new ones; nothing else has turned. -/
def JTo (w : World) (p q : Nat) (a : DA) (B : List Nat) (d : Disk) (j : JL) (s : SL) (w' : World) : Prop := ∃ B', Jn w' p q a B' d j s ∧ Only B w w' ∧ ∀ k ∈ B', k ∈ B ∨ w.heap.size ≤ k
section
variable {w w1 w2 : World} {p q : Nat} {a : DA} {B B1 : List Nat} {d d1 d2 : Disk} {j j1 j2 : JL} {s s1 s2 : SL}
theorem Jn.lt (h : Jn w p q a B d j s) : ∀ k ∈ B, k < w.heap.size := by
  obtain ⟨vs, vt, vn, vr, hm, rfl⟩ := h
  exact hm.lt
theorem Jn.kept {S : List Nat} (h : Jn w p q a B d j s) (ho : Only S w w1) (hs : ∀ k ∈ S, k ∉ B) : Jn w1 p q a B d j s := by
  obtain ⟨vs, vt, vn, vr, hm, rfl⟩ := h
  exact ⟨vs, vt, vn, vr, hm.kept ho hs, rfl⟩
theorem Jn.quiet (h : Jn w p q a B d j s) (ho : Only [] w w1) : Jn w1 p q a B d j s := h.kept ho (by simp)
theorem JTo.same (h : Jn w1 p q a B d j s) (ho : Only [] w w1) : JTo w p q a B d j s w1 := ⟨B, h, ho.mono (by simp), fun k hk => .inl hk⟩
theorem JTo.stay (h : Jn w p q a B d j s) : JTo w p q a B d j s w := .same h (Only.refl _ _)
theorem JTo.trans (h1 : Jn w1 p q a B1 d1 j1 s1) (ho : Only B w w1) (hb : ∀ k ∈ B1, k ∈ B ∨ w.heap.size ≤ k) (h2 : JTo w1 p q a B1 d2 j2 s2 w2) : JTo w p q a B d2 j2 s2 w2 := by
  obtain ⟨B2, g1, g2, g3⟩ := h2
  refine ⟨B2, g1, ho.trans g2 hb, fun k hk => ?_⟩
  rcases g3 k hk with h | h
  · exact hb k h
  · exact .inr (Nat.le_trans ho.size h)
end
/-- The journal's cells have turned as this tells. -/
theorem JM.to {w w' : World} {p q : Nat} {a : DA} {vs vt vn vr vs' vt' vn' vr' : Value} {d d' : Disk} {j j' : JL} {s s' : SL} (h : JM w p q a vs vt vn vr d j s) (h' : JM w' p q a vs' vt' vn' vr' d' j' s')
    (ho : Only (jbl p q a vs vt vn vr) w w') (h1 : ∀ g, vs'.ownBlock = some g → vs.ownBlock = some g ∨ w.heap.size ≤ g) (h2 : ∀ g, vt'.ownBlock = some g → vt.ownBlock = some g ∨ w.heap.size ≤ g)
    (h3 : ∀ g, vn'.ownBlock = some g → vn.ownBlock = some g ∨ w.heap.size ≤ g) (h4 : ∀ g, vr'.ownBlock = some g → vr.ownBlock = some g ∨ w.heap.size ≤ g) : JTo w p q a (jbl p q a vs vt vn vr) d' j' s' w' := by
  refine ⟨_, ⟨vs', vt', vn', vr', h', rfl⟩, ho, fun k hk => ?_⟩
  simp only [jbl, List.mem_cons, List.mem_append, Option.mem_toList, Option.mem_def] at hk ⊢
  rcases hk with rfl | rfl | hk | hk | hk | hk | hk
  · exact .inl (.inl rfl)
  · exact .inl (.inr (.inl rfl))
  · exact .inl (.inr (.inr (.inl hk)))
  · rcases h1 k hk with e | e
    · exact .inl (.inr (.inr (.inr (.inl e))))
    · exact .inr e
  · rcases h2 k hk with e | e
    · exact .inl (.inr (.inr (.inr (.inr (.inl e)))))
    · exact .inr e
  · rcases h3 k hk with e | e
    · exact .inl (.inr (.inr (.inr (.inr (.inr (.inl e))))))
    · exact .inr e
  · rcases h4 k hk with e | e
    · exact .inl (.inr (.inr (.inr (.inr (.inr (.inr e))))))
    · exact .inr e

section
variable {p q k : Nat} {a : DA} {vs vt vn vr : Value}
theorem jbl_p : p ∈ jbl p q a vs vt vn vr := by simp [jbl]
theorem jbl_q : q ∈ jbl p q a vs vt vn vr := by simp [jbl]
theorem jbl_dev (h : k ∈ a.bl) : k ∈ jbl p q a vs vt vn vr := by simp [jbl, h]
theorem jbl_str (h : vs.ownBlock = some k) : k ∈ jbl p q a vs vt vn vr := by simp [jbl, h]
theorem jbl_sts (h : vt.ownBlock = some k) : k ∈ jbl p q a vs vt vn vr := by simp [jbl, h]
theorem jbl_note (h : vn.ownBlock = some k) : k ∈ jbl p q a vs vt vn vr := by simp [jbl, h]
theorem jbl_row (h : vr.ownBlock = some k) : k ∈ jbl p q a vs vt vn vr := by simp [jbl, h]
theorem jbl_one (h : k ∈ [p]) : k ∈ jbl p q a vs vt vn vr := by rw [List.mem_singleton.1 h]; exact jbl_p
end
/-- Midway through a call: what a journal's block and what it points to hold. -/
structure JW (w : World) (p q : Nat) (a : DA) (cs : Array Value) (vs vt vn vr : Value) (S : Sec) (T : List Int) (N : Sec) (d : Disk) (s : SL) : Prop where
  blk : w.heap[p]? = some (.cells cs 63 (0, 0))
  slot : Slot w q a vr s
  dev : Dev w a d
  str : Own w 0 vs S
  sts : OwnI w 0 vt T
  note : Held w vn N
  sn : Sep vs vn
  sr : Sep vs vr
theorem JM.jw {w : World} {p q : Nat} {a : DA} {vs vt vn vr : Value} {d : Disk} {j : JL} {s : SL} (h : JM w p q a vs vt vn vr d j s) : JW w p q a (jcells p q a vs vt vn j) vs vt vn vr j.stream (offs j.start j.recs) j.note d s := ⟨h.blk, h.slot, h.dev, h.str, h.sts, h.note, h.sn, h.sr⟩
theorem JW.jm {w : World} {p q : Nat} {a : DA} {cs : Array Value} {vs vt vn vr : Value} {S N : Sec} {T : List Int} {d : Disk} {s : SL} (h : JW w p q a cs vs vt vn vr S T N d s) {j : JL} (h1 : cs = jcells p q a vs vt vn j) (h2 : S = j.stream) (h3 : T = offs j.start j.recs) (h4 : N = j.note) (h5 : JOk j) (h6 : j.at_ + 2 + j.n ≤ d.size) (h7 : s.at_ = j.at_) : JM w p q a vs vt vn vr d j s := by
  subst h1; subst h2; subst h3; subst h4
  exact ⟨h.blk, h.slot, h.dev, h.str, h.sts, h.note, h.sn, h.sr, h5, h6, h7⟩
theorem Dev.off_ty {w : World} {a : DA} {d : Disk} (h : Dev w a d) {g : Nat} {c : Array Value} {t : TypeId} {fr : Nat × Nat} (hg : w.heap[g]? = some (.cells c t fr)) (ht : t ≠ 82) : g ∉ a.bl := by
  have h1 := h.blk
  have h2 := h.now.ne hg
  have h3 := h.old.ne hg
  simp only [DA.bl, List.mem_cons, List.not_mem_nil, or_false]
  rintro (e | e | e)
  · rw [e] at hg
    exact ht (block_ty hg h1)
  · exact h2 e.symm
  · exact h3 e.symm
theorem Held.u8 {w : World} {v : Value} {l : Sec} (hv : Held w v l) {k : Nat} (hk : v.ownBlock = some k) {c : Array Value} {t : TypeId} {fr : Nat × Nat} (hg : w.heap[k]? = some (.cells c t fr)) : t = 5 := by
  obtain ⟨x, hx⟩ := hv.blk k hk
  exact block_ty hg hx
section
variable {w w' : World} {p q : Nat} {a : DA} {cs : Array Value} {vs vt vn vr vs' vt' vn' vr' : Value} {S S' N N' : Sec} {T T' : List Int} {d d' : Disk} {s s' : SL} (h : JW w p q a cs vs vt vn vr S T N d s)
include h
theorem JW.cell (i : Nat) : w.cell? ⟨p, i, none⟩ = cs[i]? := cell_at i h.blk
theorem JW.free (i : Nat) : w.frozen? ⟨p, i, none⟩ = false := free_at i h.blk
theorem JW.kept {S0 : List Nat} (ho : Only S0 w w') (hs : ∀ k ∈ S0, k ∉ jbl p q a vs vt vn vr) : JW w' p q a cs vs vt vn vr S T N d s := by
  have hb : ∀ (v : Value), (∀ x ∈ v.ownBlock.toList, x ∈ jbl p q a vs vt vn vr) → ∀ k ∈ S0, v.ownBlock ≠ some k := fun v hv k hk e => hs k hk (hv k (by simp [e]))
  refine ⟨ho.heap h.blk (fun hp => hs p hp (by simp [jbl])), h.slot.kept ho (fun hq => hs q hq (by simp [jbl])) (hb vr (fun x hx => ?_)), h.dev.kept ho (fun k hk hm => hs k hk (by simp [jbl, hm])), h.str.kept ho (hb vs (fun x hx => ?_)), h.sts.kept ho (hb vt (fun x hx => ?_)), h.note.kept ho (hb vn (fun x hx => ?_)), h.sn, h.sr⟩ <;> simp [jbl] <;> simp at hx <;> simp [hx]
theorem JW.quiet (ho : Only [] w w') : JW w' p q a cs vs vt vn vr S T N d s := h.kept ho (by simp)
theorem JW.int {k : Nat} (hk : vt.ownBlock = some k) {c : Array Value} {t : TypeId} {fr : Nat × Nat} (hg : w.heap[k]? = some (.cells c t fr)) : t = 3 := by
  rcases h.sts.1.2 with ⟨hv, _⟩ | ⟨g, cap, cur, hv, _, hc, _⟩
  · rw [hv] at hk
    cases hk
  · rw [hv] at hk
    cases hk
    exact block_ty hg hc
theorem JW.int_blk {k : Nat} (hk : vt.ownBlock = some k) : ∃ c, w.heap[k]? = some (.cells c 3 (0, 0)) := by
  rcases h.sts.1.2 with ⟨hv, _⟩ | ⟨g, cap, cur, hv, _, hc, _⟩
  · rw [hv] at hk
    cases hk
  · rw [hv] at hk
    cases hk
    exact ⟨cur, hc⟩
/-- A cell of the journal's own block is stored. -/
theorem JW.set (i : Nat) (v : Value) : JW (w.setCell ⟨p, i, none⟩ v) p q a (cs.setIfInBounds i v) vs vt vn vr S T N d s := by
  have ho : Only [p] w (w.setCell ⟨p, i, none⟩ v) := (Only.refl _ _).setCell (by simp) _
  have hu : ∀ {x : Value} {l : Sec}, Held w x l → ∀ k ∈ [p], x.ownBlock ≠ some k := fun hx k hk e => by
    rw [List.mem_singleton.1 hk] at e
    exact absurd (Held.u8 hx e h.blk) (by decide)
  refine ⟨heap_cell v h.blk, h.slot.kept ho (fun e => ?_) (hu h.slot.row), h.dev.kept ho (fun k hk => ?_), h.str.kept ho (hu h.str.held), h.sts.kept ho (fun k hk e => ?_), h.note.kept ho (hu h.note), h.sn, h.sr⟩
  · rw [List.mem_singleton] at e
    have hb := h.slot.blk
    rw [e] at hb
    exact absurd (block_ty hb h.blk) (by decide)
  · rw [List.mem_singleton.1 hk]
    exact h.dev.off_ty h.blk (by decide)
  · rw [List.mem_singleton.1 hk] at e
    exact absurd (h.int e h.blk) (by decide)
/-- The row of places has become another. -/
theorem JW.setT (hx : Ext w vt w' vt') (ht : OwnI w' 0 vt' T') : JW w' p q a cs vs vt' vn vr S T' N d s := by
  have ho := hx.only
  have hu : ∀ {x : Value} {l : Sec}, Held w x l → ∀ k ∈ vt.ownBlock.toList, x.ownBlock ≠ some k := fun hx k hk e => by
    obtain ⟨c, hc⟩ := h.int_blk (by simpa using hk)
    exact absurd (Held.u8 hx e hc) (by decide)
  refine ⟨ho.heap h.blk (fun e => ?_), h.slot.kept ho (fun e => ?_) (hu h.slot.row), h.dev.kept ho (fun k hk => ?_), h.str.kept ho (hu h.str.held), ht, h.note.kept ho (hu h.note), h.sn, h.sr⟩
  · obtain ⟨c, hc⟩ := h.int_blk (by simpa using e)
    exact absurd (block_ty hc h.blk) (by decide)
  · obtain ⟨c, hc⟩ := h.int_blk (by simpa using e)
    exact absurd (block_ty hc h.slot.blk) (by decide)
  · obtain ⟨c, hc⟩ := h.int_blk (by simpa using hk)
    exact h.dev.off_ty hc (by decide)
/-- The stream has become another. -/
theorem JW.setS (hx : Ext w vs w' vs') (ht : Own w' 0 vs' S') : JW w' p q a cs vs' vt vn vr S' T N d s := by
  have ho := hx.only
  have hb : ∀ k ∈ vs.ownBlock.toList, ∃ c, w.heap[k]? = some (.cells c 5 (0, 0)) := fun k hk => h.str.held.blk k (by simpa using hk)
  have hsep : ∀ {x : Value}, Sep vs x → ∀ k ∈ vs.ownBlock.toList, x.ownBlock ≠ some k := fun hs k hk e => hs k (by simpa using hk) e
  have hsep' : ∀ {x : Value} {l : Sec}, Held w x l → Sep vs x → Sep vs' x := fun hh hs g hg e => by
    rcases hx.src g hg with h1 | h1
    · exact hs g h1 e
    · obtain ⟨c, hc⟩ := hh.blk g e
      have := lt_of_heap hc
      omega
  refine ⟨ho.heap h.blk (fun e => ?_), h.slot.kept ho (fun e => ?_) (hsep h.sr), h.dev.kept ho (fun k hk => ?_), ht, h.sts.kept ho (fun k hk e => ?_), h.note.kept ho (hsep h.sn), hsep' h.note h.sn, hsep' h.slot.row h.sr⟩
  · obtain ⟨c, hc⟩ := hb p e
    exact absurd (block_ty hc h.blk) (by decide)
  · obtain ⟨c, hc⟩ := hb q e
    exact absurd (block_ty hc h.slot.blk) (by decide)
  · obtain ⟨c, hc⟩ := hb k hk
    exact h.dev.off_ty hc (by decide)
  · obtain ⟨c, hc⟩ := hb k hk
    exact absurd (h.int e hc) (by decide)
/-- The note has become another, a new one. -/
theorem JW.setN (hn : Held w vn' N') (hs : Sep vs vn') : JW w p q a cs vs vt vn' vr S T N' d s := ⟨h.blk, h.slot, h.dev, h.str, h.sts, hn, hs, h.sr⟩
end

end Go.Proofs.Ytmjnbpcjpjefeaa
/- A journal: Append, Spend. -/
namespace Go.Proofs.Ytmjnbpcjpjefeaa
open Go.RowKit Go.Maps
set_option linter.unusedSimpArgs false
set_option linter.unusedVariables false

theorem flat_count : ∀ rs : List Sec, 2 * rs.length ≤ (flat rs).length
  | [] => by simp [flat]
  | r :: rs => by
    have := flat_count rs
    rw [flat_cons, List.length_append, recB_length, List.length_cons]
    omega
theorem JOk.count {j : JL} (h : JOk j) : j.recs.length ≤ 962560 := by
  have h1 := h.len
  have h2 := h.stream
  have h3 := flat_count j.recs
  omega
/-- Bytes that were there, in none of the blocks B, are in no new block either. -/
theorem Bytes.off {w : World} {rv : Value} {r : Sec} {B S : List Nat} (hr : Bytes w rv r) (ho : Off rv B) (hs : ∀ k ∈ S, k ∈ B ∨ w.heap.size ≤ k) : Off rv S := by
  intro x n c e h0 hm
  rcases hs _ hm with h | h
  · exact ho x n c e h0 h
  · obtain ⟨x', cap, e2, hcc⟩ := hr
    rw [e2] at e
    cases e
    obtain ⟨b, off, e3, hcell⟩ := hcc 0 r[0] (List.getElem?_eq_getElem h0)
    cases e3
    have := World.block_lt_of_cell? _ _ hcell
    simp at h this
    omega
/-! ### add -/
def JL.acode (j : JL) (r : Sec) (room : Int) : Int := if j.dead = true then 3 else if r.length < 1 ∨ 4096 < r.length then 2 else if room < 2 + r.length then 5 else 0
def JL.put (j : JL) (r : Sec) : JL := { j with recs := j.recs ++ [r] }
def JL.added (j : JL) (r : Sec) (room : Int) : JL := if j.acode r room = 0 then j.put r else j
def JL.anum (j : JL) (r : Sec) (room : Int) : Int := if j.acode r room = 0 then j.next else 0
theorem put_stream (j : JL) (r : Sec) : (j.put r).stream = j.stream ++ be2 r.length ++ r := by
  unfold JL.put JL.stream
  rw [flat_append, flat_one]
  simp [recB]
theorem put_len (j : JL) (r : Sec) : (j.put r).stream.length = j.stream.length + 2 + r.length := by
  rw [put_stream, List.length_append, List.length_append]
  rfl
theorem JOk.put {j : JL} (h : JOk j) {r : Sec} (h1 : 1 ≤ r.length) (h2 : r.length ≤ 4096) (hr : (2 : Int) + r.length ≤ j.free) : JOk (j.put r) := by
  refine ⟨h.pre, ?_, h.first, fun x hx => ?_, ?_, h.n2, h.nm, h.note, h.booked, h.at0, h.at1⟩
  · have := h.fl
    simp only [JL.put, List.length_append, List.length_cons]
    omega
  · rcases List.mem_append.1 hx with hx | hx
    · exact h.recs x hx
    · rw [List.mem_singleton.1 hx]
      exact ⟨h1, h2⟩
  · rw [put_len]
    unfold JL.free at hr
    show _ ≤ j.n * 470
    omega
theorem bytes_two (w : World) (c e : UInt8) (x y : Int) (hx : x = c.toNat) (hy : y = e.toNat) : Bytes (w.alloc (.cells #[.int .u8 x, .int .u8 y] 5)) (.slice (some ⟨w.heap.size, 0, none⟩) 2 2) [c, e] := by
  subst hx
  subst hy
  refine ⟨_, 2, rfl, fun i z hi => ?_⟩
  match i with
  | 0 =>
    simp at hi
    subst hi
    exact ⟨w.heap.size, 0, rfl, by simp⟩
  | 1 =>
    simp at hi
    subst hi
    exact ⟨w.heap.size, 0, rfl, by simp⟩
  | i + 2 => simp at hi
def AddPost (w : World) (p q : Nat) (a : DA) (B : List Nat) (d : Disk) (j : JL) (s : SL) (r : Sec) (room : Int) (e : Ending) (w' : World) : Prop :=
  e = .returned (.tuple #[.int .i64 (j.anum r room), errV (j.acode r room)]) ∧ JTo w p q a B d (j.added r room) s w'

set_option maxRecDepth 100000 in
set_option maxHeartbeats 4000000 in
theorem jadd_any {w : World} {p q : Nat} {a : DA} {B : List Nat} {d : Disk} {j : JL} {s : SL} (h : Jn w p q a B d j s) (hb : JBig j) (rv : Value) (r : Sec) (hr : Bytes w rv r) (hoff : Off rv B) (hrl : r.length ≤ 9223372036854775807) (room : Int) (hroom : room ≤ j.free) :
    Calls Try.prog 28 #[.pointer (some ⟨p, 0, none⟩), rv, .int .i64 room] w (AddPost w p q a B d j s r room) := by
  obtain ⟨vs, vt, vn, vr, hm, rfl⟩ := h
  obtain ⟨ra, rc, rfl, -⟩ := id hr
  have H := Lib.hid hm
  have HB := Lib.hid hb
  have HR := Lib.hid hr
  have HOFF := Lib.hid hoff
  have hdead := jdead_any hm
  have hnum := jnext_any hm hb
  cases hd : j.dead
  rotate_left
  · rw [hd] at hdead
    have f : AddPost w p q a (jbl p q a vs vt vn vr) d j s r room (.returned (.tuple #[.int .i64 0, err 3])) w := by
      have hc : j.acode r room = 3 := by simp [JL.acode, hd]
      refine ⟨by simp [JL.anum, hc, errV], ?_⟩
      rw [show j.added r room = j from by simp [JL.added, hc]]
      exact .stay ⟨_, _, _, _, hm, rfl⟩
    have F := Lib.hid f
    clear hm hb hr hoff f hd hnum
    go_enter Try.func28, Try.ntmps28
    go_wp2_with fail
    refine hdead.mono ?_
    rintro e w1 ⟨rfl, rfl⟩
    go_wp2_with fail
    go_ret2
    exact F.out
  rw [hd] at hdead
  by_cases hl1 : r.length < 1
  · have f : AddPost w p q a (jbl p q a vs vt vn vr) d j s r room (.returned (.tuple #[.int .i64 0, err 2])) w := by
      have hc : j.acode r room = 2 := by simp [JL.acode, hd, hl1]
      refine ⟨by simp [JL.anum, hc, errV], ?_⟩
      rw [show j.added r room = j from by simp [JL.added, hc]]
      exact .stay ⟨_, _, _, _, hm, rfl⟩
    have F := Lib.hid f
    have hl1' : (r.length : Int) < 1 := by omega
    clear hm hb hr hoff f hd hnum
    go_enter Try.func28, Try.ntmps28
    go_wp2_with fail
    refine hdead.mono ?_
    rintro e w1 ⟨rfl, rfl⟩
    go_wp2_with fail
    go_ret2
    exact F.out
  have hl1' : ¬ (r.length : Int) < 1 := by omega
  by_cases hl2 : 4096 < r.length
  · have f : AddPost w p q a (jbl p q a vs vt vn vr) d j s r room (.returned (.tuple #[.int .i64 0, err 2])) w := by
      have hc : j.acode r room = 2 := by simp [JL.acode, hd, hl2]
      refine ⟨by simp [JL.anum, hc, errV], ?_⟩
      rw [show j.added r room = j from by simp [JL.added, hc]]
      exact .stay ⟨_, _, _, _, hm, rfl⟩
    have F := Lib.hid f
    have hl2' : (4096 : Int) < (r.length : Int) := by omega
    clear hm hb hr hoff f hd hnum
    go_enter Try.func28, Try.ntmps28
    go_wp2_with fail
    refine hdead.mono ?_
    rintro e w1 ⟨rfl, rfl⟩
    go_wp2_with fail
    go_ret2
    exact F.out
  have hl2' : ¬ (4096 : Int) < (r.length : Int) := by omega
  by_cases hrm : room < 2 + (r.length : Int)
  · have f : AddPost w p q a (jbl p q a vs vt vn vr) d j s r room (.returned (.tuple #[.int .i64 0, err 5])) w := by
      have hc : j.acode r room = 5 := by simp [JL.acode, hd, hl1, hl2, hrm]
      refine ⟨by simp [JL.anum, hc, errV], ?_⟩
      rw [show j.added r room = j from by simp [JL.added, hc]]
      exact .stay ⟨_, _, _, _, hm, rfl⟩
    have F := Lib.hid f
    clear hm hb hr hoff f hd hnum
    go_enter Try.func28, Try.ntmps28
    go_wp2_with fail
    refine hdead.mono ?_
    rintro e w1 ⟨rfl, rfl⟩
    go_wp2_with fail
    go_ret2
    exact F.out
  have hc : j.acode r room = 0 := by simp [JL.acode, hd, hl1, hl2, hrm]
  have HC := Lib.hid hc
  have hlen := hm.ok.len
  have hrecs := hm.ok.count
  have HD := Lib.hid hd
  have HR0 := Lib.hid hr
  obtain ⟨sa, sc, rfl, -⟩ := hm.strS
  obtain ⟨ta, tc, rfl⟩ := hm.stsS
  clear hm hb hr hoff hd hc
  go_enter Try.func28, Try.ntmps28
  go_wp2_with fail
  refine hdead.mono ?_
  rintro e w1 ⟨rfl, rfl⟩
  go_wp2_with fail
  refine hnum.mono ?_
  rintro e w1 ⟨rfl, hd1⟩
  have o1 := hd1.only
  have H1 := Lib.hid (H.out.quiet o1)
  have R1 := Lib.hid (HR.out.kept o1 (clean_nil _))
  have O1 := Lib.hid o1
  clear hd1 o1 HR hdead hnum
  go_wp2_with fail
  have o2 : Only [] w1 w1.drew := (Only.refl [] w1).drew
  have H2 := Lib.hid (H1.out.quiet o2)
  have R2 := Lib.hid (R1.out.kept o2 (clean_nil _))
  have O2 := Lib.hid (O1.out.trans o2 (by simp))
  clear o2 H1 R1 O1
  have c7 : w1.drew.cell? ⟨p, 7, none⟩ = some (.slice ta j.recs.length tc) := H2.out.c7
  refine wp_region_B (S := fun w' => w'.cell? ⟨p, 7, none⟩ = some (.slice ta j.recs.length tc)) [0, 1, 2, 3, 4, 5, 6, 7, 8, 9, 10] (by kernel_rfl) c7 (fun hH => ?_)
  clear c7
  refine takeB_list (i := 0) (v := ?_) rfl (by kernel_rfl) (by kernel_rfl) (by kernel_rfl) (by kernel_rfl) (fun _ _ _ h => h) (Or.inl ⟨by rfl, ?_⟩) hH ?_
  rotate_left
  · ((intro w hSw; (try dsimp only at hSw); go_simp); try with_reducible rfl)
  simp only [Act.put, List.setIfInBounds_toArray, List.set_cons_zero, List.set_cons_succ]
  refine takeB_list (i := 1) (v := ?_) rfl (by kernel_rfl) (by kernel_rfl) (by kernel_rfl) (by kernel_rfl) (fun _ _ _ h => h) (Or.inl ⟨by rfl, ?_⟩) hH ?_
  rotate_left
  · ((intro w hSw; (try dsimp only at hSw); go_simp); try with_reducible rfl)
  simp only [Act.put, List.setIfInBounds_toArray, List.set_cons_zero, List.set_cons_succ]
  refine takeB_list (i := 2) (v := ?_) rfl (by kernel_rfl) (by kernel_rfl) (by kernel_rfl) (by kernel_rfl) (fun _ _ _ h => h) (Or.inl ⟨by rfl, ?_⟩) hH ?_
  rotate_left
  · ((intro w hSw; (try dsimp only at hSw); go_simp); try with_reducible rfl)
  simp only [Act.put, List.setIfInBounds_toArray, List.set_cons_zero, List.set_cons_succ]
  refine takeB_list (i := 3) (v := ?_) rfl (by kernel_rfl) (by kernel_rfl) (by kernel_rfl) (by kernel_rfl) (fun _ _ _ h => h) (Or.inl ⟨by rfl, ?_⟩) hH ?_
  rotate_left
  · ((intro w hSw; (try dsimp only at hSw); go_simp); try with_reducible rfl)
  simp only [Act.put, List.setIfInBounds_toArray, List.set_cons_zero, List.set_cons_succ]
  refine takeB_list (i := 4) (v := ?_) rfl (by kernel_rfl) (by kernel_rfl) (by kernel_rfl) (by kernel_rfl) (fun _ _ _ h => h) (Or.inl ⟨by rfl, ?_⟩) hH ?_
  rotate_left
  · ((intro w hSw; (try dsimp only at hSw); go_simp); try with_reducible rfl)
  simp only [Act.put, List.setIfInBounds_toArray, List.set_cons_zero, List.set_cons_succ]
  refine takeB_list (i := 5) (v := ?_) rfl (by kernel_rfl) (by kernel_rfl) (by kernel_rfl) (by kernel_rfl) (fun _ _ _ h => h) (Or.inl ⟨by rfl, ?_⟩) hH ?_
  rotate_left
  · ((intro w hSw; (try dsimp only at hSw); go_simp); try with_reducible rfl)
  simp only [Act.put, List.setIfInBounds_toArray, List.set_cons_zero, List.set_cons_succ]
  refine readyB_in (i := 6) (by kernel_rfl) rfl (fun K hK => ?_)
  go_simp
  refine (jend_any H2.out HB.out).mono ?_
  rintro e w3 ⟨rfl, hd3⟩
  have o3 := hd3.only
  have H3 := Lib.hid (H2.out.quiet o3)
  have R3 := Lib.hid (R2.out.kept o3 (clean_nil _))
  have O3 := Lib.hid (O2.out.trans o3 (by simp))
  have c7 : w3.cell? ⟨p, 7, none⟩ = some (.slice ta j.recs.length tc) := H3.out.c7
  refine hK.out _ _ c7 (fun hH => ?_)
  clear hK K c7 hd3 o3 H2 R2 O2
  refine readyB_in (i := 7) (by kernel_rfl) rfl (fun K hK => ?_)
  go_simp
  have hfin := HB.out.fin
  have o4 := (Only.refl [] w3).alloc (.cells #[.int .i64 (j.fin : Nat)] 3)
  have I4 := Lib.hid (ints_one w3 (j.fin : Nat) (WalkArith.wf_i64 (by omega)))
  have H4 := Lib.hid (H3.out.jw.quiet o4)
  have R4 := Lib.hid (R3.out.kept o4 (clean_nil _))
  have O4 := Lib.hid (O3.out.trans o4 (by simp))
  have c7 : (w3.alloc (.cells #[.int .i64 (j.fin : Nat)] 3)).cell? ⟨p, 7, none⟩ = some (.slice ta j.recs.length tc) := H4.out.cell 7
  refine hK.out _ _ c7 (fun hH => ?_)
  clear hK K c7 o4 H3 R3 O3
  refine readyB_in (i := 8) (by kernel_rfl) rfl (fun K hK => ?_)
  refine step_append_ints (by rfl) (.tmp 33) (.tmp 36) (by rfl) 0 _ (offs j.start j.recs) (by rfl) H4.out.sts _ [((j.fin : Nat) : Int)] (by rfl) I4.out (j.recs.length + 1) (by rw [offs_length]; rfl) (offs j.start (j.recs ++ [r])) (by rw [offs_snoc]; rfl) (by omega) (Nat.zero_le _) (fun a5 k5 w5 h5 x5 => ?_)
  have sub : ∀ k ∈ (Value.slice ta j.recs.length tc).ownBlock.toList, k ∈ jbl p q a (.slice sa j.stream.length sc) (.slice ta j.recs.length tc) vn vr := fun k hk => by simp [jbl]; simp at hk; simp [hk]
  have hT5 := HR0.out.off HOFF.out (fun k hk => .inl (sub k hk))
  have H5 := Lib.hid (H4.out.setT x5 h5)
  have R5 := Lib.hid (R4.out.keptOff x5.only hT5)
  have O5 := Lib.hid ((O4.out.mono (T := jbl p q a (.slice sa j.stream.length sc) (.slice ta j.recs.length tc) vn vr) (by simp)).trans x5.only (fun k hk => .inl (sub k hk)))
  have Z4 := O4.out.size
  have X5 := Lib.hid (fun g hg => (x5.src g hg).imp id (fun h => Nat.le_trans Z4 h))
  have c7 : w5.cell? ⟨p, 7, none⟩ = some (.slice ta j.recs.length tc) := H5.out.cell 7
  refine hK.out _ _ c7 (fun hH => ?_)
  clear hK K H4 R4 O4 h5 x5 hT5 sub Z4
  refine takeB_list (i := 9) (v := ?_) rfl (by kernel_rfl) (by kernel_rfl) (by kernel_rfl) (by kernel_rfl) (fun _ _ _ h => h) (Or.inl ⟨by rfl, ?_⟩) hH ?_
  rotate_left
  · ((intro w hSw; (try dsimp only at hSw); go_simp); try with_reducible rfl)
  simp only [Act.put, List.setIfInBounds_toArray, List.set_cons_zero, List.set_cons_succ]
  refine takeB_list (i := 10) (v := ?_) rfl (by kernel_rfl) (by kernel_rfl) (by kernel_rfl) (by kernel_rfl) (fun _ _ _ h => h) (Or.inl ⟨by rfl, ?_⟩) hH ?_
  rotate_left
  · ((intro w hSw; (try dsimp only at hSw); go_simp); try with_reducible rfl)
  simp only [Act.put, List.setIfInBounds_toArray, List.set_cons_zero, List.set_cons_succ]
  have f7 := H5.out.free 7
  refine readyB_out (i := 11) (by kernel_rfl) (by kernel_rfl) rfl (fun K hK => ?_)
  go_simp
  refine hK.out _ _ ?_
  clear hK K f7 c7 hH
  have H6 := Lib.hid (H5.out.set 7 (.slice a5 (j.recs.length + 1) k5))
  have o6 : Only [p] w5 (w5.setCell ⟨p, 7, none⟩ (.slice a5 (j.recs.length + 1) k5)) := (Only.refl _ _).setCell (by simp) _
  have hp6 : Off (.slice ra r.length rc) [p] := HR0.out.off HOFF.out (fun k hk => .inl (by simp at hk; simp [jbl, hk]))
  have R6 := Lib.hid (R5.out.keptOff o6 hp6)
  have O6 := Lib.hid (O5.out.trans o6 (fun k hk => .inl (by simp at hk; simp [jbl, hk])))
  generalize w5.setCell ⟨p, 7, none⟩ (.slice a5 (j.recs.length + 1) k5) = w6 at H6 o6 R6 O6 ⊢
  refine wpAnyB_done (by kernel_rfl) ?_ _
  have P6 := Lib.hid hp6
  have c5 : w6.cell? ⟨p, 5, none⟩ = some (.slice sa j.stream.length sc) := H6.out.cell 5
  clear H5 R5 O5 o6 hp6
  go_upto_region 10 with (
    refine wpList_append_any rfl (.tmp 44) (.tmp 52) rfl 0 _ j.stream (by rfl) (H6.out.quiet ((Only.refl [] w6).alloc _)).str _ (be2 r.length) (by rfl) (bytes_two w6 _ _ _ _ (by rw [UInt8.toNat_ofNat']; omega) (by rw [UInt8.toNat_ofNat']; omega)) (j.stream.length + 2) rfl (j.stream ++ be2 r.length) rfl (by omega) (Nat.zero_le _) ?_
    intro a7 k7 w7 h7 x7
    have x7' := Ext.before ((Only.refl [] w6).alloc _) x7
    have H7 := Lib.hid (H6.out.setS x7' h7)
    have c5 : w7.cell? ⟨p, 5, none⟩ = some (.slice sa j.stream.length sc) := H7.out.cell 5
    have f5 := H7.out.free 5
    have sub : ∀ k ∈ (Value.slice sa j.stream.length sc).ownBlock.toList, k ∈ jbl p q a (.slice sa j.stream.length sc) (.slice ta j.recs.length tc) vn vr := (fun k hk => by simp [jbl]; simp at hk; simp [hk])
    have R7 := Lib.hid (R6.out.keptOff x7'.only (HR0.out.off HOFF.out (fun k hk => .inl (sub k hk))))
    have O7 := Lib.hid (O6.out.trans x7'.only (fun k hk => .inl (sub k hk)))
    have Z6 := O6.out.size
    have X7 := Lib.hid (fun g hg => (x7'.src g hg).imp id (fun h => Nat.le_trans Z6 h))
    clear x7 x7' h7 sub Z6 H6 R6 O6)
  have H8 := Lib.hid (H7.out.set 5 (.slice a7 (j.stream.length + 2) k7))
  have o8 : Only [p] w7 (w7.setCell ⟨p, 5, none⟩ (.slice a7 (j.stream.length + 2) k7)) := (Only.refl _ _).setCell (by simp) _
  have R8 := Lib.hid (R7.out.keptOff o8 P6.out)
  have O8 := Lib.hid (O7.out.trans o8 (fun k hk => .inl (by simp at hk; simp [jbl, hk])))
  generalize w7.setCell ⟨p, 5, none⟩ (.slice a7 (j.stream.length + 2) k7) = w8 at H8 o8 R8 O8 ⊢
  have c5 : w8.cell? ⟨p, 5, none⟩ = some (.slice a7 (j.stream.length + 2) k7) := H8.out.cell 5
  have el : (j.stream ++ be2 r.length).length + r.length = j.stream.length + 2 + r.length := by rw [List.length_append]; rfl
  have EL := Lib.hid el
  clear H7 R7 O7 o8 f5 el
  go_wp2_with (
    refine wpList_append_any rfl (.tmp 60) (.tmp 61) rfl 0 _ (j.stream ++ be2 r.length) (by rfl) H8.out.str _ r (by rfl) R8.out (j.stream.length + 2 + r.length) EL.out (j.stream ++ be2 r.length ++ r) rfl (by omega) (Nat.zero_le _) ?_
    intro a9 k9 w9 h9 x9
    have H9 := Lib.hid (H8.out.setS x9 h9)
    have c5 : w9.cell? ⟨p, 5, none⟩ = some (.slice a7 (j.stream.length + 2) k7) := H9.out.cell 5
    have f5 := H9.out.free 5
    have O9 := Lib.hid (And.intro O8.out x9)
    clear x9 h9 H8 R8)
  have H10 := H9.out.set 5 (.slice a9 (j.stream.length + 2 + r.length) k9)
  have o10 : Only [p] w9 (w9.setCell ⟨p, 5, none⟩ (.slice a9 (j.stream.length + 2 + r.length) k9)) := (Only.refl _ _).setCell (by simp) _
  go_ret2
  obtain ⟨o8, x9⟩ := O9.out
  refine ⟨by simp [JL.anum, HC.out, errV], ?_⟩
  rw [show j.added r room = j.put r from by simp [JL.added, HC.out]]
  have hok := H.out.ok.put (r := r) (by omega) (by omega) (by omega)
  refine JM.to H.out (H10.jm rfl (put_stream j r).symm rfl rfl hok H.out.here H.out.at_) ?_ ?_ ?_ ?_ ?_
  · refine (o8.trans x9.only (fun k hk => ?_)).trans o10 (fun k hk => .inl (by simp at hk; simp [jbl, hk]))
    rcases X7.out k (by simpa using hk) with e | e
    · exact .inl (jbl_str e)
    · exact .inr e
  · intro g hg
    rcases x9.src g hg with e | e
    · exact X7.out g e
    · exact .inr (Nat.le_trans o8.size e)
  · exact fun g hg => X5.out g hg
  · exact fun g hg => .inl hg
  · exact fun g hg => .inl hg
end Go.Proofs.Ytmjnbpcjpjefeaa
/- A journal: Append, Spend, Book, Unbook, met. -/
namespace Go.Proofs.Ytmjnbpcjpjefeaa
open Go.RowKit Go.Maps
set_option linter.unusedSimpArgs false
set_option linter.unusedVariables false

section
variable {w w1 w2 : World} {p q : Nat} {a : DA} {B : List Nat} {d d' : Disk} {j j' : JL} {s s' : SL}
theorem JTo.before (ho : Only [] w w1) (h : JTo w1 p q a B d j s w2) : JTo w p q a B d j s w2 := by
  obtain ⟨B', h1, h2, h3⟩ := h
  exact ⟨B', h1, (ho.mono (by simp)).trans h2 (fun k hk => .inl hk), fun k hk => (h3 k hk).imp id (fun h => Nat.le_trans ho.size h)⟩
theorem Jn.jm (h : Jn w p q a B d j s) : ∃ vs vt vn vr, JM w p q a vs vt vn vr d j s := by
  obtain ⟨vs, vt, vn, vr, hm, _⟩ := h
  exact ⟨vs, vt, vn, vr, hm⟩
theorem Jn.ok (h : Jn w p q a B d j s) : JOk j := by
  obtain ⟨vs, vt, vn, vr, hm⟩ := h.jm
  exact hm.ok
end
theorem off_same {S : List Nat} {v : Value} {w w1 : World} {l : Sec} (h : Off v S) (hb : Bytes w v l) (ho : Only [] w w1) : Off v S := h

set_option maxRecDepth 100000 in
theorem jappend_nil (rv : Value) (r : Sec) (w : World) (hr : Bytes w rv r) : Calls Try.prog 9 #[.pointer none, rv] w fun e w' => e = .returned (.tuple #[.int .i64 0, err 3]) ∧ w = w' := by
  obtain ⟨ra, rc, rfl, -⟩ := hr
  go_enter Try.func9, Try.ntmps9
  go_wp2_with fail
  refine (jfree_nil _).mono ?_
  rintro e w' ⟨rfl, rfl⟩
  go_wp2_with fail
  refine (jbooked_nil _).mono ?_
  rintro e w' ⟨rfl, rfl⟩
  go_wp2_with fail
  refine ((?_ : Calls Try.prog 28 #[.pointer none, .slice ra r.length rc, .int .i64 0] w fun e w' => e = .returned (.tuple #[.int .i64 0, err 3]) ∧ w = w')).mono ?_
  · go_enter Try.func28, Try.ntmps28
    go_wp2_with fail
    refine (jdead_nil _).mono ?_
    rintro e w' ⟨rfl, rfl⟩
    go_wp2_with fail
    go_ret2
    exact ⟨rfl, rfl⟩
  rintro e w' ⟨rfl, rfl⟩
  go_wp2_with fail
  go_ret2
  exact ⟨rfl, rfl⟩
set_option maxRecDepth 100000 in
theorem jspend_nil (rv : Value) (r : Sec) (w : World) (hr : Bytes w rv r) : Calls Try.prog 15 #[.pointer none, rv] w fun e w' => e = .returned (.tuple #[.int .i64 0, err 3]) ∧ w = w' := by
  obtain ⟨ra, rc, rfl, -⟩ := hr
  go_enter Try.func15, Try.ntmps15
  go_wp2_with fail
  refine (jfree_nil _).mono ?_
  rintro e w' ⟨rfl, rfl⟩
  go_wp2_with fail
  refine ((?_ : Calls Try.prog 28 #[.pointer none, .slice ra r.length rc, .int .i64 0] w fun e w' => e = .returned (.tuple #[.int .i64 0, err 3]) ∧ w = w')).mono ?_
  · go_enter Try.func28, Try.ntmps28
    go_wp2_with fail
    refine (jdead_nil _).mono ?_
    rintro e w' ⟨rfl, rfl⟩
    go_wp2_with fail
    go_ret2
    exact ⟨rfl, rfl⟩
  rintro e w' ⟨rfl, rfl⟩
  go_wp2_with fail
  go_ret2
  exact ⟨rfl, rfl⟩
theorem ret_pair {n : Int} {v : Value} {x : Value} (h : x = .tuple #[.int .i64 n, v]) : Ending.returned x = .returned (.tuple #[.int .i64 n, v]) := by rw [h]

set_option maxRecDepth 100000 in
theorem jappend_any {w : World} {p q : Nat} {a : DA} {B : List Nat} {d : Disk} {j : JL} {s : SL} (h : Jn w p q a B d j s) (hb : JBig j) (rv : Value) (r : Sec) (hr : Bytes w rv r) (hoff : Off rv B) (hrl : r.length ≤ 9223372036854775807) :
    Calls Try.prog 9 #[.pointer (some ⟨p, 0, none⟩), rv] w (AddPost w p q a B d j s r (j.free - j.booked)) := by
  obtain ⟨vs, vt, vn, vr, hm⟩ := h.jm
  have H := Lib.hid h
  have HB := Lib.hid hb
  have HM := Lib.hid hm
  have HR := Lib.hid hr
  have HO := Lib.hid hoff
  have hn := hm.ok.nm
  have hl := hm.ok.len
  have hk := hm.ok.booked
  have e0 : j.free = (j.n : Int) * 470 - (j.stream.length : Int) := rfl
  have hf0 : -962560 ≤ j.free := by omega
  have hf1 : j.free ≤ 962560 := by omega
  have hk0 : (j.booked : Int) ≤ 962560 := by omega
  clear h hb hm hr hoff hn hl hk e0
  obtain ⟨ra, rc, rfl, -⟩ := id HR.out
  go_enter Try.func9, Try.ntmps9
  go_wp2_with fail
  refine (jfree_any HM.out).mono ?_
  rintro e w1 ⟨rfl, hd1⟩
  have O1 := Lib.hid hd1.only
  have M1 := Lib.hid (HM.out.quiet hd1.only)
  clear hd1 HM
  go_wp2_with fail
  refine (jbooked_any M1.out).mono ?_
  rintro e w2 ⟨rfl, rfl⟩
  go_wp2_with fail
  refine (jadd_any (H.out.quiet O1.out) HB.out _ r (HR.out.kept O1.out (clean_nil _)) HO.out hrl _ (by omega)).mono ?_
  rintro e w3 ⟨rfl, h3⟩
  have F := Lib.hid (JTo.before O1.out h3)
  clear h3 H HR O1 M1
  go_wp2_with fail
  go_ret2
  exact ⟨rfl, F.out⟩
set_option maxRecDepth 100000 in
theorem jspend_any {w : World} {p q : Nat} {a : DA} {B : List Nat} {d : Disk} {j : JL} {s : SL} (h : Jn w p q a B d j s) (hb : JBig j) (rv : Value) (r : Sec) (hr : Bytes w rv r) (hoff : Off rv B) (hrl : r.length ≤ 9223372036854775807) :
    Calls Try.prog 15 #[.pointer (some ⟨p, 0, none⟩), rv] w (AddPost w p q a B d j s r j.free) := by
  obtain ⟨vs, vt, vn, vr, hm⟩ := h.jm
  have H := Lib.hid h
  have HB := Lib.hid hb
  have HM := Lib.hid hm
  have HR := Lib.hid hr
  have HO := Lib.hid hoff
  clear h hb hm hr hoff
  obtain ⟨ra, rc, rfl, -⟩ := id HR.out
  go_enter Try.func15, Try.ntmps15
  go_wp2_with fail
  refine (jfree_any HM.out).mono ?_
  rintro e w1 ⟨rfl, hd1⟩
  have O1 := Lib.hid hd1.only
  clear hd1 HM
  go_wp2_with fail
  refine (jadd_any (H.out.quiet O1.out) HB.out _ r (HR.out.kept O1.out (clean_nil _)) HO.out hrl _ (Int.le_refl _)).mono ?_
  rintro e w3 ⟨rfl, h3⟩
  have F := Lib.hid (JTo.before O1.out h3)
  clear h3 H HR O1
  go_wp2_with fail
  go_ret2
  exact ⟨rfl, F.out⟩

/-! ### Book, Unbook -/
def JL.bcode (j : JL) (n : Int) : Int := if n < 0 then 1 else if j.free - j.booked < n then 5 else 0
def JL.book (j : JL) (n : Int) : JL := if j.bcode n = 0 then { j with booked := j.booked + n.toNat } else j
def JL.unbook (j : JL) (n : Int) : JL := if n < 0 then j else { j with booked := j.booked - n.toNat }
theorem bcode_1 {j : JL} {n : Int} (h : n < 0) : j.bcode n = 1 := if_pos h
theorem bcode_5 {j : JL} {n : Int} (h : ¬ n < 0) (h2 : j.free - j.booked < n) : j.bcode n = 5 := by unfold JL.bcode; rw [if_neg h, if_pos h2]
theorem bcode_0 {j : JL} {n : Int} (h : ¬ n < 0) (h2 : ¬ j.free - j.booked < n) : j.bcode n = 0 := by unfold JL.bcode; rw [if_neg h, if_neg h2]
theorem book_no {j : JL} {n : Int} (h : j.bcode n ≠ 0) : j.book n = j := if_neg h
theorem book_yes {j : JL} {n : Int} (h : j.bcode n = 0) : j.book n = { j with booked := j.booked + n.toNat } := if_pos h
theorem JOk.free_le {j : JL} (h : JOk j) : j.free ≤ (j.n : Int) * 470 ∧ 0 ≤ j.free := by
  have := h.room
  unfold JL.free
  omega
def BookPost (w : World) (p q : Nat) (a : DA) (B : List Nat) (d : Disk) (j : JL) (s : SL) (n : Int) (e : Ending) (w' : World) : Prop :=
  e = .returned (errV (j.bcode n)) ∧ JTo w p q a B d (j.book n) s w'
set_option maxRecDepth 100000 in
theorem jbook_any {w : World} {p q : Nat} {a : DA} {B : List Nat} {d : Disk} {j : JL} {s : SL} (h : Jn w p q a B d j s) (n : Int) :
    Calls Try.prog 14 #[.pointer (some ⟨p, 0, none⟩), .int .i64 n] w (BookPost w p q a B d j s n) := by
  obtain ⟨vs, vt, vn, vr, hm, rfl⟩ := h
  have HM := Lib.hid hm
  have hok := hm.ok
  have hn := hok.nm
  have hk := hok.booked
  have hf := hok.free_le
  have HOK := Lib.hid hok
  have hf0 : 0 ≤ j.free := by omega
  have hf1 : j.free ≤ 962560 := by omega
  have hk0 : (j.booked : Int) ≤ 962560 := by omega
  by_cases h0 : n < 0
  · have f : BookPost w p q a (jbl p q a vs vt vn vr) d j s n (.returned (err 1)) w := ⟨by rw [bcode_1 h0]; rfl, by rw [book_no (by rw [bcode_1 h0]; decide)]; exact .stay ⟨_, _, _, _, hm, rfl⟩⟩
    have F := Lib.hid f
    clear hm f hok hf
    go_enter Try.func14, Try.ntmps14
    go_wp2_with fail
    go_ret
    exact F.out
  by_cases h5 : j.free - j.booked < n
  · have hno : j.book n = j := book_no (by rw [bcode_5 h0 h5]; decide)
    have HNO := Lib.hid hno
    have HC := Lib.hid (bcode_5 h0 h5)
    have H5 := Lib.hid h5
    clear hm hok hf hno
    go_enter Try.func14, Try.ntmps14
    go_wp2_with fail
    refine (jfree_any HM.out).mono ?_
    rintro e w1 ⟨rfl, hd1⟩
    have O1 := Lib.hid hd1.only
    have M1 := Lib.hid (HM.out.quiet hd1.only)
    clear hd1
    go_wp2_with fail
    refine (jbooked_any M1.out).mono ?_
    rintro e w2 ⟨rfl, rfl⟩
    go_wp2_with fail
    go_ret
    exact ⟨by rw [HC.out]; rfl, by rw [HNO.out]; exact .same ⟨_, _, _, _, M1.out, rfl⟩ O1.out⟩
  have hc := bcode_0 h0 h5
  have HC := Lib.hid hc
  have hno : j.book n = { j with booked := j.booked + n.toNat } := book_yes hc
  have HNO := Lib.hid hno
  have hn2 : n ≤ 962560 := by omega
  clear hm hok hf hno hc
  go_enter Try.func14, Try.ntmps14
  go_wp2_with fail
  refine (jfree_any HM.out).mono ?_
  rintro e w1 ⟨rfl, hd1⟩
  have O1 := Lib.hid hd1.only
  have M1 := Lib.hid (HM.out.quiet hd1.only)
  clear hd1
  go_wp2_with fail
  refine (jbooked_any M1.out).mono ?_
  rintro e w2 ⟨rfl, rfl⟩
  have c10 := M1.out.c10
  have f10 := M1.out.free 10
  go_wp2_with fail
  have H2 := M1.out.jw.set 10 (.int .i64 ((j.booked : Int) + n))
  have o2 : Only [p] w1 (w1.setCell ⟨p, 10, none⟩ (.int .i64 ((j.booked : Int) + n))) := (Only.refl _ _).setCell (by simp) _
  go_ret
  refine ⟨by rw [HC.out]; rfl, ?_⟩
  rw [HNO.out]
  have hj : JOk { j with booked := j.booked + n.toNat } := ⟨HOK.out.pre, HOK.out.fl, HOK.out.first, HOK.out.recs, HOK.out.room, HOK.out.n2, HOK.out.nm, HOK.out.note, (by have := HOK.out.free_le; show j.booked + n.toNat ≤ j.n * 470; omega), HOK.out.at0, HOK.out.at1⟩
  refine JTo.before O1.out (JM.to M1.out (H2.jm (j := { j with booked := j.booked + n.toNat }) ?_ rfl rfl rfl hj M1.out.here M1.out.at_) (o2.mono (fun k hk => jbl_one hk)) (fun g hg => .inl hg) (fun g hg => .inl hg) (fun g hg => .inl hg) (fun g hg => .inl hg))
  have e1 : ((j.booked + n.toNat : Nat) : Int) = (j.booked : Int) + n := by omega
  simp only [jcells, e1]
  rfl
set_option maxRecDepth 100000 in
theorem junbook_any {w : World} {p q : Nat} {a : DA} {B : List Nat} {d : Disk} {j : JL} {s : SL} (h : Jn w p q a B d j s) (n : Int) (hn : n ≤ 9223372036854775807) :
    Calls Try.prog 17 #[.pointer (some ⟨p, 0, none⟩), .int .i64 n] w fun e w' => e = .returned (.tuple #[]) ∧ JTo w p q a B d (j.unbook n) s w' := by
  obtain ⟨vs, vt, vn, vr, hm, rfl⟩ := h
  by_cases h0 : n < 0
  · have f : JTo w p q a (jbl p q a vs vt vn vr) d (j.unbook n) s w := by
      rw [show j.unbook n = j from if_pos h0]
      exact .stay ⟨_, _, _, _, hm, rfl⟩
    have F := Lib.hid f
    clear hm f
    go_enter Try.func17, Try.ntmps17
    go_wp2_with fail
    go_returns
    exact ⟨rfl, F.out⟩
  have hok := hm.ok
  have hn2 := hok.nm
  have hk := hok.booked
  have hk0 : (j.booked : Int) ≤ 962560 := by omega
  have hj : JOk { j with booked := j.booked - n.toNat } := ⟨hok.pre, hok.fl, hok.first, hok.recs, hok.room, hok.n2, hok.nm, hok.note, (by show j.booked - n.toNat ≤ j.n * 470; omega), hok.at0, hok.at1⟩
  have HJ := Lib.hid hj
  have M1 := Lib.hid hm
  have hno : j.unbook n = { j with booked := j.booked - n.toNat } := if_neg h0
  have HNO := Lib.hid hno
  have c10 := hm.c10
  have f10 := hm.free 10
  clear hm hok hj hno
  have key : ∀ x : Int, x = ((j.booked - n.toNat : Nat) : Int) → JTo w p q a (jbl p q a vs vt vn vr) d (j.unbook n) s (w.setCell ⟨p, 10, none⟩ (.int .i64 x)) := fun x hx => by
    have H2 := M1.out.jw.set 10 (.int .i64 x)
    have o2 : Only [p] w (w.setCell ⟨p, 10, none⟩ (.int .i64 x)) := (Only.refl _ _).setCell (by simp) _
    rw [HNO.out]
    refine JM.to M1.out (H2.jm (j := { j with booked := j.booked - n.toNat }) ?_ rfl rfl rfl HJ.out M1.out.here M1.out.at_) (o2.mono (fun k hk => jbl_one hk)) (fun g hg => .inl hg) (fun g hg => .inl hg) (fun g hg => .inl hg) (fun g hg => .inl hg)
    subst hx
    rfl
  have KEY := Lib.hid key
  clear key
  by_cases h1 : (j.booked : Int) - n ≤ 0
  · go_enter Try.func17, Try.ntmps17
    go_wp2_with fail
    all_goals
      go_returns
      exact ⟨rfl, KEY.out _ (by omega)⟩
  · go_enter Try.func17, Try.ntmps17
    go_wp2_with fail
    all_goals
      go_returns
      exact ⟨rfl, KEY.out _ (by omega)⟩

/-! ### met -/
def JL.die (j : JL) (b : Bool) : JL := { j with dead := b }
theorem JOk.die {j : JL} (h : JOk j) (b : Bool) : JOk (j.die b) := ⟨h.pre, h.fl, h.first, h.recs, h.room, h.n2, h.nm, h.note, h.booked, h.at0, h.at1⟩
theorem jmet_any {w : World} {p q : Nat} {a : DA} {vs vt vn vr : Value} {d : Disk} {j : JL} {s : SL} (hm : JM w p q a vs vt vn vr d j s) (c : Int) :
    Calls Try.prog 39 #[.pointer (some ⟨p, 0, none⟩), errV c] w fun e w' => e = .returned (errV c) ∧ JM w' p q a vs vt vn vr d (j.die (decide (c ≠ 0))) s ∧ Only [p] w w' := by
  have M1 := Lib.hid hm
  have c11 := hm.c11
  have f11 := hm.free 11
  clear hm
  have key : ∀ b : Bool, JM (w.setCell ⟨p, 11, none⟩ (.bool b)) p q a vs vt vn vr d (j.die b) s ∧ Only [p] w (w.setCell ⟨p, 11, none⟩ (.bool b)) := fun b =>
    ⟨(M1.out.jw.set 11 (.bool b)).jm rfl rfl rfl rfl (M1.out.ok.die b) M1.out.here M1.out.at_, (Only.refl _ _).setCell (by simp) _⟩
  have KEY := Lib.hid key
  clear key
  have q0 := iface_ne
  have q1 := iface_nerr
  by_cases h : c = 0
  · rw [errV_z h]
    go_enter Try.func39, Try.ntmps39
    go_wp2_with fail
    go_ret
    refine ⟨rfl, ?_⟩
    rw [show decide (c ≠ 0) = false from by simp [h]]
    exact KEY.out false
  · rw [errV_nz h]
    go_enter Try.func39, Try.ntmps39
    go_wp2_with fail
    go_ret
    refine ⟨rfl, ?_⟩
    rw [show decide (c ≠ 0) = true from by simp [h]]
    exact KEY.out true
end Go.Proofs.Ytmjnbpcjpjefeaa

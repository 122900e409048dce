/- A model beside its journal: what each turns leaves the other alone. -/
import Derived.Test.YtfnedeaemjchgaaGreatJf
import Derived.Test.YtfnedeaemjchgaaGreatRU
import Derived.Test.YtfnedeaemjchgaaGreatW3
namespace Go.Proofs.YtfnedeaemjchgaaGreat
open Go.RowKit Go.Maps
set_option linter.unusedSimpArgs false
set_option linter.unusedVariables false

/-- A block that is newer than w0, and none of F. -/
def Nw (w0 : World) (F : List (Nat × Obj)) (k : Nat) : Prop := w0.heap.size ≤ k ∧ ∀ x ∈ F, x.1 ≠ k
theorem Nw.fresh {w0 w : World} {F : List (Nat × Obj)} (ho : w0.heap.size ≤ w.heap.size) (hk : ∀ x ∈ F, w.heap[x.1]? = some x.2) {k : Nat} (h : w.heap.size ≤ k) : Nw w0 F k :=
  ⟨Nat.le_trans ho h, fun x hx e => by
    have := (Array.getElem?_eq_some_iff.1 (hk x hx)).1
    omega⟩
theorem keep_only {w0 w w1 : World} {F : List (Nat × Obj)} {S : List Nat} (ho : Only S w w1) (hs : ∀ k ∈ S, Nw w0 F k) (hk : ∀ x ∈ F, w.heap[x.1]? = some x.2) : ∀ x ∈ F, w1.heap[x.1]? = some x.2 :=
  fun x hx => ho.heap (hk x hx) (fun hm => (hs _ hm).2 x hx rfl)
theorem keep_quiet {w w1 : World} {F : List (Nat × Obj)} (hk : ∀ x ∈ F, w.heap[x.1]? = some x.2) (ho : Only [] w w1) : ∀ x ∈ F, w1.heap[x.1]? = some x.2 :=
  fun x hx => ho.heap (hk x hx) (by simp)
/-- Since w0 a model was made, with its device and its journal; nothing that was there has turned. F: blocks that are neither's, as they stand. -/
structure MS (w0 w : World) (F : List (Nat × Obj)) (m p q : Nat) (a : DA) (d : Disk) (j : JL) (s : SL) (vr vt vm : Value) (gs : List Value) (M : ML) : Prop where
  jn : ∃ B, Jn w p q a B d j s ∧ (∀ k ∈ B, Nw w0 F k) ∧ ∀ k ∈ mbl m vr vt vm gs, k ∉ B
  mm : MM w m a p vr vt vm gs M
  my : OMk w vm M.may
  new : ∀ k ∈ mbl m vr vt vm gs, Nw w0 F k
  only : Only [] w0 w
  keep : ∀ x ∈ F, w.heap[x.1]? = some x.2
theorem mem_mbl {m : Nat} {vr vt vm : Value} {gs : List Value} {k : Nat} : k ∈ mbl m vr vt vm gs ↔ k = m ∨ vr.ownBlock = some k ∨ vt.ownBlock = some k ∨ vm.ownBlock = some k ∨ ∃ g ∈ gs, g.ownBlock = some k := by
  unfold mbl
  simp only [List.mem_append, List.mem_cons, Option.mem_toList, List.mem_filterMap, or_assoc]
section
variable {w0 w w1 : World} {F : List (Nat × Obj)} {m p q : Nat} {a : DA} {d d' : Disk} {j j' : JL} {s s' : SL} {vr vt vm vr' vt' vm' : Value} {gs gs' : List Value} {M M' : ML}
theorem mbl_lt (h : MM w m a p vr vt vm gs M) (hy : OMk w vm M.may) : ∀ k ∈ mbl m vr vt vm gs, k < w.heap.size := by
  intro k hk
  rcases mem_mbl.1 hk with rfl | e | e | e | ⟨g, hg, e⟩
  · exact lt_of_heap h.blk
  · exact (World.ownsRow.lt h.recs k e).2
  · exact (h.starts.lt e).2
  · obtain ⟨c, hc⟩ := hy.blk e
    exact lt_of_heap hc
  · obtain ⟨i, hi⟩ := List.getElem?_of_mem hg
    have hl := (List.getElem?_eq_some_iff.1 hi).1
    obtain ⟨r, hr⟩ : ∃ r, M.recs[i]? = some r := ⟨_, List.getElem?_eq_getElem (by rw [← h.hlen]; exact hl)⟩
    exact ((h.rows i g r hi hr).lt e).2
theorem MS.quiet (h : MS w0 w F m p q a d j s vr vt vm gs M) (ho : Only [] w w1) : MS w0 w1 F m p q a d j s vr vt vm gs M := by
  obtain ⟨⟨B, h1, h2, h3⟩, h4, h5, h6, h7, h8⟩ := h
  exact ⟨⟨B, h1.quiet ho, h2, h3⟩, h4.quiet ho, h5.kept ho (by simp), h6, h7.trans ho (by simp), keep_quiet h8 ho⟩
theorem MS.of {B : List Nat} (h1 : Jn w p q a B d j s) (h2 : ∀ k ∈ B, Nw w0 F k) (h3 : ∀ k ∈ mbl m vr vt vm gs, k ∉ B) (h4 : MM w m a p vr vt vm gs M) (h5 : OMk w vm M.may) (h6 : ∀ k ∈ mbl m vr vt vm gs, Nw w0 F k) (h7 : Only [] w0 w) (h8 : ∀ x ∈ F, w.heap[x.1]? = some x.2)
    (ht : JTo w p q a B d' j' s' w1) : MS w0 w1 F m p q a d' j' s' vr vt vm gs M := by
  have hlt := mbl_lt h4 h5
  obtain ⟨B', g1, g2, g3⟩ := ht
  refine ⟨⟨B', g1, fun k hk => ?_, fun k hk hkb => ?_⟩, h4.kept g2 (fun k hk hm => h3 k hm hk), h5.kept g2 (fun k hk e => h3 k (mem_mbl.2 (.inr (.inr (.inr (.inl e))))) hk), h6, h7.trans g2 (fun k hk => .inr (h2 k hk).1), keep_only g2 h2 h8⟩
  · rcases g3 k hk with e | e
    · exact h2 k e
    · exact Nw.fresh h7.size h8 e
  · rcases g3 k hkb with e | e
    · exact h3 k hk e
    · have := hlt k hk
      omega
/-- The journal has become another. -/
theorem MS.jto (h : MS w0 w F m p q a d j s vr vt vm gs M) (ht : ∀ B, Jn w p q a B d j s → JTo w p q a B d' j' s' w1) : MS w0 w1 F m p q a d' j' s' vr vt vm gs M := by
  obtain ⟨⟨B, h1, h2, h3⟩, h4, h5, h6, h7, h8⟩ := h
  exact MS.of h1 h2 h3 h4 h5 h6 h7 h8 (ht B h1)
/-- A call of the journal. -/
theorem MS.call {f : FuncId} {args : Array Value} {R : Ending → Prop} (h : MS w0 w F m p q a d j s vr vt vm gs M) (ho : Only [] w w1)
    (G : ∀ B, (∀ k ∈ B, k < w.heap.size) → Jn w1 p q a B d j s → Calls Tryz.prog f args w1 fun e w' => R e ∧ JTo w1 p q a B d' j' s' w') :
    Calls Tryz.prog f args w1 fun e w' => R e ∧ MS w0 w' F m p q a d' j' s' vr vt vm gs M := by
  obtain ⟨⟨B, h1, h2, h3⟩, h4, h5, h6, h7, h8⟩ := h
  refine (G B h1.lt (h1.quiet ho)).mono fun e w' g => ⟨g.1, ?_⟩
  exact MS.of (h1.quiet ho) h2 h3 (h4.quiet ho) (h5.kept ho (by simp)) h6 (h7.trans ho (by simp)) (keep_quiet h8 ho) g.2
/-- The model has become another, in its blocks and new ones. -/
theorem MS.mto {S : List Nat} (h : MS w0 w F m p q a d j s vr vt vm gs M) (ho : Only S w w1) (hs : ∀ k ∈ S, k ∈ mbl m vr vt vm gs) (hm : MM w1 m a p vr' vt' vm' gs' M') (hy : OMk w1 vm' M'.may)
    (hb : ∀ k ∈ mbl m vr' vt' vm' gs', k ∈ mbl m vr vt vm gs ∨ w.heap.size ≤ k) : MS w0 w1 F m p q a d j s vr' vt' vm' gs' M' := by
  obtain ⟨⟨B, h1, h2, h3⟩, h4, h5, h6, h7, h8⟩ := h
  refine ⟨⟨B, h1.kept ho (fun k hk => h3 k (hs k hk)), h2, fun k hk hkb => ?_⟩, hm, hy, fun k hk => ?_, h7.trans ho (fun k hk => .inr (h6 k (hs k hk)).1), keep_only ho (fun k hk => h6 k (hs k hk)) h8⟩
  · rcases hb k hk with e | e
    · exact h3 k e hkb
    · have := h1.lt k hkb
      omega
  · rcases hb k hk with e | e
    · exact h6 k e
    · exact Nw.fresh h7.size h8 e
theorem MS.jm (h : MS w0 w F m p q a d j s vr vt vm gs M) : ∃ vs vt' vn vr', JM w p q a vs vt' vn vr' d j s := by
  obtain ⟨⟨B, h1, _⟩, _⟩ := h
  exact h1.jm
theorem MS.ok (h : MS w0 w F m p q a d j s vr vt vm gs M) : JOk j := by
  obtain ⟨_, _, _, _, hm⟩ := h.jm
  exact hm.ok
theorem MS.dev (h : MS w0 w F m p q a d j s vr vt vm gs M) : Dev w a d := by
  obtain ⟨_, _, _, _, hm⟩ := h.jm
  exact hm.dev
/-- The device below it has become another. -/
theorem MS.turn (h : MS w0 w F m p q a d j s vr vt vm gs M) (ho : Only a.bl w w1) (hd : Dev w1 a d') (hz : d'.size = d.size) : MS w0 w1 F m p q a d' j s vr vt vm gs M := by
  refine h.jto (fun B hB => ?_)
  obtain ⟨vs, vt, vn, vr, hm, rfl⟩ := hB
  exact ⟨_, ⟨vs, vt, vn, vr, hm.setD ho hd hz, rfl⟩, ho.mono (fun k hk => jbl_dev hk), fun k hk => .inl hk⟩
/-- A block that was made since is left alone from now on. -/
theorem MS.add (h : MS w0 w F m p q a d j s vr vt vm gs M) (ho : Only [] w w1) {g : Nat} {o : Obj} (hg : w.heap.size ≤ g) (hc : w1.heap[g]? = some o) : MS w0 w1 ((g, o) :: F) m p q a d j s vr vt vm gs M := by
  have hlt := mbl_lt h.mm h.my
  obtain ⟨⟨B, h1, h2, h3⟩, h4, h5, h6, h7, h8⟩ := h
  refine ⟨⟨B, h1.quiet ho, fun k hk => ⟨(h2 k hk).1, fun x hx => ?_⟩, h3⟩, h4.quiet ho, h5.kept ho (by simp), fun k hk => ⟨(h6 k hk).1, fun x hx => ?_⟩, h7.trans ho (by simp), fun x hx => ?_⟩
  · rcases List.mem_cons.1 hx with rfl | hx
    · have := h1.lt k hk
      show g ≠ k
      omega
    · exact (h2 k hk).2 x hx
  · rcases List.mem_cons.1 hx with rfl | hx
    · have := hlt k hk
      show g ≠ k
      omega
    · exact (h6 k hk).2 x hx
  · rcases List.mem_cons.1 hx with rfl | hx
    · exact hc
    · exact ho.heap (h8 x hx) (by simp)
/-- Blocks of F turn. -/
theorem MS.over {F' : List (Nat × Obj)} (h : MS w0 w F m p q a d j s vr vt vm gs M) {S : List Nat} (ho : Only S w w1) (hs : ∀ k ∈ S, w0.heap.size ≤ k ∧ ∃ o, (k, o) ∈ F) (hF : ∀ x ∈ F', x ∈ F ∧ x.1 ∉ S) : MS w0 w1 F' m p q a d j s vr vt vm gs M := by
  obtain ⟨⟨B, h1, h2, h3⟩, h4, h5, h6, h7, h8⟩ := h
  refine ⟨⟨B, h1.kept ho (fun k hk hb => ?_), fun k hk => ⟨(h2 k hk).1, fun x hx => (h2 k hk).2 x (hF x hx).1⟩, h3⟩, h4.kept ho (fun k hk hb => ?_), h5.kept ho (fun k hk e => ?_), fun k hk => ⟨(h6 k hk).1, fun x hx => (h6 k hk).2 x (hF x hx).1⟩, h7.trans ho (fun k hk => .inr (hs k hk).1), fun x hx => ho.heap (h8 x (hF x hx).1) (hF x hx).2⟩
  · obtain ⟨_, o, hf⟩ := hs k hk
    exact (h2 k hb).2 _ hf rfl
  · obtain ⟨_, o, hf⟩ := hs k hk
    exact (h6 k hb).2 _ hf rfl
  · obtain ⟨_, o, hf⟩ := hs k hk
    exact (h6 k (mem_mbl.2 (.inr (.inr (.inr (.inl e)))))).2 _ hf rfl
end
end Go.Proofs.YtfnedeaemjchgaaGreat
/- The journal's calls beside a model. -/
namespace Go.Proofs.YtfnedeaemjchgaaGreat
open Go.RowKit Go.Maps
set_option linter.unusedSimpArgs false
set_option linter.unusedVariables false

section
variable {w0 w w1 : World} {F : List (Nat × Obj)} {m p q : Nat} {a : DA} {d : Disk} {j : JL} {s : SL} {vr vt vm : Value} {gs : List Value} {M : ML}
theorem append_ms (h : MS w0 w F m p q a d j s vr vt vm gs M) (ho : Only [] w w1) (hb : JBig j) (v : Value) (r : Sec) (hr : Bytes w1 v r) (hf : Fresh w v) (hl : r.length ≤ 9223372036854775807) :
    Calls Tryz.prog 17 #[.pointer (some ⟨p, 0, none⟩), v] w1 fun e w' => e = .returned (.tuple #[.int .i64 (j.anum r (j.free - j.booked)), errV (j.acode r (j.free - j.booked))]) ∧ MS w0 w' F m p q a d (j.added r (j.free - j.booked)) s vr vt vm gs M :=
  h.call (R := fun e => e = .returned (.tuple #[.int .i64 (j.anum r (j.free - j.booked)), errV (j.acode r (j.free - j.booked))])) ho (fun B hlt hj => (jappend_any hj hb v r hr (fun ad n c e _ hm => by
    have := hlt _ hm
    have := hf ad n c e
    omega) hl).mono fun e w' g => ⟨g.1, g.2⟩)
theorem spend_ms (h : MS w0 w F m p q a d j s vr vt vm gs M) (ho : Only [] w w1) (hb : JBig j) (v : Value) (r : Sec) (hr : Bytes w1 v r) (hf : Fresh w v) (hl : r.length ≤ 9223372036854775807) :
    Calls Tryz.prog 23 #[.pointer (some ⟨p, 0, none⟩), v] w1 fun e w' => e = .returned (.tuple #[.int .i64 (j.anum r j.free), errV (j.acode r j.free)]) ∧ MS w0 w' F m p q a d (j.added r j.free) s vr vt vm gs M :=
  h.call (R := fun e => e = .returned (.tuple #[.int .i64 (j.anum r j.free), errV (j.acode r j.free)])) ho (fun B hlt hj => (jspend_any hj hb v r hr (fun ad n c e _ hm => by
    have := hlt _ hm
    have := hf ad n c e
    omega) hl).mono fun e w' g => ⟨g.1, g.2⟩)
theorem trim_ms (h : MS w0 w F m p q a d j s vr vt vm gs M) (ho : Only [] w w1) (hb : JBig j) (x : Int) (v : Value) (r : Sec) (hr : Bytes w1 v r) (hf : Fresh w v) (hl : r.length ≤ 9223372036854775807) :
    Calls Tryz.prog 18 #[.pointer (some ⟨p, 0, none⟩), .int .i64 x, v] w1 fun e w' => e = .returned (errV (j.trimR d s x r).c) ∧ MS w0 w' F m p q a (j.trimR d s x r).d (j.trimR d s x r).j (j.trimR d s x r).s vr vt vm gs M :=
  h.call (R := fun e => e = .returned (errV (j.trimR d s x r).c)) ho (fun B hlt hj => (jtrim_any hj hb x v r hr (fun ad n c e _ hm => by
    have := hlt _ hm
    have := hf ad n c e
    omega) hl).mono fun e w' g => ⟨g.1, g.2⟩)
theorem flush_ms (h : MS w0 w F m p q a d j s vr vt vm gs M) (hb : JBig j) :
    Calls Tryz.prog 12 #[.pointer (some ⟨p, 0, none⟩)] w fun e w' => e = .returned (errV (j.flushR d s).c) ∧ MS w0 w' F m p q a (j.flushR d s).d (j.flushR d s).j (j.flushR d s).s vr vt vm gs M :=
  h.call (R := fun e => e = .returned (errV (j.flushR d s).c)) (Only.refl _ _) (fun B hlt hj => by
    obtain ⟨vs, vt, vn, vr, hm, rfl⟩ := hj
    exact (jflush_any hm hb).mono fun e w' g => ⟨g.ans, (RPost.to hm g).2⟩)
theorem book_ms (h : MS w0 w F m p q a d j s vr vt vm gs M) (n : Int) :
    Calls Tryz.prog 26 #[.pointer (some ⟨p, 0, none⟩), .int .i64 n] w fun e w' => e = .returned (errV (j.bcode n)) ∧ MS w0 w' F m p q a d (j.book n) s vr vt vm gs M :=
  h.call (R := fun e => e = .returned (errV (j.bcode n))) (Only.refl _ _) (fun B hlt hj => (jbook_any hj n).mono fun e w' g => ⟨g.1, g.2⟩)
theorem unbook_ms (h : MS w0 w F m p q a d j s vr vt vm gs M) (n : Int) (hn : n ≤ 9223372036854775807) :
    Calls Tryz.prog 28 #[.pointer (some ⟨p, 0, none⟩), .int .i64 n] w fun e w' => e = .returned (.tuple #[]) ∧ MS w0 w' F m p q a d (j.unbook n) s vr vt vm gs M :=
  h.call (R := fun e => e = .returned (.tuple #[])) (Only.refl _ _) (fun B hlt hj => (junbook_any hj n hn).mono fun e w' g => ⟨g.1, g.2⟩)
theorem arm_ms (h : MS w0 w F m p q a d j s vr vt vm gs M) (n : Int) (hn : 0 ≤ n) :
    Calls Tryz.prog 10 #[.pointer (some ⟨a.p, 0, none⟩), .int .i64 n] w fun e w' => e = .returned .nilIface ∧ MS w0 w' F m p q a { d with met := d.met.arm n } j s vr vt vm gs M :=
  (arm_all n h.dev hn).mono fun e w' ⟨h1, h2, h3⟩ => ⟨h1, h.turn h3 h2 rfl⟩
theorem MS.bl (h : MS w0 w F m p q a d j s vr vt vm gs M) : (∀ k ∈ a.bl, Nw w0 F k ∧ k < w.heap.size) ∧ ∀ k ∈ mbl m vr vt vm gs, k ∉ a.bl := by
  obtain ⟨⟨B, hj, h2, h3⟩, _, _, _, _, _⟩ := h
  have hlt := hj.lt
  obtain ⟨vs, vt', vn, vr', hm, rfl⟩ := hj
  exact ⟨fun k hk => ⟨h2 k (jbl_dev hk), hlt k (jbl_dev hk)⟩, fun k hk hb => h3 k hk (jbl_dev hb)⟩
theorem crash_ms (h : MS w0 w F m p q a d j s vr vt vm gs M) (ho : Only [] w w1) (kv : Value) (ks : List Int) (hk : IntsV w1 kv ks) (hf : Fresh w kv) (hl : ks.length ≤ 9223372036854775807) :
    Calls Tryz.prog 42 #[.pointer (some ⟨a.p, 0, none⟩), kv] w1 fun e w' => e = .returned (.tuple #[]) ∧ MS w0 w' F m p q a (d.crash ks) j s vr vt vm gs M ∧ Only a.bl w1 w' := by
  have hb := h.bl
  have h1 := h.quiet ho
  refine (Crash_any a d kv ks w1 h1.dev hk (fun ad n c e _ hm => ?_) hl).mono fun e w' ⟨k1, k2, k3⟩ => ⟨k1, h1.turn k3 k2 rfl, k3⟩
  have := hf ad n c e
  have := (hb.1 _ hm).2
  omega
/-- An Open beside the model: another journal over the same device; the old one is left. -/
theorem open_ms {n first start : Nat} {recs : List Sec} {note : Sec} {s0 : SL} (h : MS w0 w F m p q a d j s vr vt vm gs M) (hdn : d.met.down = false) (hj : JHolds d s0 1 n first start recs note) (hnext : first + recs.length ≤ 1152921504606846976) (hfin : start + (flat recs).length ≤ 1152921504606846976) :
    Calls Tryz.prog 43 #[.pointer (some ⟨a.p, 0, none⟩), .int .i64 1, .int .i64 n] w fun e w' => ∃ p2 q2 B, e = .returned (.tuple #[.pointer (some ⟨p2, 0, none⟩), .nilIface]) ∧
      Jn w' p2 q2 a B d (JL.opened 1 n first start recs note) ⟨1, s0.n, s0.row, false⟩ ∧ Only [] w w' ∧ (∀ k ∈ B, Nw w0 F k) ∧ (∀ k ∈ mbl m vr vt vm gs, k ∉ B) := by
  have hb := h.bl
  have hlt := mbl_lt h.mm h.my
  refine (jopen_any h.dev hdn hj hnext hfin).mono ?_
  rintro e w' ⟨p2, q2, B, rfl, h1, h2, h3⟩
  refine ⟨p2, q2, B, rfl, h1, h2, fun k hk => ?_, fun k hk hkb => ?_⟩
  · rcases h3 k hk with e | e
    · exact (hb.1 k e).1
    · exact Nw.fresh h.only.size h.keep e
  · rcases h3 k hkb with e | e
    · exact hb.2 k hk e
    · have := hlt k hk
      omega
end
end Go.Proofs.YtfnedeaemjchgaaGreat
/- A model's crash: what stands while it looks which of the journals that may be is there. -/
namespace Go.Proofs.YtfnedeaemjchgaaGreat
open Go.RowKit Go.Maps
set_option linter.unusedSimpArgs false
set_option linter.unusedVariables false

section
variable {w w1 : World} {p q : Nat} {a : DA} {B : List Nat} {d : Disk} {j : JL} {s : SL}
theorem first_jn (h : Jn w p q a B d j s) : Calls Tryz.prog 19 #[.pointer (some ⟨p, 0, none⟩)] w fun e w' => e = .returned (.int .i64 j.first) ∧ w = w' := by
  obtain ⟨vs, vt, vn, vr, hm, -⟩ := h
  exact jfirst_any hm
theorem next_jn (h : Jn w p q a B d j s) (hb : JBig j) : Calls Tryz.prog 20 #[.pointer (some ⟨p, 0, none⟩)] w fun e w' => e = .returned (.int .i64 j.next) ∧ Only [] w w' := by
  obtain ⟨vs, vt, vn, vr, hm, -⟩ := h
  exact (jnext_any hm hb).mono fun e w' ⟨h1, h2⟩ => ⟨h1, h2.only⟩
theorem note_jn (h : Jn w p q a B d j s) (l : Sec) (hl : j.note = l) : Calls Tryz.prog 21 #[.pointer (some ⟨p, 0, none⟩)] w fun e w' => ∃ b c, e = .returned (.slice b l.length c) ∧ Own w' w.heap.size (.slice b l.length c) l ∧ Only [] w w' := by
  obtain ⟨vs, vt, vn, vr, hm, -⟩ := h
  exact jnote_any hm l hl
end
/-- A model, and beside it a journal that was opened, and the marks that are looked through. -/
structure CS (w0 w : World) (F : List (Nat × Obj)) (m p : Nat) (a : DA) (vr vt vm : Value) (gs : List Value) (M : ML) (p2 q2 : Nat) (B : List Nat) (d : Disk) (j : JL) (s : SL) (mv : Value) (ms : List (Nat × Sec)) : Prop where
  jn : Jn w p2 q2 a B d j s
  newB : ∀ k ∈ B, Nw w0 F k
  off : ∀ k ∈ mbl m vr vt vm gs, k ∉ B
  mm : MM w m a p vr vt vm gs M
  new : ∀ k ∈ mbl m vr vt vm gs, Nw w0 F k
  only : Only [] w0 w
  mks : OMk w mv ms
  keep : ∀ x ∈ F, w.heap[x.1]? = some x.2
section
variable {w0 w w1 : World} {F : List (Nat × Obj)} {m p : Nat} {a : DA} {vr vt vm : Value} {gs : List Value} {M M' : ML} {p2 q2 : Nat} {B : List Nat} {d : Disk} {j : JL} {s : SL} {mv : Value} {ms : List (Nat × Sec)}
theorem CS.quiet (h : CS w0 w F m p a vr vt vm gs M p2 q2 B d j s mv ms) (ho : Only [] w w1) : CS w0 w1 F m p a vr vt vm gs M p2 q2 B d j s mv ms :=
  ⟨h.jn.quiet ho, h.newB, h.off, h.mm.quiet ho, h.new, h.only.trans ho (by simp), h.mks.kept ho (by simp), keep_quiet h.keep ho⟩
theorem CS.mne (h : CS w0 w F m p a vr vt vm gs M p2 q2 B d j s mv ms) : mv.ownBlock ≠ some m := fun e => absurd (h.mks.ty e h.mm.blk) (by decide)
/-- The model's own cells have turned. -/
theorem CS.turn (h : CS w0 w F m p a vr vt vm gs M p2 q2 B d j s mv ms) (ho : Only [m] w w1) (hr : M'.recs = M.recs)
    (hb : w1.heap[m]? = some (.cells #[.pointer (some ⟨a.p, 0, none⟩), .int .i64 M'.n, .pointer (some ⟨p, 0, none⟩), vr, vt, .int .i64 M'.first, .string (strOf M'.note), .int .i64 M'.sure, .int .i64 M'.booked, .bool M'.dead, vm] 44 (0, 0))) : CS w0 w1 F m p a vr vt vm gs M' p2 q2 B d j s mv ms := by
  have hmm : m ∈ mbl m vr vt vm gs := mem_mbl.2 (.inl rfl)
  refine ⟨h.jn.kept ho (fun k hk => ?_), h.newB, h.off, h.mm.turn ho hr hb, h.new, h.only.trans ho (fun k hk => .inr ?_), h.mks.kept ho (fun k hk e => ?_), keep_only ho (fun k hk => by rw [List.mem_singleton.1 hk]; exact h.new m hmm) h.keep⟩
  · rw [List.mem_singleton.1 hk]
    exact h.off m hmm
  · rw [List.mem_singleton.1 hk]
    exact (h.new m hmm).1
  · rw [List.mem_singleton.1 hk] at e
    exact h.mne e
end
/-- The model midway through the marks: it begins where the journal does as soon as that was met. -/
def ML.seen (M : ML) (jm : Nat × Sec) (b : Bool) : ML := if b = true then { M with first := jm.1, note := jm.2 } else M
theorem ML.seen_true (M : ML) (jm : Nat × Sec) : M.seen jm true = { M with first := jm.1, note := jm.2 } := rfl
theorem ML.seen_false (M : ML) (jm : Nat × Sec) : M.seen jm false = M := rfl
theorem ML.seen_recs (M : ML) (jm : Nat × Sec) (b : Bool) : (M.seen jm b).recs = M.recs := by cases b <;> rfl
theorem ML.seen_note (M : ML) (jm : Nat × Sec) (b : Bool) : { M.seen jm b with first := jm.1, note := jm.2 } = M.seen jm true := by cases b <;> rfl
/-- Rows cut. -/
theorem MM.cut {w : World} {m p : Nat} {a : DA} {vr vt vm : Value} {gs : List Value} {M : ML} (h : MM w m a p vr vt vm gs M) (k : Nat) (hk : k ≤ M.recs.length) :
    ∃ ra rc ta tc, vr = .slice ra gs.length rc ∧ vt = .slice ta (M.recs.length + 1) tc ∧ gs.length = M.recs.length ∧ k ≤ rc ∧ k + 1 ≤ tc ∧ w.ownsRow 0 27 1 (.slice ra k rc) (gs.take k).length (gs.take k) ∧ OwnI w 0 (.slice ta (k + 1) tc) (msts (M.recs.take k)) ∧
      (Value.slice ra k rc).ownBlock = vr.ownBlock ∧ (Value.slice ta (k + 1) tc).ownBlock = vt.ownBlock := by
  have hl := h.hlen
  have hgk : (gs.take k).length = k := by rw [List.length_take]; omega
  have hmt : (msts M.recs).take (k + 1) = msts (M.recs.take k) := by
    apply List.ext_getElem?
    intro i
    by_cases hi : i ≤ k
    · rw [List.getElem?_take_of_lt (by omega), msts_get _ (by omega), msts_get _ (by rw [List.length_take]; omega), pos_take _ hi]
    · rw [List.getElem?_eq_none (by rw [List.length_take, msts_length]; omega), List.getElem?_eq_none (by rw [msts_length, List.length_take]; omega)]
  obtain ⟨hs1, hs2⟩ := h.starts
  have hml := msts_length M.recs
  obtain ⟨ta, tc, ht, htc, ho⟩ : ∃ ta tc, vt = .slice ta (M.recs.length + 1) tc ∧ k + 1 ≤ tc ∧ OwnI w 0 (.slice ta (k + 1) tc) (msts (M.recs.take k)) := by
    rcases hs1.2 with ⟨_, hn⟩ | ⟨g, cap, cur, rfl, hb, hg, hc, hm, hz, ht⟩
    · rw [hml] at hn
      omega
    · rw [hml] at hc ht ⊢
      refine ⟨_, _, rfl, by omega, ⟨?_, .inr ⟨g, cap, cur, ?_, hb, hg, ?_, hm, hz, ?_⟩⟩, fun x hx => hs2 x (List.mem_of_mem_take (by rw [hmt]; exact hx))⟩
      · rw [iv_length, Nat.mul_one]
      · rw [msts_length, List.length_take, Nat.min_eq_left hk]
      · rw [msts_length, List.length_take]
        omega
      · rw [msts_length, List.length_take, Nat.min_eq_left hk, Nat.mul_one]
        rw [Nat.mul_one] at ht
        rw [← hmt]
        have : cur.toList.take (k + 1) = (cur.toList.take (M.recs.length + 1)).take (k + 1) := by rw [List.take_take, Nat.min_eq_left (by omega)]
        rw [this, ht]
        simp [iv, List.map_take]
  rcases h.recs.2 with ⟨rfl, hn⟩ | ⟨g, cap, cur, rfl, hb, hg, hc, hm, hz, htk⟩
  · obtain rfl : k = 0 := by omega
    refine ⟨none, 0, ta, tc, by rw [hn], ht, hl, by omega, htc, ?_, ho, rfl, by subst ht; cases ta <;> rfl⟩
    simp
    exact World.ownsRow_nil w 0 _ 1
  · refine ⟨_, cap, ta, tc, rfl, ht, hl, by omega, htc, ?_, ho, rfl, by subst ht; cases ta <;> rfl⟩
    rw [hgk]
    refine ⟨by rw [hgk, Nat.mul_one], .inr ⟨g, cap, cur, rfl, hb, hg, by omega, hm, hz, ?_⟩⟩
    rw [Nat.mul_one] at htk ⊢
    have : cur.toList.take k = (cur.toList.take gs.length).take k := by rw [List.take_take, Nat.min_eq_left (by omega)]
    rw [this, htk]
end Go.Proofs.YtfnedeaemjchgaaGreat
/- A model's crash, to where it knows what is there. -/
namespace Go.Proofs.YtfnedeaemjchgaaGreat
open Go.RowKit Go.Maps
set_option linter.unusedSimpArgs false
set_option linter.unusedVariables false

theorem elem_rows' : Tryz.prog.underlying 39 = some (.slice (Tryz.prog.elem 39)) := by kernel_rfl
theorem size_bytes' (w : World) : (sizeOf (Tryz.prog.elem 39)).run Tryz.prog w = .ok 1 w := by kernel_rfl
theorem rows_to (ra : Option Addr) (n rc k : Nat) (h : k ≤ rc) (x : Int) (hx : x = k) (w : World) : (Instr.sliceAt 39 (.slice ra n rc) none (some (.int .i64 x)) none).run Tryz.prog w = .ok (.slice ra k rc) w := by
  subst hx
  rw [run_sliceAt_slice w _ _ _ _ _ elem_rows', run_slice_h w _ _ _ _ elem_rows' .i64 (k : Int) (by omega) (by omega), size_bytes']
  cases ra <;> simp [Result.andThen, sliced, Addr.add]
theorem ints_to (ra : Option Addr) (n rc k : Nat) (h : k ≤ rc) (x : Int) (hx : x = k) (w : World) : (Instr.sliceAt 28 (.slice ra n rc) none (some (.int .i64 x)) none).run Tryz.prog w = .ok (.slice ra k rc) w := by
  subst hx
  rw [run_sliceAt_slice w _ _ _ _ _ elem_ints, run_slice_h w _ _ _ _ elem_ints .i64 (k : Int) (by omega) (by omega), size_int]
  cases ra <;> simp [Result.andThen, sliced, Addr.add]
theorem str_eq' {A B : ByteArray} {a b : Sec} (hA : A = strOf a) (hB : B = strOf b) : (A.toList == B.toList) = decide (a = b) := by
  by_cases h : a = b
  · subst h
    rw [hA, hB]
    simp
  · rw [str_ne hA hB h]
    simp [h]
/-- A model whose records were cut, over another journal. -/
theorem MM.cutTo {w w1 : World} {m p p2 : Nat} {a : DA} {vr vt vm vm' : Value} {gs : List Value} {M M' : ML} (h : MM w m a p vr vt vm gs M) (k : Nat) (hk : k ≤ M.recs.length) (ra : Option Addr) (rc : Nat) (ta : Option Addr) (tc : Nat)
    (hvr : vr = .slice ra gs.length rc) (hvt : vt = .slice ta (M.recs.length + 1) tc) (ho : Only [m] w w1) (hr : M'.recs = M.recs.take k)
    (hb : w1.heap[m]? = some (.cells #[.pointer (some ⟨a.p, 0, none⟩), .int .i64 M'.n, .pointer (some ⟨p2, 0, none⟩), .slice ra k rc, .slice ta (k + 1) tc, .int .i64 M'.first, .string (strOf M'.note), .int .i64 M'.sure, .int .i64 M'.booked, .bool M'.dead, vm'] 44 (0, 0))) :
    MM w1 m a p2 (.slice ra k rc) (.slice ta (k + 1) tc) vm' (gs.take k) M' := by
  obtain ⟨ra', rc', ta', tc', e1, e2, hgl, hkrc, hktc, hnr, hnt, hob, hot⟩ := h.cut k hk
  have e1' := hvr.symm.trans e1
  have e2' := hvt.symm.trans e2
  injection e1' with e3 e4 e5
  injection e2' with e6 e7 e8
  subst e3 e5 e6 e8
  refine ⟨hb, own_kept hnr ho (fun j hj e => ?_), by rw [hr, List.length_take, List.length_take, hgl], fun i g r hg hr' => ?_, ?_⟩
  · obtain rfl := List.mem_singleton.1 hj
    rw [hob] at e
    exact absurd (owns_ty h.recs e h.blk) (by decide)
  · have hi : i < k := by
      have := (List.getElem?_eq_some_iff.1 hg).1
      rw [List.length_take] at this
      omega
    rw [List.getElem?_take_of_lt hi] at hg
    rw [hr, List.getElem?_take_of_lt hi] at hr'
    refine (h.rows i g r hg hr').kept ho (fun j hj e => ?_)
    obtain rfl := List.mem_singleton.1 hj
    exact absurd (owns_ty (h.rows i g r hg hr') e h.blk) (by decide)
  · rw [hr]
    refine hnt.kept ho (fun j hj e => ?_)
    obtain rfl := List.mem_singleton.1 hj
    rw [hot] at e
    exact absurd (owns_ty h.starts.1 e h.blk) (by decide)
theorem mbl_cut {m : Nat} {vr vt vm va vb : Value} {gs : List Value} (k : Nat) (h1 : va.ownBlock = vr.ownBlock) (h2 : vb.ownBlock = vt.ownBlock) : ∀ x ∈ mbl m va vb (.slice none 0 0) (gs.take k), x ∈ mbl m vr vt vm gs := by
  intro x hx
  rcases mem_mbl.1 hx with e | e | e | e | ⟨g, hg, e⟩
  · exact mem_mbl.2 (.inl e)
  · exact mem_mbl.2 (.inr (.inl (h1 ▸ e)))
  · exact mem_mbl.2 (.inr (.inr (.inl (h2 ▸ e))))
  · cases e
  · exact mem_mbl.2 (.inr (.inr (.inr (.inr ⟨g, List.mem_of_mem_take hg, e⟩))))
section
variable {w0 w : World} {F : List (Nat × Obj)} {m p q : Nat} {a : DA} {d : Disk} {j : JL} {s : SL} {vr vt vm kv : Value} {gs : List Value} {M : ML} {N : Int} {ks : List Int}
set_option maxRecDepth 100000 in
set_option maxHeartbeats 4000000 in
theorem mcrash_any (h : MS w0 w F m p q a d j s vr vt vm gs M) (r : MR N d s j M) (hrec : M.recs.length ≤ 1048575) (hflat : (flat M.recs).length ≤ 1048576000000) (hmay : M.may.length ≤ 1048575) (hk : IntsV w kv ks) (hkl : ks.length ≤ 1099511627776) :
    Calls Tryz.prog 13 #[.pointer (some ⟨m, 0, none⟩), kv] w fun e w' => e = .returned (.bool true) ∧ ∃ p2 q2 j2 s2 vr' vt' gs' M', MS w0 w' F m p2 q2 a (d.crash ks) j2 s2 vr' vt' (.slice none 0 0) gs' M' ∧ MR N (d.crash ks) s2 j2 M' ∧
      M'.n = M.n ∧ (∃ k, k ≤ M.recs.length ∧ M'.recs = M.recs.take k) ∧ M'.booked = 0 ∧ M'.dead = false ∧ M'.may = [] := by
  obtain ⟨s0, jm, k, hjm, hsure, hkr, hjm1, hjmk, hold, hmr⟩ := (r.crash h.ok ks).opened rfl
  have hn2 : 2 ≤ M.n := hold.n2
  have hnm : M.n ≤ 2048 := hold.nm
  have hpos := pos_le M.recs (jm.1 - 1)
  obtain ⟨ka, kc, rfl, -⟩ := id hk
  have H := Lib.hid h
  have HK := Lib.hid hk
  have HOLD := Lib.hid hold
  have HMR := Lib.hid hmr
  have HJM := Lib.hid hjm
  have hrl : ((M.recs.take k).drop (jm.1 - 1)).length = k - (jm.1 - 1) := by rw [List.length_drop, List.length_take]; omega
  have hnext : jm.1 + ((M.recs.take k).drop (jm.1 - 1)).length = k + 1 := by omega
  have hfl : pos M.recs (jm.1 - 1) + (flat ((M.recs.take k).drop (jm.1 - 1))).length ≤ (flat M.recs).length := by
    have h1 := pos_add (M.recs.take k) (jm.1 - 1) ((M.recs.take k).drop (jm.1 - 1)).length
    have h2 := pos_take M.recs (i := jm.1 - 1) (k := k) (by omega)
    have h3 : pos ((M.recs.take k).drop (jm.1 - 1)) ((M.recs.take k).drop (jm.1 - 1)).length = (flat ((M.recs.take k).drop (jm.1 - 1))).length := pos_all (Nat.le_refl _)
    have h4 := pos_le (M.recs.take k) (jm.1 - 1 + ((M.recs.take k).drop (jm.1 - 1)).length)
    have h5 : (flat (M.recs.take k)).length ≤ (flat M.recs).length := by
      have := pos_le M.recs k
      unfold pos at this
      exact this
    rw [h2, h3] at h1
    omega
  have hbig : JBig (JL.opened 1 M.n jm.1 (pos M.recs (jm.1 - 1)) ((M.recs.take k).drop (jm.1 - 1)) jm.2) := ⟨by show pos M.recs (jm.1 - 1) + (flat ((M.recs.take k).drop (jm.1 - 1))).length ≤ _; omega, by show jm.1 + ((M.recs.take k).drop (jm.1 - 1)).length ≤ _; omega⟩
  have HBIG := Lib.hid hbig
  have HNEXT := Lib.hid (show (JL.opened 1 M.n jm.1 (pos M.recs (jm.1 - 1)) ((M.recs.take k).drop (jm.1 - 1)) jm.2).next = k + 1 from hnext)
  have HFL := Lib.hid hfl
  have HN1 := Lib.hid (show jm.1 + ((M.recs.take k).drop (jm.1 - 1)).length ≤ 1152921504606846976 by omega)
  have HN2 := Lib.hid (show pos M.recs (jm.1 - 1) + (flat ((M.recs.take k).drop (jm.1 - 1))).length ≤ 1152921504606846976 by omega)
  have q1 := iface_ne
  have q3 := iface_nil
  clear h r hk hold hmr hjm hnext hfl hbig hrl hpos
  go_enter Tryz.func13, Tryz.ntmps13
  go_wp2_with (
    refine wpList_append_ints rfl (.tmp 11) (.tmp 12) rfl w.heap.size _ [] (by rfl) (OwnI.made0 w) _ ks (by rfl) (HK.out.kept ((Only.refl [] w).alloc _) (fun _ _ _ _ _ => by simp)) ks.length (by simp) ks rfl (by omega) (by simp) ?_
    intro a' cap w2 h2 e2
    have o2 : Only [] w w2 := ((Only.refl [] w).alloc _).trans e2.only (fun g hg => .inr (by simp [Value.ownBlock] at hg; omega))
    have c0 : w2.cell? ⟨m, 0, none⟩ = some (.pointer (some ⟨a.p, 0, none⟩)) := cell_at 0 (H.out.quiet o2).mm.blk)
  have hf2 : Fresh w (.slice a' ks.length cap) := fun ad n c e => by
    cases e
    exact (h2.lt (k := ad.block) rfl).1
  have H2 := Lib.hid (H.out.quiet o2)
  have KC := crash_ms H.out o2 (.slice a' ks.length cap) ks h2.ints hf2 (by omega)
  clear h2 e2 o2 hf2 HK
  go_wp2_with fail
  refine KC.mono ?_
  rintro e w3 ⟨rfl, h3, -⟩
  have H3 := Lib.hid h3
  clear KC h3 H2 c0 H
  go_wp2_with fail
  have o4 : Only [] w3 w3.drew := (Only.refl [] w3).drew
  have H4 := Lib.hid (H3.out.quiet o4)
  have c0 : w3.drew.cell? ⟨m, 0, none⟩ = some (.pointer (some ⟨a.p, 0, none⟩)) := cell_at 0 H4.out.mm.blk
  have c1 : w3.drew.cell? ⟨m, 1, none⟩ = some (.int .i64 M.n) := cell_at 1 H4.out.mm.blk
  refine wp_region_held_drew (S := fun w' => w'.cell? ⟨m, 0, none⟩ = some (.pointer (some ⟨a.p, 0, none⟩)) ∧ w'.cell? ⟨m, 1, none⟩ = some (.int .i64 M.n)) (by kernel_rfl) ⟨c0, c1⟩ (fun hH => ?_)
  clear o4 c0 c1 H3
  generalize w3.drew = w4 at H4 hH ⊢
  refine take_list (i := 0) (v := ?_) rfl (by kernel_rfl) (by kernel_rfl) (by kernel_rfl) (fun _ _ _ h => h) (Or.inl ⟨by rfl, ?_⟩) hH ?_
  rotate_left
  · ((intro w hSw; (try dsimp only at hSw); go_simp); try with_reducible rfl)
  simp only [Act.put, List.setIfInBounds_toArray, List.set_cons_zero, List.set_cons_succ]
  refine take_list (i := 1) (v := ?_) rfl (by kernel_rfl) (by kernel_rfl) (by kernel_rfl) (fun _ _ _ h => h) (Or.inl ⟨by rfl, ?_⟩) hH ?_
  rotate_left
  · ((intro w hSw; (try dsimp only at hSw); go_simp); try with_reducible rfl)
  simp only [Act.put, List.setIfInBounds_toArray, List.set_cons_zero, List.set_cons_succ]
  refine take_list (i := 2) (v := ?_) rfl (by kernel_rfl) (by kernel_rfl) (by kernel_rfl) (fun _ _ _ h => h) (Or.inl ⟨by rfl, ?_⟩) hH ?_
  rotate_left
  · ((intro w hSw; (try dsimp only at hSw); go_simp); try with_reducible rfl)
  simp only [Act.put, List.setIfInBounds_toArray, List.set_cons_zero, List.set_cons_succ]
  refine take_list (i := 3) (v := ?_) rfl (by kernel_rfl) (by kernel_rfl) (by kernel_rfl) (fun _ _ _ h => h) (Or.inl ⟨by rfl, ?_⟩) hH ?_
  rotate_left
  · ((intro w hSw; (try dsimp only at hSw); go_simp); try with_reducible rfl)
  simp only [Act.put, List.setIfInBounds_toArray, List.set_cons_zero, List.set_cons_succ]
  refine take_list (i := 4) (v := ?_) rfl (by kernel_rfl) (by kernel_rfl) (by kernel_rfl) (fun _ _ _ h => h) (Or.inl ⟨by rfl, ?_⟩) hH ?_
  rotate_left
  · ((intro w hSw; (try dsimp only at hSw); go_simp); try with_reducible rfl)
  simp only [Act.put, List.setIfInBounds_toArray, List.set_cons_zero, List.set_cons_succ]
  refine take_list (i := 5) (v := ?_) rfl (by kernel_rfl) (by kernel_rfl) (by kernel_rfl) (fun _ _ _ h => h) (Or.inl ⟨by rfl, ?_⟩) hH ?_
  rotate_left
  · ((intro w hSw; (try dsimp only at hSw); go_simp); try with_reducible rfl)
  simp only [Act.put, List.setIfInBounds_toArray, List.set_cons_zero, List.set_cons_succ]
  refine take_list (i := 6) (v := ?_) rfl (by kernel_rfl) (by kernel_rfl) (by kernel_rfl) (fun _ _ _ h => h) (Or.inl ⟨by rfl, ?_⟩) hH ?_
  rotate_left
  · ((intro w hSw; (try dsimp only at hSw); go_simp); try with_reducible rfl)
  simp only [Act.put, List.setIfInBounds_toArray, List.set_cons_zero, List.set_cons_succ]
  refine take_list (i := 7) (v := ?_) rfl (by kernel_rfl) (by kernel_rfl) (by kernel_rfl) (fun _ _ _ h => h) (Or.inl ⟨by rfl, ?_⟩) hH ?_
  rotate_left
  · ((intro w hSw; (try dsimp only at hSw); go_simp); try with_reducible rfl)
  simp only [Act.put, List.setIfInBounds_toArray, List.set_cons_zero, List.set_cons_succ]
  refine wpAnyH_ready (rs := [8]) (by kernel_rfl) (by simp) ?_
  refine ready_list rfl (fun K hK => ?_)
  go_simp
  refine (open_ms H4.out rfl HOLD.out HN1.out HN2.out).mono ?_
  rintro e w5 ⟨p2, q2, B, rfl, h5, o5, nb, off⟩
  have hh := And.intro (cell_kept o5 hH.1 (by simp)) (cell_kept o5 hH.2 (by simp))
  have H5 := Lib.hid h5
  have HM5 := Lib.hid (H4.out.mm.quiet o5)
  have HY5 := Lib.hid (H4.out.my.kept o5 (by simp))
  have HO5 := Lib.hid (H4.out.only.trans o5 (by simp))
  have HKP5 := Lib.hid (keep_quiet H4.out.keep o5)
  have HNEW := Lib.hid H4.out.new
  have HNB := Lib.hid nb
  have HOFF := Lib.hid off
  refine hK.out _ _ hh (fun hH => ?_)
  clear hK K h5 o5 nb off hh H4
  refine take_list (i := 9) (v := ?_) rfl (by kernel_rfl) (by kernel_rfl) (by kernel_rfl) (fun _ _ _ h => h) (Or.inl ⟨by rfl, ?_⟩) hH ?_
  rotate_left
  · ((intro w hSw; (try dsimp only at hSw); go_simp); try with_reducible rfl)
  simp only [Act.put, List.setIfInBounds_toArray, List.set_cons_zero, List.set_cons_succ]
  refine take_list (i := 10) (v := ?_) rfl (by kernel_rfl) (by kernel_rfl) (by kernel_rfl) (fun _ _ _ h => h) (Or.inl ⟨by rfl, ?_⟩) hH ?_
  rotate_left
  · ((intro w hSw; (try dsimp only at hSw); go_simp); try with_reducible rfl)
  simp only [Act.put, List.setIfInBounds_toArray, List.set_cons_zero, List.set_cons_succ]
  refine take_list (i := 11) (v := ?_) rfl (by kernel_rfl) (by kernel_rfl) (by kernel_rfl) (fun _ _ _ h => h) (Or.inl ⟨by rfl, ?_⟩) hH ?_
  rotate_left
  · ((intro w hSw; (try dsimp only at hSw); go_simp); try with_reducible rfl)
  simp only [Act.put, List.setIfInBounds_toArray, List.set_cons_zero, List.set_cons_succ]
  refine take_list (i := 12) (v := ?_) rfl (by kernel_rfl) (by kernel_rfl) (by kernel_rfl) (fun _ _ _ h => h) (Or.inl ⟨by rfl, ?_⟩) hH ?_
  rotate_left
  · ((intro w hSw; (try dsimp only at hSw); go_simp); try with_reducible rfl)
  simp only [Act.put, List.setIfInBounds_toArray, List.set_cons_zero, List.set_cons_succ]
  refine take_list (i := 13) (v := ?_) rfl (by kernel_rfl) (by kernel_rfl) (by kernel_rfl) (fun _ _ _ h => h) (Or.inl ⟨by rfl, ?_⟩) hH ?_
  rotate_left
  · ((intro w hSw; (try dsimp only at hSw); go_simp); try with_reducible rfl)
  simp only [Act.put, List.setIfInBounds_toArray, List.set_cons_zero, List.set_cons_succ]
  refine wpAnyH_done (by kernel_rfl) ?_ _
  clear hH
  go_wp2_with fail
  obtain ⟨S, hS⟩ : ∃ S, S = strOf M.note := ⟨_, rfl⟩
  have HS := Lib.hid hS
  have o6 : Only [] w5 w5.drew := (Only.refl [] w5).drew
  have H6 := Lib.hid (H5.out.quiet o6)
  have HM6 := Lib.hid (HM5.out.quiet o6)
  have HY6 := Lib.hid (HY5.out.kept o6 (by simp))
  have HO6 := Lib.hid (HO5.out.trans o6 (by simp))
  have HKP6 := Lib.hid (keep_quiet HKP5.out o6)
  have c5 : w5.drew.cell? ⟨m, 5, none⟩ = some (.int .i64 M.first) := cell_at 5 HM6.out.blk
  have c6 : w5.drew.cell? ⟨m, 6, none⟩ = some (.string S) := by rw [hS]; exact cell_at 6 HM6.out.blk
  have c10 : w5.drew.cell? ⟨m, 10, none⟩ = some vm := cell_at 10 HM6.out.blk
  refine wp_region_held_drew (S := fun w' => w'.cell? ⟨m, 5, none⟩ = some (.int .i64 M.first) ∧ w'.cell? ⟨m, 6, none⟩ = some (.string S) ∧ w'.cell? ⟨m, 10, none⟩ = some vm) (by kernel_rfl) ⟨c5, c6, c10⟩ (fun hH => ?_)
  clear o6 c5 c6 c10 hS H5 HM5 HY5 HO5 HKP5
  generalize w5.drew = w6 at H6 HM6 HY6 HO6 HKP6 hH ⊢
  have HH6 := Lib.hid hH
  refine take_list (i := 0) (v := ?_) rfl (by kernel_rfl) (by kernel_rfl) (by kernel_rfl) (fun _ _ _ h => h) (Or.inl ⟨by rfl, ?_⟩) hH ?_
  rotate_left
  · ((intro w hSw; (try dsimp only at hSw); go_simp); try with_reducible rfl)
  simp only [Act.put, List.setIfInBounds_toArray, List.set_cons_zero, List.set_cons_succ]
  refine take_list (i := 1) (v := ?_) rfl (by kernel_rfl) (by kernel_rfl) (by kernel_rfl) (fun _ _ _ h => h) (Or.inl ⟨by rfl, ?_⟩) hH ?_
  rotate_left
  · ((intro w hSw; (try dsimp only at hSw); go_simp); try with_reducible rfl)
  simp only [Act.put, List.setIfInBounds_toArray, List.set_cons_zero, List.set_cons_succ]
  refine take_list (i := 2) (v := ?_) rfl (by kernel_rfl) (by kernel_rfl) (by kernel_rfl) (fun _ _ _ h => h) (Or.inl ⟨by rfl, ?_⟩) hH ?_
  rotate_left
  · ((intro w hSw; (try dsimp only at hSw); go_simp); try with_reducible rfl)
  simp only [Act.put, List.setIfInBounds_toArray, List.set_cons_zero, List.set_cons_succ]
  refine take_list (i := 3) (v := ?_) rfl (by kernel_rfl) (by kernel_rfl) (by kernel_rfl) (fun _ _ _ h => h) (Or.inl ⟨by rfl, ?_⟩) hH ?_
  rotate_left
  · ((intro w hSw; (try dsimp only at hSw); go_simp); try with_reducible rfl)
  simp only [Act.put, List.setIfInBounds_toArray, List.set_cons_zero, List.set_cons_succ]
  refine take_list (i := 5) (v := ?_) rfl (by kernel_rfl) (by kernel_rfl) (by kernel_rfl) (fun _ _ _ h => h) (Or.inl ⟨by rfl, ?_⟩) hH ?_
  rotate_left
  · ((intro w hSw; (try dsimp only at hSw); go_simp); try with_reducible rfl)
  simp only [Act.put, List.setIfInBounds_toArray, List.set_cons_zero, List.set_cons_succ]
  refine take_list (i := 6) (v := ?_) rfl (by kernel_rfl) (by kernel_rfl) (by kernel_rfl) (fun _ _ _ h => h) (Or.inl ⟨by rfl, ?_⟩) hH ?_
  rotate_left
  · ((intro w hSw; (try dsimp only at hSw); go_simp); try with_reducible rfl)
  simp only [Act.put, List.setIfInBounds_toArray, List.set_cons_zero, List.set_cons_succ]
  refine take_list (i := 7) (v := ?_) rfl (by kernel_rfl) (by kernel_rfl) (by kernel_rfl) (fun _ _ _ h => h) (Or.inl ⟨by rfl, ?_⟩) hH ?_
  rotate_left
  · ((intro w hSw; (try dsimp only at hSw); go_simp); try with_reducible rfl)
  simp only [Act.put, List.setIfInBounds_toArray, List.set_cons_zero, List.set_cons_succ]
  refine take_list (i := 8) (v := ?_) rfl (by kernel_rfl) (by kernel_rfl) (by kernel_rfl) (fun _ _ _ h => h) (Or.inl ⟨by rfl, ?_⟩) hH ?_
  rotate_left
  · ((intro w hSw; (try dsimp only at hSw); go_simp); try with_reducible rfl)
  simp only [Act.put, List.setIfInBounds_toArray, List.set_cons_zero, List.set_cons_succ]
  refine take_list (i := 11) (v := ?_) rfl (by kernel_rfl) (by kernel_rfl) (by kernel_rfl) (fun _ _ _ h => h) (Or.inl ⟨by rfl, ?_⟩) hH ?_
  rotate_left
  · ((intro w hSw; (try dsimp only at hSw); go_simp); try with_reducible rfl)
  simp only [Act.put, List.setIfInBounds_toArray, List.set_cons_zero, List.set_cons_succ]
  refine wpAnyH_ready (rs := [4]) (by kernel_rfl) (by simp) ?_
  refine ready_list rfl (fun K hK => ?_)
  go_simp
  have o7 : Only [] w6 (w6.alloc (.cells #[.int .i64 (M.first : Int), .string S] 41)) := (Only.refl [] w6).alloc _
  have n7 : OMk (w6.alloc (.cells #[.int .i64 (M.first : Int), .string S] 41)) (.slice (some ⟨w6.heap.size, 0, none⟩) 1 1) [(M.first, M.note)] := by rw [HS.out]; exact OMk.made w6 (M.first, M.note)
  have N7 := Lib.hid n7
  have Y7 := Lib.hid (HY6.out.kept o7 (by simp))
  have O7 := Lib.hid o7
  have hh := And.intro (cell_kept o7 hH.1 (by simp)) (And.intro (cell_kept o7 hH.2.1 (by simp)) (cell_kept o7 hH.2.2 (by simp)))
  refine hK.out _ _ hh (fun hH => ?_)
  clear hK K o7 hh n7
  refine wpAnyH_ready (rs := [9]) (by kernel_rfl) (by simp) ?_
  refine ready_list rfl (fun K hK => ?_)
  refine step_append_marks (by rfl) (.tmp 42) (.tmp 46) (by rfl) _ _ [(M.first, M.note)] M.may (by rfl) N7.out (by rfl) Y7.out (by simp; omega) (fun a8 k8 w8 h8 x8 => ?_)
  have o8 : Only [] w6 w8 := O7.out.trans x8.only (fun g hg => .inr (by simp [Value.ownBlock] at hg; omega))
  obtain ⟨L, hL⟩ : ∃ L, L = [(M.first, M.note)].length + M.may.length := ⟨_, rfl⟩
  rw [← hL] at h8 x8 ⊢
  obtain ⟨ms, hms⟩ : ∃ ms, ms = [(M.first, M.note)] ++ M.may := ⟨_, rfl⟩
  rw [← hms] at h8
  have hLb : L ≤ 1048576 := by rw [hL]; simp; omega
  have HLM := Lib.hid (show L = ms.length by rw [hL, hms, List.length_append])
  have HJ8 := Lib.hid (show jm ∈ ms by rw [hms]; exact HJM.out)
  have HMS := Lib.hid hms
  clear hL hms
  have hh := And.intro (cell_kept o8 HH6.out.1 (by simp)) (And.intro (cell_kept o8 HH6.out.2.1 (by simp)) (cell_kept o8 HH6.out.2.2 (by simp)))
  have CS8 : Hid (CS w0 w8 F m p a vr vt vm gs M p2 q2 B (d.crash ks) _ _ _ _) := Lib.hid ⟨H6.out.quiet o8, HNB.out, HOFF.out, HM6.out.quiet o8, HNEW.out, HO6.out.trans o8 (by simp), h8, keep_quiet HKP6.out o8⟩
  refine hK.out _ _ hh (fun hH => ?_)
  clear hK K o8 hh h8 x8 N7 Y7 O7 H6 HM6 HY6 HO6 HKP6 HH6
  refine take_list (i := 10) (v := ?_) rfl (by kernel_rfl) (by kernel_rfl) (by kernel_rfl) (fun _ _ _ h => h) (Or.inl ⟨by rfl, ?_⟩) hH ?_
  rotate_left
  · ((intro w hSw; (try dsimp only at hSw); go_simp); try with_reducible rfl)
  simp only [Act.put, List.setIfInBounds_toArray, List.set_cons_zero, List.set_cons_succ]
  refine wpAnyH_done (by kernel_rfl) ?_ _
  clear hH
  go_wp2_with fail
  clear HJM HOLD HNEW HNB HOFF HN1 HN2 HS HMS
  obtain ⟨j2, hj2⟩ : ∃ j2, j2 = JL.opened 1 M.n jm.1 (pos M.recs (jm.1 - 1)) ((M.recs.take k).drop (jm.1 - 1)) jm.2 := ⟨_, rfl⟩
  obtain ⟨s2, hs2⟩ : ∃ s2 : SL, s2 = ⟨1, s0.n, s0.row, false⟩ := ⟨_, rfl⟩
  obtain ⟨mv, hmv⟩ : ∃ mv, mv = Value.slice a8 L k8 := ⟨_, rfl⟩
  have HMV := Lib.hid hmv
  have HF2 := Lib.hid (show j2.first = jm.1 by rw [hj2]; rfl)
  have HT2 := Lib.hid (show j2.note = jm.2 by rw [hj2]; rfl)
  rw [← hj2] at HBIG HNEXT HMR
  rw [← hj2, ← hs2, ← hmv] at CS8
  rw [← hs2] at HMR
  clear hj2 hs2 hmv
  go_loopw [8, 49] (fun u v wr => ∃ (b : Bool) (i : Nat), u = .bool b ∧ v = .int .i64 i ∧ i ≤ L ∧ Hid (CS w0 wr F m p a vr vt vm gs (M.seen jm b) p2 q2 B (d.crash ks) j2 s2 mv ms) ∧ Hid (b = true ↔ jm ∈ ms.take i)) (fun _ v _ => L - (intOf v).toNat)
  case atStart => exact ⟨false, 0, rfl, rfl, Nat.zero_le _, CS8, Lib.hid (by simp)⟩
  case round =>
    clear CS8
    obtain ⟨b, i, rfl, rfl, hi, HC, HB⟩ := hrel
    by_cases hlt : i < L
    · obtain ⟨x, hx⟩ : ∃ x, ms[i]? = some x := ⟨_, List.getElem?_eq_getElem (by rw [← HLM.out]; exact hlt)⟩
      obtain ⟨g, cap2, hmv, g0, g1⟩ := HC.out.mks.at_ hx
      rw [HMV.out] at hmv
      injection hmv with e1 e2 e3
      subst e1
      obtain ⟨S, hS⟩ : ∃ S, S = strOf x.2 := ⟨_, rfl⟩
      rw [← hS] at g1
      have HS := Lib.hid hS
      have HX := Lib.hid hx
      clear hS hx e2 e3
      go_wp2_with fail
      have k0 := cell_at 0 (heap_new wr (.cells #[.int .i64 (x.1 : Int), .string S] 41))
      have k1 := cell_at 1 (heap_new wr (.cells #[.int .i64 (x.1 : Int), .string S] 41))
      have hmG : m < wr.heap.size := lt_of_heap HC.out.mm.blk
      obtain ⟨G, hG⟩ : ∃ G, G = wr.heap.size := ⟨_, rfl⟩
      rw [← hG] at k0 k1 hmG ⊢
      have k0' : (wr.alloc (.cells #[.int .i64 (x.1 : Int), .string S] 41)).cell? ⟨G, 0, none⟩ = some (.int .i64 (x.1 : Int)) := k0
      have k1' : (wr.alloc (.cells #[.int .i64 (x.1 : Int), .string S] 41)).cell? ⟨G, 1, none⟩ = some (.string S) := k1
      have o9 : Only [] wr (wr.alloc (.cells #[.int .i64 (x.1 : Int), .string S] 41)).drew := ((Only.refl [] wr).alloc _).trans ((Only.refl [] _).drew) (by simp)
      have H9 := Lib.hid (HC.out.quiet o9)
      refine wp_region_held_drew (S := fun w' => w'.cell? ⟨G, 0, none⟩ = some (.int .i64 (x.1 : Int)) ∧ w'.cell? ⟨G, 1, none⟩ = some (.string S)) (by kernel_rfl) ⟨k0', k1'⟩ (fun hH => ?_)
      clear k0 k1 k0' k1' o9 g0 g1 hG HC
      generalize (wr.alloc (.cells #[.int .i64 (x.1 : Int), .string S] 41)).drew = w9 at H9 hH ⊢
      have KF := first_jn H9.out.jn
      rw [HF2.out] at KF
      refine take_list (i := 0) (v := ?_) rfl (by kernel_rfl) (by kernel_rfl) (by kernel_rfl) (fun _ _ _ h => h) (Or.inl ⟨by rfl, ?_⟩) hH ?_
      rotate_left
      · ((intro w hSw; (try dsimp only at hSw); go_simp); try with_reducible rfl)
      simp only [Act.put, List.setIfInBounds_toArray, List.set_cons_zero, List.set_cons_succ]
      refine take_list (i := 2) (v := ?_) rfl (by kernel_rfl) (by kernel_rfl) (by kernel_rfl) (fun _ _ _ h => h) (Or.inl ⟨by rfl, ?_⟩) hH ?_
      rotate_left
      · ((intro w hSw; (try dsimp only at hSw); go_simp); try with_reducible rfl)
      simp only [Act.put, List.setIfInBounds_toArray, List.set_cons_zero, List.set_cons_succ]
      refine take_list (i := 3) (v := ?_) rfl (by kernel_rfl) (by kernel_rfl) (by kernel_rfl) (fun _ _ _ h => h) (Or.inl ⟨by rfl, ?_⟩) hH ?_
      rotate_left
      · ((intro w hSw; (try dsimp only at hSw); go_simp); try with_reducible rfl)
      simp only [Act.put, List.setIfInBounds_toArray, List.set_cons_zero, List.set_cons_succ]
      refine wpAnyH_ready (rs := [1]) (by kernel_rfl) (by simp) ?_
      refine ready_list rfl (fun K hK => ?_)
      go_simp
      refine KF.mono ?_
      rintro e w10 ⟨rfl, rfl⟩
      refine hK.out _ _ hH (fun hH => ?_)
      clear hK K KF
      by_cases hf : jm.1 = x.1
      · have hq : ((jm.1 : Int) == (x.1 : Int)) = true := by rw [hf]; simp
        refine take_list (i := 4) (v := ?_) rfl (by kernel_rfl) (by kernel_rfl) (by kernel_rfl) (fun _ _ _ h => h) (Or.inl ⟨by rfl, ?_⟩) hH ?_
        rotate_left
        · ((intro w hSw; (try dsimp only at hSw); go_simp); try with_reducible rfl)
        simp only [Act.put, List.setIfInBounds_toArray, List.set_cons_zero, List.set_cons_succ]
        refine take_list (i := 5) (v := ?_) rfl (by kernel_rfl) (by kernel_rfl) (by kernel_rfl) (fun _ _ _ h => h) (Or.inl ⟨by rfl, ?_⟩) hH ?_
        rotate_left
        · ((intro w hSw; (try dsimp only at hSw); go_simp); try with_reducible rfl)
        simp only [Act.put, List.setIfInBounds_toArray, List.set_cons_zero, List.set_cons_succ]
        refine take_list (i := 6) (v := ?_) rfl (by kernel_rfl) (by kernel_rfl) (by kernel_rfl) (fun _ _ _ h => h) (Or.inl ⟨by rfl, ?_⟩) hH ?_
        rotate_left
        · ((intro w hSw; (try dsimp only at hSw); go_simp); try with_reducible rfl)
        simp only [Act.put, List.setIfInBounds_toArray, List.set_cons_zero, List.set_cons_succ]
        refine take_list (i := 9) (v := ?_) rfl (by kernel_rfl) (by kernel_rfl) (by kernel_rfl) (fun _ _ _ h => h) (Or.inl ⟨by rfl, ?_⟩) hH ?_
        rotate_left
        · ((intro w hSw; (try dsimp only at hSw); go_simp); try with_reducible rfl)
        simp only [Act.put, List.setIfInBounds_toArray, List.set_cons_zero, List.set_cons_succ]
        refine take_list (i := 10) (v := ?_) rfl (by kernel_rfl) (by kernel_rfl) (by kernel_rfl) (fun _ _ _ h => h) (Or.inl ⟨by rfl, ?_⟩) hH ?_
        rotate_left
        · ((intro w hSw; (try dsimp only at hSw); go_simp); try with_reducible rfl)
        simp only [Act.put, List.setIfInBounds_toArray, List.set_cons_zero, List.set_cons_succ]
        have KN := note_jn H9.out.jn jm.2 HT2.out
        refine wpAnyH_ready (rs := [7]) (by kernel_rfl) (by simp) ?_
        refine ready_list rfl (fun K hK => ?_)
        go_simp
        refine KN.mono ?_
        rintro e w10 ⟨b1, c1, rfl, own1, o10⟩
        obtain ⟨S2, hS2⟩ : ∃ S2, S2 = strOf jm.2 := ⟨_, rfl⟩
        have s10 := str_bytes own1.bytes hS2
        have hq2 := str_eq' hS2 HS.out
        have hh := And.intro (cell_kept o10 hH.1 (by simp)) (cell_kept o10 hH.2 (by simp))
        have H10 := Lib.hid (H9.out.quiet o10)
        refine hK.out _ _ hh (fun hH => ?_)
        clear hK K KN own1 o10 hS2 H9 hh
        refine wpAnyH_sharpen (S' := fun w' => (w'.cell? ⟨G, 0, none⟩ = some (.int .i64 (x.1 : Int)) ∧ w'.cell? ⟨G, 1, none⟩ = some (.string S)) ∧ (convert 27 9 (.slice b1 jm.2.length c1)).run Tryz.prog w' = .ok (.string S2) w') (fun w h => h.1) ?_
        have hH : (w10.cell? ⟨G, 0, none⟩ = some (.int .i64 (x.1 : Int)) ∧ w10.cell? ⟨G, 1, none⟩ = some (.string S)) ∧ (convert 27 9 (.slice b1 jm.2.length c1)).run Tryz.prog w10 = .ok (.string S2) w10 := ⟨hH, s10⟩
        clear s10
        refine take_list (i := 8) (v := .string S2) rfl (by kernel_rfl) (by kernel_rfl) (by kernel_rfl) (fun _ _ _ h => h) (Or.inl ⟨by rfl, ?_⟩) hH ?_
        · intro w hSw
          have hc2 := hSw.2
          clear hSw hH
          go_simp
        simp only [Act.put, List.setIfInBounds_toArray, List.set_cons_zero, List.set_cons_succ]
        by_cases hn : jm.2 = x.2
        · have hq3 : (S2.toList == S.toList) = true := by rw [hq2]; simpa using hn
          clear hq2
          refine take_list (i := 11) (v := ?_) rfl (by kernel_rfl) (by kernel_rfl) (by kernel_rfl) (fun _ _ _ h => h) (Or.inl ⟨by rfl, ?_⟩) hH ?_
          rotate_left
          · ((intro w hSw; (try dsimp only at hSw); go_simp); try with_reducible rfl)
          simp only [Act.put, List.setIfInBounds_toArray, List.set_cons_zero, List.set_cons_succ]
          refine take_list (i := 12) (v := ?_) rfl (by kernel_rfl) (by kernel_rfl) (by kernel_rfl) (fun _ _ _ h => h) (Or.inl ⟨by rfl, ?_⟩) hH ?_
          rotate_left
          · ((intro w hSw; (try dsimp only at hSw); go_simp); try with_reducible rfl)
          simp only [Act.put, List.setIfInBounds_toArray, List.set_cons_zero, List.set_cons_succ]
          refine wpAnyH_done (by kernel_rfl) ?_ _
          have g0 := hH.1.1
          have g1 := hH.1.2
          have c5 : w10.cell? ⟨m, 5, none⟩ = some (.int .i64 (M.seen jm b).first) := cell_at 5 H10.out.mm.blk
          have c6 : w10.cell? ⟨m, 6, none⟩ = some (.string (strOf (M.seen jm b).note)) := cell_at 6 H10.out.mm.blk
          have f5 := free_at 5 H10.out.mm.blk
          have f6 := free_at 6 H10.out.mm.blk
          clear hH
          go_wp2_with fail
          go_roundw
          case rel =>
            have e1 : S = strOf jm.2 := by rw [HS.out, hn]
            have o11 : Only [m] w10 ((w10.setCell ⟨m, 5, none⟩ (.int .i64 (x.1 : Int))).setCell ⟨m, 6, none⟩ (.string S)) := ((Only.refl _ _).setCell (by simp) _).setCell (by simp) _
            have ht : CS w0 ((w10.setCell ⟨m, 5, none⟩ (.int .i64 (x.1 : Int))).setCell ⟨m, 6, none⟩ (.string S)) F m p a vr vt vm gs (M.seen jm true) p2 q2 B (d.crash ks) j2 s2 mv ms := by
              refine H10.out.turn (M' := M.seen jm true) o11 (by rw [ML.seen_recs, ML.seen_recs]) ?_
              show _ = some (Obj.cells #[.pointer (some ⟨a.p, 0, none⟩), .int .i64 M.n, .pointer (some ⟨p, 0, none⟩), vr, vt, .int .i64 (jm.1 : Int), .string (strOf jm.2), .int .i64 M.sure, .int .i64 M.booked, .bool M.dead, vm] 44 (0, 0))
              rw [← e1, hf]
              cases b
              · exact heap_cell (i := 6) (.string S) (heap_cell (i := 5) (.int .i64 (x.1 : Int)) H10.out.mm.blk)
              · exact heap_cell (i := 6) (.string S) (heap_cell (i := 5) (.int .i64 (x.1 : Int)) H10.out.mm.blk)
            refine ⟨true, i + 1, rfl, by go_num, by omega, Lib.hid ht, Lib.hid ⟨fun _ => ?_, fun _ => rfl⟩⟩
            rw [List.take_add_one, HX.out, show jm = x from Prod.ext hf hn]
            simp
          case measure => simp [intOf]; omega
        · have hq3 : (S2.toList == S.toList) = false := by rw [hq2]; simpa using hn
          clear hq2
          refine take_list (i := 11) (v := ?_) rfl (by kernel_rfl) (by kernel_rfl) (by kernel_rfl) (fun _ _ _ h => h) (Or.inl ⟨by rfl, ?_⟩) hH ?_
          rotate_left
          · ((intro w hSw; (try dsimp only at hSw); go_simp); try with_reducible rfl)
          simp only [Act.put, List.setIfInBounds_toArray, List.set_cons_zero, List.set_cons_succ]
          refine take_list (i := 12) (v := ?_) rfl (by kernel_rfl) (by kernel_rfl) (by kernel_rfl) (fun _ _ _ h => h) (Or.inl ⟨by rfl, ?_⟩) hH ?_
          rotate_left
          · ((intro w hSw; (try dsimp only at hSw); go_simp); try with_reducible rfl)
          simp only [Act.put, List.setIfInBounds_toArray, List.set_cons_zero, List.set_cons_succ]
          refine wpAnyH_done (by kernel_rfl) ?_ _
          clear hH
          go_wp2_with fail
          go_roundw
          case rel =>
            refine ⟨b, i + 1, rfl, by go_num, by omega, H10, Lib.hid ?_⟩
            rw [List.take_add_one, HX.out, HB.out]
            simp
            intro e
            rw [e] at hn
            exact absurd rfl hn
          case measure => simp [intOf]; omega
      · have hq : ((jm.1 : Int) == (x.1 : Int)) = false := by simp; omega
        refine take_list (i := 4) (v := ?_) rfl (by kernel_rfl) (by kernel_rfl) (by kernel_rfl) (fun _ _ _ h => h) (Or.inl ⟨by rfl, ?_⟩) hH ?_
        rotate_left
        · ((intro w hSw; (try dsimp only at hSw); go_simp); try with_reducible rfl)
        simp only [Act.put, List.setIfInBounds_toArray, List.set_cons_zero, List.set_cons_succ]
        refine take_list (i := 5) (v := ?_) rfl (by kernel_rfl) (by kernel_rfl) (by kernel_rfl) (fun _ _ _ h => h) (Or.inl ⟨by rfl, ?_⟩) hH ?_
        rotate_left
        · ((intro w hSw; (try dsimp only at hSw); go_simp); try with_reducible rfl)
        simp only [Act.put, List.setIfInBounds_toArray, List.set_cons_zero, List.set_cons_succ]
        refine take_list (i := 6) (v := undef) rfl (by kernel_rfl) (by kernel_rfl) (by kernel_rfl) (fun _ _ _ h => h) (Or.inr ⟨by rfl, rfl⟩) hH ?_
        simp only [Act.put, List.setIfInBounds_toArray, List.set_cons_zero, List.set_cons_succ]
        refine take_list (i := 7) (v := undef) rfl (by kernel_rfl) (by kernel_rfl) (by kernel_rfl) (fun _ _ _ h => h) (Or.inr ⟨by rfl, rfl⟩) hH ?_
        simp only [Act.put, List.setIfInBounds_toArray, List.set_cons_zero, List.set_cons_succ]
        refine take_list (i := 8) (v := undef) rfl (by kernel_rfl) (by kernel_rfl) (by kernel_rfl) (fun _ _ _ h => h) (Or.inr ⟨by rfl, rfl⟩) hH ?_
        simp only [Act.put, List.setIfInBounds_toArray, List.set_cons_zero, List.set_cons_succ]
        refine take_list (i := 9) (v := undef) rfl (by kernel_rfl) (by kernel_rfl) (by kernel_rfl) (fun _ _ _ h => h) (Or.inr ⟨by rfl, rfl⟩) hH ?_
        simp only [Act.put, List.setIfInBounds_toArray, List.set_cons_zero, List.set_cons_succ]
        refine take_list (i := 10) (v := undef) rfl (by kernel_rfl) (by kernel_rfl) (by kernel_rfl) (fun _ _ _ h => h) (Or.inr ⟨by rfl, rfl⟩) hH ?_
        simp only [Act.put, List.setIfInBounds_toArray, List.set_cons_zero, List.set_cons_succ]
        refine take_list (i := 11) (v := undef) rfl (by kernel_rfl) (by kernel_rfl) (by kernel_rfl) (fun _ _ _ h => h) (Or.inr ⟨by rfl, rfl⟩) hH ?_
        simp only [Act.put, List.setIfInBounds_toArray, List.set_cons_zero, List.set_cons_succ]
        refine take_list (i := 12) (v := ?_) rfl (by kernel_rfl) (by kernel_rfl) (by kernel_rfl) (fun _ _ _ h => h) (Or.inl ⟨by rfl, ?_⟩) hH ?_
        rotate_left
        · ((intro w hSw; (try dsimp only at hSw); go_simp); try with_reducible rfl)
        simp only [Act.put, List.setIfInBounds_toArray, List.set_cons_zero, List.set_cons_succ]
        refine wpAnyH_done (by kernel_rfl) ?_ _
        clear hH
        go_wp2_with fail
        go_roundw
        case rel =>
          refine ⟨b, i + 1, rfl, by go_num, by omega, H9, Lib.hid ?_⟩
          rw [List.take_add_one, HX.out, HB.out]
          simp
          intro e
          rw [e] at hf
          exact absurd rfl hf
        case measure => simp [intOf]; omega
    · obtain rfl : i = L := by omega
      obtain rfl : b = true := HB.out.2 (by rw [HLM.out, List.take_length]; exact HJ8.out)
      go_wp2_with fail
      obtain ⟨nx, hnx⟩ : ∃ nx, nx = k + 1 := ⟨_, rfl⟩
      obtain ⟨mx, hmx⟩ : ∃ mx, mx = (M.seen jm true).next := ⟨_, rfl⟩
      have hmx2 : mx = M.recs.length + 1 := by rw [hmx]; rfl
      have hs1 : ¬ (mx : Int) < nx := by omega
      have hs2 : ¬ (nx : Int) < M.sure := by omega
      have hs3 : ¬ (nx : Int) < jm.1 := by omega
      have hnn := HNEXT.out
      rw [← hnx] at hnn
      have HNN := Lib.hid hnn
      have HNX := Lib.hid hnx
      have HMX := Lib.hid hmx
      clear hnx hmx hmx2
      have o11 : Only [] wr wr.drew := (Only.refl [] wr).drew
      have H11 := Lib.hid (HC.out.quiet o11)
      have c7 : wr.drew.cell? ⟨m, 7, none⟩ = some (.int .i64 M.sure) := cell_at 7 H11.out.mm.blk
      refine wp_region_held_drew (S := fun w' => w'.cell? ⟨m, 7, none⟩ = some (.int .i64 M.sure)) (by kernel_rfl) c7 (fun hH => ?_)
      clear o11 c7 hnn HC HB
      generalize wr.drew = w11 at H11 hH ⊢
      refine take_list (i := 0) (v := ?_) rfl (by kernel_rfl) (by kernel_rfl) (by kernel_rfl) (fun _ _ _ h => h) (Or.inl ⟨by rfl, ?_⟩) hH ?_
      rotate_left
      · ((intro w hSw; (try dsimp only at hSw); go_simp); try with_reducible rfl)
      simp only [Act.put, List.setIfInBounds_toArray, List.set_cons_zero, List.set_cons_succ]
      refine take_list (i := 1) (v := ?_) rfl (by kernel_rfl) (by kernel_rfl) (by kernel_rfl) (fun _ _ _ h => h) (Or.inl ⟨by rfl, ?_⟩) hH ?_
      rotate_left
      · ((intro w hSw; (try dsimp only at hSw); go_simp); try with_reducible rfl)
      simp only [Act.put, List.setIfInBounds_toArray, List.set_cons_zero, List.set_cons_succ]
      refine take_list (i := 2) (v := ?_) rfl (by kernel_rfl) (by kernel_rfl) (by kernel_rfl) (fun _ _ _ h => h) (Or.inl ⟨by rfl, ?_⟩) hH ?_
      rotate_left
      · ((intro w hSw; (try dsimp only at hSw); go_simp); try with_reducible rfl)
      simp only [Act.put, List.setIfInBounds_toArray, List.set_cons_zero, List.set_cons_succ]
      refine take_list (i := 3) (v := ?_) rfl (by kernel_rfl) (by kernel_rfl) (by kernel_rfl) (fun _ _ _ h => h) (Or.inl ⟨by rfl, ?_⟩) hH ?_
      rotate_left
      · ((intro w hSw; (try dsimp only at hSw); go_simp); try with_reducible rfl)
      simp only [Act.put, List.setIfInBounds_toArray, List.set_cons_zero, List.set_cons_succ]
      refine take_list (i := 5) (v := ?_) rfl (by kernel_rfl) (by kernel_rfl) (by kernel_rfl) (fun _ _ _ h => h) (Or.inl ⟨by rfl, ?_⟩) hH ?_
      rotate_left
      · ((intro w hSw; (try dsimp only at hSw); go_simp); try with_reducible rfl)
      simp only [Act.put, List.setIfInBounds_toArray, List.set_cons_zero, List.set_cons_succ]
      have KX := next_jn H11.out.jn HBIG.out
      rw [HNN.out] at KX
      refine wpAnyH_ready (rs := [4]) (by kernel_rfl) (by simp) ?_
      refine ready_list rfl (fun K hK => ?_)
      go_simp
      refine KX.mono ?_
      rintro e w12 ⟨rfl, o12⟩
      have H12 := Lib.hid (H11.out.quiet o12)
      have hh := cell_kept o12 hH (by simp)
      refine hK.out _ _ hh (fun hH => ?_)
      clear hK K KX o12 hh H11
      have KM := mnext_any H12.out.mm (by rw [ML.seen_recs]; omega)
      rw [← HMX.out] at KM
      refine wpAnyH_ready (rs := [6]) (by kernel_rfl) (by simp) ?_
      refine ready_list rfl (fun K hK => ?_)
      go_simp
      refine KM.mono ?_
      rintro e w13 ⟨rfl, rfl⟩
      refine hK.out _ _ hH (fun hH => ?_)
      clear hK K KM
      refine take_list (i := 7) (v := ?_) rfl (by kernel_rfl) (by kernel_rfl) (by kernel_rfl) (fun _ _ _ h => h) (Or.inl ⟨by rfl, ?_⟩) hH ?_
      rotate_left
      · ((intro w hSw; (try dsimp only at hSw); go_simp); try with_reducible rfl)
      simp only [Act.put, List.setIfInBounds_toArray, List.set_cons_zero, List.set_cons_succ]
      refine take_list (i := 8) (v := ?_) rfl (by kernel_rfl) (by kernel_rfl) (by kernel_rfl) (fun _ _ _ h => h) (Or.inl ⟨by rfl, ?_⟩) hH ?_
      rotate_left
      · ((intro w hSw; (try dsimp only at hSw); go_simp); try with_reducible rfl)
      simp only [Act.put, List.setIfInBounds_toArray, List.set_cons_zero, List.set_cons_succ]
      refine take_list (i := 9) (v := ?_) rfl (by kernel_rfl) (by kernel_rfl) (by kernel_rfl) (fun _ _ _ h => h) (Or.inl ⟨by rfl, ?_⟩) hH ?_
      rotate_left
      · ((intro w hSw; (try dsimp only at hSw); go_simp); try with_reducible rfl)
      simp only [Act.put, List.setIfInBounds_toArray, List.set_cons_zero, List.set_cons_succ]
      refine take_list (i := 10) (v := ?_) rfl (by kernel_rfl) (by kernel_rfl) (by kernel_rfl) (fun _ _ _ h => h) (Or.inl ⟨by rfl, ?_⟩) hH ?_
      rotate_left
      · ((intro w hSw; (try dsimp only at hSw); go_simp); try with_reducible rfl)
      simp only [Act.put, List.setIfInBounds_toArray, List.set_cons_zero, List.set_cons_succ]
      refine take_list (i := 12) (v := ?_) rfl (by kernel_rfl) (by kernel_rfl) (by kernel_rfl) (fun _ _ _ h => h) (Or.inl ⟨by rfl, ?_⟩) hH ?_
      rotate_left
      · ((intro w hSw; (try dsimp only at hSw); go_simp); try with_reducible rfl)
      simp only [Act.put, List.setIfInBounds_toArray, List.set_cons_zero, List.set_cons_succ]
      refine take_list (i := 13) (v := ?_) rfl (by kernel_rfl) (by kernel_rfl) (by kernel_rfl) (fun _ _ _ h => h) (Or.inl ⟨by rfl, ?_⟩) hH ?_
      rotate_left
      · ((intro w hSw; (try dsimp only at hSw); go_simp); try with_reducible rfl)
      simp only [Act.put, List.setIfInBounds_toArray, List.set_cons_zero, List.set_cons_succ]
      refine take_list (i := 14) (v := ?_) rfl (by kernel_rfl) (by kernel_rfl) (by kernel_rfl) (fun _ _ _ h => h) (Or.inl ⟨by rfl, ?_⟩) hH ?_
      rotate_left
      · ((intro w hSw; (try dsimp only at hSw); go_simp); try with_reducible rfl)
      simp only [Act.put, List.setIfInBounds_toArray, List.set_cons_zero, List.set_cons_succ]
      refine take_list (i := 15) (v := ?_) rfl (by kernel_rfl) (by kernel_rfl) (by kernel_rfl) (fun _ _ _ h => h) (Or.inl ⟨by rfl, ?_⟩) hH ?_
      rotate_left
      · ((intro w hSw; (try dsimp only at hSw); go_simp); try with_reducible rfl)
      simp only [Act.put, List.setIfInBounds_toArray, List.set_cons_zero, List.set_cons_succ]
      have KX := next_jn H12.out.jn HBIG.out
      rw [HNN.out] at KX
      refine wpAnyH_ready (rs := [11]) (by kernel_rfl) (by simp) ?_
      refine ready_list rfl (fun K hK => ?_)
      go_simp
      refine KX.mono ?_
      rintro e w13 ⟨rfl, o13⟩
      have H13 := Lib.hid (H12.out.quiet o13)
      have hh := cell_kept o13 hH (by simp)
      refine hK.out _ _ hh (fun hH => ?_)
      clear hK K KX o13 hh H12
      refine take_list (i := 16) (v := ?_) rfl (by kernel_rfl) (by kernel_rfl) (by kernel_rfl) (fun _ _ _ h => h) (Or.inl ⟨by rfl, ?_⟩) hH ?_
      rotate_left
      · ((intro w hSw; (try dsimp only at hSw); go_simp); try with_reducible rfl)
      simp only [Act.put, List.setIfInBounds_toArray, List.set_cons_zero, List.set_cons_succ]
      refine take_list (i := 17) (v := ?_) rfl (by kernel_rfl) (by kernel_rfl) (by kernel_rfl) (fun _ _ _ h => h) (Or.inl ⟨by rfl, ?_⟩) hH ?_
      rotate_left
      · ((intro w hSw; (try dsimp only at hSw); go_simp); try with_reducible rfl)
      simp only [Act.put, List.setIfInBounds_toArray, List.set_cons_zero, List.set_cons_succ]
      refine take_list (i := 18) (v := ?_) rfl (by kernel_rfl) (by kernel_rfl) (by kernel_rfl) (fun _ _ _ h => h) (Or.inl ⟨by rfl, ?_⟩) hH ?_
      rotate_left
      · ((intro w hSw; (try dsimp only at hSw); go_simp); try with_reducible rfl)
      simp only [Act.put, List.setIfInBounds_toArray, List.set_cons_zero, List.set_cons_succ]
      refine take_list (i := 19) (v := ?_) rfl (by kernel_rfl) (by kernel_rfl) (by kernel_rfl) (fun _ _ _ h => h) (Or.inl ⟨by rfl, ?_⟩) hH ?_
      rotate_left
      · ((intro w hSw; (try dsimp only at hSw); go_simp); try with_reducible rfl)
      simp only [Act.put, List.setIfInBounds_toArray, List.set_cons_zero, List.set_cons_succ]
      refine take_list (i := 21) (v := ?_) rfl (by kernel_rfl) (by kernel_rfl) (by kernel_rfl) (fun _ _ _ h => h) (Or.inl ⟨by rfl, ?_⟩) hH ?_
      rotate_left
      · ((intro w hSw; (try dsimp only at hSw); go_simp); try with_reducible rfl)
      simp only [Act.put, List.setIfInBounds_toArray, List.set_cons_zero, List.set_cons_succ]
      have KX := next_jn H13.out.jn HBIG.out
      rw [HNN.out] at KX
      refine wpAnyH_ready (rs := [20]) (by kernel_rfl) (by simp) ?_
      refine ready_list rfl (fun K hK => ?_)
      go_simp
      refine KX.mono ?_
      rintro e w14 ⟨rfl, o14⟩
      have H14 := Lib.hid (H13.out.quiet o14)
      have hh := cell_kept o14 hH (by simp)
      refine hK.out _ _ hh (fun hH => ?_)
      clear hK K KX o14 hh H13
      have KF := first_jn H14.out.jn
      rw [HF2.out] at KF
      refine wpAnyH_ready (rs := [22]) (by kernel_rfl) (by simp) ?_
      refine ready_list rfl (fun K hK => ?_)
      go_simp
      refine KF.mono ?_
      rintro e w15 ⟨rfl, rfl⟩
      refine hK.out _ _ hH (fun hH => ?_)
      clear hK K KF
      refine take_list (i := 23) (v := ?_) rfl (by kernel_rfl) (by kernel_rfl) (by kernel_rfl) (fun _ _ _ h => h) (Or.inl ⟨by rfl, ?_⟩) hH ?_
      rotate_left
      · ((intro w hSw; (try dsimp only at hSw); go_simp); try with_reducible rfl)
      simp only [Act.put, List.setIfInBounds_toArray, List.set_cons_zero, List.set_cons_succ]
      refine take_list (i := 24) (v := ?_) rfl (by kernel_rfl) (by kernel_rfl) (by kernel_rfl) (fun _ _ _ h => h) (Or.inl ⟨by rfl, ?_⟩) hH ?_
      rotate_left
      · ((intro w hSw; (try dsimp only at hSw); go_simp); try with_reducible rfl)
      simp only [Act.put, List.setIfInBounds_toArray, List.set_cons_zero, List.set_cons_succ]
      refine wpAnyH_done (by kernel_rfl) ?_ _
      clear hH
      go_wp2_with fail
      obtain ⟨ra, rc, ta, tc, hvr, hvt, hgl, hkrc, hktc, hnr, hnt, hob, hot⟩ := H14.out.mm.cut k (by rw [ML.seen_recs]; exact hkr)
      have hwr : IntKind.i64.wrap ((nx : Int) - 1) = (k : Int) := by
        have := HNX.out
        rw [IntKind.wrap_i64]
        omega
      have sl1 := rows_to ra gs.length rc k hkrc (k : Int) rfl
      have sl2 := ints_to ta ((M.seen jm true).recs.length + 1) tc (k + 1) hktc (nx : Int) (by have := HNX.out; omega)
      have o15 : Only [] w14 w14.drew := (Only.refl [] w14).drew
      have H15 := Lib.hid (H14.out.quiet o15)
      have c3 : w14.drew.cell? ⟨m, 3, none⟩ = some (.slice ra gs.length rc) := by rw [← hvr]; exact cell_at 3 H15.out.mm.blk
      have c4 : w14.drew.cell? ⟨m, 4, none⟩ = some (.slice ta ((M.seen jm true).recs.length + 1) tc) := by rw [← hvt]; exact cell_at 4 H15.out.mm.blk
      have HCUT := Lib.hid (And.intro hvr (And.intro hvt (And.intro hob hot)))
      clear hvr hvt hgl hkrc hktc hnr hnt hob hot H14 hs1 hs2 hs3
      refine wp_region_C (S := fun w' => w'.cell? ⟨m, 3, none⟩ = some (.slice ra gs.length rc) ∧ w'.cell? ⟨m, 4, none⟩ = some (.slice ta ((M.seen jm true).recs.length + 1) tc)) [0, 1, 2, 3, 4, 5, 6, 7, 8, 9, 10, 11, 12, 13, 14, 15, 16, 17, 18, 19, 20, 21, 22, 23, 25, 26] (by kernel_rfl) ⟨c3, c4⟩ (fun hH => ?_)
      clear o15 c3 c4
      generalize w14.drew = w15 at H15 hH ⊢
      refine takeP_list (i := 0) (v := ?_) rfl (by kernel_rfl) (by kernel_rfl) (by kernel_rfl) (fun _ _ _ h => h) (Or.inl ⟨by rfl, ?_⟩) ?_
      rotate_left
      · ((intro w hSw; (try dsimp only at hSw); go_simp); try with_reducible rfl)
      simp only [Act.put, List.setIfInBounds_toArray, List.set_cons_zero, List.set_cons_succ]
      refine takeP_list (i := 1) (v := ?_) rfl (by kernel_rfl) (by kernel_rfl) (by kernel_rfl) (fun _ _ _ h => h) (Or.inl ⟨by rfl, ?_⟩) ?_
      rotate_left
      · ((intro w hSw; (try dsimp only at hSw); go_simp); try with_reducible rfl)
      simp only [Act.put, List.setIfInBounds_toArray, List.set_cons_zero, List.set_cons_succ]
      refine takeP_list (i := 2) (v := ?_) rfl (by kernel_rfl) (by kernel_rfl) (by kernel_rfl) (fun _ _ _ h => h) (Or.inl ⟨by rfl, ?_⟩) ?_
      rotate_left
      · ((intro w hSw; (try dsimp only at hSw); go_simp); try with_reducible rfl)
      simp only [Act.put, List.setIfInBounds_toArray, List.set_cons_zero, List.set_cons_succ]
      refine takeP_list (i := 3) (v := ?_) rfl (by kernel_rfl) (by kernel_rfl) (by kernel_rfl) (fun _ _ _ h => h) (Or.inl ⟨by rfl, ?_⟩) ?_
      rotate_left
      · ((intro w hSw; (try dsimp only at hSw); go_simp); try with_reducible rfl)
      simp only [Act.put, List.setIfInBounds_toArray, List.set_cons_zero, List.set_cons_succ]
      refine takeP_list (i := 4) (v := ?_) rfl (by kernel_rfl) (by kernel_rfl) (by kernel_rfl) (fun _ _ _ h => h) (Or.inl ⟨by rfl, ?_⟩) ?_
      rotate_left
      · ((intro w hSw; (try dsimp only at hSw); go_simp); try with_reducible rfl)
      simp only [Act.put, List.setIfInBounds_toArray, List.set_cons_zero, List.set_cons_succ]
      refine takeP_list (i := 5) (v := ?_) rfl (by kernel_rfl) (by kernel_rfl) (by kernel_rfl) (fun _ _ _ h => h) (Or.inl ⟨by rfl, ?_⟩) ?_
      rotate_left
      · ((intro w hSw; (try dsimp only at hSw); go_simp); try with_reducible rfl)
      simp only [Act.put, List.setIfInBounds_toArray, List.set_cons_zero, List.set_cons_succ]
      refine takeP_list (i := 6) (v := ?_) rfl (by kernel_rfl) (by kernel_rfl) (by kernel_rfl) (fun _ _ _ h => h) (Or.inl ⟨by rfl, ?_⟩) ?_
      rotate_left
      · ((intro w hSw; (try dsimp only at hSw); go_simp); try with_reducible rfl)
      simp only [Act.put, List.setIfInBounds_toArray, List.set_cons_zero, List.set_cons_succ]
      refine takeC_list (i := 7) (v := ?_) rfl (by kernel_rfl) (by kernel_rfl) (by kernel_rfl) (by kernel_rfl) (fun _ _ _ h => h) (Or.inl ⟨by rfl, ?_⟩) hH ?_
      rotate_left
      · ((intro w hSw; (try dsimp only at hSw); go_simp); try with_reducible rfl)
      simp only [Act.put, List.setIfInBounds_toArray, List.set_cons_zero, List.set_cons_succ]
      refine takeP_list (i := 8) (v := ?_) rfl (by kernel_rfl) (by kernel_rfl) (by kernel_rfl) (fun _ _ _ h => h) (Or.inl ⟨by rfl, ?_⟩) ?_
      rotate_left
      · ((intro w hSw; (try dsimp only at hSw); go_simp); try with_reducible rfl)
      simp only [Act.put, List.setIfInBounds_toArray, List.set_cons_zero, List.set_cons_succ]
      refine takeP_list (i := 12) (v := ?_) rfl (by kernel_rfl) (by kernel_rfl) (by kernel_rfl) (fun _ _ _ h => h) (Or.inl ⟨by rfl, ?_⟩) ?_
      rotate_left
      · ((intro w hSw; (try dsimp only at hSw); go_simp); try with_reducible rfl)
      simp only [Act.put, List.setIfInBounds_toArray, List.set_cons_zero, List.set_cons_succ]
      refine takeP_list (i := 13) (v := ?_) rfl (by kernel_rfl) (by kernel_rfl) (by kernel_rfl) (fun _ _ _ h => h) (Or.inl ⟨by rfl, ?_⟩) ?_
      rotate_left
      · ((intro w hSw; (try dsimp only at hSw); go_simp); try with_reducible rfl)
      simp only [Act.put, List.setIfInBounds_toArray, List.set_cons_zero, List.set_cons_succ]
      refine takeP_list (i := 14) (v := ?_) rfl (by kernel_rfl) (by kernel_rfl) (by kernel_rfl) (fun _ _ _ h => h) (Or.inl ⟨by rfl, ?_⟩) ?_
      rotate_left
      · ((intro w hSw; (try dsimp only at hSw); go_simp); try with_reducible rfl)
      simp only [Act.put, List.setIfInBounds_toArray, List.set_cons_zero, List.set_cons_succ]
      refine takeC_list (i := 15) (v := ?_) rfl (by kernel_rfl) (by kernel_rfl) (by kernel_rfl) (by kernel_rfl) (fun _ _ _ h => h) (Or.inl ⟨by rfl, ?_⟩) hH ?_
      rotate_left
      · ((intro w hSw; (try dsimp only at hSw); go_simp); try with_reducible rfl)
      simp only [Act.put, List.setIfInBounds_toArray, List.set_cons_zero, List.set_cons_succ]
      refine takeP_list (i := 16) (v := ?_) rfl (by kernel_rfl) (by kernel_rfl) (by kernel_rfl) (fun _ _ _ h => h) (Or.inl ⟨by rfl, ?_⟩) ?_
      rotate_left
      · ((intro w hSw; (try dsimp only at hSw); go_simp); try with_reducible rfl)
      simp only [Act.put, List.setIfInBounds_toArray, List.set_cons_zero, List.set_cons_succ]
      have KX := next_jn H15.out.jn HBIG.out
      rw [HNN.out] at KX
      refine readyC_in (i := 9) (by kernel_rfl) rfl (fun K hK => ?_)
      go_simp
      refine KX.mono ?_
      rintro e w16 ⟨rfl, o16⟩
      have H16 := Lib.hid (H15.out.quiet o16)
      have hh := And.intro (cell_kept o16 hH.1 (by simp)) (cell_kept o16 hH.2 (by simp))
      refine hK.out _ _ hh (fun hH => ?_)
      clear hK K KX o16 hh H15
      refine takeP_list (i := 10) (v := ?_) rfl (by kernel_rfl) (by kernel_rfl) (by kernel_rfl) (fun _ _ _ h => h) (Or.inl ⟨by rfl, ?_⟩) ?_
      rotate_left
      · ((intro w hSw; (try dsimp only at hSw); go_simp); try with_reducible rfl)
      simp only [Act.put, List.setIfInBounds_toArray, List.set_cons_zero, List.set_cons_succ]
      refine takeP_list (i := 11) (v := ?_) rfl (by kernel_rfl) (by kernel_rfl) (by kernel_rfl) (fun _ _ _ h => h) (Or.inl ⟨by rfl, ?_⟩) ?_
      rotate_left
      · ((intro w hSw; (try dsimp only at hSw); go_simp); try with_reducible rfl)
      simp only [Act.put, List.setIfInBounds_toArray, List.set_cons_zero, List.set_cons_succ]
      have KX := next_jn H16.out.jn HBIG.out
      rw [HNN.out] at KX
      refine readyC_in (i := 17) (by kernel_rfl) rfl (fun K hK => ?_)
      go_simp
      refine KX.mono ?_
      rintro e w17 ⟨rfl, o17⟩
      have H17 := Lib.hid (H16.out.quiet o17)
      have hh := And.intro (cell_kept o17 hH.1 (by simp)) (cell_kept o17 hH.2 (by simp))
      refine hK.out _ _ hh (fun hH => ?_)
      clear hK K KX o17 hh H16
      refine takeP_list (i := 18) (v := ?_) rfl (by kernel_rfl) (by kernel_rfl) (by kernel_rfl) (fun _ _ _ h => h) (Or.inl ⟨by rfl, ?_⟩) ?_
      rotate_left
      · ((intro w hSw; (try dsimp only at hSw); go_simp); try with_reducible rfl)
      simp only [Act.put, List.setIfInBounds_toArray, List.set_cons_zero, List.set_cons_succ]
      refine takeP_list (i := 19) (v := ?_) rfl (by kernel_rfl) (by kernel_rfl) (by kernel_rfl) (fun _ _ _ h => h) (Or.inl ⟨by rfl, ?_⟩) ?_
      rotate_left
      · ((intro w hSw; (try dsimp only at hSw); go_simp); try with_reducible rfl)
      simp only [Act.put, List.setIfInBounds_toArray, List.set_cons_zero, List.set_cons_succ]
      refine takeP_list (i := 20) (v := ?_) rfl (by kernel_rfl) (by kernel_rfl) (by kernel_rfl) (fun _ _ _ h => h) (Or.inl ⟨by rfl, ?_⟩) ?_
      rotate_left
      · ((intro w hSw; (try dsimp only at hSw); go_simp); try with_reducible rfl)
      simp only [Act.put, List.setIfInBounds_toArray, List.set_cons_zero, List.set_cons_succ]
      have c2 : w17.cell? ⟨m, 2, none⟩ = some (.pointer (some ⟨p, 0, none⟩)) := cell_at 2 H17.out.mm.blk
      have f2 := free_at 2 H17.out.mm.blk
      refine readyC_in (i := 21) (by kernel_rfl) rfl (fun K hK => ?_)
      go_simp
      have b18 := heap_cell (i := 2) (.pointer (some ⟨p2, 0, none⟩)) H17.out.mm.blk
      have o18 : Only [m] w17 (w17.setCell ⟨m, 2, none⟩ (.pointer (some ⟨p2, 0, none⟩))) := (Only.refl _ _).setCell (by simp) _
      have hh : (w17.setCell ⟨m, 2, none⟩ (.pointer (some ⟨p2, 0, none⟩))).cell? ⟨m, 3, none⟩ = some (.slice ra gs.length rc) ∧ (w17.setCell ⟨m, 2, none⟩ (.pointer (some ⟨p2, 0, none⟩))).cell? ⟨m, 4, none⟩ = some (.slice ta ((M.seen jm true).recs.length + 1) tc) :=
        ⟨by rw [← HCUT.out.1]; exact cell_at 3 b18, by rw [← HCUT.out.2.1]; exact cell_at 4 b18⟩
      refine hK.out _ _ hh (fun hH => ?_)
      clear hK K c2 f2 hh hH
      have B18 := Lib.hid b18
      have O18 := Lib.hid o18
      clear b18 o18
      generalize w17.setCell ⟨m, 2, none⟩ (.pointer (some ⟨p2, 0, none⟩)) = w18 at B18 O18 ⊢
      have c3 : w18.cell? ⟨m, 3, none⟩ = some vr := cell_at 3 B18.out
      have f3 := free_at 3 B18.out
      refine takeP_list (i := 22) (v := ?_) rfl (by kernel_rfl) (by kernel_rfl) (by kernel_rfl) (fun _ _ _ h => h) (Or.inl ⟨by rfl, ?_⟩) ?_
      rotate_left
      · ((intro w hSw; (try dsimp only at hSw); go_simp); try with_reducible rfl)
      simp only [Act.put, List.setIfInBounds_toArray, List.set_cons_zero, List.set_cons_succ]
      refine takeP_list (i := 23) (v := ?_) rfl (by kernel_rfl) (by kernel_rfl) (by kernel_rfl) (fun _ _ _ h => h) (Or.inl ⟨by rfl, ?_⟩) ?_
      rotate_left
      · ((intro w hSw; (try dsimp only at hSw); go_simp); try with_reducible rfl)
      simp only [Act.put, List.setIfInBounds_toArray, List.set_cons_zero, List.set_cons_succ]
      refine readyC_out (i := 24) (by kernel_rfl) (by kernel_rfl) rfl (fun K hK => ?_)
      go_simp
      refine hK.out _ _ ?_
      clear hK K c3 f3
      have B19 := Lib.hid (heap_cell (i := 3) (.slice ra k rc) B18.out)
      have O19 := Lib.hid (O18.out.trans (show Only [m] w18 (w18.setCell ⟨m, 3, none⟩ (.slice ra k rc)) from (Only.refl _ _).setCell (by simp) _) (fun k hk => .inl hk))
      clear B18 O18
      generalize w18.setCell ⟨m, 3, none⟩ (.slice ra k rc) = w19 at B19 O19 ⊢
      have c4 : w19.cell? ⟨m, 4, none⟩ = some vt := cell_at 4 B19.out
      have f4 := free_at 4 B19.out
      refine takeP_list (i := 25) (v := ?_) rfl (by kernel_rfl) (by kernel_rfl) (by kernel_rfl) (fun _ _ _ h => h) (Or.inl ⟨by rfl, ?_⟩) ?_
      rotate_left
      · ((intro w hSw; (try dsimp only at hSw); go_simp); try with_reducible rfl)
      simp only [Act.put, List.setIfInBounds_toArray, List.set_cons_zero, List.set_cons_succ]
      refine takeP_list (i := 26) (v := ?_) rfl (by kernel_rfl) (by kernel_rfl) (by kernel_rfl) (fun _ _ _ h => h) (Or.inl ⟨by rfl, ?_⟩) ?_
      rotate_left
      · ((intro w hSw; (try dsimp only at hSw); go_simp); try with_reducible rfl)
      simp only [Act.put, List.setIfInBounds_toArray, List.set_cons_zero, List.set_cons_succ]
      refine readyC_out (i := 27) (by kernel_rfl) (by kernel_rfl) rfl (fun K hK => ?_)
      go_simp
      refine hK.out _ _ ?_
      clear hK K c4 f4
      have B20 := Lib.hid (heap_cell (i := 4) (.slice ta (k + 1) tc) B19.out)
      have O20 := Lib.hid (O19.out.trans (show Only [m] w19 (w19.setCell ⟨m, 4, none⟩ (.slice ta (k + 1) tc)) from (Only.refl _ _).setCell (by simp) _) (fun k hk => .inl hk))
      clear B19 O19
      generalize w19.setCell ⟨m, 4, none⟩ (.slice ta (k + 1) tc) = w20 at B20 O20 ⊢
      refine wpAnyC_done (by kernel_rfl) ?_ _
      have J20 := Lib.hid (H17.out.jn.kept O20.out (fun k hk => by rw [List.mem_singleton.1 hk]; exact H17.out.off m (mem_mbl.2 (.inl rfl))))
      have KX := next_jn J20.out HBIG.out
      rw [HNN.out] at KX
      clear sl1 sl2 hwr
      go_wp2_with fail
      refine KX.mono ?_
      rintro e w21 ⟨rfl, o21⟩
      have B21 := Lib.hid (o21.heap B20.out (by simp))
      have J21 := Lib.hid (J20.out.quiet o21)
      have O21 := Lib.hid (O20.out.trans o21 (by simp))
      clear KX B20 O20 o21 J20
      have c7 : w21.cell? ⟨m, 7, none⟩ = some (.int .i64 (M.seen jm true).sure) := cell_at 7 B21.out
      have c8 : w21.cell? ⟨m, 8, none⟩ = some (.int .i64 (M.seen jm true).booked) := cell_at 8 B21.out
      have c9 : w21.cell? ⟨m, 9, none⟩ = some (.bool (M.seen jm true).dead) := cell_at 9 B21.out
      have c10 : w21.cell? ⟨m, 10, none⟩ = some vm := cell_at 10 B21.out
      have f7 := free_at 7 B21.out
      have f8 := free_at 8 B21.out
      have f9 := free_at 9 B21.out
      have f10 := free_at 10 B21.out
      go_wp2_with fail
      obtain rfl : nx = k + 1 := HNX.out
      have o22 : Only [m] w21 ((((w21.setCell ⟨m, 7, none⟩ (.int .i64 ((k + 1 : Nat) : Int))).setCell ⟨m, 8, none⟩ (.int .i64 0)).setCell ⟨m, 9, none⟩ (.bool false)).setCell ⟨m, 10, none⟩ (.slice none 0 0)) := ((((Only.refl _ _).setCell (by simp) _).setCell (by simp) _).setCell (by simp) _).setCell (by simp) _
      have b22 := heap_cell (i := 10) (.slice none 0 0) (heap_cell (i := 9) (.bool false) (heap_cell (i := 8) (.int .i64 0) (heap_cell (i := 7) (.int .i64 ((k + 1 : Nat) : Int)) B21.out)))
      go_ret
      have OX := O21.out.trans o22 (fun j hj => .inl hj)
      have mm := H17.out.mm.cutTo (M' := ⟨M.n, M.recs.take k, jm.1, jm.2, k + 1, 0, false, []⟩) k (by rw [ML.seen_recs]; exact hkr) ra rc ta tc HCUT.out.1 HCUT.out.2.1 OX (by rfl) b22
      have hm17 : m ∈ mbl m vr vt vm gs := mem_mbl.2 (.inl rfl)
      have sub := mbl_cut (m := m) (vm := vm) (gs := gs) k HCUT.out.2.2.1 HCUT.out.2.2.2
      exact ⟨rfl, p2, q2, j2, s2, _, _, _, _, ⟨⟨B, J21.out.kept o22 (fun j hj => by rw [List.mem_singleton.1 hj]; exact H17.out.off m hm17), H17.out.newB, fun x hx => H17.out.off x (sub x hx)⟩, mm, OMk.nil _, fun x hx => H17.out.new x (sub x hx), H17.out.only.trans OX (fun j hj => .inr (by rw [List.mem_singleton.1 hj]; exact (H17.out.new m hm17).1)), keep_only OX (fun j hj => by rw [List.mem_singleton.1 hj]; exact H17.out.new m hm17) H17.out.keep⟩, HMR.out, rfl, ⟨k, hkr, rfl⟩, rfl, rfl, rfl⟩
end
end Go.Proofs.YtfnedeaemjchgaaGreat
/- What a model and its journal have in common, in numbers; how large a model may have grown. -/
namespace Go.Proofs.YtfnedeaemjchgaaGreat
open Go.RowKit Go.Maps
set_option linter.unusedSimpArgs false
set_option linter.unusedVariables false

section
variable {N : Int} {d : Disk} {s : SL} {j : JL} {M : ML}
theorem MR.fin (h : MR N d s j M) : j.fin = (flat M.recs).length := by
  have e := pos_drop M.recs (M.first - 1)
  unfold JL.fin
  rw [h.start, h.recs]
  exact e.symm
theorem MR.big (h : MR N d s j M) (h1 : M.recs.length ≤ 1048575) (h2 : (flat M.recs).length ≤ 1048576000000) : JBig j := by
  refine ⟨by rw [h.fin]; omega, ?_⟩
  rw [h.next]
  unfold ML.next
  omega
theorem MR.free (h : MR N d s j M) (hj : JOk j) : j.free = M.free := by
  have h1 := h.fin
  have h2 := hj.stream
  have h3 := h.start
  have h4 := Nat.div_add_mod j.start 470
  unfold JL.fin at h1
  unfold JL.free ML.free
  rw [h.n, h2, ← h1, ← h3]
  omega
theorem MR.fit (h : MR N d s j M) (hj : JOk j) (h2 : (flat M.recs).length ≤ 1048576000000) : M.Fit :=
  ⟨h.f1, h.fle, by omega, by rw [← h.n]; exact hj.nm⟩
theorem MR.arm (h : MR N d s j M) (n : Int) : MR N { d with met := d.met.arm n } s j M := by
  refine ⟨h.n, h.at_, h.first, h.f1, h.fle, h.note, h.recs, h.start, h.booked, h.dead, h.sure, h.may, fun hd => ⟨(h.live hd).1.arm n, (h.live hd).2⟩, fun hd => ⟨(h.gone hd).1, fun ks => ?_⟩⟩
  obtain ⟨s', mk, k, h1, h2, h3, h4, h5, h6, h7⟩ := (h.gone hd).2 ks
  exact ⟨s', mk, k, h1, h2, h3, h4, h5, h6, h7.congr rfl rfl (fun _ => rfl)⟩
theorem MR.book (h : MR N d s j M) (b : Nat) : MR N d s { j with booked := b } { M with booked := b } :=
  ⟨h.n, h.at_, h.first, h.f1, h.fle, h.note, h.recs, h.start, rfl, h.dead, h.sure, h.may, fun hd => ⟨⟨(h.live hd).1.has, (h.live hd).1.cut, (h.live hd).1.down, (h.live hd).1.dead⟩, (h.live hd).2⟩, h.gone⟩
theorem MR.acode (h : MR N d s j M) (hj : JOk j) (r : Sec) (o : Int) : j.acode r (j.free - o) = if M.dead = true then 3 else if r.length < 1 ∨ 4096 < r.length then 2 else if M.free - o < 2 + r.length then 5 else 0 := by
  unfold JL.acode
  rw [h.dead, h.free hj]
end
/-- How large a model may have grown by c calls. -/
structure MB (c : Nat) (M : ML) : Prop where
  len : M.recs.length ≤ c
  flat : (flat M.recs).length ≤ 4098 * c
  may : M.may.length ≤ c
  c : c ≤ 100000
section
variable {c : Nat} {M M' : ML}
theorem MB.same (h : MB c M) (h1 : M'.recs = M.recs) (h2 : M'.may = M.may) : MB c M' := ⟨by rw [h1]; exact h.len, by rw [h1]; exact h.flat, by rw [h2]; exact h.may, h.c⟩
theorem MB.next (h : MB c M) (hc : c + 1 ≤ 100000) : MB (c + 1) M := by
  have h1 := h.len
  have h2 := h.flat
  have h3 := h.may
  exact ⟨by omega, by omega, by omega, hc⟩
theorem MB.put (h : MB c M) (hc : c + 1 ≤ 100000) (r : Sec) (hr : r.length ≤ 4096) : MB (c + 1) { M with recs := M.recs ++ [r] } := by
  have h1 := h.len
  have h2 := h.flat
  have h3 := h.may
  refine ⟨?_, ?_, by show M.may.length ≤ _; omega, hc⟩
  · show (M.recs ++ [r]).length ≤ _
    rw [List.length_append]
    simp
    omega
  · show (Proofs.YtfnedeaemjchgaaGreat.flat (M.recs ++ [r])).length ≤ _
    rw [flat_snoc]
    omega
theorem MB.mark (h : MB c M) (hc : c + 1 ≤ 100000) (h1 : M'.recs = M.recs) (x : Nat × Sec) (h2 : M'.may = M.may ++ [x]) : MB (c + 1) M' := by
  have g1 := h.len
  have g2 := h.flat
  have g3 := h.may
  refine ⟨by rw [h1]; omega, by rw [h1]; omega, ?_, hc⟩
  rw [h2, List.length_append]
  simp
  omega
theorem MB.cut (h : MB c M) (k : Nat) (hk : k ≤ M.recs.length) (h1 : M'.recs = M.recs.take k) (h2 : M'.may = []) : MB c M' := by
  have g1 := h.len
  have g2 := h.flat
  refine ⟨?_, ?_, by rw [h2]; exact Nat.zero_le _, h.c⟩
  · rw [h1, List.length_take]
    omega
  · rw [h1]
    have := pos_le M.recs k
    unfold pos at this
    omega
theorem MB.b1 (h : MB c M) : M.recs.length ≤ 1048575 := by have := h.len; have := h.c; omega
theorem MB.b2 (h : MB c M) : (Proofs.YtfnedeaemjchgaaGreat.flat M.recs).length ≤ 1048576000000 := by have := h.flat; have := h.c; omega
theorem MB.b3 (h : MB c M) : M.may.length ≤ 1048575 := by have := h.may; have := h.c; omega
end
/-- A model beside its journal, however they stand, by c calls. -/
def GS (w0 w : World) (F : List (Nat × Obj)) (m : Nat) (a : DA) (n c : Nat) : Prop := ∃ p q d j s vr vt vm gs M, MS w0 w F m p q a d j s vr vt vm gs M ∧ MR (1 + 2 * (c : Int)) d s j M ∧ MB c M ∧ M.n = n
theorem GS.quiet {w0 w w1 : World} {F : List (Nat × Obj)} {m : Nat} {a : DA} {n c : Nat} (h : GS w0 w F m a n c) (ho : Only [] w w1) : GS w0 w1 F m a n c := by
  obtain ⟨p, q, d, j, s, vr, vt, vm, gs, M, h1, h2, h3, h4⟩ := h
  exact ⟨p, q, d, j, s, vr, vt, vm, gs, M, h1.quiet ho, h2, h3, h4⟩
theorem GS.only {w0 w : World} {F : List (Nat × Obj)} {m : Nat} {a : DA} {n c : Nat} (h : GS w0 w F m a n c) : Only [] w0 w := by
  obtain ⟨p, q, d, j, s, vr, vt, vm, gs, M, h1, h2, h3, h4⟩ := h
  exact h1.only
section
variable {w0 w w1 : World} {F : List (Nat × Obj)} {m p q : Nat} {a : DA} {d d' : Disk} {j j' : JL} {s s' : SL} {vr vt vm : Value} {gs : List Value} {M : ML}
/-- A value whose block, if it has one, is one of F. -/
def InF (F : List (Nat × Obj)) (v : Value) : Prop := ∀ ad n c, v = .slice (some ad) n c → ∃ o, (ad.block, o) ∈ F
theorem MS.callF {f : FuncId} {args : Array Value} {R : Ending → Prop} (h : MS w0 w F m p q a d j s vr vt vm gs M)
    (G : ∀ B, (∀ k ∈ B, Nw w0 F k) → Jn w p q a B d j s → Calls Tryz.prog f args w fun e w' => R e ∧ JTo w p q a B d' j' s' w') :
    Calls Tryz.prog f args w fun e w' => R e ∧ MS w0 w' F m p q a d' j' s' vr vt vm gs M := by
  obtain ⟨⟨B, h1, h2, h3⟩, h4, h5, h6, h7, h8⟩ := h
  exact (G B h2 h1).mono fun e w' g => ⟨g.1, MS.of h1 h2 h3 h4 h5 h6 h7 h8 g.2⟩
theorem off_F {B : List Nat} {v : Value} (hB : ∀ k ∈ B, Nw w0 F k) (hv : InF F v) : Off v B := fun ad n c e _ hm => by
  obtain ⟨o, ho⟩ := hv ad n c e
  exact (hB _ hm).2 _ ho rfl
theorem append_F (h : MS w0 w F m p q a d j s vr vt vm gs M) (hb : JBig j) (v : Value) (r : Sec) (hr : Bytes w v r) (hf : InF F v) (hl : r.length ≤ 9223372036854775807) :
    Calls Tryz.prog 17 #[.pointer (some ⟨p, 0, none⟩), v] w fun e w' => e = .returned (.tuple #[.int .i64 (j.anum r (j.free - j.booked)), errV (j.acode r (j.free - j.booked))]) ∧ MS w0 w' F m p q a d (j.added r (j.free - j.booked)) s vr vt vm gs M :=
  h.callF (R := fun e => e = .returned (.tuple #[.int .i64 (j.anum r (j.free - j.booked)), errV (j.acode r (j.free - j.booked))])) (fun B hlt hj => (jappend_any hj hb v r hr (off_F hlt hf) hl).mono fun e w' g => ⟨g.1, g.2⟩)
theorem spend_F (h : MS w0 w F m p q a d j s vr vt vm gs M) (hb : JBig j) (v : Value) (r : Sec) (hr : Bytes w v r) (hf : InF F v) (hl : r.length ≤ 9223372036854775807) :
    Calls Tryz.prog 23 #[.pointer (some ⟨p, 0, none⟩), v] w fun e w' => e = .returned (.tuple #[.int .i64 (j.anum r j.free), errV (j.acode r j.free)]) ∧ MS w0 w' F m p q a d (j.added r j.free) s vr vt vm gs M :=
  h.callF (R := fun e => e = .returned (.tuple #[.int .i64 (j.anum r j.free), errV (j.acode r j.free)])) (fun B hlt hj => (jspend_any hj hb v r hr (off_F hlt hf) hl).mono fun e w' g => ⟨g.1, g.2⟩)
theorem trim_F (h : MS w0 w F m p q a d j s vr vt vm gs M) (hb : JBig j) (x : Int) (v : Value) (r : Sec) (hr : Bytes w v r) (hf : InF F v) (hl : r.length ≤ 9223372036854775807) :
    Calls Tryz.prog 18 #[.pointer (some ⟨p, 0, none⟩), .int .i64 x, v] w fun e w' => e = .returned (errV (j.trimR d s x r).c) ∧ MS w0 w' F m p q a (j.trimR d s x r).d (j.trimR d s x r).j (j.trimR d s x r).s vr vt vm gs M :=
  h.callF (R := fun e => e = .returned (errV (j.trimR d s x r).c)) (fun B hlt hj => (jtrim_any hj hb x v r hr (off_F hlt hf) hl).mono fun e w' g => ⟨g.1, g.2⟩)
end
end Go.Proofs.YtfnedeaemjchgaaGreat
/- A model holds against its journal what both show. -/
namespace Go.Proofs.YtfnedeaemjchgaaGreat
open Go.RowKit Go.Maps
set_option linter.unusedSimpArgs false
set_option linter.unusedVariables false

section
variable {w0 w w1 : World} {F : List (Nat × Obj)} {m p q c : Nat} {a : DA} {d : Disk} {j : JL} {s : SL} {vr vt vm : Value} {gs : List Value} {M : ML} {N : Int}
theorem first_M (h : MS w0 w F m p q a d j s vr vt vm gs M) (r : MR N d s j M) : Calls Tryz.prog 19 #[.pointer (some ⟨p, 0, none⟩)] w fun e w' => e = .returned (.int .i64 M.first) ∧ w = w' := by
  obtain ⟨vs, vt', vn, vr', hm⟩ := h.jm
  rw [← r.first]
  exact jfirst_any hm
theorem next_M (h : MS w0 w F m p q a d j s vr vt vm gs M) (r : MR N d s j M) (hc : MB c M) : Calls Tryz.prog 20 #[.pointer (some ⟨p, 0, none⟩)] w fun e w' => e = .returned (.int .i64 M.next) ∧ Only [] w w' := by
  obtain ⟨vs, vt', vn, vr', hm⟩ := h.jm
  rw [← r.next]
  exact (jnext_any hm (r.big hc.b1 hc.b2)).mono fun e w' ⟨h1, h2⟩ => ⟨h1, h2.only⟩
theorem note_M (h : MS w0 w F m p q a d j s vr vt vm gs M) (r : MR N d s j M) : Calls Tryz.prog 21 #[.pointer (some ⟨p, 0, none⟩)] w fun e w' => ∃ b c, e = .returned (.slice b M.note.length c) ∧ Own w' w.heap.size (.slice b M.note.length c) M.note ∧ Only [] w w' := by
  obtain ⟨vs, vt', vn, vr', hm⟩ := h.jm
  exact jnote_any hm M.note r.note
theorem free_M (h : MS w0 w F m p q a d j s vr vt vm gs M) (r : MR N d s j M) : Calls Tryz.prog 16 #[.pointer (some ⟨p, 0, none⟩)] w fun e w' => e = .returned (.int .i64 M.free) ∧ Only [] w w' := by
  obtain ⟨vs, vt', vn, vr', hm⟩ := h.jm
  rw [← r.free hm.ok]
  exact (jfree_any hm).mono fun e w' ⟨h1, h2⟩ => ⟨h1, h2.only⟩
theorem booked_M (h : MS w0 w F m p q a d j s vr vt vm gs M) (r : MR N d s j M) : Calls Tryz.prog 34 #[.pointer (some ⟨p, 0, none⟩)] w fun e w' => e = .returned (.int .i64 M.booked) ∧ w = w' := by
  obtain ⟨vs, vt', vn, vr', hm⟩ := h.jm
  rw [← r.booked]
  exact jbooked_any hm
theorem dead_M (h : MS w0 w F m p q a d j s vr vt vm gs M) (r : MR N d s j M) : Calls Tryz.prog 35 #[.pointer (some ⟨p, 0, none⟩)] w fun e w' => e = .returned (.bool M.dead) ∧ w = w' := by
  obtain ⟨vs, vt', vn, vr', hm⟩ := h.jm
  rw [← r.dead]
  exact jdead_any hm
theorem flushed_M (h : MS w0 w F m p q a d j s vr vt vm gs M) (r : MR N d s j M) (hd : M.dead = false) : Calls Tryz.prog 36 #[.pointer (some ⟨p, 0, none⟩)] w fun e w' => e = .returned (.int .i64 M.sure) ∧ w = w' := by
  obtain ⟨vs, vt', vn, vr', hm⟩ := h.jm
  have e1 : ((M.sure : Nat) : Int) = (j.first : Int) + j.fl := by rw [r.sure hd, r.first]; omega
  rw [e1]
  exact jflushed_any hm
theorem get_M (h : MS w0 w F m p q a d j s vr vt vm gs M) (r : MR N d s j M) (hc : MB c M) (k : Nat) (x : Sec) (hx : M.recs[k]? = some x) (hk : M.first ≤ k + 1) (y : Int) (hy : y = (k : Int) + 1) :
    Calls Tryz.prog 30 #[.pointer (some ⟨p, 0, none⟩), .int .i64 y] w fun e w' => ∃ b c, e = .returned (.tuple #[.slice b x.length c, .nilIface]) ∧ Own w' w.heap.size (.slice b x.length c) x ∧ Only [] w w' := by
  obtain ⟨vs, vt', vn, vr', hm⟩ := h.jm
  have h1 := r.f1
  refine jget_yes hm (r.big hc.b1 hc.b2) (k - (M.first - 1)) x ?_ y ?_
  · rw [r.recs, List.getElem?_drop]
    have e : M.first - 1 + (k - (M.first - 1)) = k := by omega
    rw [e]
    exact hx
  · rw [r.first]
    omega
/-- A row of the model's. -/
theorem MM.row_at (h : MM w m a p vr vt vm gs M) {i : Nat} {x : Sec} (hi : M.recs[i]? = some x) : ∃ g rc gb gc, vr = .slice (some ⟨g, 0, none⟩) gs.length rc ∧ w.cell? ⟨g, i, none⟩ = some (.slice gb x.length gc) ∧ Bytes w (.slice gb x.length gc) x := by
  obtain ⟨ra, rc, rfl⟩ := h.shapeR
  have hl := (List.getElem?_eq_some_iff.1 hi).1
  obtain ⟨gv, hg⟩ : ∃ gv, gs[i]? = some gv := ⟨_, List.getElem?_eq_getElem (by rw [h.hlen]; exact hl)⟩
  obtain ⟨g, rfl, hc, -⟩ := own_at h.recs hg
  have ho := h.rows i gv x hg hi
  obtain ⟨gb, gc, rfl, -⟩ := id ho.bytes
  exact ⟨g, rc, gb, gc, rfl, hc, ho.bytes⟩

set_option maxRecDepth 100000 in
set_option maxHeartbeats 2000000 in
theorem msame_any (h : MS w0 w F m p q a d j s vr vt vm gs M) (r : MR N d s j M) (hc : MB c M) :
    Calls Tryz.prog 9 #[.pointer (some ⟨m, 0, none⟩)] w fun e w' => e = .returned (.bool true) ∧ Only [] w w' := by
  have H := Lib.hid h
  have R := Lib.hid r
  have C := Lib.hid hc
  have c2 : w.cell? ⟨m, 2, none⟩ = some (.pointer (some ⟨p, 0, none⟩)) := cell_at 2 h.mm.blk
  obtain ⟨S, hS⟩ : ∃ S, S = strOf M.note := ⟨_, rfl⟩
  have HS := Lib.hid hS
  obtain ⟨fi, hfi⟩ : ∃ fi : Nat, fi = M.first := ⟨_, rfl⟩
  obtain ⟨nx, hnx⟩ : ∃ nx : Nat, nx = M.next := ⟨_, rfl⟩
  obtain ⟨fr, hfr⟩ : ∃ fr : Int, fr = M.free := ⟨_, rfl⟩
  have HFI := Lib.hid hfi
  have HNX := Lib.hid hnx
  have HFR := Lib.hid hfr
  have hnb : nx ≤ 1048576 := by rw [hnx]; have := hc.b1; unfold ML.next; omega
  have hfb : 1 ≤ fi ∧ fi ≤ nx := by rw [hfi, hnx]; exact ⟨r.f1, r.fle⟩
  obtain ⟨hfb1, hfb2⟩ := hfb
  clear h r hc hfi hnx hfr
  go_enter Tryz.func9, Tryz.ntmps9
  go_wp2_with fail
  have o1 : Only [] w w.drew := (Only.refl [] w).drew
  have H1 := Lib.hid (H.out.quiet o1)
  have c5 : w.drew.cell? ⟨m, 5, none⟩ = some (.int .i64 fi) := by rw [HFI.out]; exact cell_at 5 H1.out.mm.blk
  have c6 : w.drew.cell? ⟨m, 6, none⟩ = some (.string S) := by rw [hS]; exact cell_at 6 H1.out.mm.blk
  have c8 : w.drew.cell? ⟨m, 8, none⟩ = some (.int .i64 M.booked) := cell_at 8 H1.out.mm.blk
  have c9 : w.drew.cell? ⟨m, 9, none⟩ = some (.bool M.dead) := cell_at 9 H1.out.mm.blk
  refine wp_region_held_drew (S := fun w' => w'.cell? ⟨m, 5, none⟩ = some (.int .i64 fi) ∧ w'.cell? ⟨m, 6, none⟩ = some (.string S) ∧ w'.cell? ⟨m, 8, none⟩ = some (.int .i64 M.booked) ∧ w'.cell? ⟨m, 9, none⟩ = some (.bool M.dead)) (by kernel_rfl) ⟨c5, c6, c8, c9⟩ (fun hH => ?_)
  clear c2 c5 c6 c8 c9 hS
  have O1 := Lib.hid o1
  clear o1 H
  generalize w.drew = w1 at H1 O1 hH ⊢
  have KF := first_M H1.out R.out
  rw [← HFI.out] at KF
  refine take_list (i := 0) (v := ?_) rfl (by kernel_rfl) (by kernel_rfl) (by kernel_rfl) (fun _ _ _ h => h) (Or.inl ⟨by rfl, ?_⟩) hH ?_
  rotate_left
  · ((intro w hSw; (try dsimp only at hSw); go_simp); try with_reducible rfl)
  simp only [Act.put, List.setIfInBounds_toArray, List.set_cons_zero, List.set_cons_succ]
  refine take_list (i := 2) (v := ?_) rfl (by kernel_rfl) (by kernel_rfl) (by kernel_rfl) (fun _ _ _ h => h) (Or.inl ⟨by rfl, ?_⟩) hH ?_
  rotate_left
  · ((intro w hSw; (try dsimp only at hSw); go_simp); try with_reducible rfl)
  simp only [Act.put, List.setIfInBounds_toArray, List.set_cons_zero, List.set_cons_succ]
  refine take_list (i := 3) (v := ?_) rfl (by kernel_rfl) (by kernel_rfl) (by kernel_rfl) (fun _ _ _ h => h) (Or.inl ⟨by rfl, ?_⟩) hH ?_
  rotate_left
  · ((intro w hSw; (try dsimp only at hSw); go_simp); try with_reducible rfl)
  simp only [Act.put, List.setIfInBounds_toArray, List.set_cons_zero, List.set_cons_succ]
  refine take_list (i := 4) (v := ?_) rfl (by kernel_rfl) (by kernel_rfl) (by kernel_rfl) (fun _ _ _ h => h) (Or.inl ⟨by rfl, ?_⟩) hH ?_
  rotate_left
  · ((intro w hSw; (try dsimp only at hSw); go_simp); try with_reducible rfl)
  simp only [Act.put, List.setIfInBounds_toArray, List.set_cons_zero, List.set_cons_succ]
  refine take_list (i := 5) (v := ?_) rfl (by kernel_rfl) (by kernel_rfl) (by kernel_rfl) (fun _ _ _ h => h) (Or.inl ⟨by rfl, ?_⟩) hH ?_
  rotate_left
  · ((intro w hSw; (try dsimp only at hSw); go_simp); try with_reducible rfl)
  simp only [Act.put, List.setIfInBounds_toArray, List.set_cons_zero, List.set_cons_succ]
  refine take_list (i := 6) (v := ?_) rfl (by kernel_rfl) (by kernel_rfl) (by kernel_rfl) (fun _ _ _ h => h) (Or.inl ⟨by rfl, ?_⟩) hH ?_
  rotate_left
  · ((intro w hSw; (try dsimp only at hSw); go_simp); try with_reducible rfl)
  simp only [Act.put, List.setIfInBounds_toArray, List.set_cons_zero, List.set_cons_succ]
  refine wpAnyH_ready (rs := [1]) (by kernel_rfl) (by simp) ?_
  refine ready_list rfl (fun K hK => ?_)
  go_simp
  refine KF.mono ?_
  rintro e w2 ⟨rfl, rfl⟩
  refine hK.out _ _ hH (fun hH => ?_)
  clear hK K KF
  have KN := next_M H1.out R.out C.out
  rw [← HNX.out] at KN
  refine take_list (i := 7) (v := ?_) rfl (by kernel_rfl) (by kernel_rfl) (by kernel_rfl) (fun _ _ _ h => h) (Or.inl ⟨by rfl, ?_⟩) hH ?_
  rotate_left
  · ((intro w hSw; (try dsimp only at hSw); go_simp); try with_reducible rfl)
  simp only [Act.put, List.setIfInBounds_toArray, List.set_cons_zero, List.set_cons_succ]
  refine take_list (i := 8) (v := ?_) rfl (by kernel_rfl) (by kernel_rfl) (by kernel_rfl) (fun _ _ _ h => h) (Or.inl ⟨by rfl, ?_⟩) hH ?_
  rotate_left
  · ((intro w hSw; (try dsimp only at hSw); go_simp); try with_reducible rfl)
  simp only [Act.put, List.setIfInBounds_toArray, List.set_cons_zero, List.set_cons_succ]
  refine take_list (i := 9) (v := ?_) rfl (by kernel_rfl) (by kernel_rfl) (by kernel_rfl) (fun _ _ _ h => h) (Or.inl ⟨by rfl, ?_⟩) hH ?_
  rotate_left
  · ((intro w hSw; (try dsimp only at hSw); go_simp); try with_reducible rfl)
  simp only [Act.put, List.setIfInBounds_toArray, List.set_cons_zero, List.set_cons_succ]
  refine take_list (i := 11) (v := ?_) rfl (by kernel_rfl) (by kernel_rfl) (by kernel_rfl) (fun _ _ _ h => h) (Or.inl ⟨by rfl, ?_⟩) hH ?_
  rotate_left
  · ((intro w hSw; (try dsimp only at hSw); go_simp); try with_reducible rfl)
  simp only [Act.put, List.setIfInBounds_toArray, List.set_cons_zero, List.set_cons_succ]
  refine wpAnyH_ready (rs := [10]) (by kernel_rfl) (by simp) ?_
  refine ready_list rfl (fun K hK => ?_)
  go_simp
  refine KN.mono ?_
  rintro e w2 ⟨rfl, o2⟩
  have H2 := Lib.hid (H1.out.quiet o2)
  have O2 := Lib.hid (O1.out.trans o2 (by simp))
  have hh := And.intro (cell_kept o2 hH.1 (by simp)) (And.intro (cell_kept o2 hH.2.1 (by simp)) (And.intro (cell_kept o2 hH.2.2.1 (by simp)) (cell_kept o2 hH.2.2.2 (by simp))))
  refine hK.out _ _ hh (fun hH => ?_)
  clear hK K KN o2 hh H1 O1
  have KM := mnext_any H2.out.mm (by have := C.out.b1; omega)
  rw [← HNX.out] at KM
  refine wpAnyH_ready (rs := [12]) (by kernel_rfl) (by simp) ?_
  refine ready_list rfl (fun K hK => ?_)
  go_simp
  refine KM.mono ?_
  rintro e w3 ⟨rfl, rfl⟩
  refine hK.out _ _ hH (fun hH => ?_)
  clear hK K KM
  refine take_list (i := 13) (v := ?_) rfl (by kernel_rfl) (by kernel_rfl) (by kernel_rfl) (fun _ _ _ h => h) (Or.inl ⟨by rfl, ?_⟩) hH ?_
  rotate_left
  · ((intro w hSw; (try dsimp only at hSw); go_simp); try with_reducible rfl)
  simp only [Act.put, List.setIfInBounds_toArray, List.set_cons_zero, List.set_cons_succ]
  refine take_list (i := 14) (v := ?_) rfl (by kernel_rfl) (by kernel_rfl) (by kernel_rfl) (fun _ _ _ h => h) (Or.inl ⟨by rfl, ?_⟩) hH ?_
  rotate_left
  · ((intro w hSw; (try dsimp only at hSw); go_simp); try with_reducible rfl)
  simp only [Act.put, List.setIfInBounds_toArray, List.set_cons_zero, List.set_cons_succ]
  refine take_list (i := 15) (v := ?_) rfl (by kernel_rfl) (by kernel_rfl) (by kernel_rfl) (fun _ _ _ h => h) (Or.inl ⟨by rfl, ?_⟩) hH ?_
  rotate_left
  · ((intro w hSw; (try dsimp only at hSw); go_simp); try with_reducible rfl)
  simp only [Act.put, List.setIfInBounds_toArray, List.set_cons_zero, List.set_cons_succ]
  refine take_list (i := 16) (v := ?_) rfl (by kernel_rfl) (by kernel_rfl) (by kernel_rfl) (fun _ _ _ h => h) (Or.inl ⟨by rfl, ?_⟩) hH ?_
  rotate_left
  · ((intro w hSw; (try dsimp only at hSw); go_simp); try with_reducible rfl)
  simp only [Act.put, List.setIfInBounds_toArray, List.set_cons_zero, List.set_cons_succ]
  refine take_list (i := 19) (v := ?_) rfl (by kernel_rfl) (by kernel_rfl) (by kernel_rfl) (fun _ _ _ h => h) (Or.inl ⟨by rfl, ?_⟩) hH ?_
  rotate_left
  · ((intro w hSw; (try dsimp only at hSw); go_simp); try with_reducible rfl)
  simp only [Act.put, List.setIfInBounds_toArray, List.set_cons_zero, List.set_cons_succ]
  refine take_list (i := 20) (v := ?_) rfl (by kernel_rfl) (by kernel_rfl) (by kernel_rfl) (fun _ _ _ h => h) (Or.inl ⟨by rfl, ?_⟩) hH ?_
  rotate_left
  · ((intro w hSw; (try dsimp only at hSw); go_simp); try with_reducible rfl)
  simp only [Act.put, List.setIfInBounds_toArray, List.set_cons_zero, List.set_cons_succ]
  refine take_list (i := 21) (v := ?_) rfl (by kernel_rfl) (by kernel_rfl) (by kernel_rfl) (fun _ _ _ h => h) (Or.inl ⟨by rfl, ?_⟩) hH ?_
  rotate_left
  · ((intro w hSw; (try dsimp only at hSw); go_simp); try with_reducible rfl)
  simp only [Act.put, List.setIfInBounds_toArray, List.set_cons_zero, List.set_cons_succ]
  refine take_list (i := 22) (v := ?_) rfl (by kernel_rfl) (by kernel_rfl) (by kernel_rfl) (fun _ _ _ h => h) (Or.inl ⟨by rfl, ?_⟩) hH ?_
  rotate_left
  · ((intro w hSw; (try dsimp only at hSw); go_simp); try with_reducible rfl)
  simp only [Act.put, List.setIfInBounds_toArray, List.set_cons_zero, List.set_cons_succ]
  refine take_list (i := 23) (v := ?_) rfl (by kernel_rfl) (by kernel_rfl) (by kernel_rfl) (fun _ _ _ h => h) (Or.inl ⟨by rfl, ?_⟩) hH ?_
  rotate_left
  · ((intro w hSw; (try dsimp only at hSw); go_simp); try with_reducible rfl)
  simp only [Act.put, List.setIfInBounds_toArray, List.set_cons_zero, List.set_cons_succ]
  have KT := note_M H2.out R.out
  refine wpAnyH_ready (rs := [17]) (by kernel_rfl) (by simp) ?_
  refine ready_list rfl (fun K hK => ?_)
  go_simp
  refine KT.mono ?_
  rintro e w3 ⟨b3, c3, rfl, own3, o3⟩
  have s3 := str_bytes own3.bytes HS.out
  have H3 := Lib.hid (H2.out.quiet o3)
  have O3 := Lib.hid (O2.out.trans o3 (by simp))
  have hh := And.intro (cell_kept o3 hH.1 (by simp)) (And.intro (cell_kept o3 hH.2.1 (by simp)) (And.intro (cell_kept o3 hH.2.2.1 (by simp)) (cell_kept o3 hH.2.2.2 (by simp))))
  refine hK.out _ _ hh (fun hH => ?_)
  have OW3 := Lib.hid own3
  clear hK K KT own3 o3 hh H2 O2
  refine wpAnyH_sharpen (S' := fun w' => (w'.cell? ⟨m, 5, none⟩ = some (.int .i64 fi) ∧ w'.cell? ⟨m, 6, none⟩ = some (.string S) ∧ w'.cell? ⟨m, 8, none⟩ = some (.int .i64 M.booked) ∧ w'.cell? ⟨m, 9, none⟩ = some (.bool M.dead)) ∧ (convert 27 9 (.slice b3 M.note.length c3)).run Tryz.prog w' = .ok (.string S) w') (fun w h => h.1) ?_
  have hH : (w3.cell? ⟨m, 5, none⟩ = some (.int .i64 fi) ∧ w3.cell? ⟨m, 6, none⟩ = some (.string S) ∧ w3.cell? ⟨m, 8, none⟩ = some (.int .i64 M.booked) ∧ w3.cell? ⟨m, 9, none⟩ = some (.bool M.dead)) ∧ (convert 27 9 (.slice b3 M.note.length c3)).run Tryz.prog w3 = .ok (.string S) w3 := ⟨hH, s3⟩
  clear s3
  refine take_list (i := 18) (v := .string S) rfl (by kernel_rfl) (by kernel_rfl) (by kernel_rfl) (fun _ _ _ h => h) (Or.inl ⟨by rfl, ?_⟩) hH ?_
  · intro w hSw
    have hc2 := hSw.2
    clear hSw hH
    go_simp
  simp only [Act.put, List.setIfInBounds_toArray, List.set_cons_zero, List.set_cons_succ]
  refine take_list (i := 24) (v := ?_) rfl (by kernel_rfl) (by kernel_rfl) (by kernel_rfl) (fun _ _ _ h => h) (Or.inl ⟨by rfl, ?_⟩) hH ?_
  rotate_left
  · ((intro w hSw; (try dsimp only at hSw); go_simp); try with_reducible rfl)
  simp only [Act.put, List.setIfInBounds_toArray, List.set_cons_zero, List.set_cons_succ]
  refine take_list (i := 25) (v := ?_) rfl (by kernel_rfl) (by kernel_rfl) (by kernel_rfl) (fun _ _ _ h => h) (Or.inl ⟨by rfl, ?_⟩) hH ?_
  rotate_left
  · ((intro w hSw; (try dsimp only at hSw); go_simp); try with_reducible rfl)
  simp only [Act.put, List.setIfInBounds_toArray, List.set_cons_zero, List.set_cons_succ]
  refine take_list (i := 26) (v := ?_) rfl (by kernel_rfl) (by kernel_rfl) (by kernel_rfl) (fun _ _ _ h => h) (Or.inl ⟨by rfl, ?_⟩) hH ?_
  rotate_left
  · ((intro w hSw; (try dsimp only at hSw); go_simp); try with_reducible rfl)
  simp only [Act.put, List.setIfInBounds_toArray, List.set_cons_zero, List.set_cons_succ]
  refine take_list (i := 27) (v := ?_) rfl (by kernel_rfl) (by kernel_rfl) (by kernel_rfl) (fun _ _ _ h => h) (Or.inl ⟨by rfl, ?_⟩) hH ?_
  rotate_left
  · ((intro w hSw; (try dsimp only at hSw); go_simp); try with_reducible rfl)
  simp only [Act.put, List.setIfInBounds_toArray, List.set_cons_zero, List.set_cons_succ]
  refine take_list (i := 29) (v := ?_) rfl (by kernel_rfl) (by kernel_rfl) (by kernel_rfl) (fun _ _ _ h => h) (Or.inl ⟨by rfl, ?_⟩) hH ?_
  rotate_left
  · ((intro w hSw; (try dsimp only at hSw); go_simp); try with_reducible rfl)
  simp only [Act.put, List.setIfInBounds_toArray, List.set_cons_zero, List.set_cons_succ]
  have KR := free_M H3.out R.out
  rw [← HFR.out] at KR
  refine wpAnyH_ready (rs := [28]) (by kernel_rfl) (by simp) ?_
  refine ready_list rfl (fun K hK => ?_)
  go_simp
  refine KR.mono ?_
  rintro e w4 ⟨rfl, o4⟩
  have H4 := Lib.hid (H3.out.quiet o4)
  have O4 := Lib.hid (O3.out.trans o4 (by simp))
  have OW4 := Lib.hid (OW3.out.quiet o4)
  have hh := And.intro (And.intro (cell_kept o4 hH.1.1 (by simp)) (And.intro (cell_kept o4 hH.1.2.1 (by simp)) (And.intro (cell_kept o4 hH.1.2.2.1 (by simp)) (cell_kept o4 hH.1.2.2.2 (by simp))))) (str_bytes OW4.out.bytes HS.out)
  refine hK.out _ _ hh (fun hH => ?_)
  clear hK K KR o4 hh H3 O3 OW3
  have KE := mfree_any H4.out.mm R.out.f1 R.out.fle (by have := C.out.b2; omega) (by rw [← R.out.n]; exact H4.out.ok.nm) fr HFR.out.symm
  refine wpAnyH_ready (rs := [30]) (by kernel_rfl) (by simp) ?_
  refine ready_list rfl (fun K hK => ?_)
  go_simp
  refine KE.mono ?_
  rintro e w5 ⟨rfl, o5⟩
  have H5 := Lib.hid (H4.out.quiet o5)
  have O5 := Lib.hid (O4.out.trans o5 (by simp))
  have OW5 := Lib.hid (OW4.out.quiet o5)
  have hh := And.intro (And.intro (cell_kept o5 hH.1.1 (by simp)) (And.intro (cell_kept o5 hH.1.2.1 (by simp)) (And.intro (cell_kept o5 hH.1.2.2.1 (by simp)) (cell_kept o5 hH.1.2.2.2 (by simp))))) (str_bytes OW5.out.bytes HS.out)
  refine hK.out _ _ hh (fun hH => ?_)
  clear hK K KE o5 hh H4 O4 OW4
  refine take_list (i := 31) (v := ?_) rfl (by kernel_rfl) (by kernel_rfl) (by kernel_rfl) (fun _ _ _ h => h) (Or.inl ⟨by rfl, ?_⟩) hH ?_
  rotate_left
  · ((intro w hSw; (try dsimp only at hSw); go_simp); try with_reducible rfl)
  simp only [Act.put, List.setIfInBounds_toArray, List.set_cons_zero, List.set_cons_succ]
  refine take_list (i := 32) (v := ?_) rfl (by kernel_rfl) (by kernel_rfl) (by kernel_rfl) (fun _ _ _ h => h) (Or.inl ⟨by rfl, ?_⟩) hH ?_
  rotate_left
  · ((intro w hSw; (try dsimp only at hSw); go_simp); try with_reducible rfl)
  simp only [Act.put, List.setIfInBounds_toArray, List.set_cons_zero, List.set_cons_succ]
  refine take_list (i := 33) (v := ?_) rfl (by kernel_rfl) (by kernel_rfl) (by kernel_rfl) (fun _ _ _ h => h) (Or.inl ⟨by rfl, ?_⟩) hH ?_
  rotate_left
  · ((intro w hSw; (try dsimp only at hSw); go_simp); try with_reducible rfl)
  simp only [Act.put, List.setIfInBounds_toArray, List.set_cons_zero, List.set_cons_succ]
  refine take_list (i := 34) (v := ?_) rfl (by kernel_rfl) (by kernel_rfl) (by kernel_rfl) (fun _ _ _ h => h) (Or.inl ⟨by rfl, ?_⟩) hH ?_
  rotate_left
  · ((intro w hSw; (try dsimp only at hSw); go_simp); try with_reducible rfl)
  simp only [Act.put, List.setIfInBounds_toArray, List.set_cons_zero, List.set_cons_succ]
  refine take_list (i := 36) (v := ?_) rfl (by kernel_rfl) (by kernel_rfl) (by kernel_rfl) (fun _ _ _ h => h) (Or.inl ⟨by rfl, ?_⟩) hH ?_
  rotate_left
  · ((intro w hSw; (try dsimp only at hSw); go_simp); try with_reducible rfl)
  simp only [Act.put, List.setIfInBounds_toArray, List.set_cons_zero, List.set_cons_succ]
  refine take_list (i := 37) (v := ?_) rfl (by kernel_rfl) (by kernel_rfl) (by kernel_rfl) (fun _ _ _ h => h) (Or.inl ⟨by rfl, ?_⟩) hH ?_
  rotate_left
  · ((intro w hSw; (try dsimp only at hSw); go_simp); try with_reducible rfl)
  simp only [Act.put, List.setIfInBounds_toArray, List.set_cons_zero, List.set_cons_succ]
  refine take_list (i := 38) (v := ?_) rfl (by kernel_rfl) (by kernel_rfl) (by kernel_rfl) (fun _ _ _ h => h) (Or.inl ⟨by rfl, ?_⟩) hH ?_
  rotate_left
  · ((intro w hSw; (try dsimp only at hSw); go_simp); try with_reducible rfl)
  simp only [Act.put, List.setIfInBounds_toArray, List.set_cons_zero, List.set_cons_succ]
  refine take_list (i := 39) (v := ?_) rfl (by kernel_rfl) (by kernel_rfl) (by kernel_rfl) (fun _ _ _ h => h) (Or.inl ⟨by rfl, ?_⟩) hH ?_
  rotate_left
  · ((intro w hSw; (try dsimp only at hSw); go_simp); try with_reducible rfl)
  simp only [Act.put, List.setIfInBounds_toArray, List.set_cons_zero, List.set_cons_succ]
  have KB := booked_M H5.out R.out
  refine wpAnyH_ready (rs := [35]) (by kernel_rfl) (by simp) ?_
  refine ready_list rfl (fun K hK => ?_)
  go_simp
  refine KB.mono ?_
  rintro e w6 ⟨rfl, rfl⟩
  refine hK.out _ _ hH (fun hH => ?_)
  clear hK K KB
  refine take_list (i := 40) (v := ?_) rfl (by kernel_rfl) (by kernel_rfl) (by kernel_rfl) (fun _ _ _ h => h) (Or.inl ⟨by rfl, ?_⟩) hH ?_
  rotate_left
  · ((intro w hSw; (try dsimp only at hSw); go_simp); try with_reducible rfl)
  simp only [Act.put, List.setIfInBounds_toArray, List.set_cons_zero, List.set_cons_succ]
  refine take_list (i := 41) (v := ?_) rfl (by kernel_rfl) (by kernel_rfl) (by kernel_rfl) (fun _ _ _ h => h) (Or.inl ⟨by rfl, ?_⟩) hH ?_
  rotate_left
  · ((intro w hSw; (try dsimp only at hSw); go_simp); try with_reducible rfl)
  simp only [Act.put, List.setIfInBounds_toArray, List.set_cons_zero, List.set_cons_succ]
  refine take_list (i := 42) (v := ?_) rfl (by kernel_rfl) (by kernel_rfl) (by kernel_rfl) (fun _ _ _ h => h) (Or.inl ⟨by rfl, ?_⟩) hH ?_
  rotate_left
  · ((intro w hSw; (try dsimp only at hSw); go_simp); try with_reducible rfl)
  simp only [Act.put, List.setIfInBounds_toArray, List.set_cons_zero, List.set_cons_succ]
  refine take_list (i := 43) (v := ?_) rfl (by kernel_rfl) (by kernel_rfl) (by kernel_rfl) (fun _ _ _ h => h) (Or.inl ⟨by rfl, ?_⟩) hH ?_
  rotate_left
  · ((intro w hSw; (try dsimp only at hSw); go_simp); try with_reducible rfl)
  simp only [Act.put, List.setIfInBounds_toArray, List.set_cons_zero, List.set_cons_succ]
  refine take_list (i := 45) (v := ?_) rfl (by kernel_rfl) (by kernel_rfl) (by kernel_rfl) (fun _ _ _ h => h) (Or.inl ⟨by rfl, ?_⟩) hH ?_
  rotate_left
  · ((intro w hSw; (try dsimp only at hSw); go_simp); try with_reducible rfl)
  simp only [Act.put, List.setIfInBounds_toArray, List.set_cons_zero, List.set_cons_succ]
  refine take_list (i := 46) (v := ?_) rfl (by kernel_rfl) (by kernel_rfl) (by kernel_rfl) (fun _ _ _ h => h) (Or.inl ⟨by rfl, ?_⟩) hH ?_
  rotate_left
  · ((intro w hSw; (try dsimp only at hSw); go_simp); try with_reducible rfl)
  simp only [Act.put, List.setIfInBounds_toArray, List.set_cons_zero, List.set_cons_succ]
  refine take_list (i := 47) (v := ?_) rfl (by kernel_rfl) (by kernel_rfl) (by kernel_rfl) (fun _ _ _ h => h) (Or.inl ⟨by rfl, ?_⟩) hH ?_
  rotate_left
  · ((intro w hSw; (try dsimp only at hSw); go_simp); try with_reducible rfl)
  simp only [Act.put, List.setIfInBounds_toArray, List.set_cons_zero, List.set_cons_succ]
  refine take_list (i := 48) (v := ?_) rfl (by kernel_rfl) (by kernel_rfl) (by kernel_rfl) (fun _ _ _ h => h) (Or.inl ⟨by rfl, ?_⟩) hH ?_
  rotate_left
  · ((intro w hSw; (try dsimp only at hSw); go_simp); try with_reducible rfl)
  simp only [Act.put, List.setIfInBounds_toArray, List.set_cons_zero, List.set_cons_succ]
  have KD := dead_M H5.out R.out
  refine wpAnyH_ready (rs := [44]) (by kernel_rfl) (by simp) ?_
  refine ready_list rfl (fun K hK => ?_)
  go_simp
  refine KD.mono ?_
  rintro e w6 ⟨rfl, rfl⟩
  refine hK.out _ _ hH (fun hH => ?_)
  clear hK K KD
  refine take_list (i := 49) (v := ?_) rfl (by kernel_rfl) (by kernel_rfl) (by kernel_rfl) (fun _ _ _ h => h) (Or.inl ⟨by rfl, ?_⟩) hH ?_
  rotate_left
  · ((intro w hSw; (try dsimp only at hSw); go_simp); try with_reducible rfl)
  simp only [Act.put, List.setIfInBounds_toArray, List.set_cons_zero, List.set_cons_succ]
  refine take_list (i := 50) (v := ?_) rfl (by kernel_rfl) (by kernel_rfl) (by kernel_rfl) (fun _ _ _ h => h) (Or.inl ⟨by rfl, ?_⟩) hH ?_
  rotate_left
  · ((intro w hSw; (try dsimp only at hSw); go_simp); try with_reducible rfl)
  simp only [Act.put, List.setIfInBounds_toArray, List.set_cons_zero, List.set_cons_succ]
  refine wpAnyH_done (by kernel_rfl) ?_ _
  clear hH OW5
  go_wp2_with fail
  have o6 : Only [] w5 w5.drew := (Only.refl [] w5).drew
  have H6 := Lib.hid (H5.out.quiet o6)
  have O6 := Lib.hid (O5.out.trans o6 (by simp))
  have c7 : w5.drew.cell? ⟨m, 7, none⟩ = some (.int .i64 M.sure) := cell_at 7 H6.out.mm.blk
  have c9 : w5.drew.cell? ⟨m, 9, none⟩ = some (.bool M.dead) := cell_at 9 H6.out.mm.blk
  clear o6 H5 O5
  cases hd : M.dead
  · rw [hd] at c9
    have HD := Lib.hid hd
    refine wp_region_held_drew (S := fun w' => w'.cell? ⟨m, 7, none⟩ = some (.int .i64 M.sure) ∧ w'.cell? ⟨m, 9, none⟩ = some (.bool false)) (by kernel_rfl) ⟨c7, c9⟩ (fun hH => ?_)
    clear hd c7 c9
    generalize w5.drew = w6 at H6 O6 hH ⊢
    have KU := flushed_M H6.out R.out HD.out
    refine take_list (i := 0) (v := ?_) rfl (by kernel_rfl) (by kernel_rfl) (by kernel_rfl) (fun _ _ _ h => h) (Or.inl ⟨by rfl, ?_⟩) hH ?_
    rotate_left
    · ((intro w hSw; (try dsimp only at hSw); go_simp); try with_reducible rfl)
    simp only [Act.put, List.setIfInBounds_toArray, List.set_cons_zero, List.set_cons_succ]
    refine take_list (i := 1) (v := ?_) rfl (by kernel_rfl) (by kernel_rfl) (by kernel_rfl) (fun _ _ _ h => h) (Or.inl ⟨by rfl, ?_⟩) hH ?_
    rotate_left
    · ((intro w hSw; (try dsimp only at hSw); go_simp); try with_reducible rfl)
    simp only [Act.put, List.setIfInBounds_toArray, List.set_cons_zero, List.set_cons_succ]
    refine take_list (i := 2) (v := ?_) rfl (by kernel_rfl) (by kernel_rfl) (by kernel_rfl) (fun _ _ _ h => h) (Or.inl ⟨by rfl, ?_⟩) hH ?_
    rotate_left
    · ((intro w hSw; (try dsimp only at hSw); go_simp); try with_reducible rfl)
    simp only [Act.put, List.setIfInBounds_toArray, List.set_cons_zero, List.set_cons_succ]
    refine take_list (i := 3) (v := ?_) rfl (by kernel_rfl) (by kernel_rfl) (by kernel_rfl) (fun _ _ _ h => h) (Or.inl ⟨by rfl, ?_⟩) hH ?_
    rotate_left
    · ((intro w hSw; (try dsimp only at hSw); go_simp); try with_reducible rfl)
    simp only [Act.put, List.setIfInBounds_toArray, List.set_cons_zero, List.set_cons_succ]
    refine take_list (i := 4) (v := ?_) rfl (by kernel_rfl) (by kernel_rfl) (by kernel_rfl) (fun _ _ _ h => h) (Or.inl ⟨by rfl, ?_⟩) hH ?_
    rotate_left
    · ((intro w hSw; (try dsimp only at hSw); go_simp); try with_reducible rfl)
    simp only [Act.put, List.setIfInBounds_toArray, List.set_cons_zero, List.set_cons_succ]
    refine take_list (i := 5) (v := ?_) rfl (by kernel_rfl) (by kernel_rfl) (by kernel_rfl) (fun _ _ _ h => h) (Or.inl ⟨by rfl, ?_⟩) hH ?_
    rotate_left
    · ((intro w hSw; (try dsimp only at hSw); go_simp); try with_reducible rfl)
    simp only [Act.put, List.setIfInBounds_toArray, List.set_cons_zero, List.set_cons_succ]
    refine take_list (i := 6) (v := ?_) rfl (by kernel_rfl) (by kernel_rfl) (by kernel_rfl) (fun _ _ _ h => h) (Or.inl ⟨by rfl, ?_⟩) hH ?_
    rotate_left
    · ((intro w hSw; (try dsimp only at hSw); go_simp); try with_reducible rfl)
    simp only [Act.put, List.setIfInBounds_toArray, List.set_cons_zero, List.set_cons_succ]
    refine take_list (i := 8) (v := ?_) rfl (by kernel_rfl) (by kernel_rfl) (by kernel_rfl) (fun _ _ _ h => h) (Or.inl ⟨by rfl, ?_⟩) hH ?_
    rotate_left
    · ((intro w hSw; (try dsimp only at hSw); go_simp); try with_reducible rfl)
    simp only [Act.put, List.setIfInBounds_toArray, List.set_cons_zero, List.set_cons_succ]
    refine take_list (i := 9) (v := ?_) rfl (by kernel_rfl) (by kernel_rfl) (by kernel_rfl) (fun _ _ _ h => h) (Or.inl ⟨by rfl, ?_⟩) hH ?_
    rotate_left
    · ((intro w hSw; (try dsimp only at hSw); go_simp); try with_reducible rfl)
    simp only [Act.put, List.setIfInBounds_toArray, List.set_cons_zero, List.set_cons_succ]
    refine take_list (i := 10) (v := ?_) rfl (by kernel_rfl) (by kernel_rfl) (by kernel_rfl) (fun _ _ _ h => h) (Or.inl ⟨by rfl, ?_⟩) hH ?_
    rotate_left
    · ((intro w hSw; (try dsimp only at hSw); go_simp); try with_reducible rfl)
    simp only [Act.put, List.setIfInBounds_toArray, List.set_cons_zero, List.set_cons_succ]
    refine take_list (i := 11) (v := ?_) rfl (by kernel_rfl) (by kernel_rfl) (by kernel_rfl) (fun _ _ _ h => h) (Or.inl ⟨by rfl, ?_⟩) hH ?_
    rotate_left
    · ((intro w hSw; (try dsimp only at hSw); go_simp); try with_reducible rfl)
    simp only [Act.put, List.setIfInBounds_toArray, List.set_cons_zero, List.set_cons_succ]
    refine wpAnyH_ready (rs := [7]) (by kernel_rfl) (by simp) ?_
    refine ready_list rfl (fun K hK => ?_)
    go_simp
    refine KU.mono ?_
    rintro e w7 ⟨rfl, rfl⟩
    refine hK.out _ _ hH (fun hH => ?_)
    clear hK K KU
    refine take_list (i := 12) (v := ?_) rfl (by kernel_rfl) (by kernel_rfl) (by kernel_rfl) (fun _ _ _ h => h) (Or.inl ⟨by rfl, ?_⟩) hH ?_
    rotate_left
    · ((intro w hSw; (try dsimp only at hSw); go_simp); try with_reducible rfl)
    simp only [Act.put, List.setIfInBounds_toArray, List.set_cons_zero, List.set_cons_succ]
    refine take_list (i := 13) (v := ?_) rfl (by kernel_rfl) (by kernel_rfl) (by kernel_rfl) (fun _ _ _ h => h) (Or.inl ⟨by rfl, ?_⟩) hH ?_
    rotate_left
    · ((intro w hSw; (try dsimp only at hSw); go_simp); try with_reducible rfl)
    simp only [Act.put, List.setIfInBounds_toArray, List.set_cons_zero, List.set_cons_succ]
    refine wpAnyH_done (by kernel_rfl) ?_ _
    clear hH
    have c5 : w6.cell? ⟨m, 5, none⟩ = some (.int .i64 fi) := by rw [HFI.out]; exact cell_at 5 H6.out.mm.blk
    go_wp2_with fail
    go_loopw [4] (fun i wr => ∃ k : Nat, i = .int .i64 k ∧ fi ≤ k ∧ k ≤ nx ∧ Hid (MS w0 wr F m p q a d j s vr vt vm gs M) ∧ Hid (Only [] w wr)) (fun i _ => nx - (intOf i).toNat)
    case atStart => exact ⟨fi, rfl, Nat.le_refl _, hfb2, H6, O6⟩
    case round =>
      clear H6 O6 c5
      obtain ⟨k, rfl, hk1, hk2, H7, O7⟩ := hrel
      have KM := mnext_any H7.out.mm (by have := C.out.b1; omega)
      rw [← HNX.out] at KM
      go_wp2_with fail
      refine KM.mono ?_
      rintro e w8 ⟨rfl, rfl⟩
      clear KM
      by_cases hlt : k < nx
      · have hlt' : (k : Int) < (nx : Int) := by omega
        obtain ⟨i, hi⟩ : ∃ i : Nat, k = i + 1 := ⟨k - 1, by omega⟩
        have hil : i < M.recs.length := by have h1 := HNX.out; unfold ML.next at h1; omega
        obtain ⟨x, hx⟩ : ∃ x, M.recs[i]? = some x := ⟨_, List.getElem?_eq_getElem hil⟩
        have KG := get_M H7.out R.out C.out i x hx (by have := HFI.out; omega) (k : Int) (by omega)
        have HXX := Lib.hid hx
        have HI := Lib.hid hi
        have wr1 : IntKind.i64.wrap ((k : Int) - 1) = (i : Int) := by rw [IntKind.wrap_i64]; omega
        have HGL := Lib.hid (show (i : Int) < (gs.length : Int) by rw [H7.out.mm.hlen]; omega)
        clear hi hil hx
        go_wp2_with fail
        refine KG.mono ?_
        rintro e w9 ⟨b9, c9, rfl, own9, o9⟩
        have H9 := Lib.hid (H7.out.quiet o9)
        have O9 := Lib.hid (O7.out.trans o9 (by simp))
        obtain ⟨T, hT⟩ : ∃ T, T = strOf x := ⟨_, rfl⟩
        obtain ⟨rg, rc, gb, gc, hvr, hcell, hrow⟩ := H9.out.mm.row_at HXX.out
        have QA := Lib.hid (And.intro (str_bytes (own9.quiet ((Only.refl [] w9).drew)).bytes hT) (str_bytes (hrow.kept ((Only.refl [] w9).drew) (clean_nil _)) hT))
        have c3 : w9.cell? ⟨m, 3, none⟩ = some (.slice (some ⟨rg, 0, none⟩) gs.length rc) := by rw [← hvr]; exact cell_at 3 H9.out.mm.blk
        have hgl := HGL.out
        have i0 : (0 : Int) ≤ (i : Int) := by omega
        clear KG own9 o9 hT hvr hrow H7 O7 hlt
        go_wp2_with fail
        have oA : Only [] w9 w9.drew := (Only.refl [] w9).drew
        have HA := Lib.hid (H9.out.quiet oA)
        have OA := Lib.hid (O9.out.trans oA (by simp))
        refine wp_region_held_drew (S := fun w' => w'.cell? ⟨m, 3, none⟩ = some (.slice (some ⟨rg, 0, none⟩) gs.length rc) ∧ w'.cell? ⟨rg, i, none⟩ = some (.slice gb x.length gc) ∧ (convert 27 9 (.slice b9 x.length c9)).run Tryz.prog w' = .ok (.string T) w' ∧ (convert 27 9 (.slice gb x.length gc)).run Tryz.prog w' = .ok (.string T) w') (by kernel_rfl) ⟨c3, hcell, QA.out.1, QA.out.2⟩ (fun hH => ?_)
        clear c3 hcell oA H9 O9 QA
        generalize w9.drew = wA at HA OA hH ⊢
        refine take_list (i := 0) (v := ?_) rfl (by kernel_rfl) (by kernel_rfl) (by kernel_rfl) (fun _ _ _ h => h) (Or.inl ⟨by rfl, ?_⟩) hH ?_
        rotate_left
        · ((intro w hSw; (try dsimp only at hSw); go_simp); try with_reducible rfl)
        simp only [Act.put, List.setIfInBounds_toArray, List.set_cons_zero, List.set_cons_succ]
        refine take_list (i := 1) (v := ?_) rfl (by kernel_rfl) (by kernel_rfl) (by kernel_rfl) (fun _ _ _ h => h) (Or.inl ⟨by rfl, ?_⟩) hH ?_
        rotate_left
        · ((intro w hSw; (try dsimp only at hSw); go_simp); try with_reducible rfl)
        simp only [Act.put, List.setIfInBounds_toArray, List.set_cons_zero, List.set_cons_succ]
        refine take_list (i := 2) (v := ?_) rfl (by kernel_rfl) (by kernel_rfl) (by kernel_rfl) (fun _ _ _ h => h) (Or.inl ⟨by rfl, ?_⟩) hH ?_
        rotate_left
        · ((intro w hSw; (try dsimp only at hSw); go_simp); try with_reducible rfl)
        simp only [Act.put, List.setIfInBounds_toArray, List.set_cons_zero, List.set_cons_succ]
        refine take_list (i := 3) (v := ?_) rfl (by kernel_rfl) (by kernel_rfl) (by kernel_rfl) (fun _ _ _ h => h) (Or.inl ⟨by rfl, ?_⟩) hH ?_
        rotate_left
        · ((intro w hSw; (try dsimp only at hSw); go_simp); try with_reducible rfl)
        simp only [Act.put, List.setIfInBounds_toArray, List.set_cons_zero, List.set_cons_succ]
        refine take_list (i := 4) (v := .string T) rfl (by kernel_rfl) (by kernel_rfl) (by kernel_rfl) (fun _ _ _ h => h) (Or.inl ⟨by rfl, ?_⟩) hH ?_
        · intro w hSw
          have hc2 := hSw.2.2.1
          clear hSw hH
          go_simp
        simp only [Act.put, List.setIfInBounds_toArray, List.set_cons_zero, List.set_cons_succ]
        refine take_list (i := 5) (v := ?_) rfl (by kernel_rfl) (by kernel_rfl) (by kernel_rfl) (fun _ _ _ h => h) (Or.inl ⟨by rfl, ?_⟩) hH ?_
        rotate_left
        · ((intro w hSw; (try dsimp only at hSw); go_simp); try with_reducible rfl)
        simp only [Act.put, List.setIfInBounds_toArray, List.set_cons_zero, List.set_cons_succ]
        refine take_list (i := 6) (v := ?_) rfl (by kernel_rfl) (by kernel_rfl) (by kernel_rfl) (fun _ _ _ h => h) (Or.inl ⟨by rfl, ?_⟩) hH ?_
        rotate_left
        · ((intro w hSw; (try dsimp only at hSw); go_simp); try with_reducible rfl)
        simp only [Act.put, List.setIfInBounds_toArray, List.set_cons_zero, List.set_cons_succ]
        refine take_list (i := 7) (v := ?_) rfl (by kernel_rfl) (by kernel_rfl) (by kernel_rfl) (fun _ _ _ h => h) (Or.inl ⟨by rfl, ?_⟩) hH ?_
        rotate_left
        · ((intro w hSw; (try dsimp only at hSw); go_simp); try with_reducible rfl)
        simp only [Act.put, List.setIfInBounds_toArray, List.set_cons_zero, List.set_cons_succ]
        refine take_list (i := 8) (v := ?_) rfl (by kernel_rfl) (by kernel_rfl) (by kernel_rfl) (fun _ _ _ h => h) (Or.inl ⟨by rfl, ?_⟩) hH ?_
        rotate_left
        · ((intro w hSw; (try dsimp only at hSw); go_simp); try with_reducible rfl)
        simp only [Act.put, List.setIfInBounds_toArray, List.set_cons_zero, List.set_cons_succ]
        refine take_list (i := 9) (v := ?_) rfl (by kernel_rfl) (by kernel_rfl) (by kernel_rfl) (fun _ _ _ h => h) (Or.inl ⟨by rfl, ?_⟩) hH ?_
        rotate_left
        · ((intro w hSw; (try dsimp only at hSw); go_simp); try with_reducible rfl)
        simp only [Act.put, List.setIfInBounds_toArray, List.set_cons_zero, List.set_cons_succ]
        refine take_list (i := 10) (v := ?_) rfl (by kernel_rfl) (by kernel_rfl) (by kernel_rfl) (fun _ _ _ h => h) (Or.inl ⟨by rfl, ?_⟩) hH ?_
        rotate_left
        · ((intro w hSw; (try dsimp only at hSw); go_simp); try with_reducible rfl)
        simp only [Act.put, List.setIfInBounds_toArray, List.set_cons_zero, List.set_cons_succ]
        refine take_list (i := 11) (v := ?_) rfl (by kernel_rfl) (by kernel_rfl) (by kernel_rfl) (fun _ _ _ h => h) (Or.inl ⟨by rfl, ?_⟩) hH ?_
        rotate_left
        · ((intro w hSw; (try dsimp only at hSw); go_simp); try with_reducible rfl)
        simp only [Act.put, List.setIfInBounds_toArray, List.set_cons_zero, List.set_cons_succ]
        refine take_list (i := 12) (v := ?_) rfl (by kernel_rfl) (by kernel_rfl) (by kernel_rfl) (fun _ _ _ h => h) (Or.inl ⟨by rfl, ?_⟩) hH ?_
        rotate_left
        · ((intro w hSw; (try dsimp only at hSw); go_simp); try with_reducible rfl)
        simp only [Act.put, List.setIfInBounds_toArray, List.set_cons_zero, List.set_cons_succ]
        refine take_list (i := 13) (v := .string T) rfl (by kernel_rfl) (by kernel_rfl) (by kernel_rfl) (fun _ _ _ h => h) (Or.inl ⟨by rfl, ?_⟩) hH ?_
        · intro w hSw
          have hc2 := hSw.2.2.2
          clear hSw hH
          go_simp
        simp only [Act.put, List.setIfInBounds_toArray, List.set_cons_zero, List.set_cons_succ]
        refine take_list (i := 14) (v := ?_) rfl (by kernel_rfl) (by kernel_rfl) (by kernel_rfl) (fun _ _ _ h => h) (Or.inl ⟨by rfl, ?_⟩) hH ?_
        rotate_left
        · ((intro w hSw; (try dsimp only at hSw); go_simp); try with_reducible rfl)
        simp only [Act.put, List.setIfInBounds_toArray, List.set_cons_zero, List.set_cons_succ]
        refine take_list (i := 15) (v := ?_) rfl (by kernel_rfl) (by kernel_rfl) (by kernel_rfl) (fun _ _ _ h => h) (Or.inl ⟨by rfl, ?_⟩) hH ?_
        rotate_left
        · ((intro w hSw; (try dsimp only at hSw); go_simp); try with_reducible rfl)
        simp only [Act.put, List.setIfInBounds_toArray, List.set_cons_zero, List.set_cons_succ]
        refine wpAnyH_done (by kernel_rfl) ?_ _
        clear hH
        go_wp2_with fail
        go_roundw
        case rel => exact ⟨k + 1, by go_num, by omega, by omega, HA, OA⟩
        case measure => simp [intOf]; omega
      · have hlt' : ¬ (k : Int) < (nx : Int) := by omega
        go_wp2_with fail
        go_ret
        exact ⟨rfl, O7.out⟩
  · rw [hd] at c9
    refine wp_region_held_drew (S := fun w' => w'.cell? ⟨m, 9, none⟩ = some (.bool true)) (by kernel_rfl) c9 (fun hH => ?_)
    clear hd c7 c9
    generalize w5.drew = w6 at H6 O6 hH ⊢
    refine take_list (i := 0) (v := ?_) rfl (by kernel_rfl) (by kernel_rfl) (by kernel_rfl) (fun _ _ _ h => h) (Or.inl ⟨by rfl, ?_⟩) hH ?_
    rotate_left
    · ((intro w hSw; (try dsimp only at hSw); go_simp); try with_reducible rfl)
    simp only [Act.put, List.setIfInBounds_toArray, List.set_cons_zero, List.set_cons_succ]
    refine take_list (i := 1) (v := ?_) rfl (by kernel_rfl) (by kernel_rfl) (by kernel_rfl) (fun _ _ _ h => h) (Or.inl ⟨by rfl, ?_⟩) hH ?_
    rotate_left
    · ((intro w hSw; (try dsimp only at hSw); go_simp); try with_reducible rfl)
    simp only [Act.put, List.setIfInBounds_toArray, List.set_cons_zero, List.set_cons_succ]
    refine take_list (i := 2) (v := ?_) rfl (by kernel_rfl) (by kernel_rfl) (by kernel_rfl) (fun _ _ _ h => h) (Or.inl ⟨by rfl, ?_⟩) hH ?_
    rotate_left
    · ((intro w hSw; (try dsimp only at hSw); go_simp); try with_reducible rfl)
    simp only [Act.put, List.setIfInBounds_toArray, List.set_cons_zero, List.set_cons_succ]
    refine take_list (i := 3) (v := ?_) rfl (by kernel_rfl) (by kernel_rfl) (by kernel_rfl) (fun _ _ _ h => h) (Or.inl ⟨by rfl, ?_⟩) hH ?_
    rotate_left
    · ((intro w hSw; (try dsimp only at hSw); go_simp); try with_reducible rfl)
    simp only [Act.put, List.setIfInBounds_toArray, List.set_cons_zero, List.set_cons_succ]
    refine take_list (i := 4) (v := ?_) rfl (by kernel_rfl) (by kernel_rfl) (by kernel_rfl) (fun _ _ _ h => h) (Or.inl ⟨by rfl, ?_⟩) hH ?_
    rotate_left
    · ((intro w hSw; (try dsimp only at hSw); go_simp); try with_reducible rfl)
    simp only [Act.put, List.setIfInBounds_toArray, List.set_cons_zero, List.set_cons_succ]
    refine take_list (i := 5) (v := ?_) rfl (by kernel_rfl) (by kernel_rfl) (by kernel_rfl) (fun _ _ _ h => h) (Or.inl ⟨by rfl, ?_⟩) hH ?_
    rotate_left
    · ((intro w hSw; (try dsimp only at hSw); go_simp); try with_reducible rfl)
    simp only [Act.put, List.setIfInBounds_toArray, List.set_cons_zero, List.set_cons_succ]
    refine take_list (i := 6) (v := undef) rfl (by kernel_rfl) (by kernel_rfl) (by kernel_rfl) (fun _ _ _ h => h) (Or.inr ⟨by rfl, rfl⟩) hH ?_
    simp only [Act.put, List.setIfInBounds_toArray, List.set_cons_zero, List.set_cons_succ]
    refine take_list (i := 7) (v := undef) rfl (by kernel_rfl) (by kernel_rfl) (by kernel_rfl) (fun _ _ _ h => h) (Or.inr ⟨by rfl, rfl⟩) hH ?_
    simp only [Act.put, List.setIfInBounds_toArray, List.set_cons_zero, List.set_cons_succ]
    refine take_list (i := 8) (v := undef) rfl (by kernel_rfl) (by kernel_rfl) (by kernel_rfl) (fun _ _ _ h => h) (Or.inr ⟨by rfl, rfl⟩) hH ?_
    simp only [Act.put, List.setIfInBounds_toArray, List.set_cons_zero, List.set_cons_succ]
    refine take_list (i := 9) (v := undef) rfl (by kernel_rfl) (by kernel_rfl) (by kernel_rfl) (fun _ _ _ h => h) (Or.inr ⟨by rfl, rfl⟩) hH ?_
    simp only [Act.put, List.setIfInBounds_toArray, List.set_cons_zero, List.set_cons_succ]
    refine take_list (i := 10) (v := undef) rfl (by kernel_rfl) (by kernel_rfl) (by kernel_rfl) (fun _ _ _ h => h) (Or.inr ⟨by rfl, rfl⟩) hH ?_
    simp only [Act.put, List.setIfInBounds_toArray, List.set_cons_zero, List.set_cons_succ]
    refine take_list (i := 11) (v := undef) rfl (by kernel_rfl) (by kernel_rfl) (by kernel_rfl) (fun _ _ _ h => h) (Or.inr ⟨by rfl, rfl⟩) hH ?_
    simp only [Act.put, List.setIfInBounds_toArray, List.set_cons_zero, List.set_cons_succ]
    refine take_list (i := 12) (v := undef) rfl (by kernel_rfl) (by kernel_rfl) (by kernel_rfl) (fun _ _ _ h => h) (Or.inr ⟨by rfl, rfl⟩) hH ?_
    simp only [Act.put, List.setIfInBounds_toArray, List.set_cons_zero, List.set_cons_succ]
    refine take_list (i := 13) (v := ?_) rfl (by kernel_rfl) (by kernel_rfl) (by kernel_rfl) (fun _ _ _ h => h) (Or.inl ⟨by rfl, ?_⟩) hH ?_
    rotate_left
    · ((intro w hSw; (try dsimp only at hSw); go_simp); try with_reducible rfl)
    simp only [Act.put, List.setIfInBounds_toArray, List.set_cons_zero, List.set_cons_succ]
    refine wpAnyH_done (by kernel_rfl) ?_ _
    clear hH
    have c5 : w6.cell? ⟨m, 5, none⟩ = some (.int .i64 fi) := by rw [HFI.out]; exact cell_at 5 H6.out.mm.blk
    go_wp2_with fail
    go_loopw [4] (fun i wr => ∃ k : Nat, i = .int .i64 k ∧ fi ≤ k ∧ k ≤ nx ∧ Hid (MS w0 wr F m p q a d j s vr vt vm gs M) ∧ Hid (Only [] w wr)) (fun i _ => nx - (intOf i).toNat)
    case atStart => exact ⟨fi, rfl, Nat.le_refl _, hfb2, H6, O6⟩
    case round =>
      clear H6 O6 c5
      obtain ⟨k, rfl, hk1, hk2, H7, O7⟩ := hrel
      have KM := mnext_any H7.out.mm (by have := C.out.b1; omega)
      rw [← HNX.out] at KM
      go_wp2_with fail
      refine KM.mono ?_
      rintro e w8 ⟨rfl, rfl⟩
      clear KM
      by_cases hlt : k < nx
      · have hlt' : (k : Int) < (nx : Int) := by omega
        obtain ⟨i, hi⟩ : ∃ i : Nat, k = i + 1 := ⟨k - 1, by omega⟩
        have hil : i < M.recs.length := by have h1 := HNX.out; unfold ML.next at h1; omega
        obtain ⟨x, hx⟩ : ∃ x, M.recs[i]? = some x := ⟨_, List.getElem?_eq_getElem hil⟩
        have KG := get_M H7.out R.out C.out i x hx (by have := HFI.out; omega) (k : Int) (by omega)
        have HXX := Lib.hid hx
        have HI := Lib.hid hi
        have wr1 : IntKind.i64.wrap ((k : Int) - 1) = (i : Int) := by rw [IntKind.wrap_i64]; omega
        have HGL := Lib.hid (show (i : Int) < (gs.length : Int) by rw [H7.out.mm.hlen]; omega)
        clear hi hil hx
        go_wp2_with fail
        refine KG.mono ?_
        rintro e w9 ⟨b9, c9, rfl, own9, o9⟩
        have H9 := Lib.hid (H7.out.quiet o9)
        have O9 := Lib.hid (O7.out.trans o9 (by simp))
        obtain ⟨T, hT⟩ : ∃ T, T = strOf x := ⟨_, rfl⟩
        obtain ⟨rg, rc, gb, gc, hvr, hcell, hrow⟩ := H9.out.mm.row_at HXX.out
        have QA := Lib.hid (And.intro (str_bytes (own9.quiet ((Only.refl [] w9).drew)).bytes hT) (str_bytes (hrow.kept ((Only.refl [] w9).drew) (clean_nil _)) hT))
        have c3 : w9.cell? ⟨m, 3, none⟩ = some (.slice (some ⟨rg, 0, none⟩) gs.length rc) := by rw [← hvr]; exact cell_at 3 H9.out.mm.blk
        have hgl := HGL.out
        have i0 : (0 : Int) ≤ (i : Int) := by omega
        clear KG own9 o9 hT hvr hrow H7 O7 hlt
        go_wp2_with fail
        have oA : Only [] w9 w9.drew := (Only.refl [] w9).drew
        have HA := Lib.hid (H9.out.quiet oA)
        have OA := Lib.hid (O9.out.trans oA (by simp))
        refine wp_region_held_drew (S := fun w' => w'.cell? ⟨m, 3, none⟩ = some (.slice (some ⟨rg, 0, none⟩) gs.length rc) ∧ w'.cell? ⟨rg, i, none⟩ = some (.slice gb x.length gc) ∧ (convert 27 9 (.slice b9 x.length c9)).run Tryz.prog w' = .ok (.string T) w' ∧ (convert 27 9 (.slice gb x.length gc)).run Tryz.prog w' = .ok (.string T) w') (by kernel_rfl) ⟨c3, hcell, QA.out.1, QA.out.2⟩ (fun hH => ?_)
        clear c3 hcell oA H9 O9 QA
        generalize w9.drew = wA at HA OA hH ⊢
        refine take_list (i := 0) (v := ?_) rfl (by kernel_rfl) (by kernel_rfl) (by kernel_rfl) (fun _ _ _ h => h) (Or.inl ⟨by rfl, ?_⟩) hH ?_
        rotate_left
        · ((intro w hSw; (try dsimp only at hSw); go_simp); try with_reducible rfl)
        simp only [Act.put, List.setIfInBounds_toArray, List.set_cons_zero, List.set_cons_succ]
        refine take_list (i := 1) (v := ?_) rfl (by kernel_rfl) (by kernel_rfl) (by kernel_rfl) (fun _ _ _ h => h) (Or.inl ⟨by rfl, ?_⟩) hH ?_
        rotate_left
        · ((intro w hSw; (try dsimp only at hSw); go_simp); try with_reducible rfl)
        simp only [Act.put, List.setIfInBounds_toArray, List.set_cons_zero, List.set_cons_succ]
        refine take_list (i := 2) (v := ?_) rfl (by kernel_rfl) (by kernel_rfl) (by kernel_rfl) (fun _ _ _ h => h) (Or.inl ⟨by rfl, ?_⟩) hH ?_
        rotate_left
        · ((intro w hSw; (try dsimp only at hSw); go_simp); try with_reducible rfl)
        simp only [Act.put, List.setIfInBounds_toArray, List.set_cons_zero, List.set_cons_succ]
        refine take_list (i := 3) (v := ?_) rfl (by kernel_rfl) (by kernel_rfl) (by kernel_rfl) (fun _ _ _ h => h) (Or.inl ⟨by rfl, ?_⟩) hH ?_
        rotate_left
        · ((intro w hSw; (try dsimp only at hSw); go_simp); try with_reducible rfl)
        simp only [Act.put, List.setIfInBounds_toArray, List.set_cons_zero, List.set_cons_succ]
        refine take_list (i := 4) (v := .string T) rfl (by kernel_rfl) (by kernel_rfl) (by kernel_rfl) (fun _ _ _ h => h) (Or.inl ⟨by rfl, ?_⟩) hH ?_
        · intro w hSw
          have hc2 := hSw.2.2.1
          clear hSw hH
          go_simp
        simp only [Act.put, List.setIfInBounds_toArray, List.set_cons_zero, List.set_cons_succ]
        refine take_list (i := 5) (v := ?_) rfl (by kernel_rfl) (by kernel_rfl) (by kernel_rfl) (fun _ _ _ h => h) (Or.inl ⟨by rfl, ?_⟩) hH ?_
        rotate_left
        · ((intro w hSw; (try dsimp only at hSw); go_simp); try with_reducible rfl)
        simp only [Act.put, List.setIfInBounds_toArray, List.set_cons_zero, List.set_cons_succ]
        refine take_list (i := 6) (v := ?_) rfl (by kernel_rfl) (by kernel_rfl) (by kernel_rfl) (fun _ _ _ h => h) (Or.inl ⟨by rfl, ?_⟩) hH ?_
        rotate_left
        · ((intro w hSw; (try dsimp only at hSw); go_simp); try with_reducible rfl)
        simp only [Act.put, List.setIfInBounds_toArray, List.set_cons_zero, List.set_cons_succ]
        refine take_list (i := 7) (v := ?_) rfl (by kernel_rfl) (by kernel_rfl) (by kernel_rfl) (fun _ _ _ h => h) (Or.inl ⟨by rfl, ?_⟩) hH ?_
        rotate_left
        · ((intro w hSw; (try dsimp only at hSw); go_simp); try with_reducible rfl)
        simp only [Act.put, List.setIfInBounds_toArray, List.set_cons_zero, List.set_cons_succ]
        refine take_list (i := 8) (v := ?_) rfl (by kernel_rfl) (by kernel_rfl) (by kernel_rfl) (fun _ _ _ h => h) (Or.inl ⟨by rfl, ?_⟩) hH ?_
        rotate_left
        · ((intro w hSw; (try dsimp only at hSw); go_simp); try with_reducible rfl)
        simp only [Act.put, List.setIfInBounds_toArray, List.set_cons_zero, List.set_cons_succ]
        refine take_list (i := 9) (v := ?_) rfl (by kernel_rfl) (by kernel_rfl) (by kernel_rfl) (fun _ _ _ h => h) (Or.inl ⟨by rfl, ?_⟩) hH ?_
        rotate_left
        · ((intro w hSw; (try dsimp only at hSw); go_simp); try with_reducible rfl)
        simp only [Act.put, List.setIfInBounds_toArray, List.set_cons_zero, List.set_cons_succ]
        refine take_list (i := 10) (v := ?_) rfl (by kernel_rfl) (by kernel_rfl) (by kernel_rfl) (fun _ _ _ h => h) (Or.inl ⟨by rfl, ?_⟩) hH ?_
        rotate_left
        · ((intro w hSw; (try dsimp only at hSw); go_simp); try with_reducible rfl)
        simp only [Act.put, List.setIfInBounds_toArray, List.set_cons_zero, List.set_cons_succ]
        refine take_list (i := 11) (v := ?_) rfl (by kernel_rfl) (by kernel_rfl) (by kernel_rfl) (fun _ _ _ h => h) (Or.inl ⟨by rfl, ?_⟩) hH ?_
        rotate_left
        · ((intro w hSw; (try dsimp only at hSw); go_simp); try with_reducible rfl)
        simp only [Act.put, List.setIfInBounds_toArray, List.set_cons_zero, List.set_cons_succ]
        refine take_list (i := 12) (v := ?_) rfl (by kernel_rfl) (by kernel_rfl) (by kernel_rfl) (fun _ _ _ h => h) (Or.inl ⟨by rfl, ?_⟩) hH ?_
        rotate_left
        · ((intro w hSw; (try dsimp only at hSw); go_simp); try with_reducible rfl)
        simp only [Act.put, List.setIfInBounds_toArray, List.set_cons_zero, List.set_cons_succ]
        refine take_list (i := 13) (v := .string T) rfl (by kernel_rfl) (by kernel_rfl) (by kernel_rfl) (fun _ _ _ h => h) (Or.inl ⟨by rfl, ?_⟩) hH ?_
        · intro w hSw
          have hc2 := hSw.2.2.2
          clear hSw hH
          go_simp
        simp only [Act.put, List.setIfInBounds_toArray, List.set_cons_zero, List.set_cons_succ]
        refine take_list (i := 14) (v := ?_) rfl (by kernel_rfl) (by kernel_rfl) (by kernel_rfl) (fun _ _ _ h => h) (Or.inl ⟨by rfl, ?_⟩) hH ?_
        rotate_left
        · ((intro w hSw; (try dsimp only at hSw); go_simp); try with_reducible rfl)
        simp only [Act.put, List.setIfInBounds_toArray, List.set_cons_zero, List.set_cons_succ]
        refine take_list (i := 15) (v := ?_) rfl (by kernel_rfl) (by kernel_rfl) (by kernel_rfl) (fun _ _ _ h => h) (Or.inl ⟨by rfl, ?_⟩) hH ?_
        rotate_left
        · ((intro w hSw; (try dsimp only at hSw); go_simp); try with_reducible rfl)
        simp only [Act.put, List.setIfInBounds_toArray, List.set_cons_zero, List.set_cons_succ]
        refine wpAnyH_done (by kernel_rfl) ?_ _
        clear hH
        go_wp2_with fail
        go_roundw
        case rel => exact ⟨k + 1, by go_num, by omega, by omega, HA, OA⟩
        case measure => simp [intOf]; omega
      · have hlt' : ¬ (k : Int) < (nx : Int) := by omega
        go_wp2_with fail
        go_ret
        exact ⟨rfl, O7.out⟩
end
end Go.Proofs.YtfnedeaemjchgaaGreat

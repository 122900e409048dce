/- A journal over a model's device: crashes, openings, what is read. -/
import Derived.Test.YtmjnbpcjpjefeaaJg
namespace Go.Proofs.Ytmjnbpcjpjefeaa
open Go.RowKit Go.Maps
set_option linter.unusedSimpArgs false
set_option linter.unusedVariables false

/-- A journal over a device that a model names, made since w0; nothing that was there has turned. -/
structure JMq (w0 w : World) (m p q : Nat) (a : DA) (d : Disk) (j : JL) (s : SL) : Prop where
  jn : ∃ B, Jn w p q a B d j s ∧ (∀ k ∈ B, w0.heap.size ≤ k) ∧ m ∉ B
  only : Only [] w0 w
  c0 : w.cell? ⟨m, 0, none⟩ = some (.pointer (some ⟨a.p, 0, none⟩))
section
variable {w0 w w1 w2 : World} {m p q : Nat} {a : DA} {d d' : Disk} {j j' : JL} {s s' s0 : SL}
theorem JMo.jq (h : JMo w0 w m p q a d j s) : JMq w0 w m p q a d j s := ⟨h.jn, h.only, h.c0⟩
theorem JMq.quiet (h : JMq w0 w m p q a d j s) (ho : Only [] w w1) : JMq w0 w1 m p q a d j s := by
  obtain ⟨⟨B, h1, h2, h3⟩, h4, h6⟩ := h
  exact ⟨⟨B, h1.quiet ho, h2, h3⟩, h4.trans ho (by simp), cell_kept ho h6 (by simp)⟩
theorem JMq.jm (h : JMq w0 w m p q a d j s) : ∃ vs vt vn vr, JM w p q a vs vt vn vr d j s := by
  obtain ⟨⟨B, h1, _⟩, _⟩ := h
  exact h1.jm
theorem JMq.dev (h : JMq w0 w m p q a d j s) : Dev w a d := by
  obtain ⟨vs, vt, vn, vr, hm⟩ := h.jm
  exact hm.dev
theorem JMq.bl (h : JMq w0 w m p q a d j s) : (∀ k ∈ a.bl, w0.heap.size ≤ k) ∧ m ∉ a.bl := by
  obtain ⟨⟨B, ⟨vs, vt, vn, vr, hm, rfl⟩, h2, h3⟩, _, _⟩ := h
  exact ⟨fun k hk => h2 k (jbl_dev hk), fun hk => h3 (jbl_dev hk)⟩
theorem JMq.turn (h : JMq w0 w m p q a d j s) (ho : Only a.bl w w1) (hd : Dev w1 a d') (hz : d'.size = d.size) : JMq w0 w1 m p q a d' j s := by
  have hb := h.bl
  obtain ⟨⟨B, ⟨vs, vt, vn, vr, hm, rfl⟩, h2, h3⟩, h4, h6⟩ := h
  exact ⟨⟨_, ⟨vs, vt, vn, vr, hm.setD ho hd hz, rfl⟩, h2, h3⟩, h4.trans ho (fun k hk => .inr (hb.1 k hk)), cell_kept ho h6 hb.2⟩
theorem JMo.turn (h : JMo w0 w m p q a d j s) (ho : Only a.bl w w1) (hd : Dev w1 a d') (hz : d'.size = d.size) : JMo w0 w1 m p q a d' j s := by
  have hb := h.jq.bl
  obtain ⟨h1, h2, h3⟩ := h.jq.turn ho hd hz
  exact ⟨h1, h2, h.new, h3, cell_kept ho h.c2 hb.2⟩
theorem arm_mo (h : JMo w0 w m p q a d j s) (n : Int) (hn : 0 ≤ n) :
    Calls Try.prog 24 #[.pointer (some ⟨a.p, 0, none⟩), .int .i64 n] w fun e w' => e = .returned .nilIface ∧ JMo w0 w' m p q a { d with met := d.met.arm n } j s :=
  (arm_all n h.jq.dev hn).mono fun e w' ⟨h1, h2, h3⟩ => ⟨h1, h.turn h3 h2 rfl⟩
theorem JMq.offI (h : JMq w0 w m p q a d j s) {kv : Value} {ks : List Int} (hk : IntsV w0 kv ks) : Off kv a.bl := fun ad n c e hn hm => by
  obtain ⟨ka, kc, rfl, hc⟩ := hk
  cases e
  obtain ⟨_, b, off, e2, hcell⟩ := hc 0 (ks[0]'hn) (List.getElem?_eq_getElem hn)
  cases e2
  have h1 := World.block_lt_of_cell? _ _ hcell
  have h2 := h.bl.1 _ hm
  simp only at h1 h2
  omega
theorem crash_mq (h : JMq w0 w m p q a d j s) (kv : Value) (ks : List Int) (hk : IntsV w0 kv ks) (hl : ks.length ≤ 9223372036854775807) :
    Calls Try.prog 25 #[.pointer (some ⟨a.p, 0, none⟩), kv] w fun e w' => e = .returned (.tuple #[]) ∧ JMq w0 w' m p q a (d.crash ks) j s :=
  (Crash_any a d kv ks w h.dev (hk.kept h.only (fun _ _ _ _ _ => by simp)) (h.offI hk) hl).mono fun e w' ⟨h1, h2, h3⟩ => ⟨h1, h.turn h3 h2 rfl⟩
theorem ints_nil (w : World) : IntsV w (.slice none 0 0) [] := ⟨none, 0, rfl, fun i k h => by simp at h⟩
theorem opened_big {recs : List Sec} {note : Sec} (h : JHolds d s0 1 60 1 0 recs note) : 2 * recs.length ≤ 28200 ∧ (flat recs).length ≤ 28200 := by
  have h1 := h.room
  have h2 := flat_count recs
  omega
theorem opened_jbig {recs : List Sec} {note : Sec} (h : JHolds d s0 1 60 1 0 recs note) : JBig (JL.opened 1 60 1 0 recs note) := by
  obtain ⟨h1, h2⟩ := opened_big h
  exact ⟨by show 0 + (flat recs).length ≤ _; omega, by show 1 + recs.length ≤ _; omega⟩
theorem open_mq {recs : List Sec} {note : Sec} (h : JMq w0 w m p q a d j s) (hdn : d.met.down = false) (hj : JHolds d s0 1 60 1 0 recs note) :
    Calls Try.prog 18 #[.pointer (some ⟨a.p, 0, none⟩), .int .i64 1, .int .i64 60] w fun e w' => ∃ p2 q2, e = .returned (.tuple #[.pointer (some ⟨p2, 0, none⟩), .nilIface]) ∧
      JMq w0 w' m p2 q2 a d (JL.opened 1 60 1 0 recs note) ⟨1, s0.n, s0.row, false⟩ ∧ Only [] w w' := by
  obtain ⟨h1, h2⟩ := opened_big hj
  refine (jopen_any (n := 60) h.dev hdn hj (by omega) (by omega)).mono ?_
  rintro e w' ⟨p2, q2, B, rfl, hn, ho, hB⟩
  have hb := h.bl
  refine ⟨p2, q2, rfl, ⟨⟨B, hn, fun k hk => ?_, fun hk => ?_⟩, h.only.trans ho (by simp), cell_kept ho h.c0 (by simp)⟩, ho⟩
  · rcases hB k hk with e | e
    · exact hb.1 k e
    · exact Nat.le_trans h.only.size e
  · rcases hB m hk with e | e
    · exact hb.2 e
    · have := World.block_lt_of_cell? _ _ h.c0
      simp only at this
      omega
theorem free_mq (h : JMq w0 w m p q a d j s) (n : Int) (hn : j.free = n) : Calls Try.prog 10 #[.pointer (some ⟨p, 0, none⟩)] w fun e w' => e = .returned (.int .i64 n) ∧ Only [] w w' := by
  subst hn
  obtain ⟨vs, vt, vn, vr, hm⟩ := h.jm
  exact (jfree_any hm).mono fun e w' ⟨h1, h2⟩ => ⟨h1, h2.only⟩
theorem next_mq (h : JMq w0 w m p q a d j s) (hb : JBig j) (n : Int) (hn : (j.next : Int) = n) : Calls Try.prog 12 #[.pointer (some ⟨p, 0, none⟩)] w fun e w' => e = .returned (.int .i64 n) ∧ Only [] w w' := by
  subst hn
  obtain ⟨vs, vt, vn, vr, hm⟩ := h.jm
  exact (jnext_any hm hb).mono fun e w' ⟨h1, h2⟩ => ⟨h1, h2.only⟩
theorem first_mq (h : JMq w0 w m p q a d j s) (n : Int) (hn : (j.first : Int) = n) : Calls Try.prog 13 #[.pointer (some ⟨p, 0, none⟩)] w fun e w' => e = .returned (.int .i64 n) ∧ w = w' := by
  subst hn
  obtain ⟨vs, vt, vn, vr, hm⟩ := h.jm
  exact jfirst_any hm
theorem get_mq (h : JMq w0 w m p q a d j s) (hb : JBig j) (k : Nat) (r : Sec) (hr : j.recs[k]? = some r) (x : Int) (hx : x = (j.first : Int) + k) :
    Calls Try.prog 16 #[.pointer (some ⟨p, 0, none⟩), .int .i64 x] w fun e w' => ∃ b c, e = .returned (.tuple #[.slice b r.length c, .nilIface]) ∧ Own w' w.heap.size (.slice b r.length c) r ∧ Only [] w w' := by
  obtain ⟨vs, vt, vn, vr, hm⟩ := h.jm
  exact jget_yes hm hb k r hr x hx
/-- Behind a Flush that may be cut and a crash, the device holds a journal. -/
theorem after_flush (h : JOk j) (hb : JBig j) (hj : JGood d s j) (hn : s.n < 4611686018427387904) (ks : List Int) : ∃ s' recs, JHolds ((j.flushR d s).d.crash ks) s' j.at_ j.n j.first j.start recs j.note := by
  rcases flush_good h hb hj hn with ⟨_, _, g, _⟩ | ⟨_, _, _, g⟩
  · exact ⟨_, _, g.has.crash ks⟩
  · obtain ⟨m, s', _, _, _, hh⟩ := g ks
    exact ⟨s', _, hh⟩
theorem JGood.arm (hj : JGood d s j) (n : Int) : JGood { d with met := d.met.arm n } s j := ⟨hj.has.arm n, hj.cut, hj.down, hj.dead⟩
end
end Go.Proofs.Ytmjnbpcjpjefeaa

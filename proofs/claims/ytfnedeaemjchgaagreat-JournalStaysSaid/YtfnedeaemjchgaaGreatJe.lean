/- A journal as a list: what a model holds against a journal, through appends, flushes, trims, power that goes, crashes and openings. No walk. -/
import Derived.Test.YtfnedeaemjchgaaGreatJd
import Derived.Maps.AppendAt
namespace Go.Proofs.YtfnedeaemjchgaaGreat
open Go.RowKit Go.Maps
set_option linter.unusedSimpArgs false
set_option linter.unusedVariables false

/-- A journal as a list: all records ever, where it begins, what is sure, where else it may begin behind a crash. -/
structure ML where
  n : Nat
  recs : List Sec
  first : Nat
  note : Sec
  sure : Nat
  booked : Nat
  dead : Bool
  may : List (Nat × Sec)
def ML.next (m : ML) : Nat := m.recs.length + 1
/-- A device has one of the journals that may be. -/
def ML.On (m : ML) (N : Int) (d : Disk) : Prop := ∃ s mk k, mk ∈ (m.first, m.note) :: m.may ∧ m.sure ≤ k + 1 ∧ k ≤ m.recs.length ∧ 1 ≤ mk.1 ∧ mk.1 ≤ k + 1 ∧ s.n ≤ N ∧
  JHolds d s 1 m.n mk.1 (pos m.recs (mk.1 - 1)) ((m.recs.take k).drop (mk.1 - 1)) mk.2
structure MR (N : Int) (d : Disk) (s : SL) (j : JL) (m : ML) : Prop where
  n : j.n = m.n
  at_ : j.at_ = 1
  first : j.first = m.first
  f1 : 1 ≤ m.first
  fle : m.first ≤ m.recs.length + 1
  note : j.note = m.note
  recs : j.recs = m.recs.drop (m.first - 1)
  start : j.start = pos m.recs (m.first - 1)
  booked : j.booked = m.booked
  dead : j.dead = m.dead
  sure : m.dead = false → m.sure = m.first + j.fl
  may : m.dead = false → m.may = []
  live : m.dead = false → JGood d s j ∧ s.n ≤ N
  gone : m.dead = true → d.met.down = true ∧ ∀ ks, m.On N (d.crash ks)

theorem pos_add (rs : List Sec) (a k : Nat) : pos rs (a + k) = pos rs a + pos (rs.drop a) k := by
  unfold pos
  rw [List.take_add, flat_append, List.length_append]
theorem pos_take (rs : List Sec) {i k : Nat} (h : i ≤ k) : pos (rs.take k) i = pos rs i := by
  unfold pos
  rw [List.take_take, Nat.min_eq_left h]
section
variable {N : Int} {d : Disk} {s : SL} {j : JL} {m : ML}
theorem MR.len (h : MR N d s j m) : m.first + j.recs.length = m.recs.length + 1 := by
  have h1 := h.f1
  have h2 := h.fle
  rw [h.recs, List.length_drop]
  omega
theorem MR.next (h : MR N d s j m) : j.next = m.next := by
  have h1 := h.len
  unfold JL.next ML.next
  rw [h.first]
  exact h1
theorem MR.mono {N' : Int} (h : MR N d s j m) (hn : N ≤ N') : MR N' d s j m := by
  refine ⟨h.n, h.at_, h.first, h.f1, h.fle, h.note, h.recs, h.start, h.booked, h.dead, h.sure, h.may, fun hd => ?_, fun hd => ⟨(h.gone hd).1, fun ks => ?_⟩⟩
  · obtain ⟨h1, h2⟩ := h.live hd
    exact ⟨h1, by omega⟩
  · obtain ⟨s', mk, k, h1, h2, h3, h4, h5, h6, h7⟩ := (h.gone hd).2 ks
    exact ⟨s', mk, k, h1, h2, h3, h4, h5, by omega, h7⟩
/-- Behind a crash. -/
theorem MR.crash (h : MR N d s j m) (hj : JOk j) (ks : List Int) : m.On N (d.crash ks) := by
  cases hd : m.dead
  · obtain ⟨hg, hn⟩ := h.live hd
    have hs := h.sure hd
    have hfl := hj.fl
    have hl := h.len
    have hf := h.f1
    refine ⟨s, (m.first, m.note), m.first - 1 + j.fl, by simp, by omega, by omega, hf, by show m.first ≤ _; omega, hn, ?_⟩
    have hh := hg.has.crash ks
    rw [h.at_, h.n, h.first, h.start, h.note, h.recs] at hh
    have e : (m.recs.take (m.first - 1 + j.fl)).drop (m.first - 1) = (m.recs.drop (m.first - 1)).take j.fl := by
      rw [List.drop_take, Nat.add_sub_cancel_left]
    rw [e]
    exact hh
  · exact (h.gone hd).2 ks
/-- A record is appended. -/
theorem MR.put (h : MR N d s j m) (hj : JOk j) (hd : m.dead = false) (r : Sec) : MR N d s (j.put r) { m with recs := m.recs ++ [r] } := by
  have h1 := h.f1
  have h2 := h.fle
  refine ⟨h.n, h.at_, h.first, h1, by show m.first ≤ (m.recs ++ [r]).length + 1; simp; omega, h.note, ?_, ?_, h.booked, h.dead, h.sure, h.may, fun _ => ?_, fun e => ?_⟩
  · show j.recs ++ [r] = (m.recs ++ [r]).drop (m.first - 1)
    rw [List.drop_append_of_le_length (by omega), h.recs]
  · show j.start = pos (m.recs ++ [r]) (m.first - 1)
    rw [pos_append _ _ (by omega), h.start]
  · obtain ⟨g1, g2⟩ := h.live hd
    exact ⟨g1.put hj.fl, g2⟩
  · have : m.dead = true := e
    rw [hd] at this
    cases this
/-- A Flush. -/
theorem MR.flush (h : MR N d s j m) (hj : JOk j) (hb : JBig j) (hd : m.dead = false) (hN : N < 4611686018427387904) :
    ((j.flushR d s).c = 0 ∧ MR (N + 1) (j.flushR d s).d (j.flushR d s).s (j.flushR d s).j { m with sure := m.next } ∧ (j.flushR d s).d.met.down = false) ∨
    ((j.flushR d s).c = 3 ∧ MR (N + 1) (j.flushR d s).d (j.flushR d s).s (j.flushR d s).j { m with dead := true } ∧ (j.flushR d s).d.met.down = true) := by
  obtain ⟨hg, hn⟩ := h.live hd
  have hs := h.sure hd
  have hl := h.len
  have hf := h.f1
  rcases flush_good hj hb hg (by omega) with ⟨c0, cj, cg, cn⟩ | ⟨c3, cj, cd, ch⟩
  · left
    rw [cj]
    refine ⟨c0, ⟨h.n, h.at_, h.first, h.f1, h.fle, h.note, h.recs, h.start, h.booked, h.dead, fun _ => ?_, h.may, fun _ => ⟨cg, by omega⟩, fun e => ?_⟩, cg.down⟩
    · show m.recs.length + 1 = m.first + j.recs.length
      omega
    · have : m.dead = true := e
      rw [hd] at this
      cases this
  · right
    rw [cj]
    refine ⟨c3, ⟨h.n, h.at_, h.first, h.f1, h.fle, h.note, h.recs, h.start, h.booked, rfl, fun e => (by cases e), fun e => (by cases e), fun e => (by cases e), fun _ => ⟨cd, fun ks => ?_⟩⟩, cd⟩
    obtain ⟨i, s', h1, h2, h3, hh⟩ := ch ks
    rw [h.at_, h.n, h.first, h.start, h.note, h.recs] at hh
    refine ⟨s', (m.first, m.note), m.first - 1 + i, List.mem_cons_self, by show m.sure ≤ _; omega, by show _ ≤ m.recs.length; omega, hf, by show m.first ≤ _; omega, by omega, ?_⟩
    have e : (m.recs.take (m.first - 1 + i)).drop (m.first - 1) = (m.recs.drop (m.first - 1)).take i := by
      rw [List.drop_take, Nat.add_sub_cancel_left]
    show JHolds _ s' 1 m.n m.first (pos m.recs (m.first - 1)) ((m.recs.take (m.first - 1 + i)).drop (m.first - 1)) m.note
    rw [e]
    exact hh
/-- A Trim to a record that there is, or to the next. -/
theorem MR.trim (h : MR N d s j m) (hj : JOk j) (hb : JBig j) (hd : m.dead = false) (hN : N + 1 < 4611686018427387904) (k : Nat) (hk : k ≤ j.recs.length) (x : Int) (hx : x = (m.first : Int) + k) {note : Sec} (hnl : note.length ≤ 400) :
    ((j.trimR d s x note).c = 0 ∧ MR (N + 2) (j.trimR d s x note).d (j.trimR d s x note).s (j.trimR d s x note).j { m with sure := m.next, first := m.first + k, note := note } ∧ (j.trimR d s x note).d.met.down = false) ∨
    ((j.trimR d s x note).c = 3 ∧ MR (N + 2) (j.trimR d s x note).d (j.trimR d s x note).s (j.trimR d s x note).j { m with dead := true, may := m.may ++ [(m.first + k, note)] } ∧ (j.trimR d s x note).d.met.down = true) := by
  obtain ⟨hg, hn⟩ := h.live hd
  have hs := h.sure hd
  have hl := h.len
  have hf := h.f1
  have e0 : m.first - 1 + k = m.first + k - 1 := by omega
  have ecut : j.cutP k = pos m.recs (m.first + k - 1) := by
    unfold JL.cutP
    rw [h.start, h.recs, ← e0, pos_add]
  have edrop : j.recs.drop k = m.recs.drop (m.first + k - 1) := by
    rw [h.recs, List.drop_drop, ← e0]
  rcases trim_good hj hb hg (by omega) k hk x (by rw [h.first]; exact hx) hnl with ⟨c0, cj, cg, cn⟩ | ⟨c3, cj, cd, ch⟩
  · left
    rw [cj]
    refine ⟨c0, ⟨h.n, h.at_, ?_, by show 1 ≤ m.first + k; omega, by show m.first + k ≤ m.recs.length + 1; omega, rfl, edrop, ecut, h.booked, h.dead, fun _ => ?_, h.may, fun _ => ⟨cg, by omega⟩, fun e => ?_⟩, cg.down⟩
    · show j.first + k = m.first + k
      rw [h.first]
    · show m.recs.length + 1 = m.first + k + (j.recs.length - k)
      omega
    · have : m.dead = true := e
      rw [hd] at this
      cases this
  · right
    have key : ∀ j', (j' = j.die true ∨ j' = j.all.die true) → MR (N + 2) (j.trimR d s x note).d (j.trimR d s x note).s j' { m with dead := true, may := m.may ++ [(m.first + k, note)] } := by
      intro j' hj'
      have hon : ∀ ks, ML.On { m with dead := true, may := m.may ++ [(m.first + k, note)] } (N + 2) ((j.trimR d s x note).d.crash ks) := fun ks => by
        rcases ch ks with ⟨i, s', h1, h2, h3, hh⟩ | ⟨s', h3, hh⟩
        · rw [h.at_, h.n, h.first, h.start, h.note, h.recs] at hh
          refine ⟨s', (m.first, m.note), m.first - 1 + i, List.mem_cons_self, by show m.sure ≤ _; omega, by show _ ≤ m.recs.length; omega, hf, by show m.first ≤ _; omega, by omega, ?_⟩
          have e : (m.recs.take (m.first - 1 + i)).drop (m.first - 1) = (m.recs.drop (m.first - 1)).take i := by
            rw [List.drop_take, Nat.add_sub_cancel_left]
          show JHolds _ s' 1 m.n m.first (pos m.recs (m.first - 1)) ((m.recs.take (m.first - 1 + i)).drop (m.first - 1)) m.note
          rw [e]
          exact hh
        · rw [h.at_, h.n, h.first, ecut, edrop] at hh
          refine ⟨s', (m.first + k, note), m.recs.length, by simp, by show m.sure ≤ _; have := hj.fl; omega, Nat.le_refl _, by show 1 ≤ m.first + k; omega, by show m.first + k ≤ _; omega, by omega, ?_⟩
          show JHolds _ s' 1 m.n (m.first + k) (pos m.recs (m.first + k - 1)) ((m.recs.take m.recs.length).drop (m.first + k - 1)) note
          rw [List.take_length]
          exact hh
      rcases hj' with rfl | rfl <;>
        exact ⟨h.n, h.at_, h.first, h.f1, h.fle, h.note, h.recs, h.start, h.booked, rfl, fun e => (by cases e), fun e => (by cases e), fun e => (by cases e), fun _ => ⟨cd, hon⟩⟩
    exact ⟨c3, key _ cj, cd⟩
/-- A device that has one of the journals that may be, opened. -/
theorem ML.On.opened (h : m.On N d) (hdn : d.met.down = false) : ∃ s mk k, mk ∈ (m.first, m.note) :: m.may ∧ m.sure ≤ k + 1 ∧ k ≤ m.recs.length ∧ 1 ≤ mk.1 ∧ mk.1 ≤ k + 1 ∧
    JHolds d s 1 m.n mk.1 (pos m.recs (mk.1 - 1)) ((m.recs.take k).drop (mk.1 - 1)) mk.2 ∧
    MR N d ⟨1, s.n, s.row, false⟩ (JL.opened 1 m.n mk.1 (pos m.recs (mk.1 - 1)) ((m.recs.take k).drop (mk.1 - 1)) mk.2) ⟨m.n, m.recs.take k, mk.1, mk.2, k + 1, 0, false, []⟩ := by
  obtain ⟨s, mk, k, h1, h2, h3, h4, h5, h6, h7⟩ := h
  refine ⟨s, mk, k, h1, h2, h3, h4, h5, h7, rfl, rfl, rfl, h4, by show mk.1 ≤ (m.recs.take k).length + 1; rw [List.length_take]; omega, rfl, rfl, ?_, rfl, rfl, fun _ => ?_, fun _ => rfl, fun _ => ⟨⟨?_, rfl, hdn, rfl⟩, h6⟩, fun e => by cases e⟩
  · show pos m.recs (mk.1 - 1) = pos (m.recs.take k) (mk.1 - 1)
    rw [pos_take _ (by omega)]
  · show k + 1 = mk.1 + ((m.recs.take k).drop (mk.1 - 1)).length
    rw [List.length_drop, List.length_take]
    omega
  · show JHolds d _ 1 m.n mk.1 _ (((m.recs.take k).drop (mk.1 - 1)).take ((m.recs.take k).drop (mk.1 - 1)).length) mk.2
    rw [List.take_length]
    exact h7.live
end
end Go.Proofs.YtfnedeaemjchgaaGreat
/- What a model holds in memory, and what it reads of itself. -/
namespace Go.Proofs.YtfnedeaemjchgaaGreat
open Go.RowKit Go.Maps
set_option linter.unusedSimpArgs false
set_option linter.unusedVariables false

/-- Where each record begins, and where the next would. -/
def msts (recs : List Sec) : List Int := (List.range (recs.length + 1)).map (fun i => ((pos recs i : Nat) : Int))
theorem msts_length (recs : List Sec) : (msts recs).length = recs.length + 1 := by simp [msts]
theorem msts_get (recs : List Sec) {i : Nat} (h : i ≤ recs.length) : (msts recs)[i]? = some ((pos recs i : Nat) : Int) := by
  unfold msts
  rw [List.getElem?_map, List.getElem?_range (by omega)]
  rfl
theorem msts_snoc (recs : List Sec) (r : Sec) : msts (recs ++ [r]) = msts recs ++ [(((flat recs).length + (r.length + 2) : Nat) : Int)] := by
  apply List.ext_getElem?
  intro i
  by_cases h1 : i ≤ recs.length
  · rw [msts_get _ (by simp; omega), List.getElem?_append_left (by rw [msts_length]; omega), msts_get _ h1, pos_append _ _ h1]
  · by_cases h2 : i = recs.length + 1
    · subst h2
      rw [msts_get _ (by simp), List.getElem?_append_right (by rw [msts_length]; omega), msts_length, pos_all (by simp), flat_snoc]
      simp
    · rw [List.getElem?_eq_none (by rw [msts_length]; simp; omega), List.getElem?_eq_none (by simp [msts_length]; omega)]
/-- What a model holds in memory. -/
structure MM (w : World) (m : Nat) (a : DA) (p : Nat) (vr vt vm : Value) (gs : List Value) (M : ML) : Prop where
  blk : w.heap[m]? = some (.cells #[.pointer (some ⟨a.p, 0, none⟩), .int .i64 M.n, .pointer (some ⟨p, 0, none⟩), vr, vt, .int .i64 M.first, .string (strOf M.note), .int .i64 M.sure, .int .i64 M.booked, .bool M.dead, vm] 44 (0, 0))
  recs : w.ownsRow 0 27 1 vr gs.length gs
  hlen : gs.length = M.recs.length
  rows : ∀ (i : Nat) (g : Value) (r : Sec), gs[i]? = some g → M.recs[i]? = some r → Own w 0 g r
  starts : OwnI w 0 vt (msts M.recs)
/-- A model's blocks. -/
def mbl (m : Nat) (vr vt vm : Value) (gs : List Value) : List Nat := m :: vr.ownBlock.toList ++ vt.ownBlock.toList ++ vm.ownBlock.toList ++ gs.filterMap Value.ownBlock
section
variable {w w1 : World} {m p : Nat} {a : DA} {vr vt vm : Value} {gs : List Value} {M : ML}
theorem MM.kept {S : List Nat} (h : MM w m a p vr vt vm gs M) (ho : Only S w w1) (hs : ∀ k ∈ S, k ∉ mbl m vr vt vm gs) : MM w1 m a p vr vt vm gs M := by
  refine ⟨ho.heap h.blk (fun hk => hs m hk (by simp [mbl])), own_kept h.recs ho (fun k hk e => hs k hk (by simp [mbl, e])), h.hlen, fun i g r hg hr => (h.rows i g r hg hr).kept ho (fun k hk e => hs k hk ?_), ⟨owns_kept h.starts.1 ho (fun k hk e => hs k hk (by simp [mbl, e])), h.starts.2⟩⟩
  have : k ∈ gs.filterMap Value.ownBlock := List.mem_filterMap.2 ⟨g, List.mem_of_getElem? hg, e⟩
  unfold mbl
  exact List.mem_append.2 (.inr this)
theorem MM.quiet (h : MM w m a p vr vt vm gs M) (ho : Only [] w w1) : MM w1 m a p vr vt vm gs M := h.kept ho (by simp)
theorem MM.shapeR (h : MM w m a p vr vt vm gs M) : ∃ ra rc, vr = .slice ra gs.length rc := by
  rcases h.recs.2 with ⟨rfl, e⟩ | ⟨g, cap, cur, rfl, _⟩
  · exact ⟨none, 0, by rw [e]⟩
  · exact ⟨_, _, rfl⟩
theorem mnext_any (h : MM w m a p vr vt vm gs M) (hb : M.recs.length ≤ 1099511627776) : Calls Tryz.prog 31 #[.pointer (some ⟨m, 0, none⟩)] w fun e w' => e = .returned (.int .i64 M.next) ∧ w = w' := by
  obtain ⟨ra, rc, rfl⟩ := h.shapeR
  have c3 : w.cell? ⟨m, 3, none⟩ = some (.slice ra gs.length rc) := cell_at 3 h.blk
  have hl := h.hlen
  have e1 : ((M.next : Nat) : Int) = (gs.length : Int) + 1 := by unfold ML.next; rw [hl]; rfl
  rw [e1]
  have hg : gs.length ≤ 1099511627776 := by omega
  clear h e1 hl hb
  go_enter Tryz.func31, Tryz.ntmps31
  go_wp2_with fail
  go_ret
  exact ⟨rfl, rfl⟩
theorem mfree_any (h : MM w m a p vr vt vm gs M) (hf1 : 1 ≤ M.first) (hf2 : M.first ≤ M.recs.length + 1) (hT : (flat M.recs).length ≤ 1152921504606846976) (hn : M.n ≤ 2048) (z : Int)
    (hz : (M.n : Int) * 470 - (((flat M.recs).length : Int) - ((pos M.recs (M.first - 1) / 470 * 470 : Nat) : Int)) = z) :
    Calls Tryz.prog 27 #[.pointer (some ⟨m, 0, none⟩)] w fun e w' => e = .returned (.int .i64 z) ∧ Only [] w w' := by
  obtain ⟨ra, rc, rfl⟩ := h.shapeR
  have hl := h.hlen
  have hcnt := flat_count M.recs
  obtain ⟨_, tb, toff, tc, hvt, x0⟩ := h.starts.ints.at_ (msts_get M.recs (i := M.first - 1) (by omega))
  cases hvt
  obtain ⟨_, tb2, toff2, tc2, hvt, x1⟩ := h.starts.ints.at_ (msts_get M.recs (i := M.recs.length) (Nat.le_refl _))
  cases hvt
  have c1 : w.cell? ⟨m, 1, none⟩ = some (.int .i64 M.n) := cell_at 1 h.blk
  have c3 : w.cell? ⟨m, 3, none⟩ = some (.slice ra gs.length rc) := cell_at 3 h.blk
  have c4 : w.cell? ⟨m, 4, none⟩ = some (.slice (some ⟨tb, toff, none⟩) (msts M.recs).length tc) := cell_at 4 h.blk
  have c5 : w.cell? ⟨m, 5, none⟩ = some (.int .i64 M.first) := cell_at 5 h.blk
  have hP := pos_le M.recs (M.first - 1)
  rw [pos_all (Nat.le_refl _)] at x1
  rw [msts_length] at c4
  rw [← hl] at c4 x1 hcnt hf2
  clear h
  obtain ⟨f0, hf0⟩ : ∃ f0 : Nat, f0 = M.first - 1 := ⟨_, rfl⟩
  rw [← hf0] at x0 hP hz
  have e1 : (M.first : Int) - 1 = (f0 : Int) := by omega
  obtain ⟨P, hPe⟩ : ∃ P : Nat, P = pos M.recs f0 := ⟨_, rfl⟩
  rw [← hPe] at x0 hP hz
  obtain ⟨T, hTe⟩ : ∃ T : Nat, T = (flat M.recs).length := ⟨_, rfl⟩
  rw [← hTe] at x1 hP hz hT hcnt
  obtain ⟨L, hL⟩ : ∃ L : Nat, L = gs.length := ⟨_, rfl⟩
  rw [← hL] at x1 c3 c4 hcnt hf2
  obtain ⟨F, hF⟩ : ∃ F : Nat, F = M.first := ⟨_, rfl⟩
  rw [← hF] at c5 e1 hf1 hf2 hf0
  obtain ⟨n, hne⟩ : ∃ n : Nat, n = M.n := ⟨_, rfl⟩
  rw [← hne] at c1 hz hn
  obtain ⟨P4, hP4⟩ : ∃ P4 : Nat, P4 = P / 470 := ⟨_, rfl⟩
  rw [← hP4] at hz
  have e2 : Int.tdiv (P : Int) 470 = (P4 : Int) := by rw [Int.tdiv_eq_ediv_of_nonneg (by omega)]; omega
  have hP4b : P4 * 470 ≤ P := by omega
  obtain ⟨L1, hL1⟩ : ∃ L1 : Nat, L1 = L + 1 := ⟨_, rfl⟩
  rw [← hL1] at c4
  have hfL : (f0 : Int) < (L1 : Int) := by omega
  have hLL : (L : Int) < (L1 : Int) := by omega
  have hL1b : L1 ≤ 1152921504606846977 := by omega
  have f00 : (0 : Int) ≤ (f0 : Int) := by omega
  have L0 : (0 : Int) ≤ (L : Int) := by omega
  have HZ := Lib.hid hz
  have hFb : F ≤ 1152921504606846977 := by omega
  have hP4c : (P4 : Int) ≤ 1152921504606846976 := by omega
  have hP4d : (P4 : Int) * 470 ≤ 1152921504606846976 := by omega
  have hn' : (n : Int) ≤ 2048 := by omega
  have w1 : IntKind.i64.wrap (f0 : Int) = (f0 : Int) := by rw [IntKind.wrap_i64]; omega
  have w2 : IntKind.i64.wrap ((n : Int) * 470) = (n : Int) * 470 := by rw [IntKind.wrap_i64]; omega
  have w3 : IntKind.i64.wrap (P4 : Int) = (P4 : Int) := by rw [IntKind.wrap_i64]; omega
  have w4 : IntKind.i64.wrap ((P4 : Int) * 470) = (P4 : Int) * 470 := by rw [IntKind.wrap_i64]; omega
  have w5 : IntKind.i64.wrap ((T : Int) - (P4 : Int) * 470) = (T : Int) - (P4 : Int) * 470 := by rw [IntKind.wrap_i64]; omega
  have w6 : IntKind.i64.wrap ((n : Int) * 470 - ((T : Int) - (P4 : Int) * 470)) = z := by rw [IntKind.wrap_i64]; omega
  have W1 := Lib.hid w1
  have W2 := Lib.hid (And.intro w2 (And.intro w3 (And.intro w4 (And.intro w5 w6))))
  clear w2 w3 w4 w5 w6
  clear hf0 hPe hTe hL hF hne hP4 hL1 hz hl hf2 hf1 hcnt hn
  go_enter Tryz.func27, Tryz.ntmps27
  go_wp2_with fail
  have o1 : Only [] w w.drew := (Only.refl [] w).drew
  refine wp_region_held_drew (S := fun w' => w'.cell? ⟨m, 4, none⟩ = some (.slice (some ⟨tb, toff, none⟩) L1 tc) ∧ w'.cell? ⟨m, 5, none⟩ = some (.int .i64 F) ∧ w'.cell? ⟨tb, toff + f0, none⟩ = some (.int .i64 P)) (by kernel_rfl) ⟨c4, c5, x0⟩ (fun hH => ?_)
  refine take_list (i := 0) (v := ?_) rfl (by kernel_rfl) (by kernel_rfl) (by kernel_rfl) (fun _ _ _ h => h) (Or.inl ⟨by rfl, ?_⟩) hH ?_
  rotate_left
  · ((intro w hSw; (try dsimp only at hSw); go_simp); try with_reducible rfl)
  simp only [Act.put, List.setIfInBounds_toArray, List.set_cons_zero, List.set_cons_succ]
  refine take_list (i := 1) (v := ?_) rfl (by kernel_rfl) (by kernel_rfl) (by kernel_rfl) (fun _ _ _ h => h) (Or.inl ⟨by rfl, ?_⟩) hH ?_
  rotate_left
  · ((intro w hSw; (try dsimp only at hSw); go_simp); try with_reducible rfl)
  simp only [Act.put, List.setIfInBounds_toArray, List.set_cons_zero, List.set_cons_succ]
  refine take_list (i := 2) (v := ?_) rfl (by kernel_rfl) (by kernel_rfl) (by kernel_rfl) (fun _ _ _ h => h) (Or.inl ⟨by rfl, ?_⟩) hH ?_
  rotate_left
  · ((intro w hSw; (try dsimp only at hSw); go_simp); try with_reducible rfl)
  simp only [Act.put, List.setIfInBounds_toArray, List.set_cons_zero, List.set_cons_succ]
  refine take_list (i := 3) (v := ?_) rfl (by kernel_rfl) (by kernel_rfl) (by kernel_rfl) (fun _ _ _ h => h) (Or.inl ⟨by rfl, ?_⟩) hH ?_
  rotate_left
  · ((intro w hSw; (try dsimp only at hSw); go_simp); try with_reducible rfl)
  simp only [Act.put, List.setIfInBounds_toArray, List.set_cons_zero, List.set_cons_succ]
  refine take_list (i := 4) (v := ?_) rfl (by kernel_rfl) (by kernel_rfl) (by kernel_rfl) (fun _ _ _ h => h) (Or.inl ⟨by rfl, ?_⟩) hH ?_
  rotate_left
  · ((intro w hSw; (try dsimp only at hSw); go_simp); try with_reducible rfl)
  simp only [Act.put, List.setIfInBounds_toArray, List.set_cons_zero, List.set_cons_succ]
  refine take_list (i := 5) (v := ?_) rfl (by kernel_rfl) (by kernel_rfl) (by kernel_rfl) (fun _ _ _ h => h) (Or.inl ⟨by rfl, ?_⟩) hH ?_
  rotate_left
  · ((intro w hSw; (try dsimp only at hSw); go_simp); try with_reducible rfl)
  simp only [Act.put, List.setIfInBounds_toArray, List.set_cons_zero, List.set_cons_succ]
  refine take_list (i := 6) (v := ?_) rfl (by kernel_rfl) (by kernel_rfl) (by kernel_rfl) (fun _ _ _ h => h) (Or.inl ⟨by rfl, ?_⟩) hH ?_
  rotate_left
  · ((intro w hSw; (try dsimp only at hSw); go_simp); try with_reducible rfl)
  simp only [Act.put, List.setIfInBounds_toArray, List.set_cons_zero, List.set_cons_succ]
  refine take_list (i := 7) (v := ?_) rfl (by kernel_rfl) (by kernel_rfl) (by kernel_rfl) (fun _ _ _ h => h) (Or.inl ⟨by rfl, ?_⟩) hH ?_
  rotate_left
  · ((intro w hSw; (try dsimp only at hSw); go_simp); try with_reducible rfl)
  simp only [Act.put, List.setIfInBounds_toArray, List.set_cons_zero, List.set_cons_succ]
  refine take_list (i := 8) (v := ?_) rfl (by kernel_rfl) (by kernel_rfl) (by kernel_rfl) (fun _ _ _ h => h) (Or.inl ⟨by rfl, ?_⟩) hH ?_
  rotate_left
  · ((intro w hSw; (try dsimp only at hSw); go_simp); try with_reducible rfl)
  simp only [Act.put, List.setIfInBounds_toArray, List.set_cons_zero, List.set_cons_succ]
  refine take_list (i := 9) (v := ?_) rfl (by kernel_rfl) (by kernel_rfl) (by kernel_rfl) (fun _ _ _ h => h) (Or.inl ⟨by rfl, ?_⟩) hH ?_
  rotate_left
  · ((intro w hSw; (try dsimp only at hSw); go_simp); try with_reducible rfl)
  simp only [Act.put, List.setIfInBounds_toArray, List.set_cons_zero, List.set_cons_succ]
  refine take_list (i := 10) (v := ?_) rfl (by kernel_rfl) (by kernel_rfl) (by kernel_rfl) (fun _ _ _ h => h) (Or.inl ⟨by rfl, ?_⟩) hH ?_
  rotate_left
  · ((intro w hSw; (try dsimp only at hSw); go_simp); try with_reducible rfl)
  simp only [Act.put, List.setIfInBounds_toArray, List.set_cons_zero, List.set_cons_succ]
  refine take_list (i := 11) (v := ?_) rfl (by kernel_rfl) (by kernel_rfl) (by kernel_rfl) (fun _ _ _ h => h) (Or.inl ⟨by rfl, ?_⟩) hH ?_
  rotate_left
  · ((intro w hSw; (try dsimp only at hSw); go_simp); try with_reducible rfl)
  simp only [Act.put, List.setIfInBounds_toArray, List.set_cons_zero, List.set_cons_succ]
  refine take_list (i := 12) (v := ?_) rfl (by kernel_rfl) (by kernel_rfl) (by kernel_rfl) (fun _ _ _ h => h) (Or.inl ⟨by rfl, ?_⟩) hH ?_
  rotate_left
  · ((intro w hSw; (try dsimp only at hSw); go_simp); try with_reducible rfl)
  simp only [Act.put, List.setIfInBounds_toArray, List.set_cons_zero, List.set_cons_succ]
  refine wpAnyH_done (by kernel_rfl) ?_ _
  clear hH
  have c1 : w.drew.cell? ⟨m, 1, none⟩ = some (.int .i64 n) := cell_kept o1 c1 (by simp)
  have c3 : w.drew.cell? ⟨m, 3, none⟩ = some (.slice ra L rc) := cell_kept o1 c3 (by simp)
  have c4 : w.drew.cell? ⟨m, 4, none⟩ = some (.slice (some ⟨tb, toff, none⟩) L1 tc) := cell_kept o1 c4 (by simp)
  have x1 : w.drew.cell? ⟨tb, toff + L, none⟩ = some (.int .i64 T) := cell_kept o1 x1 (by simp)
  clear c5 x0
  obtain ⟨v2, v3, v4, v5, v6⟩ := W2.out
  go_wp2_with fail
  refine wp_region_held_drew (S := fun w' => w'.cell? ⟨m, 1, none⟩ = some (.int .i64 n) ∧ w'.cell? ⟨m, 3, none⟩ = some (.slice ra L rc) ∧ w'.cell? ⟨m, 4, none⟩ = some (.slice (some ⟨tb, toff, none⟩) L1 tc) ∧ w'.cell? ⟨tb, toff + L, none⟩ = some (.int .i64 T)) (by kernel_rfl) ⟨c1, c3, c4, x1⟩ (fun hH => ?_)
  refine take_list (i := 0) (v := ?_) rfl (by kernel_rfl) (by kernel_rfl) (by kernel_rfl) (fun _ _ _ h => h) (Or.inl ⟨by rfl, ?_⟩) hH ?_
  rotate_left
  · ((intro w hSw; (try dsimp only at hSw); go_simp); try with_reducible rfl)
  simp only [Act.put, List.setIfInBounds_toArray, List.set_cons_zero, List.set_cons_succ]
  refine take_list (i := 1) (v := ?_) rfl (by kernel_rfl) (by kernel_rfl) (by kernel_rfl) (fun _ _ _ h => h) (Or.inl ⟨by rfl, ?_⟩) hH ?_
  rotate_left
  · ((intro w hSw; (try dsimp only at hSw); go_simp); try with_reducible rfl)
  simp only [Act.put, List.setIfInBounds_toArray, List.set_cons_zero, List.set_cons_succ]
  refine take_list (i := 2) (v := ?_) rfl (by kernel_rfl) (by kernel_rfl) (by kernel_rfl) (fun _ _ _ h => h) (Or.inl ⟨by rfl, ?_⟩) hH ?_
  rotate_left
  · ((intro w hSw; (try dsimp only at hSw); go_simp); try with_reducible rfl)
  simp only [Act.put, List.setIfInBounds_toArray, List.set_cons_zero, List.set_cons_succ]
  refine take_list (i := 3) (v := ?_) rfl (by kernel_rfl) (by kernel_rfl) (by kernel_rfl) (fun _ _ _ h => h) (Or.inl ⟨by rfl, ?_⟩) hH ?_
  rotate_left
  · ((intro w hSw; (try dsimp only at hSw); go_simp); try with_reducible rfl)
  simp only [Act.put, List.setIfInBounds_toArray, List.set_cons_zero, List.set_cons_succ]
  refine take_list (i := 4) (v := ?_) rfl (by kernel_rfl) (by kernel_rfl) (by kernel_rfl) (fun _ _ _ h => h) (Or.inl ⟨by rfl, ?_⟩) hH ?_
  rotate_left
  · ((intro w hSw; (try dsimp only at hSw); go_simp); try with_reducible rfl)
  simp only [Act.put, List.setIfInBounds_toArray, List.set_cons_zero, List.set_cons_succ]
  refine take_list (i := 5) (v := ?_) rfl (by kernel_rfl) (by kernel_rfl) (by kernel_rfl) (fun _ _ _ h => h) (Or.inl ⟨by rfl, ?_⟩) hH ?_
  rotate_left
  · ((intro w hSw; (try dsimp only at hSw); go_simp); try with_reducible rfl)
  simp only [Act.put, List.setIfInBounds_toArray, List.set_cons_zero, List.set_cons_succ]
  refine take_list (i := 6) (v := ?_) rfl (by kernel_rfl) (by kernel_rfl) (by kernel_rfl) (fun _ _ _ h => h) (Or.inl ⟨by rfl, ?_⟩) hH ?_
  rotate_left
  · ((intro w hSw; (try dsimp only at hSw); go_simp); try with_reducible rfl)
  simp only [Act.put, List.setIfInBounds_toArray, List.set_cons_zero, List.set_cons_succ]
  refine take_list (i := 7) (v := ?_) rfl (by kernel_rfl) (by kernel_rfl) (by kernel_rfl) (fun _ _ _ h => h) (Or.inl ⟨by rfl, ?_⟩) hH ?_
  rotate_left
  · ((intro w hSw; (try dsimp only at hSw); go_simp); try with_reducible rfl)
  simp only [Act.put, List.setIfInBounds_toArray, List.set_cons_zero, List.set_cons_succ]
  refine take_list (i := 8) (v := ?_) rfl (by kernel_rfl) (by kernel_rfl) (by kernel_rfl) (fun _ _ _ h => h) (Or.inl ⟨by rfl, ?_⟩) hH ?_
  rotate_left
  · ((intro w hSw; (try dsimp only at hSw); go_simp); try with_reducible rfl)
  simp only [Act.put, List.setIfInBounds_toArray, List.set_cons_zero, List.set_cons_succ]
  refine take_list (i := 9) (v := ?_) rfl (by kernel_rfl) (by kernel_rfl) (by kernel_rfl) (fun _ _ _ h => h) (Or.inl ⟨by rfl, ?_⟩) hH ?_
  rotate_left
  · ((intro w hSw; (try dsimp only at hSw); go_simp); try with_reducible rfl)
  simp only [Act.put, List.setIfInBounds_toArray, List.set_cons_zero, List.set_cons_succ]
  refine take_list (i := 10) (v := ?_) rfl (by kernel_rfl) (by kernel_rfl) (by kernel_rfl) (fun _ _ _ h => h) (Or.inl ⟨by rfl, ?_⟩) hH ?_
  rotate_left
  · ((intro w hSw; (try dsimp only at hSw); go_simp); try with_reducible rfl)
  simp only [Act.put, List.setIfInBounds_toArray, List.set_cons_zero, List.set_cons_succ]
  refine take_list (i := 11) (v := ?_) rfl (by kernel_rfl) (by kernel_rfl) (by kernel_rfl) (fun _ _ _ h => h) (Or.inl ⟨by rfl, ?_⟩) hH ?_
  rotate_left
  · ((intro w hSw; (try dsimp only at hSw); go_simp); try with_reducible rfl)
  simp only [Act.put, List.setIfInBounds_toArray, List.set_cons_zero, List.set_cons_succ]
  refine take_list (i := 12) (v := ?_) rfl (by kernel_rfl) (by kernel_rfl) (by kernel_rfl) (fun _ _ _ h => h) (Or.inl ⟨by rfl, ?_⟩) hH ?_
  rotate_left
  · ((intro w hSw; (try dsimp only at hSw); go_simp); try with_reducible rfl)
  simp only [Act.put, List.setIfInBounds_toArray, List.set_cons_zero, List.set_cons_succ]
  refine take_list (i := 13) (v := ?_) rfl (by kernel_rfl) (by kernel_rfl) (by kernel_rfl) (fun _ _ _ h => h) (Or.inl ⟨by rfl, ?_⟩) hH ?_
  rotate_left
  · ((intro w hSw; (try dsimp only at hSw); go_simp); try with_reducible rfl)
  simp only [Act.put, List.setIfInBounds_toArray, List.set_cons_zero, List.set_cons_succ]
  refine take_list (i := 14) (v := ?_) rfl (by kernel_rfl) (by kernel_rfl) (by kernel_rfl) (fun _ _ _ h => h) (Or.inl ⟨by rfl, ?_⟩) hH ?_
  rotate_left
  · ((intro w hSw; (try dsimp only at hSw); go_simp); try with_reducible rfl)
  simp only [Act.put, List.setIfInBounds_toArray, List.set_cons_zero, List.set_cons_succ]
  refine take_list (i := 15) (v := ?_) rfl (by kernel_rfl) (by kernel_rfl) (by kernel_rfl) (fun _ _ _ h => h) (Or.inl ⟨by rfl, ?_⟩) hH ?_
  rotate_left
  · ((intro w hSw; (try dsimp only at hSw); go_simp); try with_reducible rfl)
  simp only [Act.put, List.setIfInBounds_toArray, List.set_cons_zero, List.set_cons_succ]
  refine take_list (i := 16) (v := ?_) rfl (by kernel_rfl) (by kernel_rfl) (by kernel_rfl) (fun _ _ _ h => h) (Or.inl ⟨by rfl, ?_⟩) hH ?_
  rotate_left
  · ((intro w hSw; (try dsimp only at hSw); go_simp); try with_reducible rfl)
  simp only [Act.put, List.setIfInBounds_toArray, List.set_cons_zero, List.set_cons_succ]
  refine take_list (i := 17) (v := ?_) rfl (by kernel_rfl) (by kernel_rfl) (by kernel_rfl) (fun _ _ _ h => h) (Or.inl ⟨by rfl, ?_⟩) hH ?_
  rotate_left
  · ((intro w hSw; (try dsimp only at hSw); go_simp); try with_reducible rfl)
  simp only [Act.put, List.setIfInBounds_toArray, List.set_cons_zero, List.set_cons_succ]
  refine take_list (i := 18) (v := ?_) rfl (by kernel_rfl) (by kernel_rfl) (by kernel_rfl) (fun _ _ _ h => h) (Or.inl ⟨by rfl, ?_⟩) hH ?_
  rotate_left
  · ((intro w hSw; (try dsimp only at hSw); go_simp); try with_reducible rfl)
  simp only [Act.put, List.setIfInBounds_toArray, List.set_cons_zero, List.set_cons_succ]
  refine take_list (i := 19) (v := ?_) rfl (by kernel_rfl) (by kernel_rfl) (by kernel_rfl) (fun _ _ _ h => h) (Or.inl ⟨by rfl, ?_⟩) hH ?_
  rotate_left
  · ((intro w hSw; (try dsimp only at hSw); go_simp); try with_reducible rfl)
  simp only [Act.put, List.setIfInBounds_toArray, List.set_cons_zero, List.set_cons_succ]
  refine take_list (i := 20) (v := ?_) rfl (by kernel_rfl) (by kernel_rfl) (by kernel_rfl) (fun _ _ _ h => h) (Or.inl ⟨by rfl, ?_⟩) hH ?_
  rotate_left
  · ((intro w hSw; (try dsimp only at hSw); go_simp); try with_reducible rfl)
  simp only [Act.put, List.setIfInBounds_toArray, List.set_cons_zero, List.set_cons_succ]
  refine take_list (i := 21) (v := ?_) rfl (by kernel_rfl) (by kernel_rfl) (by kernel_rfl) (fun _ _ _ h => h) (Or.inl ⟨by rfl, ?_⟩) hH ?_
  rotate_left
  · ((intro w hSw; (try dsimp only at hSw); go_simp); try with_reducible rfl)
  simp only [Act.put, List.setIfInBounds_toArray, List.set_cons_zero, List.set_cons_succ]
  refine wpAnyH_done (by kernel_rfl) ?_ _
  clear hH
  go_wp2_with fail
  go_ret
  exact ⟨rfl, o1.trans ((Only.refl [] w.drew).drew) (by simp)⟩
end
end Go.Proofs.YtfnedeaemjchgaaGreat
/- What a model makes of a Flush's answer. -/
namespace Go.Proofs.YtfnedeaemjchgaaGreat
open Go.RowKit Go.Maps
set_option linter.unusedSimpArgs false
set_option linter.unusedVariables false

theorem owns_ty {w : World} {base n k : Nat} {e t : TypeId} {v : Value} {xs : List Value} {c : Array Value} {fr : Nat × Nat} (h : w.ownsRow base e 1 v n xs) (hk : v.ownBlock = some k) (hg : w.heap[k]? = some (.cells c t fr)) : t = e := by
  rcases h.2 with ⟨rfl, _⟩ | ⟨g, cap, cur, rfl, hb, hg', r⟩
  · cases hk
  · obtain rfl : g = k := by simpa [Value.ownBlock] using hk
    rw [hg'] at hg
    simp only [Option.some.injEq, Obj.cells.injEq] at hg
    exact hg.2.1.symm
section
variable {w w1 : World} {m p : Nat} {a : DA} {vr vt vm : Value} {gs : List Value} {M M' : ML} {d : Disk}
/-- The model's own cells have turned. -/
theorem MM.turn (h : MM w m a p vr vt vm gs M) (ho : Only [m] w w1) (hr : M'.recs = M.recs)
    (hb : w1.heap[m]? = some (.cells #[.pointer (some ⟨a.p, 0, none⟩), .int .i64 M'.n, .pointer (some ⟨p, 0, none⟩), vr, vt, .int .i64 M'.first, .string (strOf M'.note), .int .i64 M'.sure, .int .i64 M'.booked, .bool M'.dead, vm] 44 (0, 0))) : MM w1 m a p vr vt vm gs M' := by
  refine ⟨hb, own_kept h.recs ho (fun k hk e => ?_), by rw [hr]; exact h.hlen, fun i g r hg hr' => (h.rows i g r hg (by rw [← hr]; exact hr')).kept ho (fun k hk e => ?_), ?_⟩
  · obtain rfl := List.mem_singleton.1 hk
    exact absurd (owns_ty h.recs e h.blk) (by decide)
  · obtain rfl := List.mem_singleton.1 hk
    exact absurd (owns_ty (h.rows i g r hg (by rw [← hr]; exact hr')) e h.blk) (by decide)
  · rw [hr]
    refine ⟨owns_kept h.starts.1 ho (fun k hk e => ?_), h.starts.2⟩
    obtain rfl := List.mem_singleton.1 hk
    exact absurd (owns_ty h.starts.1 e h.blk) (by decide)
/-- The journal was dead before. -/
theorem mflush_dead (h : MM w m a p vr vt vm gs M) (hd : M.dead = true) : Calls Tryz.prog 11 #[.pointer (some ⟨m, 0, none⟩), err 3] w fun e w' => e = .returned (.bool true) ∧ w = w' := by
  have c9 : w.cell? ⟨m, 9, none⟩ = some (.bool M.dead) := cell_at 9 h.blk
  rw [hd] at c9
  have q3 := err_33
  clear h hd
  go_enter Tryz.func11, Tryz.ntmps11
  go_wp2_with fail
  go_ret
  exact ⟨rfl, rfl⟩
/-- All is flushed. -/
theorem mflush_yes (h : MM w m a p vr vt vm gs M) (hd : M.dead = false) (hv : Dev w a d) (hn : d.met.down = false) (hb : M.recs.length ≤ 1099511627776) :
    Calls Tryz.prog 11 #[.pointer (some ⟨m, 0, none⟩), .nilIface] w fun e w' => e = .returned (.bool true) ∧ MM w' m a p vr vt vm gs { M with sure := M.next } ∧ Only [m] w w' := by
  have c9 : w.cell? ⟨m, 9, none⟩ = some (.bool M.dead) := cell_at 9 h.blk
  rw [hd] at c9
  have c0 : w.cell? ⟨m, 0, none⟩ = some (.pointer (some ⟨a.p, 0, none⟩)) := cell_at 0 h.blk
  have c7 : w.cell? ⟨m, 7, none⟩ = some (.int .i64 M.sure) := cell_at 7 h.blk
  have f7 := free_at 7 h.blk
  have q0 := iface_nil
  have hnx := mnext_any h hb
  have H := Lib.hid h
  have HV := Lib.hid hv
  have HN := Lib.hid hn
  clear h hd hv hn hb
  go_enter Tryz.func11, Tryz.ntmps11
  go_wp2_with fail
  refine hnx.mono ?_
  rintro e w1 ⟨rfl, rfl⟩
  go_wp2_with fail
  have o1 : Only [m] w (w.setCell ⟨m, 7, none⟩ (.int .i64 M.next)) := (Only.refl _ _).setCell (by simp) _
  have H1 := Lib.hid (H.out.turn (M' := { M with sure := M.next }) o1 rfl (heap_cell (i := 7) (.int .i64 M.next) H.out.blk))
  have hdn := down_any _ _ _ _ _ _ (HV.out.kept o1 (fun k hk => by rw [List.mem_singleton.1 hk]; exact HV.out.off_ty H.out.blk (by decide))).blk
  rw [HN.out] at hdn
  refine hdn.mono ?_
  rintro e w1 ⟨rfl, rfl⟩
  go_wp2_with fail
  go_ret
  exact ⟨rfl, H1.out, o1⟩
/-- Power went. -/
theorem mflush_no (h : MM w m a p vr vt vm gs M) (hd : M.dead = false) (hv : Dev w a d) (hn : d.met.down = true) :
    Calls Tryz.prog 11 #[.pointer (some ⟨m, 0, none⟩), err 3] w fun e w' => e = .returned (.bool true) ∧ MM w' m a p vr vt vm gs { M with dead := true } ∧ Only [m] w w' := by
  have c9 : w.cell? ⟨m, 9, none⟩ = some (.bool M.dead) := cell_at 9 h.blk
  rw [hd] at c9
  have c0 : w.cell? ⟨m, 0, none⟩ = some (.pointer (some ⟨a.p, 0, none⟩)) := cell_at 0 h.blk
  have f9 := free_at 9 h.blk
  have q3 := err_33
  have q0 : ∀ w, (binOp .eql 36 (err 3) .nilIface).run Tryz.prog w = .ok (.bool false) w := fun w => by kernel_rfl
  have H := Lib.hid h
  have HV := Lib.hid hv
  have HN := Lib.hid hn
  clear h hd hv hn
  go_enter Tryz.func11, Tryz.ntmps11
  go_wp2_with fail
  have o1 : Only [m] w (w.setCell ⟨m, 9, none⟩ (.bool true)) := (Only.refl _ _).setCell (by simp) _
  have H1 := Lib.hid (H.out.turn (M' := { M with dead := true }) o1 rfl (heap_cell (i := 9) (.bool true) H.out.blk))
  have hdn := down_any _ _ _ _ _ _ (HV.out.kept o1 (fun k hk => by rw [List.mem_singleton.1 hk]; exact HV.out.off_ty H.out.blk (by decide))).blk
  rw [HN.out] at hdn
  refine hdn.mono ?_
  rintro e w1 ⟨rfl, rfl⟩
  go_wp2_with fail
  go_ret
  exact ⟨rfl, H1.out, o1⟩
end
end Go.Proofs.YtfnedeaemjchgaaGreat
/- A row more in a model's rows. -/
namespace Go.Proofs.YtfnedeaemjchgaaGreat
open Go.RowKit Go.Maps
set_option linter.unusedSimpArgs false
set_option linter.unusedVariables false

theorem info_rowsJ : (Tryz.prog.info? 27).map (fun i => (i.zero, i.size, i.bytes)) = some (some (.slice none 0 0), 1, 24) := by kernel_rfl
theorem run_append_row {w : World} (base : Nat) (ty : TypeId) (v : Value) (gs : List Value) (hown : w.ownsRow base 27 1 v gs.length gs) (bx capx : Nat) (l : Value) (hk : w.cell? ⟨bx, 0, none⟩ = some l) (hl : l.oneCell' = true) (hn : gs.length ≤ 1048576) (hbase : base ≤ w.heap.size) :
    ∃ a cap w', (Builtin.append_ #[39, 39] ty #[v, .slice (some ⟨bx, 0, none⟩) 1 capx]).run Tryz.prog w = .ok (.slice a (gs.length + 1) cap) w' ∧ w'.ownsRow base 27 1 (.slice a (gs.length + 1) cap) (gs ++ [l]).length (gs ++ [l]) ∧ Ext w v w' (.slice a (gs.length + 1) cap) := by
  obtain ⟨i, hi, hz⟩ := Option.map_eq_some_iff.1 info_rowsJ
  simp only [Prod.mk.injEq] at hz
  obtain ⟨z1, z2, z3⟩ := hz
  have hcell : ∀ (j : Nat) (u : Value), ([l] : List Value)[j]? = some u → w.cell? ((⟨bx, 0, none⟩ : Addr).add j) = some u := fun j u hj => by
    cases j with
    | zero =>
      simp at hj
      subst hj
      have : (⟨bx, 0, none⟩ : Addr).add 0 = ⟨bx, 0, none⟩ := by simp [Addr.add]
      rw [this]
      exact hk
    | succ j => simp at hj
  obtain ⟨v', w', hr, h1, h2, _, h5⟩ := run_append_own_at (P := Tryz.prog) w base 39 ty 27 i (.slice none 0 0) 1 24 Tryz.underlying39 hi z1 z2 z3 rfl (by omega) v gs.length gs hown ⟨bx, 0, none⟩ 1 capx [l] rfl hcell (by simpa using hl) (by unfold maxLen; omega) (by omega) hbase
  obtain ⟨a, cap, rfl, _⟩ := own_shape h1
  refine ⟨a, cap, w', hr, ?_, Only.of_grown h2, fun g hg => ?_⟩
  · rw [List.length_append]
    exact h1
  · rcases h5 with h5 | h5
    · exact .inl (by rw [← h5]; exact hg)
    · rw [h5] at hg
      exact .inr (Nat.le_of_eq (Option.some.inj hg))
section
variable {w : World} {ops : Array Oper} {rest : List Oper} {o : Oper} {a : Act} {Q : Exit → Act → World → Prop}
theorem step_append_row {K : Act → World → Prop} {E : Prop} (hg : o.guard = none) (s x : Operand) (hop : o.op = Op.call { callee := Callee.builtin Builtin.append, args := #[s, x], argTypes := #[39, 39] })
    (base : Nat) (v : Value) (gs : List Value) (hs : a.eval s = v) (hown : w.ownsRow base 27 1 v gs.length gs) (bx capx : Nat) (hx : a.eval x = .slice (some ⟨bx, 0, none⟩) 1 capx) (l : Value) (hk : w.cell? ⟨bx, 0, none⟩ = some l) (hl : l.oneCell' = true) (hn : gs.length ≤ 1048576) (hbase : base ≤ w.heap.size)
    (hK : ∀ a' cap w', w'.ownsRow base 27 1 (.slice a' (gs.length + 1) cap) (gs ++ [l]).length (gs ++ [l]) → Ext w v w' (.slice a' (gs.length + 1) cap) → K (a.put o.dst (.slice a' (gs.length + 1) cap)) w') :
    if Region.wanted o (yielded ops a.tmps) = true then Oper.wp Tryz.prog o a w K Q else E := by
  have hw : Region.wanted o (yielded ops a.tmps) = true := by simp [Region.wanted, hg]
  rw [if_pos hw]
  obtain ⟨a', cap, w', hrun, h1, h2⟩ := run_append_row base o.type v gs hown bx capx l hk hl hn hbase
  unfold Oper.wp
  simp [execOp, hop, resolve, invoke, builtin, hs, hx, hrun, Result.andThen]
  exact hK a' cap w' h1 h2
end
end Go.Proofs.YtfnedeaemjchgaaGreat
/- A record more in a model. -/
namespace Go.Proofs.YtfnedeaemjchgaaGreat
open Go.RowKit Go.Maps
set_option linter.unusedSimpArgs false
set_option linter.unusedVariables false

/-- A model midway: its rows and its starts each for itself. -/
structure MX (w : World) (m : Nat) (a : DA) (p : Nat) (vr vt vm : Value) (gs : List Value) (R : List Sec) (T : List Int) (M : ML) : Prop where
  blk : w.heap[m]? = some (.cells #[.pointer (some ⟨a.p, 0, none⟩), .int .i64 M.n, .pointer (some ⟨p, 0, none⟩), vr, vt, .int .i64 M.first, .string (strOf M.note), .int .i64 M.sure, .int .i64 M.booked, .bool M.dead, vm] 44 (0, 0))
  recs : w.ownsRow 0 27 1 vr gs.length gs
  hlen : gs.length = R.length
  rows : ∀ (i : Nat) (g : Value) (r : Sec), gs[i]? = some g → R[i]? = some r → Own w 0 g r
  starts : OwnI w 0 vt T
section
variable {w w1 : World} {m p : Nat} {a : DA} {vr vr' vt vt' vm : Value} {gs : List Value} {R : List Sec} {T T' : List Int} {M : ML}
theorem MM.mx (h : MM w m a p vr vt vm gs M) : MX w m a p vr vt vm gs M.recs (msts M.recs) M := ⟨h.blk, h.recs, h.hlen, h.rows, h.starts⟩
theorem MX.mm (h : MX w m a p vr vt vm gs R (msts R) M) : MM w m a p vr vt vm gs { M with recs := R } := ⟨h.blk, h.recs, h.hlen, h.rows, h.starts⟩
theorem MX.quiet (h : MX w m a p vr vt vm gs R T M) (ho : Only [] w w1) : MX w1 m a p vr vt vm gs R T M :=
  ⟨ho.heap h.blk (by simp), own_kept h.recs ho (by simp), h.hlen, fun i g r hg hr => (h.rows i g r hg hr).kept ho (by simp), ⟨owns_kept h.starts.1 ho (by simp), h.starts.2⟩⟩
theorem MX.shapeR (h : MX w m a p vr vt vm gs R T M) : ∃ ra rc, vr = .slice ra gs.length rc := by
  rcases h.recs.2 with ⟨rfl, e⟩ | ⟨g, cap, cur, rfl, _⟩
  · exact ⟨none, 0, by rw [e]⟩
  · exact ⟨_, _, rfl⟩
/-- The rows have one more. -/
theorem MX.row {g : Value} {r : Sec} (h : MX w m a p vr vt vm gs R T M) (hg : Own w 0 g r) (x : Ext w vr w1 vr') (hr : w1.ownsRow 0 27 1 vr' (gs ++ [g]).length (gs ++ [g])) :
    MX (w1.setCell ⟨m, 3, none⟩ vr') m a p vr' vt vm (gs ++ [g]) (R ++ [r]) T M ∧ Only (m :: vr.ownBlock.toList) w (w1.setCell ⟨m, 3, none⟩ vr') := by
  have hm : m ∉ vr.ownBlock.toList := fun hk => absurd (owns_ty h.recs (by simpa using hk) h.blk) (by decide)
  have hb1 := x.only.heap h.blk hm
  have o2 : Only [m] w1 (w1.setCell ⟨m, 3, none⟩ vr') := (Only.refl _ _).setCell (by simp) _
  have ot : Only (m :: vr.ownBlock.toList) w (w1.setCell ⟨m, 3, none⟩ vr') := (x.only.mono (by intro k hk; simp; exact .inr (by simpa using hk))).trans o2 (fun k hk => .inl (by simp at hk; simp [hk]))
  have far : ∀ (g' : Value) (r' : Sec), Own w 0 g' r' → Own (w1.setCell ⟨m, 3, none⟩ vr') 0 g' r' := fun g' r' ho => ho.kept ot (fun k hk e => by
    rcases List.mem_cons.1 hk with rfl | hk
    · exact absurd (owns_ty ho e h.blk) (by decide)
    · rcases h.recs.2 with ⟨rfl, _⟩ | ⟨b, cap, cur, rfl, _, hgb, _⟩
      · simp [Value.ownBlock] at hk
      · obtain rfl : b = k := by simpa [Value.ownBlock, eq_comm] using hk
        exact absurd (owns_ty ho e hgb) (by decide))
  refine ⟨⟨heap_cell (i := 3) vr' hb1, own_kept hr o2 (fun k hk e => ?_), by simp [h.hlen], fun i g' r' hg' hr' => ?_, ⟨owns_kept h.starts.1 ot (fun k hk e => ?_), h.starts.2⟩⟩, ot⟩
  · obtain rfl := List.mem_singleton.1 hk
    exact absurd (owns_ty hr e hb1) (by decide)
  · by_cases hi : i < gs.length
    · rw [List.getElem?_append_left hi] at hg'
      rw [List.getElem?_append_left (by rw [← h.hlen]; exact hi)] at hr'
      exact far _ _ (h.rows i g' r' hg' hr')
    · obtain ⟨rfl, rfl⟩ : i = gs.length ∧ g' = g := by
        rw [List.getElem?_append_right (by omega)] at hg'
        have : i - gs.length = 0 := by
          rcases Nat.eq_zero_or_pos (i - gs.length) with e | e
          · exact e
          · rw [List.getElem?_eq_none (by simp; omega)] at hg'
            cases hg'
        rw [this] at hg'
        exact ⟨by omega, by simpa using hg'.symm⟩
      rw [h.hlen, List.getElem?_append_right (Nat.le_refl _), Nat.sub_self] at hr'
      obtain rfl : r = r' := by simpa using hr'
      exact far _ _ hg
  · rcases List.mem_cons.1 hk with rfl | hk
    · exact absurd (owns_ty h.starts.1 e h.blk) (by decide)
    · rcases h.recs.2 with ⟨rfl, _⟩ | ⟨b, cap, cur, rfl, _, hgb, _⟩
      · simp [Value.ownBlock] at hk
      · obtain rfl : b = k := by simpa [Value.ownBlock, eq_comm] using hk
        exact absurd (owns_ty h.starts.1 e hgb) (by decide)
/-- The starts have become others. -/
theorem MX.start (h : MX w m a p vr vt vm gs R T M) (x : Ext w vt w1 vt') (hs : OwnI w1 0 vt' T') :
    MX (w1.setCell ⟨m, 4, none⟩ vt') m a p vr vt' vm gs R T' M ∧ Only (m :: vt.ownBlock.toList) w (w1.setCell ⟨m, 4, none⟩ vt') := by
  have hm : m ∉ vt.ownBlock.toList := fun hk => absurd (owns_ty h.starts.1 (by simpa using hk) h.blk) (by decide)
  have hb1 := x.only.heap h.blk hm
  have o2 : Only [m] w1 (w1.setCell ⟨m, 4, none⟩ vt') := (Only.refl _ _).setCell (by simp) _
  have ot : Only (m :: vt.ownBlock.toList) w (w1.setCell ⟨m, 4, none⟩ vt') := (x.only.mono (by intro k hk; simp; exact .inr (by simpa using hk))).trans o2 (fun k hk => .inl (by simp at hk; simp [hk]))
  have far : ∀ {k : Nat} {t : TypeId} {n : Nat} {v : Value} {xs : List Value}, w.ownsRow 0 t 1 v n xs → t ≠ 3 → t ≠ 44 → k ∈ m :: vt.ownBlock.toList → v.ownBlock ≠ some k := fun {k t n v xs} ho h1 h2 hk e => by
    rcases List.mem_cons.1 hk with rfl | hk
    · exact h2 (owns_ty ho e h.blk).symm
    · rcases h.starts.1.2 with ⟨rfl, _⟩ | ⟨b, cap, cur, rfl, _, hgb, _⟩
      · simp [Value.ownBlock] at hk
      · obtain rfl : b = k := by simpa [Value.ownBlock, eq_comm] using hk
        exact h1 (owns_ty ho e hgb).symm
  refine ⟨⟨heap_cell (i := 4) vt' hb1, own_kept h.recs ot (fun k hk => far h.recs (by decide) (by decide) hk), h.hlen, fun i g' r' hg' hr' => (h.rows i g' r' hg' hr').kept ot (fun k hk => far (h.rows i g' r' hg' hr') (by decide) (by decide) hk), ⟨owns_kept hs.1 o2 (fun k hk e => ?_), hs.2⟩⟩, ot⟩
  obtain rfl := List.mem_singleton.1 hk
  exact absurd (owns_ty hs.1 e hb1) (by decide)
end
end Go.Proofs.YtfnedeaemjchgaaGreat
/- What a model says to a record. -/
namespace Go.Proofs.YtfnedeaemjchgaaGreat
open Go.RowKit Go.Maps
set_option linter.unusedSimpArgs false
set_option linter.unusedVariables false

section
variable {w w1 : World} {m p : Nat} {a : DA} {vr vt vm rv : Value} {gs : List Value} {M : ML} {r : Sec}
theorem mput_dead (h : MM w m a p vr vt vm gs M) (hd : M.dead = true) (hr : Bytes w rv r) (others : Int) :
    Calls Tryz.prog 24 #[.pointer (some ⟨m, 0, none⟩), rv, .int .i64 others] w fun e w' => e = .returned (.tuple #[.int .i64 0, .int .i64 3]) ∧ w = w' := by
  have c9 : w.cell? ⟨m, 9, none⟩ = some (.bool M.dead) := cell_at 9 h.blk
  rw [hd] at c9
  obtain ⟨ra, rc, rfl, -⟩ := hr
  clear h hd
  go_enter Tryz.func24, Tryz.ntmps24
  go_wp2_with fail
  go_ret2
  exact ⟨rfl, rfl⟩
theorem mput_form (h : MM w m a p vr vt vm gs M) (hd : M.dead = false) (hr : Bytes w rv r) (others : Int) (hl : r.length < 1 ∨ 4096 < r.length) :
    Calls Tryz.prog 24 #[.pointer (some ⟨m, 0, none⟩), rv, .int .i64 others] w fun e w' => e = .returned (.tuple #[.int .i64 0, .int .i64 2]) ∧ w = w' := by
  have c9 : w.cell? ⟨m, 9, none⟩ = some (.bool M.dead) := cell_at 9 h.blk
  rw [hd] at c9
  obtain ⟨ra, rc, rfl, -⟩ := hr
  clear h hd
  by_cases h0 : r.length = 0
  · rw [h0]
    go_enter Tryz.func24, Tryz.ntmps24
    go_wp2_with fail
    go_ret2
    exact ⟨rfl, rfl⟩
  · have h1 : ¬ (r.length : Int) = 0 := by omega
    have h2 : (4096 : Int) < (r.length : Int) := by omega
    go_enter Tryz.func24, Tryz.ntmps24
    go_wp2_with fail
    go_ret2
    exact ⟨rfl, rfl⟩
/-- What a model needs to reckon its room. -/
structure ML.Fit (M : ML) : Prop where
  f1 : 1 ≤ M.first
  f2 : M.first ≤ M.recs.length + 1
  len : (flat M.recs).length ≤ 1152921504606846976
  n : M.n ≤ 2048
def ML.free (M : ML) : Int := (M.n : Int) * 470 - (((flat M.recs).length : Int) - ((pos M.recs (M.first - 1) / 470 * 470 : Nat) : Int))
theorem ML.Fit.free (h : M.Fit) : -1152921504606846976 ≤ M.free ∧ M.free ≤ 962560 := by
  have h1 := h.len
  have h2 := h.n
  have h3 := pos_le M.recs (M.first - 1)
  have h4 := Nat.div_mul_le_self (pos M.recs (M.first - 1)) 470
  unfold ML.free
  omega
theorem mput_room (h : MM w m a p vr vt vm gs M) (hd : M.dead = false) (hf : M.Fit) (hr : Bytes w rv r) (others : Int) (ho : 0 ≤ others ∧ others ≤ 1152921504606846976) (hl1 : 1 ≤ r.length) (hl2 : r.length ≤ 4096) (hroom : M.free - others < (r.length : Int) + 2) :
    Calls Tryz.prog 24 #[.pointer (some ⟨m, 0, none⟩), rv, .int .i64 others] w fun e w' => e = .returned (.tuple #[.int .i64 0, .int .i64 5]) ∧ Only [] w w' := by
  have c9 : w.cell? ⟨m, 9, none⟩ = some (.bool M.dead) := cell_at 9 h.blk
  rw [hd] at c9
  obtain ⟨ra, rc, rfl, -⟩ := hr
  have hfree := mfree_any h hf.f1 hf.f2 hf.len hf.n M.free rfl
  have hb := hf.free
  generalize M.free = z at hfree hroom hb
  have h0 : ¬ r.length = 0 := by omega
  have h1 : ¬ (r.length : Int) = 0 := by omega
  have h2 : ¬ (4096 : Int) < (r.length : Int) := by omega
  clear h hd hf
  go_enter Tryz.func24, Tryz.ntmps24
  go_wp2_with fail
  refine hfree.mono ?_
  rintro e w2 ⟨rfl, o2⟩
  go_wp2_with fail
  go_ret2
  exact ⟨rfl, o2⟩
end
end Go.Proofs.YtfnedeaemjchgaaGreat
/- Numbers of one's own, append: the old slice reads as it did. -/
namespace Go.Proofs.YtfnedeaemjchgaaGreat
open Go.RowKit Go.Maps
set_option linter.unusedSimpArgs false
set_option linter.unusedVariables false

theorem run_append_ints_old {w : World} (ty : TypeId) (v : Value) (l : List Int) (hown : OwnI w 0 v l) (b off capx : Nat) (m : List Int) (hx : IntsV w (.slice (some ⟨b, off, none⟩) m.length capx) m) (hm : 0 < m.length) (hl : l.length + m.length ≤ 1099511627776) {a : Option Addr} {cap : Nat} {w' : World}
    (hrun : (Builtin.append_ #[28, 28] ty #[v, .slice (some ⟨b, off, none⟩) m.length capx]).run Tryz.prog w = .ok (.slice a (l.length + m.length) cap) w') (h1 : OwnI w' 0 (.slice a (l.length + m.length) cap) (l ++ m)) : IntsV w' v l := by
  obtain ⟨i, hi, hz⟩ := Option.map_eq_some_iff.1 info_int
  simp only [Prod.mk.injEq] at hz
  obtain ⟨z1, z2, z3⟩ := hz
  rcases hown.1.2 with ⟨rfl, hn⟩ | ⟨g, capv, cur, rfl, hbg, hg, hnc, hcm, hcs, htake⟩
  · obtain rfl : l = [] := List.eq_nil_of_length_eq_zero hn
    exact ⟨none, 0, rfl, fun i k hk => by simp at hk⟩
  · by_cases hroom : l.length + m.length ≤ capv
    · have hfit : l.length * i.size + (iv m).length ≤ cur.size := by
        rw [z2, hcs]
        simp [iv]
        omega
      have hr := run_append_room (P := Tryz.prog) w 28 ty 3 i Tryz.underlying28 hi g l.length capv cur hg ⟨b, off, none⟩ m.length capx (iv m) (by simp [iv, z2]) ((ints_news hx).2 _ rfl) (by simp [iv, Value.oneCell']) hroom hfit
      rw [hrun] at hr
      injection hr with hr1 hr2
      injection hr1 with hr3 hr4 hr5
      subst hr3
      refine ⟨_, capv, rfl, fun j k hk => ?_⟩
      obtain ⟨hwf, b', off', cap', e, hc⟩ := h1.ints.at_ (i := j) (k := k) (by rw [List.getElem?_append_left (List.getElem?_eq_some_iff.1 hk).1]; exact hk)
      injection e with e1 e2 e3
      cases e1
      exact ⟨hwf, _, _, rfl, hc⟩
    · have hr := run_append_grow (P := Tryz.prog) w 28 ty 3 i (.int .i64 0) Tryz.underlying28 hi z1 ⟨g, 0, none⟩ l.length capv (iv l) (by simp [iv, z2]) (hown.1.cells (g := g) rfl) ⟨b, off, none⟩ m.length capx (iv m) (by simp [iv, z2]) ((ints_news hx).2 _ rfl) (by omega) (by omega) (growslice_fits (by omega) (by rw [z3]; omega))
      rw [hrun] at hr
      injection hr with hr1 hr2
      have o : Only [] w w' := by
        rw [hr2]
        exact ((Only.refl [] w).drew).alloc _
      exact hown.ints.kept o (fun _ _ _ _ _ => by simp)
section
variable {w : World} {ops : Array Oper} {rest : List Oper} {o : Oper} {a : Act} {Q : Exit → Act → World → Prop}
theorem step_append_ints_old {K : Act → World → Prop} {E : Prop} (hg : o.guard = none) (s x : Operand) (hop : o.op = Op.call { callee := Callee.builtin Builtin.append, args := #[s, x], argTypes := #[28, 28] })
    (v : Value) (l : List Int) (hs : a.eval s = v) (hown : OwnI w 0 v l) (bx capx : Nat) (k : Int) (hx : a.eval x = .slice (some ⟨bx, 0, none⟩) 1 capx) (hb : IntsV w (.slice (some ⟨bx, 0, none⟩) 1 capx) [k]) (n : Nat) (hn : l.length + 1 = n) (lm : List Int) (hlm : l ++ [k] = lm) (hl : n ≤ 1099511627776)
    (hK : ∀ a' cap w', OwnI w' 0 (.slice a' n cap) lm → Ext w v w' (.slice a' n cap) → IntsV w' v l → K (a.put o.dst (.slice a' n cap)) w') :
    if Region.wanted o (yielded ops a.tmps) = true then Oper.wp Tryz.prog o a w K Q else E := by
  subst hn
  subst hlm
  have hw : Region.wanted o (yielded ops a.tmps) = true := by simp [Region.wanted, hg]
  rw [if_pos hw]
  obtain ⟨a', cap, w', hrun, h1, h2⟩ := run_append_ints 0 o.type v l hown _ [k] hb hl (Nat.zero_le _)
  have h3 := run_append_ints_old o.type v l hown bx 0 capx [k] hb (by simp) hl hrun h1
  unfold Oper.wp
  simp [execOp, hop, resolve, invoke, builtin, hs, hx, hrun, Result.andThen]
  exact hK a' cap w' h1 h2 h3
end
end Go.Proofs.YtfnedeaemjchgaaGreat

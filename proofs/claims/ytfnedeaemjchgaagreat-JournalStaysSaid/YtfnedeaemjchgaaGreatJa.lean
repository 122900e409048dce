/- Records in a stream of bytes, and its pieces. Plain lists. -/
import Derived.Test.YtfnedeaemjchgaaGreatM5
import Derived.Test.YtfnedeaemjchgaaGreatT5
import Derived.Test.YtfnedeaemjchgaaGreatT7
import Derived.BigQuiet
import Derived.Deep.QuietTactic
import Derived.Test.YtfnedeaemjchgaaGreatW2
import Derived.Deep.Cut
namespace Go.Proofs.YtfnedeaemjchgaaGreat
set_option linter.unusedSimpArgs false
set_option linter.unusedVariables false

/-- A record as it stands in the stream. -/
def recB (r : List UInt8) : List UInt8 := be2 r.length ++ r
def flat (rs : List (List UInt8)) : List UInt8 := (rs.map recB).flatten
theorem recB_length (r : List UInt8) : (recB r).length = r.length + 2 := by simp [recB, be2]
theorem flat_nil : flat [] = [] := rfl
theorem flat_cons (r : List UInt8) (rs : List (List UInt8)) : flat (r :: rs) = recB r ++ flat rs := by simp [flat]
theorem flat_append (a b : List (List UInt8)) : flat (a ++ b) = flat a ++ flat b := by simp [flat]
theorem flat_one (r : List UInt8) : flat [r] = recB r := by simp [flat]
theorem flat_snoc (rs : List (List UInt8)) (r : List UInt8) : (flat (rs ++ [r])).length = (flat rs).length + (r.length + 2) := by rw [flat_append, flat_one, List.length_append, recB_length]

/-- How many bytes the first i records take. -/
def pos (rs : List (List UInt8)) (i : Nat) : Nat := (flat (rs.take i)).length
theorem pos_zero (rs : List (List UInt8)) : pos rs 0 = 0 := by simp [pos, flat]
theorem pos_cons (r : List UInt8) (rs : List (List UInt8)) (i : Nat) : pos (r :: rs) (i + 1) = r.length + 2 + pos rs i := by simp [pos, flat_cons, recB_length]
theorem pos_all {rs : List (List UInt8)} {i : Nat} (h : rs.length ≤ i) : pos rs i = (flat rs).length := by unfold pos; rw [List.take_of_length_le h]
theorem pos_succ {rs : List (List UInt8)} {i : Nat} {r : List UInt8} (h : rs[i]? = some r) : pos rs (i + 1) = pos rs i + (r.length + 2) := by
  unfold pos
  rw [List.take_add_one, h]
  exact flat_snoc _ _
theorem flat_split (rs : List (List UInt8)) (i : Nat) : flat rs = flat (rs.take i) ++ flat (rs.drop i) := by rw [← flat_append, List.take_append_drop]
theorem flat_drop (rs : List (List UInt8)) (i : Nat) : (flat rs).drop (pos rs i) = flat (rs.drop i) := by
  rw [flat_split rs i]
  unfold pos
  simp
theorem flat_take (rs : List (List UInt8)) (i : Nat) : (flat rs).take (pos rs i) = flat (rs.take i) := by
  rw [flat_split rs i]
  unfold pos
  simp
theorem pos_le (rs : List (List UInt8)) (i : Nat) : pos rs i ≤ (flat rs).length := by
  have := congrArg List.length (flat_split rs i)
  rw [List.length_append] at this
  unfold pos
  omega
theorem pos_drop (rs : List (List UInt8)) (k : Nat) : (flat rs).length = pos rs k + (flat (rs.drop k)).length := by
  have := congrArg List.length (flat_split rs k)
  rw [List.length_append] at this
  exact this
theorem pos_mono {rs : List (List UInt8)} {i j : Nat} (h : i ≤ j) : pos rs i ≤ pos rs j := by
  have h1 := pos_le (rs.take j) i
  unfold pos at h1 ⊢
  rwa [List.take_take, Nat.min_eq_left h] at h1
theorem pos_append (rs rs' : List (List UInt8)) {i : Nat} (h : i ≤ rs.length) : pos (rs ++ rs') i = pos rs i := by
  unfold pos
  rw [List.take_append_of_le_length h]
/-- Where each record begins. -/
def offs : Nat → List (List UInt8) → List Int
  | _, [] => []
  | s, r :: rs => (s : Int) :: offs (s + (r.length + 2)) rs
theorem offs_length : ∀ (s : Nat) (rs : List (List UInt8)), (offs s rs).length = rs.length
  | _, [] => rfl
  | s, r :: rs => by simp [offs, offs_length]
theorem offs_get : ∀ (s : Nat) (rs : List (List UInt8)) (i : Nat), i < rs.length → (offs s rs)[i]? = some ((s + pos rs i : Nat) : Int)
  | _, [], i, h => by simp at h
  | s, r :: rs, 0, _ => by simp [offs, pos_zero]
  | s, r :: rs, i + 1, h => by
    rw [offs, List.getElem?_cons_succ, offs_get _ rs i (by simpa using h), pos_cons]
    congr 2
    omega
theorem offs_snoc : ∀ (s : Nat) (rs : List (List UInt8)) (r : List UInt8), offs s (rs ++ [r]) = offs s rs ++ [((s + (flat rs).length : Nat) : Int)]
  | s, [], r => by simp [offs, flat]
  | s, x :: rs, r => by
    rw [List.cons_append, offs, offs_snoc _ rs r, offs, List.cons_append, flat_cons, List.length_append, recB_length]
    congr 4
    omega
theorem offs_drop : ∀ (s : Nat) (rs : List (List UInt8)) (k : Nat), (offs s rs).drop k = offs (s + pos rs k) (rs.drop k)
  | s, rs, 0 => by simp [pos_zero]
  | s, [], k + 1 => by simp [offs]
  | s, r :: rs, k + 1 => by
    rw [offs, List.drop_succ_cons, offs_drop _ rs k, List.drop_succ_cons, pos_cons]
    congr 1
    omega
theorem offs_wf {s : Nat} {rs : List (List UInt8)} (h : s + (flat rs).length ≤ 4611686018427387904) : ∀ x ∈ offs s rs, 0 ≤ x ∧ x ≤ 4611686018427387904 := by
  intro x hx
  obtain ⟨i, hi⟩ := List.mem_iff_getElem?.1 hx
  have hlt : i < rs.length := by rw [← offs_length s rs]; exact (List.getElem?_eq_some_iff.1 hi).1
  rw [offs_get s rs i hlt] at hi
  have := pos_le rs i
  cases hi
  omega

/-- A record out of the stream. -/
theorem flat_rec {rs : List (List UInt8)} {i : Nat} {r : List UInt8} (h : rs[i]? = some r) : ((flat rs).take (pos rs (i + 1))).drop (pos rs i + 2) = r := by
  have h1 : (flat rs).take (pos rs (i + 1)) = flat (rs.take i) ++ recB r := by
    rw [flat_take, List.take_add_one, h]
    simp [flat_append, flat_one]
  rw [h1]
  unfold pos
  rw [List.drop_append]
  simp [recB, be2]

/-! ### whole records in a stream that is cut -/
def wholeN (b : List UInt8) : Nat := if b.length < 2 then 0 else if b.length - 2 < val (b.take 2) then 0 else val (b.take 2) + 2
theorem wholeN_nil : wholeN [] = 0 := rfl
theorem wholeN_part {rs : List (List UInt8)} {i m : Nat} {r : List UInt8} (h : rs[i]? = some r) (hr : r.length < 65536) (h0 : pos rs i ≤ m) (h1 : m ≤ (flat rs).length) :
    wholeN (((flat rs).take m).drop (pos rs i)) = if pos rs (i + 1) ≤ m then r.length + 2 else 0 := by
  have hs := pos_succ h
  have hd : (flat rs).drop (pos rs i) = recB r ++ flat (rs.drop (i + 1)) := by
    rw [flat_drop]
    have hlt := (List.getElem?_eq_some_iff.1 h).1
    rw [List.drop_eq_getElem_cons hlt, flat_cons]
    have := (List.getElem?_eq_some_iff.1 h).2
    rw [this]
  have hl : (((flat rs).take m).drop (pos rs i)).length = m - pos rs i := by
    rw [List.length_drop, List.length_take]
    omega
  unfold wholeN
  rw [hl]
  by_cases h2 : m - pos rs i < 2
  · rw [if_pos h2, if_neg (by omega)]
  · rw [if_neg h2]
    have ht : (((flat rs).take m).drop (pos rs i)).take 2 = be2 r.length := by
      rw [List.drop_take, hd, List.take_take, Nat.min_eq_left (by omega)]
      unfold recB
      rw [List.append_assoc, List.take_append_of_le_length (by simp [be2])]
      simp [be2]
    rw [ht, val_be2 hr]
    by_cases h3 : pos rs (i + 1) ≤ m
    · rw [if_neg (by omega), if_pos h3]
    · rw [if_pos (by omega), if_neg h3]

/-! ### pieces -/
/-- A piece's bytes: what there is of it, and bytes 0 behind. -/
def pad (b : List UInt8) : List UInt8 := b.take 470 ++ List.replicate (470 - b.length) 0
theorem pad_length (b : List UInt8) : (pad b).length = 470 := by
  simp [pad]
  omega
theorem pad_get {b : List UInt8} {i : Nat} (hi : i < 470) (hb : i < b.length) : (pad b)[i]? = b[i]? := by
  unfold pad
  rw [List.getElem?_append_left (by simp; omega), List.getElem?_take_of_lt hi]
def pieceSec (k : Nat) (b : List UInt8) : List UInt8 := boxOf 512 (num k ++ pad b)
theorem num_len {k : Nat} (h : k ≤ 4611686018427387904) : (num k).length ≤ 10 := num_ten (by omega) (by omega)
theorem pieceSec_length {k : Nat} {b : List UInt8} (h : k ≤ 4611686018427387904) : (pieceSec k b).length = 512 := by
  have := num_len h
  exact boxOf_length (by decide) (by rw [List.length_append, pad_length]; omega)
/-- l is the sector of piece k, whose bytes are b. -/
def IsPiece (l : List UInt8) (k : Nat) (b : List UInt8) : Prop := unbox l = some (num k ++ b) ∧ b.length = 470
theorem pieceSec_is {k : Nat} {b : List UInt8} (h : k ≤ 4611686018427387904) : IsPiece (pieceSec k b) k (pad b) := by
  have := num_len h
  exact ⟨unbox_box (by decide) (by decide) (by rw [List.length_append, pad_length]; omega), pad_length b⟩

/-- The ring of n sectors from 'at' on has the bytes S, which begin at 'start' in the stream. -/
def Ring (get : Int → List UInt8) (at_ : Int) (n start : Nat) (S : List UInt8) : Prop :=
  ∀ k, start / 470 ≤ k → k * 470 < start + S.length → ∃ b, IsPiece (get (at_ + (k % n : Nat))) k b ∧ ∀ i, start ≤ i → i < start + S.length → i / 470 = k → b[i % 470]? = S[i - start]?
/-- What is read of a piece: the next bytes of the stream. -/
theorem Ring.part {get : Int → List UInt8} {at_ : Int} {n start : Nat} {S : List UInt8} (h : Ring get at_ n start S) {m : Nat} (hm : m < S.length) :
    ∃ b, IsPiece (get (at_ + ((start + m) / 470 % n : Nat))) ((start + m) / 470) b ∧
      (b.take (min 470 (start + S.length - (start + m) / 470 * 470))).drop ((start + m) % 470) = (S.take (min S.length (((start + m) / 470 + 1) * 470 - start))).drop m := by
  obtain ⟨b, hb, hg⟩ := h ((start + m) / 470) (Nat.div_le_div_right (by omega)) (by omega)
  refine ⟨b, hb, ?_⟩
  have hlen := hb.2
  generalize hk : (start + m) / 470 = k at *
  apply List.ext_getElem?
  intro i
  rw [List.getElem?_drop, List.getElem?_drop, List.getElem?_take, List.getElem?_take]
  by_cases hi : (start + m) % 470 + i < min 470 (start + S.length - k * 470)
  · rw [if_pos hi, if_pos (by omega)]
    have := hg (start + m + i) (by omega) (by omega) (by omega)
    rw [show (start + m + i) % 470 = (start + m) % 470 + i by omega, show start + m + i - start = m + i by omega] at this
    exact this
  · rw [if_neg hi, if_neg (by omega)]
end Go.Proofs.YtfnedeaemjchgaaGreat
/- What a journal's writes leave on a device: in a ring of sectors, behind a crash. No walk. -/
namespace Go.Proofs.YtfnedeaemjchgaaGreat
open Go.RowKit Go.Maps
set_option linter.unusedSimpArgs false
set_option linter.unusedVariables false

/-! ### many writes -/
def Disk.wrs (d : Disk) : List (Int × Sec) → Int × Disk
  | [] => (0, d)
  | x :: r => if d.code x.1 x.2.length = 0 then (d.wr x.1 x.2).wrs r else (d.code x.1 x.2.length, d.wr x.1 x.2)
def Disk.wout (d : Disk) (ps : List (Int × Sec)) : Int × Disk := if (d.wrs ps).1 = 0 then ((d.wrs ps).2.scode, (d.wrs ps).2.sy) else d.wrs ps
theorem wrs_nil (d : Disk) : d.wrs [] = (0, d) := rfl
theorem wrs_yes {d : Disk} {x : Int × Sec} {r : List (Int × Sec)} (h : d.code x.1 x.2.length = 0) : d.wrs (x :: r) = (d.wr x.1 x.2).wrs r := by rw [Disk.wrs, if_pos h]
theorem wrs_no {d : Disk} {x : Int × Sec} {r : List (Int × Sec)} (h : d.code x.1 x.2.length ≠ 0) : d.wrs (x :: r) = (d.code x.1 x.2.length, d.wr x.1 x.2) := by rw [Disk.wrs, if_neg h]
theorem wrs_size : ∀ (ps : List (Int × Sec)) (d : Disk), (d.wrs ps).2.size = d.size
  | [], d => rfl
  | x :: r, d => by
    by_cases h : d.code x.1 x.2.length = 0
    · rw [wrs_yes h, wrs_size r, wr_size]
    · rw [wrs_no h]
      exact wr_size _ _ _
theorem wout_size (d : Disk) (ps : List (Int × Sec)) : (d.wout ps).2.size = d.size := by
  unfold Disk.wout
  split
  · rw [sy_size]
    exact wrs_size ps d
  · exact wrs_size ps d

/-- Each sector is as it was on d0, where nothing was unsynced, or turned, and then its old form is kept. -/
def Mix (d0 d : Disk) (P : Int → Sec → Prop) : Prop := ∀ i, (d.old i = none ∧ d.get i = d0.get i) ∨ (d.old i = some (d0.get i) ∧ P i (d.get i))
section
variable {d0 d : Disk} {P : Int → Sec → Prop} {k : Int} {l : Sec}
theorem Mix.refl (h : d0.old = fun _ => none) : Mix d0 d0 P := fun i => .inl ⟨by rw [h], rfl⟩
theorem Mix.write (h : Mix d0 d P) (hp : P k l) : Mix d0 (d.write k l) P := by
  intro i
  rw [write_get]
  by_cases e : i = k
  · subst e
    rw [if_pos rfl]
    refine .inr ⟨?_, hp⟩
    show (if (d.old i).isSome then d.old else upd d.old i (d.get i)) i = _
    rcases h i with ⟨h1, h2⟩ | ⟨h1, h2⟩
    · rw [h1, h2]
      simp [upd]
    · rw [h1]
      simpa using h1
  · rw [if_neg e]
    have ho : (d.write k l).old i = d.old i := by
      show (if (d.old k).isSome then d.old else upd d.old k (d.get k)) i = _
      split
      · rfl
      · simp [upd, e]
    rw [ho]
    exact h i
theorem Mix.fall (h : Mix d0 d P) : Mix d0 d.fall P := h
theorem Mix.wr (h : Mix d0 d P) (hp : P k l) : Mix d0 (d.wr k l) P := by
  unfold Disk.wr
  split
  · exact h.write hp
  · split
    · exact h.fall
    · exact h
theorem Mix.crash (h : Mix d0 d P) (ks : List Int) (i : Int) : (d.crash ks).get i = d0.get i ∨ P i ((d.crash ks).get i) := by
  rw [crash_get]
  rcases h i with ⟨h1, h2⟩ | ⟨h1, h2⟩
  · rw [h1, h2]
    simp
  · split
    · exact .inr h2
    · rw [h1]
      exact .inl rfl
theorem wrs_mix : ∀ (ps : List (Int × Sec)) (d : Disk), (∀ x ∈ ps, P x.1 x.2) → Mix d0 d P → Mix d0 (d.wrs ps).2 P
  | [], d, _, h => h
  | x :: r, d, hp, h => by
    have h1 := h.wr (hp x (by simp))
    by_cases hc : d.code x.1 x.2.length = 0
    · rw [wrs_yes hc]
      exact wrs_mix r _ (fun y hy => hp y (by simp [hy])) h1
    · rw [wrs_no hc]
      exact h1
end

/-- Sectors that are there, of 512 bytes. -/
def Good (size : Int) (ps : List (Int × Sec)) : Prop := ∀ x ∈ ps, inB x.1 size = true ∧ x.2.length = 512
theorem off_down {m : Met} (h : m.off = false) : m.down = false := by
  unfold Met.off at h
  cases hd : m.down
  · rfl
  · rw [hd] at h
    cases h
theorem code_zero {d : Disk} {k : Int} {l : Sec} (hk : inB k d.size = true) (hl : l.length = 512) (hc : d.code k l.length = 0) : d.met.off = false := by
  rw [Disk.code_in hk hl] at hc
  cases h : d.met.off
  · rfl
  · rw [h] at hc
    cases hc
theorem write_down (d : Disk) (k : Int) (l : Sec) : (d.write k l).met.down = d.met.down := rfl
theorem scode_yes {d : Disk} (h : d.scode = 0) : d.met.down = false ∧ d.sy = d.sync := by
  unfold Disk.scode at h
  cases ho : d.met.off
  · exact ⟨off_down ho, by unfold Disk.sy; rw [ho]; rfl⟩
  · rw [ho] at h
    cases h
theorem scode_no {d : Disk} (h : d.scode ≠ 0) : d.scode = 3 ∧ d.sy = d.fall := by
  unfold Disk.scode at h ⊢
  cases ho : d.met.off
  · rw [ho] at h
    exact absurd rfl h
  · exact ⟨rfl, by unfold Disk.sy; rw [ho]; rfl⟩
theorem wrs_end : ∀ (ps : List (Int × Sec)) (d : Disk), Good d.size ps → d.met.down = false → ((d.wrs ps).1 = 0 ∧ (d.wrs ps).2.met.down = false) ∨ ((d.wrs ps).1 = 3 ∧ (d.wrs ps).2.met.down = true)
  | [], d, _, h => .inl ⟨rfl, h⟩
  | x :: r, d, hg, h => by
    obtain ⟨h1, h2⟩ := hg x (by simp)
    rcases Disk.code_03 h1 h2 with hc | hc
    · rw [wrs_yes hc]
      refine wrs_end r _ (fun y hy => ?_) ?_
      · rw [wr_size]
        exact hg y (by simp [hy])
      · rw [Disk.wr_yes hc]
        exact h
    · rw [wrs_no (by omega)]
      exact .inr ⟨hc, by rw [Disk.wr_cut hc]; rfl⟩
theorem wrs_get : ∀ (ps : List (Int × Sec)) (d : Disk), (d.wrs ps).1 = 0 → (ps.Pairwise fun x y => x.1 ≠ y.1) →
    (∀ x ∈ ps, (d.wrs ps).2.get x.1 = x.2) ∧ (∀ i, (∀ x ∈ ps, x.1 ≠ i) → (d.wrs ps).2.get i = d.get i)
  | [], d, _, _ => ⟨by simp, fun _ _ => rfl⟩
  | x :: r, d, hc, hp => by
    by_cases h0 : d.code x.1 x.2.length = 0
    · rw [wrs_yes h0] at hc ⊢
      obtain ⟨p1, p2⟩ := List.pairwise_cons.1 hp
      obtain ⟨a, b⟩ := wrs_get r _ hc p2
      have hw := Disk.wr_yes h0
      refine ⟨fun y hy => ?_, fun i hi => ?_⟩
      · rcases List.mem_cons.1 hy with rfl | hy
        · rw [b _ (fun z hz e => p1 z hz e.symm), hw, write_get, if_pos rfl]
        · exact a y hy
      · rw [b i (fun z hz => hi z (by simp [hz])), hw, write_get, if_neg (fun e => hi x (by simp) e.symm)]
    · rw [wrs_no h0] at hc
      exact absurd hc h0

/-- All was written and synced; or the power is gone, and behind a crash each sector is old or new. -/
theorem wout_end {d : Disk} {ps : List (Int × Sec)} {P : Int → Sec → Prop} (hg : Good d.size ps) (hd : d.met.down = false) (ho : d.old = fun _ => none) (hp : ∀ x ∈ ps, P x.1 x.2) (hn : ps.Pairwise fun x y => x.1 ≠ y.1) :
    ((d.wout ps).1 = 0 ∧ (d.wout ps).2.met.down = false ∧ (d.wout ps).2.old = (fun _ => none) ∧ (∀ x ∈ ps, (d.wout ps).2.get x.1 = x.2) ∧ (∀ i, (∀ x ∈ ps, x.1 ≠ i) → (d.wout ps).2.get i = d.get i)) ∨
    ((d.wout ps).1 = 3 ∧ (d.wout ps).2.met.down = true ∧ Mix d (d.wout ps).2 P) := by
  have hm := wrs_mix ps d hp (Mix.refl ho)
  rcases wrs_end ps d hg hd with ⟨h1, h2⟩ | ⟨h1, h2⟩
  · have hw : d.wout ps = ((d.wrs ps).2.scode, (d.wrs ps).2.sy) := by unfold Disk.wout; rw [if_pos h1]
    obtain ⟨a, b⟩ := wrs_get ps d h1 hn
    rw [hw]
    by_cases hs : (d.wrs ps).2.scode = 0
    · obtain ⟨s1, s2⟩ := scode_yes hs
      refine .inl ⟨hs, ?_, ?_, ?_, ?_⟩
      · show (d.wrs ps).2.sy.met.down = false
        rw [s2]
        exact s1
      · show (d.wrs ps).2.sy.old = _
        rw [s2]
        rfl
      · intro x hx
        show (d.wrs ps).2.sy.get x.1 = _
        rw [s2, sync_get]
        exact a x hx
      · intro i hi
        show (d.wrs ps).2.sy.get i = _
        rw [s2, sync_get]
        exact b i hi
    · obtain ⟨s1, s2⟩ := scode_no hs
      refine .inr ⟨s1, ?_, ?_⟩
      · show (d.wrs ps).2.sy.met.down = true
        rw [s2]
        rfl
      · show Mix d (d.wrs ps).2.sy P
        rw [s2]
        exact hm.fall
  · have hw : d.wout ps = d.wrs ps := by unfold Disk.wout; rw [if_neg (by omega)]
    rw [hw]
    exact .inr ⟨h1, h2, hm⟩

/-! ### a ring -/
theorem place_inj {n s k k' : Nat} (h1 : s ≤ k) (h2 : k < s + n) (h3 : s ≤ k') (h4 : k' < s + n) (h : k % n = k' % n) : k = k' := by
  have e1 := Nat.div_add_mod k n
  have e2 := Nat.div_add_mod k' n
  rw [h] at e1
  rcases Nat.lt_trichotomy (k / n) (k' / n) with hlt | heq | hlt
  · have := Nat.mul_le_mul_left n (show k / n + 1 ≤ k' / n from hlt)
    rw [Nat.mul_add] at this
    omega
  · rw [heq] at e1
    omega
  · have := Nat.mul_le_mul_left n (show k' / n + 1 ≤ k / n from hlt)
    rw [Nat.mul_add] at this
    omega
/-- b has the stream's bytes of piece k. -/
def Agree (k : Nat) (b : Sec) (start : Nat) (S : Sec) : Prop := ∀ i, start ≤ i → i < start + S.length → i / 470 = k → b[i % 470]? = S[i - start]?
theorem agree_new {pre S : Sec} {start k : Nat} (hp : pre.length = start % 470) (hk : start / 470 ≤ k) : Agree k (pad ((pre ++ S).drop (k * 470 - (start - start % 470)))) start S := by
  intro i h0 h1 h2
  have hm := Nat.mod_lt i (show 0 < 470 by omega)
  have hl : (pre ++ S).length = start % 470 + S.length := by rw [List.length_append, hp]
  rw [pad_get hm (by rw [List.length_drop, hl]; omega), List.getElem?_drop, show k * 470 - (start - start % 470) + i % 470 = i - start + start % 470 by omega]
  rw [List.getElem?_append_right (by omega)]
  congr 1
  omega
theorem Ring.mix {g g' : Int → Sec} {at_ : Int} {n start m : Nat} {S : Sec} (h : Ring g at_ n start (S.take m)) (hr : start % 470 + S.length ≤ n * 470)
    (hg : ∀ k, start / 470 ≤ k → k * 470 < start + S.length → g' (at_ + (k % n : Nat)) = g (at_ + (k % n : Nat)) ∨ ∃ k' b, start / 470 ≤ k' ∧ k' * 470 < start + S.length ∧ k' % n = k % n ∧ IsPiece (g' (at_ + (k % n : Nat))) k' b ∧ Agree k' b start S) : Ring g' at_ n start (S.take m) := by
  intro k h0 h1
  have hl : (S.take m).length ≤ S.length := by rw [List.length_take]; omega
  have hk : k < start / 470 + n := by omega
  obtain ⟨b, hb, ha⟩ := h k h0 h1
  rcases hg k h0 (by omega) with e | ⟨k', b', h3, h4, h5, hb', ha'⟩
  · exact ⟨b, by rw [e]; exact hb, ha⟩
  · obtain rfl : k' = k := place_inj h3 (by omega) h0 hk h5
    refine ⟨b', hb', fun i i0 i1 i2 => ?_⟩
    rw [ha' i i0 (by omega) i2, List.getElem?_take_of_lt]
    rw [List.length_take] at i1
    omega
/-- All pieces that have a new byte are new, the others as they were. -/
theorem Ring.full {g g' : Int → Sec} {at_ : Int} {n start m k0 : Nat} {S : Sec} (h : Ring g at_ n start (S.take m)) (hr : start % 470 + S.length ≤ n * 470) (hm : m ≤ S.length) (hk0 : k0 = (start + m) / 470)
    (hnew : ∀ k, k0 ≤ k → k * 470 < start + S.length → ∃ b, IsPiece (g' (at_ + (k % n : Nat))) k b ∧ Agree k b start S)
    (hold : ∀ k, start / 470 ≤ k → k < k0 → g' (at_ + (k % n : Nat)) = g (at_ + (k % n : Nat))) : Ring g' at_ n start S := by
  intro k h0 h1
  by_cases hlt : k < k0
  · rw [hold k h0 hlt]
    have hl : (S.take m).length = m := by rw [List.length_take]; omega
    obtain ⟨b, hb, ha⟩ := h k h0 (by omega)
    refine ⟨b, hb, fun i i0 i1 i2 => ?_⟩
    rw [ha i i0 (by omega) i2, List.getElem?_take_of_lt (by omega)]
  · exact hnew k (by omega) h1
/-- A ring's later part. -/
theorem Ring.later {g : Int → Sec} {at_ : Int} {n start p : Nat} {S : Sec} (h : Ring g at_ n start S) (hp : p ≤ S.length) : Ring g at_ n (start + p) (S.drop p) := by
  intro k h0 h1
  rw [List.length_drop] at h1
  obtain ⟨b, hb, ha⟩ := h k (by omega) (by omega)
  refine ⟨b, hb, fun i i0 i1 i2 => ?_⟩
  rw [List.length_drop] at i1
  rw [ha i (by omega) (by omega) i2, List.getElem?_drop]
  congr 1
  omega
theorem Ring.same {g g' : Int → Sec} {at_ : Int} {n start : Nat} {S : Sec} (h : Ring g at_ n start S) (hg : ∀ i, at_ ≤ i → g' i = g i) : Ring g' at_ n start S := by
  intro k h0 h1
  rw [hg _ (by omega)]
  exact h k h0 h1
end Go.Proofs.YtfnedeaemjchgaaGreat
/- A journal: what it holds, in memory; the small calls. -/
namespace Go.Proofs.YtfnedeaemjchgaaGreat
open Go.RowKit Go.Maps
set_option linter.unusedSimpArgs false
set_option linter.unusedVariables false

/-- Where a journal lies, the first record's number and place in the stream, what stands ahead of it in its piece, the records, how many of them are flushed, the note, what is booked, whether it is dead. -/
structure JL where
  at_ : Int
  n : Nat
  first : Nat
  start : Nat
  pre : Sec
  recs : List Sec
  fl : Nat
  note : Sec
  booked : Nat
  dead : Bool
def JL.stream (j : JL) : Sec := j.pre ++ flat j.recs
def JL.base (j : JL) : Nat := j.start - j.start % 470
def JL.fin (j : JL) : Nat := j.start + (flat j.recs).length
def JL.next (j : JL) : Nat := j.first + j.recs.length
def JL.free (j : JL) : Int := (j.n : Int) * 470 - (j.stream.length : Int)
structure JOk (j : JL) : Prop where
  pre : j.pre.length = j.start % 470
  fl : j.fl ≤ j.recs.length
  first : 1 ≤ j.first
  recs : ∀ r ∈ j.recs, 1 ≤ r.length ∧ r.length ≤ 4096
  room : j.stream.length ≤ j.n * 470
  n2 : 2 ≤ j.n
  nm : j.n ≤ 2048
  note : j.note.length ≤ 400
  booked : j.booked ≤ j.n * 470
  at0 : 0 ≤ j.at_
  at1 : j.at_ + 2 + j.n ≤ 4096
/-- Numbers are small enough to be reckoned with. -/
structure JBig (j : JL) : Prop where
  fin : j.fin ≤ 1152921504606846976
  next : j.next ≤ 1152921504606846976
section
variable {j : JL}
theorem JOk.stream (h : JOk j) : j.stream.length = j.start % 470 + (flat j.recs).length := by unfold JL.stream; rw [List.length_append, h.pre]
theorem JOk.end_ (h : JOk j) : j.base + j.stream.length = j.fin := by
  rw [h.stream]
  unfold JL.base JL.fin
  have := Nat.mod_le j.start 470
  omega
theorem JOk.len (h : JOk j) : j.stream.length ≤ 962560 := by
  have := h.room
  have := h.nm
  omega
end

theorem block_ty {w : World} {g : Nat} {c1 c2 : Array Value} {t1 t2 : TypeId} {f1 f2 : Nat × Nat} (h1 : w.heap[g]? = some (.cells c1 t1 f1)) (h2 : w.heap[g]? = some (.cells c2 t2 f2)) : t1 = t2 := by
  rw [h1] at h2
  injection h2 with h2
  injection h2
/-- The blocks that hold a journal. -/
def jbl (p q : Nat) (a : DA) (vs vt vn vr : Value) : List Nat := p :: q :: (a.bl ++ (vs.ownBlock.toList ++ (vt.ownBlock.toList ++ (vn.ownBlock.toList ++ vr.ownBlock.toList))))
def jcells (p q : Nat) (a : DA) (vs vt vn : Value) (j : JL) : Array Value :=
  #[.pointer (some ⟨a.p, 0, none⟩), .int .i64 (j.at_ + 2), .int .i64 j.n, .pointer (some ⟨q, 0, none⟩), .int .i64 j.base, vs, .int .i64 j.first, vt, .int .i64 ((j.first : Int) + j.fl), vn, .int .i64 j.booked, .bool j.dead]
structure JM (w : World) (p q : Nat) (a : DA) (vs vt vn vr : Value) (d : Disk) (j : JL) (s : SL) : Prop where
  blk : w.heap[p]? = some (.cells (jcells p q a vs vt vn j) 84 (0, 0))
  slot : Slot w q a vr s
  dev : Dev w a d
  str : Own w 0 vs j.stream
  sts : OwnI w 0 vt (offs j.start j.recs)
  note : Held w vn j.note
  sn : Sep vs vn
  sr : Sep vs vr
  ok : JOk j
  here : j.at_ + 2 + j.n ≤ d.size
  at_ : s.at_ = j.at_

section
variable {w w' : World} {p q : Nat} {a : DA} {vs vt vn vr : Value} {d : Disk} {j : JL} {s : SL} (h : JM w p q a vs vt vn vr d j s)
include h
theorem JM.cell (i : Nat) : w.cell? ⟨p, i, none⟩ = (jcells p q a vs vt vn j)[i]? := cell_at i h.blk
theorem JM.c0 : w.cell? ⟨p, 0, none⟩ = some (.pointer (some ⟨a.p, 0, none⟩)) := h.cell 0
theorem JM.c1 : w.cell? ⟨p, 1, none⟩ = some (.int .i64 (j.at_ + 2)) := h.cell 1
theorem JM.c2 : w.cell? ⟨p, 2, none⟩ = some (.int .i64 j.n) := h.cell 2
theorem JM.c3 : w.cell? ⟨p, 3, none⟩ = some (.pointer (some ⟨q, 0, none⟩)) := h.cell 3
theorem JM.c4 : w.cell? ⟨p, 4, none⟩ = some (.int .i64 j.base) := h.cell 4
theorem JM.c5 : w.cell? ⟨p, 5, none⟩ = some vs := h.cell 5
theorem JM.c6 : w.cell? ⟨p, 6, none⟩ = some (.int .i64 j.first) := h.cell 6
theorem JM.c7 : w.cell? ⟨p, 7, none⟩ = some vt := h.cell 7
theorem JM.c8 : w.cell? ⟨p, 8, none⟩ = some (.int .i64 ((j.first : Int) + j.fl)) := h.cell 8
theorem JM.c9 : w.cell? ⟨p, 9, none⟩ = some vn := h.cell 9
theorem JM.c10 : w.cell? ⟨p, 10, none⟩ = some (.int .i64 j.booked) := h.cell 10
theorem JM.c11 : w.cell? ⟨p, 11, none⟩ = some (.bool j.dead) := h.cell 11
theorem JM.free (i : Nat) : w.frozen? ⟨p, i, none⟩ = false := free_at i h.blk
theorem JM.strS : ∃ a c, vs = .slice a j.stream.length c ∧ j.stream.length ≤ c := h.str.shape
theorem JM.stsS : ∃ a c, vt = .slice a j.recs.length c := by
  obtain ⟨x, c, e⟩ := h.sts.shape
  rw [offs_length] at e
  exact ⟨x, c, e⟩
theorem JM.kept {S : List Nat} (ho : Only S w w') (hs : ∀ k ∈ S, k ∉ jbl p q a vs vt vn vr) : JM w' p q a vs vt vn vr d j s := by
  have hb : ∀ (v : Value), (∀ x ∈ v.ownBlock.toList, x ∈ jbl p q a vs vt vn vr) → ∀ k ∈ S, v.ownBlock ≠ some k := fun v hv k hk e => hs k hk (hv k (by simp [e]))
  refine ⟨ho.heap h.blk (fun hp => hs p hp (by simp [jbl])), h.slot.kept ho (fun hq => hs q hq (by simp [jbl])) (hb vr (fun x hx => ?_)), h.dev.kept ho (fun k hk hm => hs k hk (by simp [jbl, hm])), h.str.kept ho (hb vs (fun x hx => ?_)), ⟨owns_kept h.sts.1 ho (hb vt (fun x hx => ?_)), h.sts.2⟩, h.note.kept ho (hb vn (fun x hx => ?_)), h.sn, h.sr, h.ok, h.here, h.at_⟩ <;> simp [jbl] <;> simp at hx <;> simp [hx]
theorem JM.quiet (ho : Only [] w w') : JM w' p q a vs vt vn vr d j s := h.kept ho (by simp)
theorem JM.p_lt : p < w.heap.size := lt_of_heap h.blk
theorem JM.lt : ∀ k ∈ jbl p q a vs vt vn vr, k < w.heap.size := by
  intro k hk
  simp only [jbl, List.mem_cons, List.mem_append, Option.mem_toList, Option.mem_def] at hk
  rcases hk with rfl | rfl | hk | hk | hk | hk | hk
  · exact h.p_lt
  · exact h.slot.lt
  · exact h.dev.lt k hk
  · exact (h.str.lt hk).2
  · exact (World.ownsRow.lt h.sts.1 k hk).2
  · obtain ⟨c, hc⟩ := h.note.blk k hk
    exact lt_of_heap hc
  · obtain ⟨c, hc⟩ := h.slot.row.blk k hk
    exact lt_of_heap hc
/-- The journal's own block is none of its other ones. -/
theorem JM.p_row {v : Value} {l : Sec} (hv : Held w v l) : v.ownBlock ≠ some p := fun e => by
  obtain ⟨c, hc⟩ := hv.blk p e
  exact absurd (block_ty hc h.blk) (by decide)
theorem JM.p_str : vs.ownBlock ≠ some p := h.p_row h.str.held
theorem JM.p_sts : vt.ownBlock ≠ some p := fun e => by
  have hb := h.blk
  rcases h.sts.1.2 with ⟨hv, _⟩ | ⟨g, cap, cur, hv, _, hc, _⟩
  · rw [hv] at e
    cases e
  · rw [hv] at e
    cases e
    exact absurd (block_ty hc h.blk) (by decide)
theorem JM.p_q : q ≠ p := fun e => by
  have hb := h.slot.blk
  rw [e] at hb
  exact absurd (block_ty hb h.blk) (by decide)
theorem JM.p_dev : p ∉ a.bl := by
  have h1 := h.dev.blk
  have h2 := h.dev.now.ne h.blk
  have h3 := h.dev.old.ne h.blk
  simp only [DA.bl, List.mem_cons, List.not_mem_nil, or_false]
  rintro (e | e | e)
  · have hb := h.blk
    rw [e] at hb
    exact absurd (block_ty hb h1) (by decide)
  · exact h2 e.symm
  · exact h3 e.symm
end

/-- Read only: the world has but drawn. -/
def Drew (w w' : World) : Prop := ∃ n, w' = w.drewN n
theorem Drew.only {w w' : World} (h : Drew w w') : Only [] w w' := by
  obtain ⟨n, rfl⟩ := h
  exact ⟨rfl, rfl, rfl, Nat.le_refl _, fun _ _ _ => rfl⟩
theorem Drew.refl (w : World) : Drew w w := ⟨0, rfl⟩
theorem Drew.heap {w w' : World} (h : Drew w w') : w'.heap = w.heap := by
  obtain ⟨n, rfl⟩ := h
  rfl

/-! ### a nil journal -/
theorem jfirst_nil (w : World) : Calls Tryz.prog 19 #[.pointer none] w fun e w' => e = .returned (.int .i64 0) ∧ w = w' := by
  go_enter Tryz.func19, Tryz.ntmps19
  go_wp2
  go_ret
  exact ⟨rfl, rfl⟩
theorem jnext_nil (w : World) : Calls Tryz.prog 20 #[.pointer none] w fun e w' => e = .returned (.int .i64 0) ∧ w = w' := by
  go_enter Tryz.func20, Tryz.ntmps20
  go_wp2
  go_ret
  exact ⟨rfl, rfl⟩
theorem jflushed_nil (w : World) : Calls Tryz.prog 36 #[.pointer none] w fun e w' => e = .returned (.int .i64 0) ∧ w = w' := by
  go_enter Tryz.func36, Tryz.ntmps36
  go_wp2
  go_ret
  exact ⟨rfl, rfl⟩
theorem jnote_nil (w : World) : Calls Tryz.prog 21 #[.pointer none] w fun e w' => e = .returned (.slice none 0 0) ∧ w = w' := by
  go_enter Tryz.func21, Tryz.ntmps21
  go_wp2
  go_ret
  exact ⟨rfl, rfl⟩
theorem jfree_nil (w : World) : Calls Tryz.prog 16 #[.pointer none] w fun e w' => e = .returned (.int .i64 0) ∧ w = w' := by
  go_enter Tryz.func16, Tryz.ntmps16
  go_wp2
  go_ret
  exact ⟨rfl, rfl⟩
theorem jbooked_nil (w : World) : Calls Tryz.prog 34 #[.pointer none] w fun e w' => e = .returned (.int .i64 0) ∧ w = w' := by
  go_enter Tryz.func34, Tryz.ntmps34
  go_wp2
  go_ret
  exact ⟨rfl, rfl⟩
theorem jdead_nil (w : World) : Calls Tryz.prog 35 #[.pointer none] w fun e w' => e = .returned (.bool true) ∧ w = w' := by
  go_enter Tryz.func35, Tryz.ntmps35
  go_wp2
  go_ret
  exact ⟨rfl, rfl⟩
theorem junbook_nil (n : Int) (w : World) : Calls Tryz.prog 28 #[.pointer none, .int .i64 n] w fun e w' => e = .returned (.tuple #[]) ∧ w = w' := by
  go_enter Tryz.func28, Tryz.ntmps28
  go_wp2
  go_returns
  exact ⟨rfl, rfl⟩

/-! ### what is read -/
section
variable {w : World} {p q : Nat} {a : DA} {vs vt vn vr : Value} {d : Disk} {j : JL} {s : SL} (h : JM w p q a vs vt vn vr d j s)
include h
theorem jfirst_any : Calls Tryz.prog 19 #[.pointer (some ⟨p, 0, none⟩)] w fun e w' => e = .returned (.int .i64 j.first) ∧ w = w' := by
  have c6 := h.c6
  clear h
  go_enter Tryz.func19, Tryz.ntmps19
  go_wp2
  go_ret
  exact ⟨rfl, rfl⟩
theorem jflushed_any : Calls Tryz.prog 36 #[.pointer (some ⟨p, 0, none⟩)] w fun e w' => e = .returned (.int .i64 ((j.first : Int) + j.fl)) ∧ w = w' := by
  have c8 := h.c8
  clear h
  generalize ((j.first : Int) + j.fl) = x at c8 ⊢
  go_enter Tryz.func36, Tryz.ntmps36
  go_wp2
  go_ret
  exact ⟨rfl, rfl⟩
theorem jbooked_any : Calls Tryz.prog 34 #[.pointer (some ⟨p, 0, none⟩)] w fun e w' => e = .returned (.int .i64 j.booked) ∧ w = w' := by
  have c10 := h.c10
  clear h
  go_enter Tryz.func34, Tryz.ntmps34
  go_wp2
  go_ret
  exact ⟨rfl, rfl⟩
theorem jdead_any : Calls Tryz.prog 35 #[.pointer (some ⟨p, 0, none⟩)] w fun e w' => e = .returned (.bool j.dead) ∧ w = w' := by
  have c11 := h.c11
  clear h
  go_enter Tryz.func35, Tryz.ntmps35
  go_wp2
  go_ret
  exact ⟨rfl, rfl⟩
theorem jnext_any (hb : JBig j) : Calls Tryz.prog 20 #[.pointer (some ⟨p, 0, none⟩)] w fun e w' => e = .returned (.int .i64 (j.next : Nat)) ∧ Drew w w' := by
  have c6 := h.c6
  have c7 := h.c7
  obtain ⟨ta, tc, rfl⟩ := h.stsS
  have hn := hb.next
  unfold JL.next at hn ⊢
  clear h hb
  generalize j.recs.length = n at *
  generalize j.first = f at *
  go_enter Tryz.func20, Tryz.ntmps20
  go_wp2_with fail
  go_quiet (fail)
  go_wp2_with fail
  go_ret
  exact ⟨ret_i64 (by omega), _, rfl⟩
theorem jend_any (hb : JBig j) : Calls Tryz.prog 52 #[.pointer (some ⟨p, 0, none⟩)] w fun e w' => e = .returned (.int .i64 (j.fin : Nat)) ∧ Drew w w' := by
  have c4 := h.c4
  have c5 := h.c5
  obtain ⟨sa, sc, rfl, _⟩ := h.strS
  have he := h.ok.end_
  have hn := hb.fin
  rw [← he] at hn ⊢
  clear h hb he
  generalize j.stream.length = n at *
  generalize j.base = f at *
  go_enter Tryz.func52, Tryz.ntmps52
  go_wp2_with fail
  go_quiet (fail)
  go_wp2_with fail
  go_ret
  exact ⟨ret_i64 (by omega), _, rfl⟩
theorem jfree_any : Calls Tryz.prog 16 #[.pointer (some ⟨p, 0, none⟩)] w fun e w' => e = .returned (.int .i64 j.free) ∧ Drew w w' := by
  have c2 := h.c2
  have c5 := h.c5
  obtain ⟨sa, sc, rfl, _⟩ := h.strS
  have hn := h.ok.nm
  have hl := h.ok.len
  unfold JL.free
  clear h
  generalize j.stream.length = n at *
  generalize j.n = m at *
  have hm : (m : Int) ≤ 2048 := by omega
  go_enter Tryz.func16, Tryz.ntmps16
  go_wp2_with fail
  go_quiet (fail)
  go_wp2_with fail
  go_ret
  exact ⟨ret_i64 (by omega), _, rfl⟩
theorem jnote_any (l : Sec) (hl : j.note = l) : Calls Tryz.prog 21 #[.pointer (some ⟨p, 0, none⟩)] w fun e w' => ∃ b c, e = .returned (.slice b l.length c) ∧ Own w' w.heap.size (.slice b l.length c) l ∧ Only [] w w' := by
  subst hl
  have c9 := h.c9
  have hb := h.note.bytes
  have hl := h.ok.note
  obtain ⟨va, vc, rfl, -⟩ := id hb
  have HB := Lib.hid hb
  clear h hb
  go_enter Tryz.func21, Tryz.ntmps21
  go_wp2_with fail
  refine (clone_any _ j.note _ HB.out (by omega)).mono ?_
  rintro e w1 ⟨b, c, rfl, h1, o1⟩
  go_wp2_with fail
  go_ret
  exact ⟨b, c, rfl, h1, o1⟩
/-- A record's place; the next record's. -/
theorem joffset_any (hb : JBig j) (k : Nat) (hk : k ≤ j.recs.length) (x : Int) (hx : x = (j.first : Int) + k) : Calls Tryz.prog 50 #[.pointer (some ⟨p, 0, none⟩), .int .i64 x] w fun e w' => e = .returned (.int .i64 ((j.start + pos j.recs k : Nat) : Int)) ∧ Drew w w' := by
  subst hx
  have hn := hb.next
  have H := Lib.hid h
  have HB := Lib.hid hb
  unfold JL.next at hn
  have e0 : (j.next : Int) = (j.first : Int) + j.recs.length := by unfold JL.next; omega
  have E0 := Lib.hid e0
  by_cases hlt : k < j.recs.length
  · have c6 := h.c6
    have c7 := h.c7
    obtain ⟨ta, tc, rfl⟩ := h.stsS
    have hi := h.sts.ints
    obtain ⟨_, b, off, cap, ev, hcell⟩ := hi.at_ (offs_get j.start j.recs k hlt)
    rw [offs_length] at ev
    cases ev
    have hne : (((j.first : Int) + k) == ((j.first : Int) + j.recs.length)) = false := by simp; omega
    clear h hb hi e0
    generalize hm : j.recs.length = m at *
    generalize hf : j.first = f at *
    generalize hz : ((j.start + pos j.recs k : Nat) : Int) = z at *
    have HM := Lib.hid hm
    have HF := Lib.hid hf
    have HZ := Lib.hid hz
    clear hm hf hz
    have k0 : (0 : Int) ≤ (k : Int) := by omega
    have k1 : (k : Int) < (m : Int) := by omega
    have hs : IntKind.i64.wrap ((f : Int) + (k : Int) - (f : Int)) = (k : Int) := by
      rw [IntKind.wrap_i64]
      omega
    go_enter Tryz.func50, Tryz.ntmps50
    go_wp2_with fail
    refine (jnext_any H.out HB.out).mono ?_
    rintro e w1 ⟨rfl, hd⟩
    rw [E0.out]
    have hq := hd.heap
    have o1 := hd.only
    have c6 := cell_kept o1 c6 (by simp)
    have c7 := cell_kept o1 c7 (by simp)
    have hcell := cell_kept o1 hcell (by simp)
    have HD := Lib.hid hd
    clear hd hq o1
    go_wp2_with fail
    go_quiet (fail)
    go_wp2_with fail
    go_ret
    obtain ⟨n1, e1⟩ := HD.out
    exact ⟨rfl, n1 + nq, by rw [e1, World.drewN_drewN]⟩
  · obtain rfl : k = j.recs.length := by omega
    have e1 : j.start + pos j.recs j.recs.length = j.fin := by rw [pos_all (Nat.le_refl _)]; rfl
    rw [e1]
    clear h hb e0 e1
    go_enter Tryz.func50, Tryz.ntmps50
    go_wp2_with fail
    refine (jnext_any H.out HB.out).mono ?_
    rintro e w1 ⟨rfl, hd⟩
    rw [E0.out]
    have HD := Lib.hid hd
    have H1 := Lib.hid (H.out.quiet hd.only)
    clear hd
    go_wp2_with fail
    refine (jend_any H1.out HB.out).mono ?_
    rintro e w2 ⟨rfl, hd2⟩
    have HD2 := Lib.hid hd2
    clear hd2
    go_wp2_with fail
    go_ret
    obtain ⟨n1, e1⟩ := HD.out
    obtain ⟨n2, e2⟩ := HD2.out
    exact ⟨rfl, n1 + n2, by rw [e2, e1, World.drewN_drewN]⟩
end
end Go.Proofs.YtfnedeaemjchgaaGreat
/- Numbers of one's own, append; a journal midway through a call. -/
namespace Go.Proofs.YtfnedeaemjchgaaGreat
open Go.RowKit Go.Maps
set_option linter.unusedSimpArgs false
set_option linter.unusedVariables false

theorem ints_news {w : World} {a : Option Addr} {n cap : Nat} {l : List Int} (h : IntsV w (.slice a n cap) l) : n = l.length ∧ ∀ ad, a = some ad → ∀ (j : Nat) (u : Value), (iv l)[j]? = some u → w.cell? (ad.add j) = some u := by
  obtain ⟨a', cap', e, hc⟩ := h
  injection e with e1 e2 e3
  subst e1
  refine ⟨e2, fun ad had j u hu => ?_⟩
  rw [iv, List.getElem?_map, Option.map_eq_some_iff] at hu
  obtain ⟨c, hc', rfl⟩ := hu
  obtain ⟨_, b, off, hb, hcell⟩ := hc j c hc'
  rw [had] at hb
  cases hb
  rw [Addr.add_lit]
  exact hcell
theorem iv_append (l m : List Int) : iv (l ++ m) = iv l ++ iv m := by simp [iv]
theorem OwnI.kept {w w' : World} {base : Nat} {v : Value} {l : List Int} {S : List Nat} (h : OwnI w base v l) (ho : Only S w w') (hs : ∀ k ∈ S, v.ownBlock ≠ some k) : OwnI w' base v l := ⟨owns_kept h.1 ho hs, h.2⟩
theorem OwnI.lt {w : World} {base : Nat} {v : Value} {l : List Int} (h : OwnI w base v l) {k : Nat} (hk : v.ownBlock = some k) : base ≤ k ∧ k < w.heap.size := World.ownsRow.lt h.1 k hk
theorem OwnI.zero {w : World} {base : Nat} {v : Value} {l : List Int} (h : OwnI w base v l) : OwnI w 0 v l := by
  refine ⟨⟨h.1.1, ?_⟩, h.2⟩
  rcases h.1.2 with hn | ⟨g, cap, cur, rfl, _, r⟩
  · exact .inl hn
  · exact .inr ⟨g, cap, cur, rfl, Nat.zero_le _, r⟩
theorem run_append_ints {w : World} (base : Nat) (ty : TypeId) (v : Value) (l : List Int) (hown : OwnI w base v l) (x : Value) (m : List Int) (hx : IntsV w x m) (hl : l.length + m.length ≤ 1099511627776) (hbase : base ≤ w.heap.size) :
    ∃ a cap w', (Builtin.append_ #[28, 28] ty #[v, x]).run Tryz.prog w = .ok (.slice a (l.length + m.length) cap) w' ∧ OwnI w' base (.slice a (l.length + m.length) cap) (l ++ m) ∧ Ext w v w' (.slice a (l.length + m.length) cap) := by
  obtain ⟨i, hi, hz⟩ := Option.map_eq_some_iff.1 info_int
  simp only [Prod.mk.injEq] at hz
  obtain ⟨z1, z2, z3⟩ := hz
  have hwf : ∀ y ∈ l ++ m, (Lit.int .i64 y).wf = true := fun y hy => by
    rcases List.mem_append.1 hy with h | h
    · exact hown.2 y h
    · obtain ⟨k, hk⟩ := List.mem_iff_getElem?.1 h
      obtain ⟨_, _, _, hc⟩ := hx
      exact (hc k y hk).1
  have hx' := hx
  obtain ⟨ao, capx, rfl, hc⟩ := hx'
  by_cases h0 : m.length = 0
  · obtain rfl : m = [] := List.eq_nil_of_length_eq_zero h0
    obtain ⟨a, cap, rfl, _⟩ := own_shape hown.1
    refine ⟨a, cap, w, run_append_empty (P := Tryz.prog) base 28 ty 3 i 1 Tryz.underlying28 hi _ _ _ hown.1 ao capx, by simpa using hown, by simpa using Ext.refl w _⟩
  · obtain ⟨_, b, off, rfl, _⟩ := hc 0 m[0] (List.getElem?_eq_getElem (by omega))
    obtain ⟨v', w', hr, h1, h2, _, h5⟩ := run_append_own_at (P := Tryz.prog) w base 28 ty 3 i (.int .i64 0) 1 8 Tryz.underlying28 hi z1 z2 z3 rfl (by omega) v l.length (iv l) hown.1 ⟨b, off, none⟩ m.length capx (iv m) (by simp [iv]) ((ints_news hx).2 _ rfl) (by simp [iv, Value.oneCell']) (by unfold maxLen; omega) (by omega) hbase
    obtain ⟨a, cap, rfl, _⟩ := own_shape h1
    refine ⟨a, cap, w', hr, ⟨?_, hwf⟩, Only.of_grown h2, fun g hg => ?_⟩
    · rw [iv_append, List.length_append]
      exact h1
    · rcases h5 with h5 | h5
      · exact .inl (by rw [← h5]; exact hg)
      · rw [h5] at hg
        exact .inr (Nat.le_of_eq (Option.some.inj hg))
section
variable {w : World} {ops : Array Oper} {rest : List Oper} {o : Oper} {a : Act} {Q : Exit → Act → World → Prop}
theorem step_append_ints {K : Act → World → Prop} {E : Prop} (hg : o.guard = none) (s x : Operand) (hop : o.op = Op.call { callee := Callee.builtin Builtin.append, args := #[s, x], argTypes := #[28, 28] })
    (base : Nat) (v : Value) (l : List Int) (hs : a.eval s = v) (hown : OwnI w base v l) (xv : Value) (m : List Int) (hx : a.eval x = xv) (hb : IntsV w xv m) (n : Nat) (hn : l.length + m.length = n) (lm : List Int) (hlm : l ++ m = lm) (hl : n ≤ 1099511627776) (hbase : base ≤ w.heap.size)
    (hK : ∀ a' cap w', OwnI w' base (.slice a' n cap) lm → Ext w v w' (.slice a' n cap) → K (a.put o.dst (.slice a' n cap)) w') :
    if Region.wanted o (yielded ops a.tmps) = true then Oper.wp Tryz.prog o a w K Q else E := by
  subst hn
  subst hlm
  have hw : Region.wanted o (yielded ops a.tmps) = true := by simp [Region.wanted, hg]
  rw [if_pos hw]
  obtain ⟨a', cap, w', hrun, h1, h2⟩ := run_append_ints base o.type v l hown xv m hb hl hbase
  unfold Oper.wp
  simp [execOp, hop, resolve, invoke, builtin, hs, hx, hrun, Result.andThen]
  exact hK a' cap w' h1 h2
theorem wpList_append_ints (hg : o.guard = none) (s x : Operand) (hop : o.op = Op.call { callee := Callee.builtin Builtin.append, args := #[s, x], argTypes := #[28, 28] })
    (base : Nat) (v : Value) (l : List Int) (hs : a.eval s = v) (hown : OwnI w base v l) (xv : Value) (m : List Int) (hx : a.eval x = xv) (hb : IntsV w xv m) (n : Nat) (hn : l.length + m.length = n) (lm : List Int) (hlm : l ++ m = lm) (hl : n ≤ 1099511627776) (hbase : base ≤ w.heap.size)
    (hK : ∀ a' cap w', OwnI w' base (.slice a' n cap) lm → Ext w v w' (.slice a' n cap) → wpList Tryz.prog ops Q rest (a.put o.dst (.slice a' n cap)) w') :
    wpList Tryz.prog ops Q (o :: rest) a w := by
  subst hn
  subst hlm
  refine wpList_plain hg fun K' hK' => ?_
  obtain ⟨a', cap, w', hrun, h1, h2⟩ := run_append_ints base o.type v l hown xv m hb hl hbase
  unfold Oper.wp
  simp [execOp, hop, resolve, invoke, builtin, hs, hx, hrun, Result.andThen]
  exact hK' _ _ (hK a' cap w' h1 h2)
end

/-- A journal whose blocks are B. -/
def Jn (w : World) (p q : Nat) (a : DA) (B : List Nat) (d : Disk) (j : JL) (s : SL) : Prop := ∃ vs vt vn vr, JM w p q a vs vt vn vr d j s ∧ B = jbl p q a vs vt vn vr
/-- The journal has become another, in its blocks and new ones; nothing else has turned. -/
def JTo (w : World) (p q : Nat) (a : DA) (B : List Nat) (d : Disk) (j : JL) (s : SL) (w' : World) : Prop := ∃ B', Jn w' p q a B' d j s ∧ Only B w w' ∧ ∀ k ∈ B', k ∈ B ∨ w.heap.size ≤ k
section
variable {w w1 w2 : World} {p q : Nat} {a : DA} {B B1 : List Nat} {d d1 d2 : Disk} {j j1 j2 : JL} {s s1 s2 : SL}
theorem Jn.lt (h : Jn w p q a B d j s) : ∀ k ∈ B, k < w.heap.size := by
  obtain ⟨vs, vt, vn, vr, hm, rfl⟩ := h
  exact hm.lt
theorem Jn.kept {S : List Nat} (h : Jn w p q a B d j s) (ho : Only S w w1) (hs : ∀ k ∈ S, k ∉ B) : Jn w1 p q a B d j s := by
  obtain ⟨vs, vt, vn, vr, hm, rfl⟩ := h
  exact ⟨vs, vt, vn, vr, hm.kept ho hs, rfl⟩
theorem Jn.quiet (h : Jn w p q a B d j s) (ho : Only [] w w1) : Jn w1 p q a B d j s := h.kept ho (by simp)
theorem JTo.same (h : Jn w1 p q a B d j s) (ho : Only [] w w1) : JTo w p q a B d j s w1 := ⟨B, h, ho.mono (by simp), fun k hk => .inl hk⟩
theorem JTo.stay (h : Jn w p q a B d j s) : JTo w p q a B d j s w := .same h (Only.refl _ _)
theorem JTo.trans (h1 : Jn w1 p q a B1 d1 j1 s1) (ho : Only B w w1) (hb : ∀ k ∈ B1, k ∈ B ∨ w.heap.size ≤ k) (h2 : JTo w1 p q a B1 d2 j2 s2 w2) : JTo w p q a B d2 j2 s2 w2 := by
  obtain ⟨B2, g1, g2, g3⟩ := h2
  refine ⟨B2, g1, ho.trans g2 hb, fun k hk => ?_⟩
  rcases g3 k hk with h | h
  · exact hb k h
  · exact .inr (Nat.le_trans ho.size h)
end
/-- The journal's cells have turned as this tells. -/
theorem JM.to {w w' : World} {p q : Nat} {a : DA} {vs vt vn vr vs' vt' vn' vr' : Value} {d d' : Disk} {j j' : JL} {s s' : SL} (h : JM w p q a vs vt vn vr d j s) (h' : JM w' p q a vs' vt' vn' vr' d' j' s')
    (ho : Only (jbl p q a vs vt vn vr) w w') (h1 : ∀ g, vs'.ownBlock = some g → vs.ownBlock = some g ∨ w.heap.size ≤ g) (h2 : ∀ g, vt'.ownBlock = some g → vt.ownBlock = some g ∨ w.heap.size ≤ g)
    (h3 : ∀ g, vn'.ownBlock = some g → vn.ownBlock = some g ∨ w.heap.size ≤ g) (h4 : ∀ g, vr'.ownBlock = some g → vr.ownBlock = some g ∨ w.heap.size ≤ g) : JTo w p q a (jbl p q a vs vt vn vr) d' j' s' w' := by
  refine ⟨_, ⟨vs', vt', vn', vr', h', rfl⟩, ho, fun k hk => ?_⟩
  simp only [jbl, List.mem_cons, List.mem_append, Option.mem_toList, Option.mem_def] at hk ⊢
  rcases hk with rfl | rfl | hk | hk | hk | hk | hk
  · exact .inl (.inl rfl)
  · exact .inl (.inr (.inl rfl))
  · exact .inl (.inr (.inr (.inl hk)))
  · rcases h1 k hk with e | e
    · exact .inl (.inr (.inr (.inr (.inl e))))
    · exact .inr e
  · rcases h2 k hk with e | e
    · exact .inl (.inr (.inr (.inr (.inr (.inl e)))))
    · exact .inr e
  · rcases h3 k hk with e | e
    · exact .inl (.inr (.inr (.inr (.inr (.inr (.inl e))))))
    · exact .inr e
  · rcases h4 k hk with e | e
    · exact .inl (.inr (.inr (.inr (.inr (.inr (.inr e))))))
    · exact .inr e

section
variable {p q k : Nat} {a : DA} {vs vt vn vr : Value}
theorem jbl_p : p ∈ jbl p q a vs vt vn vr := by simp [jbl]
theorem jbl_q : q ∈ jbl p q a vs vt vn vr := by simp [jbl]
theorem jbl_dev (h : k ∈ a.bl) : k ∈ jbl p q a vs vt vn vr := by simp [jbl, h]
theorem jbl_str (h : vs.ownBlock = some k) : k ∈ jbl p q a vs vt vn vr := by simp [jbl, h]
theorem jbl_sts (h : vt.ownBlock = some k) : k ∈ jbl p q a vs vt vn vr := by simp [jbl, h]
theorem jbl_note (h : vn.ownBlock = some k) : k ∈ jbl p q a vs vt vn vr := by simp [jbl, h]
theorem jbl_row (h : vr.ownBlock = some k) : k ∈ jbl p q a vs vt vn vr := by simp [jbl, h]
theorem jbl_one (h : k ∈ [p]) : k ∈ jbl p q a vs vt vn vr := by rw [List.mem_singleton.1 h]; exact jbl_p
end
/-- Midway through a call: what a journal's block and what it points to hold. -/
structure JW (w : World) (p q : Nat) (a : DA) (cs : Array Value) (vs vt vn vr : Value) (S : Sec) (T : List Int) (N : Sec) (d : Disk) (s : SL) : Prop where
  blk : w.heap[p]? = some (.cells cs 84 (0, 0))
  slot : Slot w q a vr s
  dev : Dev w a d
  str : Own w 0 vs S
  sts : OwnI w 0 vt T
  note : Held w vn N
  sn : Sep vs vn
  sr : Sep vs vr
theorem JM.jw {w : World} {p q : Nat} {a : DA} {vs vt vn vr : Value} {d : Disk} {j : JL} {s : SL} (h : JM w p q a vs vt vn vr d j s) : JW w p q a (jcells p q a vs vt vn j) vs vt vn vr j.stream (offs j.start j.recs) j.note d s := ⟨h.blk, h.slot, h.dev, h.str, h.sts, h.note, h.sn, h.sr⟩
theorem JW.jm {w : World} {p q : Nat} {a : DA} {cs : Array Value} {vs vt vn vr : Value} {S N : Sec} {T : List Int} {d : Disk} {s : SL} (h : JW w p q a cs vs vt vn vr S T N d s) {j : JL} (h1 : cs = jcells p q a vs vt vn j) (h2 : S = j.stream) (h3 : T = offs j.start j.recs) (h4 : N = j.note) (h5 : JOk j) (h6 : j.at_ + 2 + j.n ≤ d.size) (h7 : s.at_ = j.at_) : JM w p q a vs vt vn vr d j s := by
  subst h1; subst h2; subst h3; subst h4
  exact ⟨h.blk, h.slot, h.dev, h.str, h.sts, h.note, h.sn, h.sr, h5, h6, h7⟩
theorem Dev.off_ty {w : World} {a : DA} {d : Disk} (h : Dev w a d) {g : Nat} {c : Array Value} {t : TypeId} {fr : Nat × Nat} (hg : w.heap[g]? = some (.cells c t fr)) (ht : t ≠ 79) : g ∉ a.bl := by
  have h1 := h.blk
  have h2 := h.now.ne hg
  have h3 := h.old.ne hg
  simp only [DA.bl, List.mem_cons, List.not_mem_nil, or_false]
  rintro (e | e | e)
  · rw [e] at hg
    exact ht (block_ty hg h1)
  · exact h2 e.symm
  · exact h3 e.symm
theorem Held.u8 {w : World} {v : Value} {l : Sec} (hv : Held w v l) {k : Nat} (hk : v.ownBlock = some k) {c : Array Value} {t : TypeId} {fr : Nat × Nat} (hg : w.heap[k]? = some (.cells c t fr)) : t = 5 := by
  obtain ⟨x, hx⟩ := hv.blk k hk
  exact block_ty hg hx
section
variable {w w' : World} {p q : Nat} {a : DA} {cs : Array Value} {vs vt vn vr vs' vt' vn' vr' : Value} {S S' N N' : Sec} {T T' : List Int} {d d' : Disk} {s s' : SL} (h : JW w p q a cs vs vt vn vr S T N d s)
include h
theorem JW.cell (i : Nat) : w.cell? ⟨p, i, none⟩ = cs[i]? := cell_at i h.blk
theorem JW.free (i : Nat) : w.frozen? ⟨p, i, none⟩ = false := free_at i h.blk
theorem JW.kept {S0 : List Nat} (ho : Only S0 w w') (hs : ∀ k ∈ S0, k ∉ jbl p q a vs vt vn vr) : JW w' p q a cs vs vt vn vr S T N d s := by
  have hb : ∀ (v : Value), (∀ x ∈ v.ownBlock.toList, x ∈ jbl p q a vs vt vn vr) → ∀ k ∈ S0, v.ownBlock ≠ some k := fun v hv k hk e => hs k hk (hv k (by simp [e]))
  refine ⟨ho.heap h.blk (fun hp => hs p hp (by simp [jbl])), h.slot.kept ho (fun hq => hs q hq (by simp [jbl])) (hb vr (fun x hx => ?_)), h.dev.kept ho (fun k hk hm => hs k hk (by simp [jbl, hm])), h.str.kept ho (hb vs (fun x hx => ?_)), h.sts.kept ho (hb vt (fun x hx => ?_)), h.note.kept ho (hb vn (fun x hx => ?_)), h.sn, h.sr⟩ <;> simp [jbl] <;> simp at hx <;> simp [hx]
theorem JW.quiet (ho : Only [] w w') : JW w' p q a cs vs vt vn vr S T N d s := h.kept ho (by simp)
theorem JW.int {k : Nat} (hk : vt.ownBlock = some k) {c : Array Value} {t : TypeId} {fr : Nat × Nat} (hg : w.heap[k]? = some (.cells c t fr)) : t = 3 := by
  rcases h.sts.1.2 with ⟨hv, _⟩ | ⟨g, cap, cur, hv, _, hc, _⟩
  · rw [hv] at hk
    cases hk
  · rw [hv] at hk
    cases hk
    exact block_ty hg hc
theorem JW.int_blk {k : Nat} (hk : vt.ownBlock = some k) : ∃ c, w.heap[k]? = some (.cells c 3 (0, 0)) := by
  rcases h.sts.1.2 with ⟨hv, _⟩ | ⟨g, cap, cur, hv, _, hc, _⟩
  · rw [hv] at hk
    cases hk
  · rw [hv] at hk
    cases hk
    exact ⟨cur, hc⟩
/-- A cell of the journal's own block is stored. -/
theorem JW.set (i : Nat) (v : Value) : JW (w.setCell ⟨p, i, none⟩ v) p q a (cs.setIfInBounds i v) vs vt vn vr S T N d s := by
  have ho : Only [p] w (w.setCell ⟨p, i, none⟩ v) := (Only.refl _ _).setCell (by simp) _
  have hu : ∀ {x : Value} {l : Sec}, Held w x l → ∀ k ∈ [p], x.ownBlock ≠ some k := fun hx k hk e => by
    rw [List.mem_singleton.1 hk] at e
    exact absurd (Held.u8 hx e h.blk) (by decide)
  refine ⟨heap_cell v h.blk, h.slot.kept ho (fun e => ?_) (hu h.slot.row), h.dev.kept ho (fun k hk => ?_), h.str.kept ho (hu h.str.held), h.sts.kept ho (fun k hk e => ?_), h.note.kept ho (hu h.note), h.sn, h.sr⟩
  · rw [List.mem_singleton] at e
    have hb := h.slot.blk
    rw [e] at hb
    exact absurd (block_ty hb h.blk) (by decide)
  · rw [List.mem_singleton.1 hk]
    exact h.dev.off_ty h.blk (by decide)
  · rw [List.mem_singleton.1 hk] at e
    exact absurd (h.int e h.blk) (by decide)
/-- The row of places has become another. -/
theorem JW.setT (hx : Ext w vt w' vt') (ht : OwnI w' 0 vt' T') : JW w' p q a cs vs vt' vn vr S T' N d s := by
  have ho := hx.only
  have hu : ∀ {x : Value} {l : Sec}, Held w x l → ∀ k ∈ vt.ownBlock.toList, x.ownBlock ≠ some k := fun hx k hk e => by
    obtain ⟨c, hc⟩ := h.int_blk (by simpa using hk)
    exact absurd (Held.u8 hx e hc) (by decide)
  refine ⟨ho.heap h.blk (fun e => ?_), h.slot.kept ho (fun e => ?_) (hu h.slot.row), h.dev.kept ho (fun k hk => ?_), h.str.kept ho (hu h.str.held), ht, h.note.kept ho (hu h.note), h.sn, h.sr⟩
  · obtain ⟨c, hc⟩ := h.int_blk (by simpa using e)
    exact absurd (block_ty hc h.blk) (by decide)
  · obtain ⟨c, hc⟩ := h.int_blk (by simpa using e)
    exact absurd (block_ty hc h.slot.blk) (by decide)
  · obtain ⟨c, hc⟩ := h.int_blk (by simpa using hk)
    exact h.dev.off_ty hc (by decide)
/-- The stream has become another. -/
theorem JW.setS (hx : Ext w vs w' vs') (ht : Own w' 0 vs' S') : JW w' p q a cs vs' vt vn vr S' T N d s := by
  have ho := hx.only
  have hb : ∀ k ∈ vs.ownBlock.toList, ∃ c, w.heap[k]? = some (.cells c 5 (0, 0)) := fun k hk => h.str.held.blk k (by simpa using hk)
  have hsep : ∀ {x : Value}, Sep vs x → ∀ k ∈ vs.ownBlock.toList, x.ownBlock ≠ some k := fun hs k hk e => hs k (by simpa using hk) e
  have hsep' : ∀ {x : Value} {l : Sec}, Held w x l → Sep vs x → Sep vs' x := fun hh hs g hg e => by
    rcases hx.src g hg with h1 | h1
    · exact hs g h1 e
    · obtain ⟨c, hc⟩ := hh.blk g e
      have := lt_of_heap hc
      omega
  refine ⟨ho.heap h.blk (fun e => ?_), h.slot.kept ho (fun e => ?_) (hsep h.sr), h.dev.kept ho (fun k hk => ?_), ht, h.sts.kept ho (fun k hk e => ?_), h.note.kept ho (hsep h.sn), hsep' h.note h.sn, hsep' h.slot.row h.sr⟩
  · obtain ⟨c, hc⟩ := hb p e
    exact absurd (block_ty hc h.blk) (by decide)
  · obtain ⟨c, hc⟩ := hb q e
    exact absurd (block_ty hc h.slot.blk) (by decide)
  · obtain ⟨c, hc⟩ := hb k hk
    exact h.dev.off_ty hc (by decide)
  · obtain ⟨c, hc⟩ := hb k hk
    exact absurd (h.int e hc) (by decide)
/-- The note has become another, a new one. -/
theorem JW.setN (hn : Held w vn' N') (hs : Sep vs vn') : JW w p q a cs vs vt vn' vr S T N' d s := ⟨h.blk, h.slot, h.dev, h.str, h.sts, hn, hs, h.sr⟩
end

end Go.Proofs.YtfnedeaemjchgaaGreat
/- A journal: Append, Spend. -/
namespace Go.Proofs.YtfnedeaemjchgaaGreat
open Go.RowKit Go.Maps
set_option linter.unusedSimpArgs false
set_option linter.unusedVariables false

theorem flat_count : ∀ rs : List Sec, 2 * rs.length ≤ (flat rs).length
  | [] => by simp [flat]
  | r :: rs => by
    have := flat_count rs
    rw [flat_cons, List.length_append, recB_length, List.length_cons]
    omega
theorem JOk.count {j : JL} (h : JOk j) : j.recs.length ≤ 962560 := by
  have h1 := h.len
  have h2 := h.stream
  have h3 := flat_count j.recs
  omega
/-- Bytes that were there, in none of the blocks B, are in no new block either. -/
theorem Bytes.off {w : World} {rv : Value} {r : Sec} {B S : List Nat} (hr : Bytes w rv r) (ho : Off rv B) (hs : ∀ k ∈ S, k ∈ B ∨ w.heap.size ≤ k) : Off rv S := by
  intro x n c e h0 hm
  rcases hs _ hm with h | h
  · exact ho x n c e h0 h
  · obtain ⟨x', cap, e2, hcc⟩ := hr
    rw [e2] at e
    cases e
    obtain ⟨b, off, e3, hcell⟩ := hcc 0 r[0] (List.getElem?_eq_getElem h0)
    cases e3
    have := World.block_lt_of_cell? _ _ hcell
    simp at h this
    omega
/-! ### add -/
def JL.acode (j : JL) (r : Sec) (room : Int) : Int := if j.dead = true then 3 else if r.length < 1 ∨ 4096 < r.length then 2 else if room < 2 + r.length then 5 else 0
def JL.put (j : JL) (r : Sec) : JL := { j with recs := j.recs ++ [r] }
def JL.added (j : JL) (r : Sec) (room : Int) : JL := if j.acode r room = 0 then j.put r else j
def JL.anum (j : JL) (r : Sec) (room : Int) : Int := if j.acode r room = 0 then j.next else 0
theorem put_stream (j : JL) (r : Sec) : (j.put r).stream = j.stream ++ be2 r.length ++ r := by
  unfold JL.put JL.stream
  rw [flat_append, flat_one]
  simp [recB]
theorem put_len (j : JL) (r : Sec) : (j.put r).stream.length = j.stream.length + 2 + r.length := by
  rw [put_stream, List.length_append, List.length_append]
  rfl
theorem JOk.put {j : JL} (h : JOk j) {r : Sec} (h1 : 1 ≤ r.length) (h2 : r.length ≤ 4096) (hr : (2 : Int) + r.length ≤ j.free) : JOk (j.put r) := by
  refine ⟨h.pre, ?_, h.first, fun x hx => ?_, ?_, h.n2, h.nm, h.note, h.booked, h.at0, h.at1⟩
  · have := h.fl
    simp only [JL.put, List.length_append, List.length_cons]
    omega
  · rcases List.mem_append.1 hx with hx | hx
    · exact h.recs x hx
    · rw [List.mem_singleton.1 hx]
      exact ⟨h1, h2⟩
  · rw [put_len]
    unfold JL.free at hr
    show _ ≤ j.n * 470
    omega
theorem bytes_two (w : World) (c e : UInt8) (x y : Int) (hx : x = c.toNat) (hy : y = e.toNat) : Bytes (w.alloc (.cells #[.int .u8 x, .int .u8 y] 5)) (.slice (some ⟨w.heap.size, 0, none⟩) 2 2) [c, e] := by
  subst hx
  subst hy
  refine ⟨_, 2, rfl, fun i z hi => ?_⟩
  match i with
  | 0 =>
    simp at hi
    subst hi
    exact ⟨w.heap.size, 0, rfl, by simp⟩
  | 1 =>
    simp at hi
    subst hi
    exact ⟨w.heap.size, 0, rfl, by simp⟩
  | i + 2 => simp at hi
def AddPost (w : World) (p q : Nat) (a : DA) (B : List Nat) (d : Disk) (j : JL) (s : SL) (r : Sec) (room : Int) (e : Ending) (w' : World) : Prop :=
  e = .returned (.tuple #[.int .i64 (j.anum r room), errV (j.acode r room)]) ∧ JTo w p q a B d (j.added r room) s w'

set_option maxRecDepth 100000 in
set_option maxHeartbeats 4000000 in
theorem jadd_any {w : World} {p q : Nat} {a : DA} {B : List Nat} {d : Disk} {j : JL} {s : SL} (h : Jn w p q a B d j s) (hb : JBig j) (rv : Value) (r : Sec) (hr : Bytes w rv r) (hoff : Off rv B) (hrl : r.length ≤ 9223372036854775807) (room : Int) (hroom : room ≤ j.free) :
    Calls Tryz.prog 47 #[.pointer (some ⟨p, 0, none⟩), rv, .int .i64 room] w (AddPost w p q a B d j s r room) := by
  obtain ⟨vs, vt, vn, vr, hm, rfl⟩ := h
  obtain ⟨ra, rc, rfl, -⟩ := id hr
  have H := Lib.hid hm
  have HB := Lib.hid hb
  have HR := Lib.hid hr
  have HOFF := Lib.hid hoff
  have hdead := jdead_any hm
  have hnum := jnext_any hm hb
  cases hd : j.dead
  rotate_left
  · rw [hd] at hdead
    have f : AddPost w p q a (jbl p q a vs vt vn vr) d j s r room (.returned (.tuple #[.int .i64 0, err 3])) w := by
      have hc : j.acode r room = 3 := by simp [JL.acode, hd]
      refine ⟨by simp [JL.anum, hc, errV], ?_⟩
      rw [show j.added r room = j from by simp [JL.added, hc]]
      exact .stay ⟨_, _, _, _, hm, rfl⟩
    have F := Lib.hid f
    clear hm hb hr hoff f hd hnum
    go_enter Tryz.func47, Tryz.ntmps47
    go_wp2_with fail
    refine hdead.mono ?_
    rintro e w1 ⟨rfl, rfl⟩
    go_wp2_with fail
    go_ret2
    exact F.out
  rw [hd] at hdead
  by_cases hl1 : r.length < 1
  · have f : AddPost w p q a (jbl p q a vs vt vn vr) d j s r room (.returned (.tuple #[.int .i64 0, err 2])) w := by
      have hc : j.acode r room = 2 := by simp [JL.acode, hd, hl1]
      refine ⟨by simp [JL.anum, hc, errV], ?_⟩
      rw [show j.added r room = j from by simp [JL.added, hc]]
      exact .stay ⟨_, _, _, _, hm, rfl⟩
    have F := Lib.hid f
    have hl1' : (r.length : Int) < 1 := by omega
    clear hm hb hr hoff f hd hnum
    go_enter Tryz.func47, Tryz.ntmps47
    go_wp2_with fail
    refine hdead.mono ?_
    rintro e w1 ⟨rfl, rfl⟩
    go_wp2_with fail
    go_ret2
    exact F.out
  have hl1' : ¬ (r.length : Int) < 1 := by omega
  by_cases hl2 : 4096 < r.length
  · have f : AddPost w p q a (jbl p q a vs vt vn vr) d j s r room (.returned (.tuple #[.int .i64 0, err 2])) w := by
      have hc : j.acode r room = 2 := by simp [JL.acode, hd, hl2]
      refine ⟨by simp [JL.anum, hc, errV], ?_⟩
      rw [show j.added r room = j from by simp [JL.added, hc]]
      exact .stay ⟨_, _, _, _, hm, rfl⟩
    have F := Lib.hid f
    have hl2' : (4096 : Int) < (r.length : Int) := by omega
    clear hm hb hr hoff f hd hnum
    go_enter Tryz.func47, Tryz.ntmps47
    go_wp2_with fail
    refine hdead.mono ?_
    rintro e w1 ⟨rfl, rfl⟩
    go_wp2_with fail
    go_ret2
    exact F.out
  have hl2' : ¬ (4096 : Int) < (r.length : Int) := by omega
  by_cases hrm : room < 2 + (r.length : Int)
  · have f : AddPost w p q a (jbl p q a vs vt vn vr) d j s r room (.returned (.tuple #[.int .i64 0, err 5])) w := by
      have hc : j.acode r room = 5 := by simp [JL.acode, hd, hl1, hl2, hrm]
      refine ⟨by simp [JL.anum, hc, errV], ?_⟩
      rw [show j.added r room = j from by simp [JL.added, hc]]
      exact .stay ⟨_, _, _, _, hm, rfl⟩
    have F := Lib.hid f
    clear hm hb hr hoff f hd hnum
    go_enter Tryz.func47, Tryz.ntmps47
    go_wp2_with fail
    refine hdead.mono ?_
    rintro e w1 ⟨rfl, rfl⟩
    go_wp2_with fail
    go_ret2
    exact F.out
  have hc : j.acode r room = 0 := by simp [JL.acode, hd, hl1, hl2, hrm]
  have HC := Lib.hid hc
  have hlen := hm.ok.len
  have hrecs := hm.ok.count
  have HD := Lib.hid hd
  have HR0 := Lib.hid hr
  obtain ⟨sa, sc, rfl, -⟩ := hm.strS
  obtain ⟨ta, tc, rfl⟩ := hm.stsS
  clear hm hb hr hoff hd hc
  go_enter Tryz.func47, Tryz.ntmps47
  go_wp2_with fail
  refine hdead.mono ?_
  rintro e w1 ⟨rfl, rfl⟩
  go_wp2_with fail
  refine hnum.mono ?_
  rintro e w1 ⟨rfl, hd1⟩
  have o1 := hd1.only
  have H1 := Lib.hid (H.out.quiet o1)
  have R1 := Lib.hid (HR.out.kept o1 (clean_nil _))
  have O1 := Lib.hid o1
  clear hd1 o1 HR hdead hnum
  go_wp2_with fail
  have o2 : Only [] w1 w1.drew := (Only.refl [] w1).drew
  have H2 := Lib.hid (H1.out.quiet o2)
  have R2 := Lib.hid (R1.out.kept o2 (clean_nil _))
  have O2 := Lib.hid (O1.out.trans o2 (by simp))
  clear o2 H1 R1 O1
  have c7 : w1.drew.cell? ⟨p, 7, none⟩ = some (.slice ta j.recs.length tc) := H2.out.c7
  refine wp_region_B (S := fun w' => w'.cell? ⟨p, 7, none⟩ = some (.slice ta j.recs.length tc)) [0, 1, 2, 3, 4, 5, 6, 7, 8, 9, 10] (by kernel_rfl) c7 (fun hH => ?_)
  clear c7
  refine takeB_list (i := 0) (v := ?_) rfl (by kernel_rfl) (by kernel_rfl) (by kernel_rfl) (by kernel_rfl) (fun _ _ _ h => h) (Or.inl ⟨by rfl, ?_⟩) hH ?_
  rotate_left
  · ((intro w hSw; (try dsimp only at hSw); go_simp); try with_reducible rfl)
  simp only [Act.put, List.setIfInBounds_toArray, List.set_cons_zero, List.set_cons_succ]
  refine takeB_list (i := 1) (v := ?_) rfl (by kernel_rfl) (by kernel_rfl) (by kernel_rfl) (by kernel_rfl) (fun _ _ _ h => h) (Or.inl ⟨by rfl, ?_⟩) hH ?_
  rotate_left
  · ((intro w hSw; (try dsimp only at hSw); go_simp); try with_reducible rfl)
  simp only [Act.put, List.setIfInBounds_toArray, List.set_cons_zero, List.set_cons_succ]
  refine takeB_list (i := 2) (v := ?_) rfl (by kernel_rfl) (by kernel_rfl) (by kernel_rfl) (by kernel_rfl) (fun _ _ _ h => h) (Or.inl ⟨by rfl, ?_⟩) hH ?_
  rotate_left
  · ((intro w hSw; (try dsimp only at hSw); go_simp); try with_reducible rfl)
  simp only [Act.put, List.setIfInBounds_toArray, List.set_cons_zero, List.set_cons_succ]
  refine takeB_list (i := 3) (v := ?_) rfl (by kernel_rfl) (by kernel_rfl) (by kernel_rfl) (by kernel_rfl) (fun _ _ _ h => h) (Or.inl ⟨by rfl, ?_⟩) hH ?_
  rotate_left
  · ((intro w hSw; (try dsimp only at hSw); go_simp); try with_reducible rfl)
  simp only [Act.put, List.setIfInBounds_toArray, List.set_cons_zero, List.set_cons_succ]
  refine takeB_list (i := 4) (v := ?_) rfl (by kernel_rfl) (by kernel_rfl) (by kernel_rfl) (by kernel_rfl) (fun _ _ _ h => h) (Or.inl ⟨by rfl, ?_⟩) hH ?_
  rotate_left
  · ((intro w hSw; (try dsimp only at hSw); go_simp); try with_reducible rfl)
  simp only [Act.put, List.setIfInBounds_toArray, List.set_cons_zero, List.set_cons_succ]
  refine takeB_list (i := 5) (v := ?_) rfl (by kernel_rfl) (by kernel_rfl) (by kernel_rfl) (by kernel_rfl) (fun _ _ _ h => h) (Or.inl ⟨by rfl, ?_⟩) hH ?_
  rotate_left
  · ((intro w hSw; (try dsimp only at hSw); go_simp); try with_reducible rfl)
  simp only [Act.put, List.setIfInBounds_toArray, List.set_cons_zero, List.set_cons_succ]
  refine readyB_in (i := 6) (by kernel_rfl) rfl (fun K hK => ?_)
  go_simp
  refine (jend_any H2.out HB.out).mono ?_
  rintro e w3 ⟨rfl, hd3⟩
  have o3 := hd3.only
  have H3 := Lib.hid (H2.out.quiet o3)
  have R3 := Lib.hid (R2.out.kept o3 (clean_nil _))
  have O3 := Lib.hid (O2.out.trans o3 (by simp))
  have c7 : w3.cell? ⟨p, 7, none⟩ = some (.slice ta j.recs.length tc) := H3.out.c7
  refine hK.out _ _ c7 (fun hH => ?_)
  clear hK K c7 hd3 o3 H2 R2 O2
  refine readyB_in (i := 7) (by kernel_rfl) rfl (fun K hK => ?_)
  go_simp
  have hfin := HB.out.fin
  have o4 := (Only.refl [] w3).alloc (.cells #[.int .i64 (j.fin : Nat)] 3)
  have I4 := Lib.hid (ints_one w3 (j.fin : Nat) (WalkArith.wf_i64 (by omega)))
  have H4 := Lib.hid (H3.out.jw.quiet o4)
  have R4 := Lib.hid (R3.out.kept o4 (clean_nil _))
  have O4 := Lib.hid (O3.out.trans o4 (by simp))
  have c7 : (w3.alloc (.cells #[.int .i64 (j.fin : Nat)] 3)).cell? ⟨p, 7, none⟩ = some (.slice ta j.recs.length tc) := H4.out.cell 7
  refine hK.out _ _ c7 (fun hH => ?_)
  clear hK K c7 o4 H3 R3 O3
  refine readyB_in (i := 8) (by kernel_rfl) rfl (fun K hK => ?_)
  refine step_append_ints (by rfl) (.tmp 33) (.tmp 36) (by rfl) 0 _ (offs j.start j.recs) (by rfl) H4.out.sts _ [((j.fin : Nat) : Int)] (by rfl) I4.out (j.recs.length + 1) (by rw [offs_length]; rfl) (offs j.start (j.recs ++ [r])) (by rw [offs_snoc]; rfl) (by omega) (Nat.zero_le _) (fun a5 k5 w5 h5 x5 => ?_)
  have sub : ∀ k ∈ (Value.slice ta j.recs.length tc).ownBlock.toList, k ∈ jbl p q a (.slice sa j.stream.length sc) (.slice ta j.recs.length tc) vn vr := fun k hk => by simp [jbl]; simp at hk; simp [hk]
  have hT5 := HR0.out.off HOFF.out (fun k hk => .inl (sub k hk))
  have H5 := Lib.hid (H4.out.setT x5 h5)
  have R5 := Lib.hid (R4.out.keptOff x5.only hT5)
  have O5 := Lib.hid ((O4.out.mono (T := jbl p q a (.slice sa j.stream.length sc) (.slice ta j.recs.length tc) vn vr) (by simp)).trans x5.only (fun k hk => .inl (sub k hk)))
  have Z4 := O4.out.size
  have X5 := Lib.hid (fun g hg => (x5.src g hg).imp id (fun h => Nat.le_trans Z4 h))
  have c7 : w5.cell? ⟨p, 7, none⟩ = some (.slice ta j.recs.length tc) := H5.out.cell 7
  refine hK.out _ _ c7 (fun hH => ?_)
  clear hK K H4 R4 O4 h5 x5 hT5 sub Z4
  refine takeB_list (i := 9) (v := ?_) rfl (by kernel_rfl) (by kernel_rfl) (by kernel_rfl) (by kernel_rfl) (fun _ _ _ h => h) (Or.inl ⟨by rfl, ?_⟩) hH ?_
  rotate_left
  · ((intro w hSw; (try dsimp only at hSw); go_simp); try with_reducible rfl)
  simp only [Act.put, List.setIfInBounds_toArray, List.set_cons_zero, List.set_cons_succ]
  refine takeB_list (i := 10) (v := ?_) rfl (by kernel_rfl) (by kernel_rfl) (by kernel_rfl) (by kernel_rfl) (fun _ _ _ h => h) (Or.inl ⟨by rfl, ?_⟩) hH ?_
  rotate_left
  · ((intro w hSw; (try dsimp only at hSw); go_simp); try with_reducible rfl)
  simp only [Act.put, List.setIfInBounds_toArray, List.set_cons_zero, List.set_cons_succ]
  have f7 := H5.out.free 7
  refine readyB_out (i := 11) (by kernel_rfl) (by kernel_rfl) rfl (fun K hK => ?_)
  go_simp
  refine hK.out _ _ ?_
  clear hK K f7 c7 hH
  have H6 := Lib.hid (H5.out.set 7 (.slice a5 (j.recs.length + 1) k5))
  have o6 : Only [p] w5 (w5.setCell ⟨p, 7, none⟩ (.slice a5 (j.recs.length + 1) k5)) := (Only.refl _ _).setCell (by simp) _
  have hp6 : Off (.slice ra r.length rc) [p] := HR0.out.off HOFF.out (fun k hk => .inl (by simp at hk; simp [jbl, hk]))
  have R6 := Lib.hid (R5.out.keptOff o6 hp6)
  have O6 := Lib.hid (O5.out.trans o6 (fun k hk => .inl (by simp at hk; simp [jbl, hk])))
  generalize w5.setCell ⟨p, 7, none⟩ (.slice a5 (j.recs.length + 1) k5) = w6 at H6 o6 R6 O6 ⊢
  refine wpAnyB_done (by kernel_rfl) ?_ _
  have P6 := Lib.hid hp6
  have c5 : w6.cell? ⟨p, 5, none⟩ = some (.slice sa j.stream.length sc) := H6.out.cell 5
  clear H5 R5 O5 o6 hp6
  go_upto_region 10 with (
    refine wpList_append_any rfl (.tmp 44) (.tmp 52) rfl 0 _ j.stream (by rfl) (H6.out.quiet ((Only.refl [] w6).alloc _)).str _ (be2 r.length) (by rfl) (bytes_two w6 _ _ _ _ (by rw [UInt8.toNat_ofNat']; omega) (by rw [UInt8.toNat_ofNat']; omega)) (j.stream.length + 2) rfl (j.stream ++ be2 r.length) rfl (by omega) (Nat.zero_le _) ?_
    intro a7 k7 w7 h7 x7
    have x7' := Ext.before ((Only.refl [] w6).alloc _) x7
    have H7 := Lib.hid (H6.out.setS x7' h7)
    have c5 : w7.cell? ⟨p, 5, none⟩ = some (.slice sa j.stream.length sc) := H7.out.cell 5
    have f5 := H7.out.free 5
    have sub : ∀ k ∈ (Value.slice sa j.stream.length sc).ownBlock.toList, k ∈ jbl p q a (.slice sa j.stream.length sc) (.slice ta j.recs.length tc) vn vr := (fun k hk => by simp [jbl]; simp at hk; simp [hk])
    have R7 := Lib.hid (R6.out.keptOff x7'.only (HR0.out.off HOFF.out (fun k hk => .inl (sub k hk))))
    have O7 := Lib.hid (O6.out.trans x7'.only (fun k hk => .inl (sub k hk)))
    have Z6 := O6.out.size
    have X7 := Lib.hid (fun g hg => (x7'.src g hg).imp id (fun h => Nat.le_trans Z6 h))
    clear x7 x7' h7 sub Z6 H6 R6 O6)
  have H8 := Lib.hid (H7.out.set 5 (.slice a7 (j.stream.length + 2) k7))
  have o8 : Only [p] w7 (w7.setCell ⟨p, 5, none⟩ (.slice a7 (j.stream.length + 2) k7)) := (Only.refl _ _).setCell (by simp) _
  have R8 := Lib.hid (R7.out.keptOff o8 P6.out)
  have O8 := Lib.hid (O7.out.trans o8 (fun k hk => .inl (by simp at hk; simp [jbl, hk])))
  generalize w7.setCell ⟨p, 5, none⟩ (.slice a7 (j.stream.length + 2) k7) = w8 at H8 o8 R8 O8 ⊢
  have c5 : w8.cell? ⟨p, 5, none⟩ = some (.slice a7 (j.stream.length + 2) k7) := H8.out.cell 5
  have el : (j.stream ++ be2 r.length).length + r.length = j.stream.length + 2 + r.length := by rw [List.length_append]; rfl
  have EL := Lib.hid el
  clear H7 R7 O7 o8 f5 el
  go_wp2_with (
    refine wpList_append_any rfl (.tmp 60) (.tmp 61) rfl 0 _ (j.stream ++ be2 r.length) (by rfl) H8.out.str _ r (by rfl) R8.out (j.stream.length + 2 + r.length) EL.out (j.stream ++ be2 r.length ++ r) rfl (by omega) (Nat.zero_le _) ?_
    intro a9 k9 w9 h9 x9
    have H9 := Lib.hid (H8.out.setS x9 h9)
    have c5 : w9.cell? ⟨p, 5, none⟩ = some (.slice a7 (j.stream.length + 2) k7) := H9.out.cell 5
    have f5 := H9.out.free 5
    have O9 := Lib.hid (And.intro O8.out x9)
    clear x9 h9 H8 R8)
  have H10 := H9.out.set 5 (.slice a9 (j.stream.length + 2 + r.length) k9)
  have o10 : Only [p] w9 (w9.setCell ⟨p, 5, none⟩ (.slice a9 (j.stream.length + 2 + r.length) k9)) := (Only.refl _ _).setCell (by simp) _
  go_ret2
  obtain ⟨o8, x9⟩ := O9.out
  refine ⟨by simp [JL.anum, HC.out, errV], ?_⟩
  rw [show j.added r room = j.put r from by simp [JL.added, HC.out]]
  have hok := H.out.ok.put (r := r) (by omega) (by omega) (by omega)
  refine JM.to H.out (H10.jm rfl (put_stream j r).symm rfl rfl hok H.out.here H.out.at_) ?_ ?_ ?_ ?_ ?_
  · refine (o8.trans x9.only (fun k hk => ?_)).trans o10 (fun k hk => .inl (by simp at hk; simp [jbl, hk]))
    rcases X7.out k (by simpa using hk) with e | e
    · exact .inl (jbl_str e)
    · exact .inr e
  · intro g hg
    rcases x9.src g hg with e | e
    · exact X7.out g e
    · exact .inr (Nat.le_trans o8.size e)
  · exact fun g hg => X5.out g hg
  · exact fun g hg => .inl hg
  · exact fun g hg => .inl hg
end Go.Proofs.YtfnedeaemjchgaaGreat

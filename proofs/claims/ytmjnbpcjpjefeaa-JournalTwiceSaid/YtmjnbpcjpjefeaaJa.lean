/- Records in a stream of bytes, and its pieces. Plain lists. -/
import Derived.Test.YtmjnbpcjpjefeaaM5
import Derived.Test.YtmjnbpcjpjefeaaT5
import Derived.Test.YtmjnbpcjpjefeaaT7
import Derived.BigQuiet
import Derived.Deep.QuietTactic
namespace Go.Proofs.Ytmjnbpcjpjefeaa
set_option linter.unusedSimpArgs false
set_option linter.unusedVariables false

/-- A record as it stands in the stream. -/
def recB (r : List UInt8) : List UInt8 := be2 r.length ++ r
def flat (rs : List (List UInt8)) : List UInt8 := (rs.map recB).flatten
theorem recB_length (r : List UInt8) : (recB r).length = r.length + 2 := by simp [recB, be2]
theorem flat_nil : flat [] = [] := rfl
theorem flat_cons (r : List UInt8) (rs : List (List UInt8)) : flat (r :: rs) = recB r ++ flat rs := by simp [flat]
theorem flat_append (a b : List (List UInt8)) : flat (a ++ b) = flat a ++ flat b := by simp [flat]
theorem flat_one (r : List UInt8) : flat [r] = recB r := by simp [flat]
theorem flat_snoc (rs : List (List UInt8)) (r : List UInt8) : (flat (rs ++ [r])).length = (flat rs).length + (r.length + 2) := by rw [flat_append, flat_one, List.length_append, recB_length]

/-- How many bytes the first i records take. -/
def pos (rs : List (List UInt8)) (i : Nat) : Nat := (flat (rs.take i)).length
theorem pos_zero (rs : List (List UInt8)) : pos rs 0 = 0 := by simp [pos, flat]
theorem pos_cons (r : List UInt8) (rs : List (List UInt8)) (i : Nat) : pos (r :: rs) (i + 1) = r.length + 2 + pos rs i := by simp [pos, flat_cons, recB_length]
theorem pos_all {rs : List (List UInt8)} {i : Nat} (h : rs.length ≤ i) : pos rs i = (flat rs).length := by unfold pos; rw [List.take_of_length_le h]
theorem pos_succ {rs : List (List UInt8)} {i : Nat} {r : List UInt8} (h : rs[i]? = some r) : pos rs (i + 1) = pos rs i + (r.length + 2) := by
  unfold pos
  rw [List.take_add_one, h]
  exact flat_snoc _ _
theorem flat_split (rs : List (List UInt8)) (i : Nat) : flat rs = flat (rs.take i) ++ flat (rs.drop i) := by rw [← flat_append, List.take_append_drop]
theorem flat_drop (rs : List (List UInt8)) (i : Nat) : (flat rs).drop (pos rs i) = flat (rs.drop i) := by
  rw [flat_split rs i]
  unfold pos
  simp
theorem flat_take (rs : List (List UInt8)) (i : Nat) : (flat rs).take (pos rs i) = flat (rs.take i) := by
  rw [flat_split rs i]
  unfold pos
  simp
theorem pos_le (rs : List (List UInt8)) (i : Nat) : pos rs i ≤ (flat rs).length := by
  have := congrArg List.length (flat_split rs i)
  rw [List.length_append] at this
  unfold pos
  omega
theorem pos_drop (rs : List (List UInt8)) (k : Nat) : (flat rs).length = pos rs k + (flat (rs.drop k)).length := by
  have := congrArg List.length (flat_split rs k)
  rw [List.length_append] at this
  exact this
theorem pos_mono {rs : List (List UInt8)} {i j : Nat} (h : i ≤ j) : pos rs i ≤ pos rs j := by
  have h1 := pos_le (rs.take j) i
  unfold pos at h1 ⊢
  rwa [List.take_take, Nat.min_eq_left h] at h1
theorem pos_append (rs rs' : List (List UInt8)) {i : Nat} (h : i ≤ rs.length) : pos (rs ++ rs') i = pos rs i := by
  unfold pos
  rw [List.take_append_of_le_length h]
/-- Where each record begins. -/
def offs : Nat → List (List UInt8) → List Int
  | _, [] => []
  | s, r :: rs => (s : Int) :: offs (s + (r.length + 2)) rs
theorem offs_length : ∀ (s : Nat) (rs : List (List UInt8)), (offs s rs).length = rs.length
  | _, [] => rfl
  | s, r :: rs => by simp [offs, offs_length]
theorem offs_get : ∀ (s : Nat) (rs : List (List UInt8)) (i : Nat), i < rs.length → (offs s rs)[i]? = some ((s + pos rs i : Nat) : Int)
  | _, [], i, h => by simp at h
  | s, r :: rs, 0, _ => by simp [offs, pos_zero]
  | s, r :: rs, i + 1, h => by
    rw [offs, List.getElem?_cons_succ, offs_get _ rs i (by simpa using h), pos_cons]
    congr 2
    omega
theorem offs_snoc : ∀ (s : Nat) (rs : List (List UInt8)) (r : List UInt8), offs s (rs ++ [r]) = offs s rs ++ [((s + (flat rs).length : Nat) : Int)]
  | s, [], r => by simp [offs, flat]
  | s, x :: rs, r => by
    rw [List.cons_append, offs, offs_snoc _ rs r, offs, List.cons_append, flat_cons, List.length_append, recB_length]
    congr 4
    omega
theorem offs_drop : ∀ (s : Nat) (rs : List (List UInt8)) (k : Nat), (offs s rs).drop k = offs (s + pos rs k) (rs.drop k)
  | s, rs, 0 => by simp [pos_zero]
  | s, [], k + 1 => by simp [offs]
  | s, r :: rs, k + 1 => by
    rw [offs, List.drop_succ_cons, offs_drop _ rs k, List.drop_succ_cons, pos_cons]
    congr 1
    omega
theorem offs_wf {s : Nat} {rs : List (List UInt8)} (h : s + (flat rs).length ≤ 4611686018427387904) : ∀ x ∈ offs s rs, 0 ≤ x ∧ x ≤ 4611686018427387904 := by
  intro x hx
  obtain ⟨i, hi⟩ := List.mem_iff_getElem?.1 hx
  have hlt : i < rs.length := by rw [← offs_length s rs]; exact (List.getElem?_eq_some_iff.1 hi).1
  rw [offs_get s rs i hlt] at hi
  have := pos_le rs i
  cases hi
  omega

/-- A record out of the stream. -/
theorem flat_rec {rs : List (List UInt8)} {i : Nat} {r : List UInt8} (h : rs[i]? = some r) : ((flat rs).take (pos rs (i + 1))).drop (pos rs i + 2) = r := by
  have h1 : (flat rs).take (pos rs (i + 1)) = flat (rs.take i) ++ recB r := by
    rw [flat_take, List.take_add_one, h]
    simp [flat_append, flat_one]
  rw [h1]
  unfold pos
  rw [List.drop_append]
  simp [recB, be2]

/-! ### whole records in a stream that is cut -/
def wholeN (b : List UInt8) : Nat := if b.length < 2 then 0 else if b.length - 2 < val (b.take 2) then 0 else val (b.take 2) + 2
theorem wholeN_nil : wholeN [] = 0 := rfl
theorem wholeN_part {rs : List (List UInt8)} {i m : Nat} {r : List UInt8} (h : rs[i]? = some r) (hr : r.length < 65536) (h0 : pos rs i ≤ m) (h1 : m ≤ (flat rs).length) :
    wholeN (((flat rs).take m).drop (pos rs i)) = if pos rs (i + 1) ≤ m then r.length + 2 else 0 := by
  have hs := pos_succ h
  have hd : (flat rs).drop (pos rs i) = recB r ++ flat (rs.drop (i + 1)) := by
    rw [flat_drop]
    have hlt := (List.getElem?_eq_some_iff.1 h).1
    rw [List.drop_eq_getElem_cons hlt, flat_cons]
    have := (List.getElem?_eq_some_iff.1 h).2
    rw [this]
  have hl : (((flat rs).take m).drop (pos rs i)).length = m - pos rs i := by
    rw [List.length_drop, List.length_take]
    omega
  unfold wholeN
  rw [hl]
  by_cases h2 : m - pos rs i < 2
  · rw [if_pos h2, if_neg (by omega)]
  · rw [if_neg h2]
    have ht : (((flat rs).take m).drop (pos rs i)).take 2 = be2 r.length := by
      rw [List.drop_take, hd, List.take_take, Nat.min_eq_left (by omega)]
      unfold recB
      rw [List.append_assoc, List.take_append_of_le_length (by simp [be2])]
      simp [be2]
    rw [ht, val_be2 hr]
    by_cases h3 : pos rs (i + 1) ≤ m
    · rw [if_neg (by omega), if_pos h3]
    · rw [if_pos (by omega), if_neg h3]

/-! ### pieces -/
/-- A piece's bytes: what there is of it, and bytes 0 behind. -/
def pad (b : List UInt8) : List UInt8 := b.take 470 ++ List.replicate (470 - b.length) 0
theorem pad_length (b : List UInt8) : (pad b).length = 470 := by
  simp [pad]
  omega
theorem pad_get {b : List UInt8} {i : Nat} (hi : i < 470) (hb : i < b.length) : (pad b)[i]? = b[i]? := by
  unfold pad
  rw [List.getElem?_append_left (by simp; omega), List.getElem?_take_of_lt hi]
def pieceSec (k : Nat) (b : List UInt8) : List UInt8 := boxOf 512 (num k ++ pad b)
theorem num_len {k : Nat} (h : k ≤ 4611686018427387904) : (num k).length ≤ 10 := num_ten (by omega) (by omega)
theorem pieceSec_length {k : Nat} {b : List UInt8} (h : k ≤ 4611686018427387904) : (pieceSec k b).length = 512 := by
  have := num_len h
  exact boxOf_length (by decide) (by rw [List.length_append, pad_length]; omega)
/-- l is the sector of piece k, whose bytes are b. -/
def IsPiece (l : List UInt8) (k : Nat) (b : List UInt8) : Prop := unbox l = some (num k ++ b) ∧ b.length = 470
theorem pieceSec_is {k : Nat} {b : List UInt8} (h : k ≤ 4611686018427387904) : IsPiece (pieceSec k b) k (pad b) := by
  have := num_len h
  exact ⟨unbox_box (by decide) (by decide) (by rw [List.length_append, pad_length]; omega), pad_length b⟩

/-- The ring of n sectors from 'at' on has the bytes S, which begin at 'start' in the stream. -/
def Ring (get : Int → List UInt8) (at_ : Int) (n start : Nat) (S : List UInt8) : Prop :=
  ∀ k, start / 470 ≤ k → k * 470 < start + S.length → ∃ b, IsPiece (get (at_ + (k % n : Nat))) k b ∧ ∀ i, start ≤ i → i < start + S.length → i / 470 = k → b[i % 470]? = S[i - start]?
/-- What is read of a piece: the next bytes of the stream. -/
theorem Ring.part {get : Int → List UInt8} {at_ : Int} {n start : Nat} {S : List UInt8} (h : Ring get at_ n start S) {m : Nat} (hm : m < S.length) :
    ∃ b, IsPiece (get (at_ + ((start + m) / 470 % n : Nat))) ((start + m) / 470) b ∧
      (b.take (min 470 (start + S.length - (start + m) / 470 * 470))).drop ((start + m) % 470) = (S.take (min S.length (((start + m) / 470 + 1) * 470 - start))).drop m := by
  obtain ⟨b, hb, hg⟩ := h ((start + m) / 470) (Nat.div_le_div_right (by omega)) (by omega)
  refine ⟨b, hb, ?_⟩
  have hlen := hb.2
  generalize hk : (start + m) / 470 = k at *
  apply List.ext_getElem?
  intro i
  rw [List.getElem?_drop, List.getElem?_drop, List.getElem?_take, List.getElem?_take]
  by_cases hi : (start + m) % 470 + i < min 470 (start + S.length - k * 470)
  · rw [if_pos hi, if_pos (by omega)]
    have := hg (start + m + i) (by omega) (by omega) (by omega)
    rw [show (start + m + i) % 470 = (start + m) % 470 + i by omega, show start + m + i - start = m + i by omega] at this
    exact this
  · rw [if_neg hi, if_neg (by omega)]
end Go.Proofs.Ytmjnbpcjpjefeaa
/- What a journal's writes leave on a device: in a ring of sectors, behind a crash. No walk. -/
namespace Go.Proofs.Ytmjnbpcjpjefeaa
open Go.RowKit Go.Maps
set_option linter.unusedSimpArgs false
set_option linter.unusedVariables false

/-! ### many writes -/
def Disk.wrs (d : Disk) : List (Int × Sec) → Int × Disk
  | [] => (0, d)
  | x :: r => if d.code x.1 x.2.length = 0 then (d.wr x.1 x.2).wrs r else (d.code x.1 x.2.length, d.wr x.1 x.2)
def Disk.wout (d : Disk) (ps : List (Int × Sec)) : Int × Disk := if (d.wrs ps).1 = 0 then ((d.wrs ps).2.scode, (d.wrs ps).2.sy) else d.wrs ps
theorem wrs_nil (d : Disk) : d.wrs [] = (0, d) := rfl
theorem wrs_yes {d : Disk} {x : Int × Sec} {r : List (Int × Sec)} (h : d.code x.1 x.2.length = 0) : d.wrs (x :: r) = (d.wr x.1 x.2).wrs r := by rw [Disk.wrs, if_pos h]
theorem wrs_no {d : Disk} {x : Int × Sec} {r : List (Int × Sec)} (h : d.code x.1 x.2.length ≠ 0) : d.wrs (x :: r) = (d.code x.1 x.2.length, d.wr x.1 x.2) := by rw [Disk.wrs, if_neg h]
theorem wrs_size : ∀ (ps : List (Int × Sec)) (d : Disk), (d.wrs ps).2.size = d.size
  | [], d => rfl
  | x :: r, d => by
    by_cases h : d.code x.1 x.2.length = 0
    · rw [wrs_yes h, wrs_size r, wr_size]
    · rw [wrs_no h]
      exact wr_size _ _ _
theorem wout_size (d : Disk) (ps : List (Int × Sec)) : (d.wout ps).2.size = d.size := by
  unfold Disk.wout
  split
  · rw [sy_size]
    exact wrs_size ps d
  · exact wrs_size ps d

/-- Each sector is as it was on d0, where nothing was unsynced, or turned, and then its old form is kept. -/
def Mix (d0 d : Disk) (P : Int → Sec → Prop) : Prop := ∀ i, (d.old i = none ∧ d.get i = d0.get i) ∨ (d.old i = some (d0.get i) ∧ P i (d.get i))
section
variable {d0 d : Disk} {P : Int → Sec → Prop} {k : Int} {l : Sec}
theorem Mix.refl (h : d0.old = fun _ => none) : Mix d0 d0 P := fun i => .inl ⟨by rw [h], rfl⟩
theorem Mix.write (h : Mix d0 d P) (hp : P k l) : Mix d0 (d.write k l) P := by
  intro i
  rw [write_get]
  by_cases e : i = k
  · subst e
    rw [if_pos rfl]
    refine .inr ⟨?_, hp⟩
    show (if (d.old i).isSome then d.old else upd d.old i (d.get i)) i = _
    rcases h i with ⟨h1, h2⟩ | ⟨h1, h2⟩
    · rw [h1, h2]
      simp [upd]
    · rw [h1]
      simpa using h1
  · rw [if_neg e]
    have ho : (d.write k l).old i = d.old i := by
      show (if (d.old k).isSome then d.old else upd d.old k (d.get k)) i = _
      split
      · rfl
      · simp [upd, e]
    rw [ho]
    exact h i
theorem Mix.fall (h : Mix d0 d P) : Mix d0 d.fall P := h
theorem Mix.wr (h : Mix d0 d P) (hp : P k l) : Mix d0 (d.wr k l) P := by
  unfold Disk.wr
  split
  · exact h.write hp
  · split
    · exact h.fall
    · exact h
theorem Mix.crash (h : Mix d0 d P) (ks : List Int) (i : Int) : (d.crash ks).get i = d0.get i ∨ P i ((d.crash ks).get i) := by
  rw [crash_get]
  rcases h i with ⟨h1, h2⟩ | ⟨h1, h2⟩
  · rw [h1, h2]
    simp
  · split
    · exact .inr h2
    · rw [h1]
      exact .inl rfl
theorem wrs_mix : ∀ (ps : List (Int × Sec)) (d : Disk), (∀ x ∈ ps, P x.1 x.2) → Mix d0 d P → Mix d0 (d.wrs ps).2 P
  | [], d, _, h => h
  | x :: r, d, hp, h => by
    have h1 := h.wr (hp x (by simp))
    by_cases hc : d.code x.1 x.2.length = 0
    · rw [wrs_yes hc]
      exact wrs_mix r _ (fun y hy => hp y (by simp [hy])) h1
    · rw [wrs_no hc]
      exact h1
end

/-- Sectors that are there, of 512 bytes. -/
def Good (size : Int) (ps : List (Int × Sec)) : Prop := ∀ x ∈ ps, inB x.1 size = true ∧ x.2.length = 512
theorem off_down {m : Met} (h : m.off = false) : m.down = false := by
  unfold Met.off at h
  cases hd : m.down
  · rfl
  · rw [hd] at h
    cases h
theorem code_zero {d : Disk} {k : Int} {l : Sec} (hk : inB k d.size = true) (hl : l.length = 512) (hc : d.code k l.length = 0) : d.met.off = false := by
  rw [Disk.code_in hk hl] at hc
  cases h : d.met.off
  · rfl
  · rw [h] at hc
    cases hc
theorem write_down (d : Disk) (k : Int) (l : Sec) : (d.write k l).met.down = d.met.down := rfl
theorem scode_yes {d : Disk} (h : d.scode = 0) : d.met.down = false ∧ d.sy = d.sync := by
  unfold Disk.scode at h
  cases ho : d.met.off
  · exact ⟨off_down ho, by unfold Disk.sy; rw [ho]; rfl⟩
  · rw [ho] at h
    cases h
theorem scode_no {d : Disk} (h : d.scode ≠ 0) : d.scode = 3 ∧ d.sy = d.fall := by
  unfold Disk.scode at h ⊢
  cases ho : d.met.off
  · rw [ho] at h
    exact absurd rfl h
  · exact ⟨rfl, by unfold Disk.sy; rw [ho]; rfl⟩
theorem wrs_end : ∀ (ps : List (Int × Sec)) (d : Disk), Good d.size ps → d.met.down = false → ((d.wrs ps).1 = 0 ∧ (d.wrs ps).2.met.down = false) ∨ ((d.wrs ps).1 = 3 ∧ (d.wrs ps).2.met.down = true)
  | [], d, _, h => .inl ⟨rfl, h⟩
  | x :: r, d, hg, h => by
    obtain ⟨h1, h2⟩ := hg x (by simp)
    rcases Disk.code_03 h1 h2 with hc | hc
    · rw [wrs_yes hc]
      refine wrs_end r _ (fun y hy => ?_) ?_
      · rw [wr_size]
        exact hg y (by simp [hy])
      · rw [Disk.wr_yes hc]
        exact h
    · rw [wrs_no (by omega)]
      exact .inr ⟨hc, by rw [Disk.wr_cut hc]; rfl⟩
theorem wrs_get : ∀ (ps : List (Int × Sec)) (d : Disk), (d.wrs ps).1 = 0 → (ps.Pairwise fun x y => x.1 ≠ y.1) →
    (∀ x ∈ ps, (d.wrs ps).2.get x.1 = x.2) ∧ (∀ i, (∀ x ∈ ps, x.1 ≠ i) → (d.wrs ps).2.get i = d.get i)
  | [], d, _, _ => ⟨by simp, fun _ _ => rfl⟩
  | x :: r, d, hc, hp => by
    by_cases h0 : d.code x.1 x.2.length = 0
    · rw [wrs_yes h0] at hc ⊢
      obtain ⟨p1, p2⟩ := List.pairwise_cons.1 hp
      obtain ⟨a, b⟩ := wrs_get r _ hc p2
      have hw := Disk.wr_yes h0
      refine ⟨fun y hy => ?_, fun i hi => ?_⟩
      · rcases List.mem_cons.1 hy with rfl | hy
        · rw [b _ (fun z hz e => p1 z hz e.symm), hw, write_get, if_pos rfl]
        · exact a y hy
      · rw [b i (fun z hz => hi z (by simp [hz])), hw, write_get, if_neg (fun e => hi x (by simp) e.symm)]
    · rw [wrs_no h0] at hc
      exact absurd hc h0

/-- All was written and synced; or the power is gone, and behind a crash each sector is old or new. -/
theorem wout_end {d : Disk} {ps : List (Int × Sec)} {P : Int → Sec → Prop} (hg : Good d.size ps) (hd : d.met.down = false) (ho : d.old = fun _ => none) (hp : ∀ x ∈ ps, P x.1 x.2) (hn : ps.Pairwise fun x y => x.1 ≠ y.1) :
    ((d.wout ps).1 = 0 ∧ (d.wout ps).2.met.down = false ∧ (d.wout ps).2.old = (fun _ => none) ∧ (∀ x ∈ ps, (d.wout ps).2.get x.1 = x.2) ∧ (∀ i, (∀ x ∈ ps, x.1 ≠ i) → (d.wout ps).2.get i = d.get i)) ∨
    ((d.wout ps).1 = 3 ∧ (d.wout ps).2.met.down = true ∧ Mix d (d.wout ps).2 P) := by
  have hm := wrs_mix ps d hp (Mix.refl ho)
  rcases wrs_end ps d hg hd with ⟨h1, h2⟩ | ⟨h1, h2⟩
  · have hw : d.wout ps = ((d.wrs ps).2.scode, (d.wrs ps).2.sy) := by unfold Disk.wout; rw [if_pos h1]
    obtain ⟨a, b⟩ := wrs_get ps d h1 hn
    rw [hw]
    by_cases hs : (d.wrs ps).2.scode = 0
    · obtain ⟨s1, s2⟩ := scode_yes hs
      refine .inl ⟨hs, ?_, ?_, ?_, ?_⟩
      · show (d.wrs ps).2.sy.met.down = false
        rw [s2]
        exact s1
      · show (d.wrs ps).2.sy.old = _
        rw [s2]
        rfl
      · intro x hx
        show (d.wrs ps).2.sy.get x.1 = _
        rw [s2, sync_get]
        exact a x hx
      · intro i hi
        show (d.wrs ps).2.sy.get i = _
        rw [s2, sync_get]
        exact b i hi
    · obtain ⟨s1, s2⟩ := scode_no hs
      refine .inr ⟨s1, ?_, ?_⟩
      · show (d.wrs ps).2.sy.met.down = true
        rw [s2]
        rfl
      · show Mix d (d.wrs ps).2.sy P
        rw [s2]
        exact hm.fall
  · have hw : d.wout ps = d.wrs ps := by unfold Disk.wout; rw [if_neg (by omega)]
    rw [hw]
    exact .inr ⟨h1, h2, hm⟩

/-! ### a ring -/
theorem place_inj {n s k k' : Nat} (h1 : s ≤ k) (h2 : k < s + n) (h3 : s ≤ k') (h4 : k' < s + n) (h : k % n = k' % n) : k = k' := by
  have e1 := Nat.div_add_mod k n
  have e2 := Nat.div_add_mod k' n
  rw [h] at e1
  rcases Nat.lt_trichotomy (k / n) (k' / n) with hlt | heq | hlt
  · have := Nat.mul_le_mul_left n (show k / n + 1 ≤ k' / n from hlt)
    rw [Nat.mul_add] at this
    omega
  · rw [heq] at e1
    omega
  · have := Nat.mul_le_mul_left n (show k' / n + 1 ≤ k / n from hlt)
    rw [Nat.mul_add] at this
    omega
/-- b has the stream's bytes of piece k. -/
def Agree (k : Nat) (b : Sec) (start : Nat) (S : Sec) : Prop := ∀ i, start ≤ i → i < start + S.length → i / 470 = k → b[i % 470]? = S[i - start]?
theorem agree_new {pre S : Sec} {start k : Nat} (hp : pre.length = start % 470) (hk : start / 470 ≤ k) : Agree k (pad ((pre ++ S).drop (k * 470 - (start - start % 470)))) start S := by
  intro i h0 h1 h2
  have hm := Nat.mod_lt i (show 0 < 470 by omega)
  have hl : (pre ++ S).length = start % 470 + S.length := by rw [List.length_append, hp]
  rw [pad_get hm (by rw [List.length_drop, hl]; omega), List.getElem?_drop, show k * 470 - (start - start % 470) + i % 470 = i - start + start % 470 by omega]
  rw [List.getElem?_append_right (by omega)]
  congr 1
  omega
theorem Ring.mix {g g' : Int → Sec} {at_ : Int} {n start m : Nat} {S : Sec} (h : Ring g at_ n start (S.take m)) (hr : start % 470 + S.length ≤ n * 470)
    (hg : ∀ k, start / 470 ≤ k → k * 470 < start + S.length → g' (at_ + (k % n : Nat)) = g (at_ + (k % n : Nat)) ∨ ∃ k' b, start / 470 ≤ k' ∧ k' * 470 < start + S.length ∧ k' % n = k % n ∧ IsPiece (g' (at_ + (k % n : Nat))) k' b ∧ Agree k' b start S) : Ring g' at_ n start (S.take m) := by
  intro k h0 h1
  have hl : (S.take m).length ≤ S.length := by rw [List.length_take]; omega
  have hk : k < start / 470 + n := by omega
  obtain ⟨b, hb, ha⟩ := h k h0 h1
  rcases hg k h0 (by omega) with e | ⟨k', b', h3, h4, h5, hb', ha'⟩
  · exact ⟨b, by rw [e]; exact hb, ha⟩
  · obtain rfl : k' = k := place_inj h3 (by omega) h0 hk h5
    refine ⟨b', hb', fun i i0 i1 i2 => ?_⟩
    rw [ha' i i0 (by omega) i2, List.getElem?_take_of_lt]
    rw [List.length_take] at i1
    omega
/-- All pieces that have a new byte are new, the others as they were. -/
theorem Ring.full {g g' : Int → Sec} {at_ : Int} {n start m k0 : Nat} {S : Sec} (h : Ring g at_ n start (S.take m)) (hr : start % 470 + S.length ≤ n * 470) (hm : m ≤ S.length) (hk0 : k0 = (start + m) / 470)
    (hnew : ∀ k, k0 ≤ k → k * 470 < start + S.length → ∃ b, IsPiece (g' (at_ + (k % n : Nat))) k b ∧ Agree k b start S)
    (hold : ∀ k, start / 470 ≤ k → k < k0 → g' (at_ + (k % n : Nat)) = g (at_ + (k % n : Nat))) : Ring g' at_ n start S := by
  intro k h0 h1
  by_cases hlt : k < k0
  · rw [hold k h0 hlt]
    have hl : (S.take m).length = m := by rw [List.length_take]; omega
    obtain ⟨b, hb, ha⟩ := h k h0 (by omega)
    refine ⟨b, hb, fun i i0 i1 i2 => ?_⟩
    rw [ha i i0 (by omega) i2, List.getElem?_take_of_lt (by omega)]
  · exact hnew k (by omega) h1
/-- A ring's later part. -/
theorem Ring.later {g : Int → Sec} {at_ : Int} {n start p : Nat} {S : Sec} (h : Ring g at_ n start S) (hp : p ≤ S.length) : Ring g at_ n (start + p) (S.drop p) := by
  intro k h0 h1
  rw [List.length_drop] at h1
  obtain ⟨b, hb, ha⟩ := h k (by omega) (by omega)
  refine ⟨b, hb, fun i i0 i1 i2 => ?_⟩
  rw [List.length_drop] at i1
  rw [ha i (by omega) (by omega) i2, List.getElem?_drop]
  congr 1
  omega
theorem Ring.same {g g' : Int → Sec} {at_ : Int} {n start : Nat} {S : Sec} (h : Ring g at_ n start S) (hg : ∀ i, at_ ≤ i → g' i = g i) : Ring g' at_ n start S := by
  intro k h0 h1
  rw [hg _ (by omega)]
  exact h k h0 h1
end Go.Proofs.Ytmjnbpcjpjefeaa
/- A journal: what it holds, in memory; the small calls. -/
namespace Go.Proofs.Ytmjnbpcjpjefeaa
open Go.RowKit Go.Maps
set_option linter.unusedSimpArgs false
set_option linter.unusedVariables false

/-- Where a journal lies, the first record's number and place in the stream, what stands ahead of it in its piece, the records, how many of them are flushed, the note, what is booked, whether it is dead. -/
structure JL where
  at_ : Int
  n : Nat
  first : Nat
  start : Nat
  pre : Sec
  recs : List Sec
  fl : Nat
  note : Sec
  booked : Nat
  dead : Bool
def JL.stream (j : JL) : Sec := j.pre ++ flat j.recs
def JL.base (j : JL) : Nat := j.start - j.start % 470
def JL.fin (j : JL) : Nat := j.start + (flat j.recs).length
def JL.next (j : JL) : Nat := j.first + j.recs.length
def JL.free (j : JL) : Int := (j.n : Int) * 470 - (j.stream.length : Int)
structure JOk (j : JL) : Prop where
  pre : j.pre.length = j.start % 470
  fl : j.fl ≤ j.recs.length
  first : 1 ≤ j.first
  recs : ∀ r ∈ j.recs, 1 ≤ r.length ∧ r.length ≤ 4096
  room : j.stream.length ≤ j.n * 470
  n2 : 2 ≤ j.n
  nm : j.n ≤ 2048
  note : j.note.length ≤ 400
  booked : j.booked ≤ j.n * 470
  at0 : 0 ≤ j.at_
  at1 : j.at_ + 2 + j.n ≤ 4096
/-- Numbers are small enough to be reckoned with. -/
structure JBig (j : JL) : Prop where
  fin : j.fin ≤ 1152921504606846976
  next : j.next ≤ 1152921504606846976
section
variable {j : JL}
theorem JOk.stream (h : JOk j) : j.stream.length = j.start % 470 + (flat j.recs).length := by unfold JL.stream; rw [List.length_append, h.pre]
theorem JOk.end_ (h : JOk j) : j.base + j.stream.length = j.fin := by
  rw [h.stream]
  unfold JL.base JL.fin
  have := Nat.mod_le j.start 470
  omega
theorem JOk.len (h : JOk j) : j.stream.length ≤ 962560 := by
  have := h.room
  have := h.nm
  omega
end

theorem block_ty {w : World} {g : Nat} {c1 c2 : Array Value} {t1 t2 : TypeId} {f1 f2 : Nat × Nat} (h1 : w.heap[g]? = some (.cells c1 t1 f1)) (h2 : w.heap[g]? = some (.cells c2 t2 f2)) : t1 = t2 := by
  rw [h1] at h2
  injection h2 with h2
  injection h2
/-- The blocks that hold a journal. -/
def jbl (p q : Nat) (a : DA) (vs vt vn vr : Value) : List Nat := p :: q :: (a.bl ++ (vs.ownBlock.toList ++ (vt.ownBlock.toList ++ (vn.ownBlock.toList ++ vr.ownBlock.toList))))
def jcells (p q : Nat) (a : DA) (vs vt vn : Value) (j : JL) : Array Value :=
  #[.pointer (some ⟨a.p, 0, none⟩), .int .i64 (j.at_ + 2), .int .i64 j.n, .pointer (some ⟨q, 0, none⟩), .int .i64 j.base, vs, .int .i64 j.first, vt, .int .i64 ((j.first : Int) + j.fl), vn, .int .i64 j.booked, .bool j.dead]
structure JM (w : World) (p q : Nat) (a : DA) (vs vt vn vr : Value) (d : Disk) (j : JL) (s : SL) : Prop where
  blk : w.heap[p]? = some (.cells (jcells p q a vs vt vn j) 63 (0, 0))
  slot : Slot w q a vr s
  dev : Dev w a d
  str : Own w 0 vs j.stream
  sts : OwnI w 0 vt (offs j.start j.recs)
  note : Held w vn j.note
  sn : Sep vs vn
  sr : Sep vs vr
  ok : JOk j
  here : j.at_ + 2 + j.n ≤ d.size
  at_ : s.at_ = j.at_

section
variable {w w' : World} {p q : Nat} {a : DA} {vs vt vn vr : Value} {d : Disk} {j : JL} {s : SL} (h : JM w p q a vs vt vn vr d j s)
include h
theorem JM.cell (i : Nat) : w.cell? ⟨p, i, none⟩ = (jcells p q a vs vt vn j)[i]? := cell_at i h.blk
theorem JM.c0 : w.cell? ⟨p, 0, none⟩ = some (.pointer (some ⟨a.p, 0, none⟩)) := h.cell 0
theorem JM.c1 : w.cell? ⟨p, 1, none⟩ = some (.int .i64 (j.at_ + 2)) := h.cell 1
theorem JM.c2 : w.cell? ⟨p, 2, none⟩ = some (.int .i64 j.n) := h.cell 2
theorem JM.c3 : w.cell? ⟨p, 3, none⟩ = some (.pointer (some ⟨q, 0, none⟩)) := h.cell 3
theorem JM.c4 : w.cell? ⟨p, 4, none⟩ = some (.int .i64 j.base) := h.cell 4
theorem JM.c5 : w.cell? ⟨p, 5, none⟩ = some vs := h.cell 5
theorem JM.c6 : w.cell? ⟨p, 6, none⟩ = some (.int .i64 j.first) := h.cell 6
theorem JM.c7 : w.cell? ⟨p, 7, none⟩ = some vt := h.cell 7
theorem JM.c8 : w.cell? ⟨p, 8, none⟩ = some (.int .i64 ((j.first : Int) + j.fl)) := h.cell 8
theorem JM.c9 : w.cell? ⟨p, 9, none⟩ = some vn := h.cell 9
theorem JM.c10 : w.cell? ⟨p, 10, none⟩ = some (.int .i64 j.booked) := h.cell 10
theorem JM.c11 : w.cell? ⟨p, 11, none⟩ = some (.bool j.dead) := h.cell 11
theorem JM.free (i : Nat) : w.frozen? ⟨p, i, none⟩ = false := free_at i h.blk
theorem JM.strS : ∃ a c, vs = .slice a j.stream.length c ∧ j.stream.length ≤ c := h.str.shape
theorem JM.stsS : ∃ a c, vt = .slice a j.recs.length c := by
  obtain ⟨x, c, e⟩ := h.sts.shape
  rw [offs_length] at e
  exact ⟨x, c, e⟩
theorem JM.kept {S : List Nat} (ho : Only S w w') (hs : ∀ k ∈ S, k ∉ jbl p q a vs vt vn vr) : JM w' p q a vs vt vn vr d j s := by
  have hb : ∀ (v : Value), (∀ x ∈ v.ownBlock.toList, x ∈ jbl p q a vs vt vn vr) → ∀ k ∈ S, v.ownBlock ≠ some k := fun v hv k hk e => hs k hk (hv k (by simp [e]))
  refine ⟨ho.heap h.blk (fun hp => hs p hp (by simp [jbl])), h.slot.kept ho (fun hq => hs q hq (by simp [jbl])) (hb vr (fun x hx => ?_)), h.dev.kept ho (fun k hk hm => hs k hk (by simp [jbl, hm])), h.str.kept ho (hb vs (fun x hx => ?_)), ⟨owns_kept h.sts.1 ho (hb vt (fun x hx => ?_)), h.sts.2⟩, h.note.kept ho (hb vn (fun x hx => ?_)), h.sn, h.sr, h.ok, h.here, h.at_⟩ <;> simp [jbl] <;> simp at hx <;> simp [hx]
theorem JM.quiet (ho : Only [] w w') : JM w' p q a vs vt vn vr d j s := h.kept ho (by simp)
theorem JM.p_lt : p < w.heap.size := lt_of_heap h.blk
theorem JM.lt : ∀ k ∈ jbl p q a vs vt vn vr, k < w.heap.size := by
  intro k hk
  simp only [jbl, List.mem_cons, List.mem_append, Option.mem_toList, Option.mem_def] at hk
  rcases hk with rfl | rfl | hk | hk | hk | hk | hk
  · exact h.p_lt
  · exact h.slot.lt
  · exact h.dev.lt k hk
  · exact (h.str.lt hk).2
  · exact (World.ownsRow.lt h.sts.1 k hk).2
  · obtain ⟨c, hc⟩ := h.note.blk k hk
    exact lt_of_heap hc
  · obtain ⟨c, hc⟩ := h.slot.row.blk k hk
    exact lt_of_heap hc
/-- The journal's own block is none of its other ones. -/
theorem JM.p_row {v : Value} {l : Sec} (hv : Held w v l) : v.ownBlock ≠ some p := fun e => by
  obtain ⟨c, hc⟩ := hv.blk p e
  exact absurd (block_ty hc h.blk) (by decide)
theorem JM.p_str : vs.ownBlock ≠ some p := h.p_row h.str.held
theorem JM.p_sts : vt.ownBlock ≠ some p := fun e => by
  have hb := h.blk
  rcases h.sts.1.2 with ⟨hv, _⟩ | ⟨g, cap, cur, hv, _, hc, _⟩
  · rw [hv] at e
    cases e
  · rw [hv] at e
    cases e
    exact absurd (block_ty hc h.blk) (by decide)
theorem JM.p_q : q ≠ p := fun e => by
  have hb := h.slot.blk
  rw [e] at hb
  exact absurd (block_ty hb h.blk) (by decide)
theorem JM.p_dev : p ∉ a.bl := by
  have h1 := h.dev.blk
  have h2 := h.dev.now.ne h.blk
  have h3 := h.dev.old.ne h.blk
  simp only [DA.bl, List.mem_cons, List.not_mem_nil, or_false]
  rintro (e | e | e)
  · have hb := h.blk
    rw [e] at hb
    exact absurd (block_ty hb h1) (by decide)
  · exact h2 e.symm
  · exact h3 e.symm
end

/-- Read only: the world has but drawn. -/
def Drew (w w' : World) : Prop := ∃ n, w' = w.drewN n
theorem Drew.only {w w' : World} (h : Drew w w') : Only [] w w' := by
  obtain ⟨n, rfl⟩ := h
  exact ⟨rfl, rfl, rfl, Nat.le_refl _, fun _ _ _ => rfl⟩
theorem Drew.refl (w : World) : Drew w w := ⟨0, rfl⟩
theorem Drew.heap {w w' : World} (h : Drew w w') : w'.heap = w.heap := by
  obtain ⟨n, rfl⟩ := h
  rfl

/-! ### a nil journal -/
theorem jfirst_nil (w : World) : Calls Try.prog 13 #[.pointer none] w fun e w' => e = .returned (.int .i64 0) ∧ w = w' := by
  go_enter Try.func13, Try.ntmps13
  go_wp2
  go_ret
  exact ⟨rfl, rfl⟩
theorem jnext_nil (w : World) : Calls Try.prog 12 #[.pointer none] w fun e w' => e = .returned (.int .i64 0) ∧ w = w' := by
  go_enter Try.func12, Try.ntmps12
  go_wp2
  go_ret
  exact ⟨rfl, rfl⟩
theorem jflushed_nil (w : World) : Calls Try.prog 21 #[.pointer none] w fun e w' => e = .returned (.int .i64 0) ∧ w = w' := by
  go_enter Try.func21, Try.ntmps21
  go_wp2
  go_ret
  exact ⟨rfl, rfl⟩
theorem jnote_nil (w : World) : Calls Try.prog 22 #[.pointer none] w fun e w' => e = .returned (.slice none 0 0) ∧ w = w' := by
  go_enter Try.func22, Try.ntmps22
  go_wp2
  go_ret
  exact ⟨rfl, rfl⟩
theorem jfree_nil (w : World) : Calls Try.prog 10 #[.pointer none] w fun e w' => e = .returned (.int .i64 0) ∧ w = w' := by
  go_enter Try.func10, Try.ntmps10
  go_wp2
  go_ret
  exact ⟨rfl, rfl⟩
theorem jbooked_nil (w : World) : Calls Try.prog 23 #[.pointer none] w fun e w' => e = .returned (.int .i64 0) ∧ w = w' := by
  go_enter Try.func23, Try.ntmps23
  go_wp2
  go_ret
  exact ⟨rfl, rfl⟩
theorem jdead_nil (w : World) : Calls Try.prog 20 #[.pointer none] w fun e w' => e = .returned (.bool true) ∧ w = w' := by
  go_enter Try.func20, Try.ntmps20
  go_wp2
  go_ret
  exact ⟨rfl, rfl⟩
theorem junbook_nil (n : Int) (w : World) : Calls Try.prog 17 #[.pointer none, .int .i64 n] w fun e w' => e = .returned (.tuple #[]) ∧ w = w' := by
  go_enter Try.func17, Try.ntmps17
  go_wp2
  go_returns
  exact ⟨rfl, rfl⟩

/-! ### what is read -/
section
variable {w : World} {p q : Nat} {a : DA} {vs vt vn vr : Value} {d : Disk} {j : JL} {s : SL} (h : JM w p q a vs vt vn vr d j s)
include h
theorem jfirst_any : Calls Try.prog 13 #[.pointer (some ⟨p, 0, none⟩)] w fun e w' => e = .returned (.int .i64 j.first) ∧ w = w' := by
  have c6 := h.c6
  clear h
  go_enter Try.func13, Try.ntmps13
  go_wp2
  go_ret
  exact ⟨rfl, rfl⟩
theorem jflushed_any : Calls Try.prog 21 #[.pointer (some ⟨p, 0, none⟩)] w fun e w' => e = .returned (.int .i64 ((j.first : Int) + j.fl)) ∧ w = w' := by
  have c8 := h.c8
  clear h
  generalize ((j.first : Int) + j.fl) = x at c8 ⊢
  go_enter Try.func21, Try.ntmps21
  go_wp2
  go_ret
  exact ⟨rfl, rfl⟩
theorem jbooked_any : Calls Try.prog 23 #[.pointer (some ⟨p, 0, none⟩)] w fun e w' => e = .returned (.int .i64 j.booked) ∧ w = w' := by
  have c10 := h.c10
  clear h
  go_enter Try.func23, Try.ntmps23
  go_wp2
  go_ret
  exact ⟨rfl, rfl⟩
theorem jdead_any : Calls Try.prog 20 #[.pointer (some ⟨p, 0, none⟩)] w fun e w' => e = .returned (.bool j.dead) ∧ w = w' := by
  have c11 := h.c11
  clear h
  go_enter Try.func20, Try.ntmps20
  go_wp2
  go_ret
  exact ⟨rfl, rfl⟩
theorem jnext_any (hb : JBig j) : Calls Try.prog 12 #[.pointer (some ⟨p, 0, none⟩)] w fun e w' => e = .returned (.int .i64 (j.next : Nat)) ∧ Drew w w' := by
  have c6 := h.c6
  have c7 := h.c7
  obtain ⟨ta, tc, rfl⟩ := h.stsS
  have hn := hb.next
  unfold JL.next at hn ⊢
  clear h hb
  generalize j.recs.length = n at *
  generalize j.first = f at *
  go_enter Try.func12, Try.ntmps12
  go_wp2_with fail
  go_quiet (fail)
  go_wp2_with fail
  go_ret
  exact ⟨ret_i64 (by omega), _, rfl⟩
theorem jend_any (hb : JBig j) : Calls Try.prog 45 #[.pointer (some ⟨p, 0, none⟩)] w fun e w' => e = .returned (.int .i64 (j.fin : Nat)) ∧ Drew w w' := by
  have c4 := h.c4
  have c5 := h.c5
  obtain ⟨sa, sc, rfl, _⟩ := h.strS
  have he := h.ok.end_
  have hn := hb.fin
  rw [← he] at hn ⊢
  clear h hb he
  generalize j.stream.length = n at *
  generalize j.base = f at *
  go_enter Try.func45, Try.ntmps45
  go_wp2_with fail
  go_quiet (fail)
  go_wp2_with fail
  go_ret
  exact ⟨ret_i64 (by omega), _, rfl⟩
theorem jfree_any : Calls Try.prog 10 #[.pointer (some ⟨p, 0, none⟩)] w fun e w' => e = .returned (.int .i64 j.free) ∧ Drew w w' := by
  have c2 := h.c2
  have c5 := h.c5
  obtain ⟨sa, sc, rfl, _⟩ := h.strS
  have hn := h.ok.nm
  have hl := h.ok.len
  unfold JL.free
  clear h
  generalize j.stream.length = n at *
  generalize j.n = m at *
  have hm : (m : Int) ≤ 2048 := by omega
  go_enter Try.func10, Try.ntmps10
  go_wp2_with fail
  go_quiet (fail)
  go_wp2_with fail
  go_ret
  exact ⟨ret_i64 (by omega), _, rfl⟩
theorem jnote_any (l : Sec) (hl : j.note = l) : Calls Try.prog 22 #[.pointer (some ⟨p, 0, none⟩)] w fun e w' => ∃ b c, e = .returned (.slice b l.length c) ∧ Own w' w.heap.size (.slice b l.length c) l ∧ Only [] w w' := by
  subst hl
  have c9 := h.c9
  have hb := h.note.bytes
  have hl := h.ok.note
  obtain ⟨va, vc, rfl, -⟩ := id hb
  have HB := Lib.hid hb
  clear h hb
  go_enter Try.func22, Try.ntmps22
  go_wp2_with fail
  refine (clone_any _ j.note _ HB.out (by omega)).mono ?_
  rintro e w1 ⟨b, c, rfl, h1, o1⟩
  go_wp2_with fail
  go_ret
  exact ⟨b, c, rfl, h1, o1⟩
/-- A record's place; the next record's. -/
theorem joffset_any (hb : JBig j) (k : Nat) (hk : k ≤ j.recs.length) (x : Int) (hx : x = (j.first : Int) + k) : Calls Try.prog 32 #[.pointer (some ⟨p, 0, none⟩), .int .i64 x] w fun e w' => e = .returned (.int .i64 ((j.start + pos j.recs k : Nat) : Int)) ∧ Drew w w' := by
  subst hx
  have hn := hb.next
  have H := Lib.hid h
  have HB := Lib.hid hb
  unfold JL.next at hn
  have e0 : (j.next : Int) = (j.first : Int) + j.recs.length := by unfold JL.next; omega
  have E0 := Lib.hid e0
  by_cases hlt : k < j.recs.length
  · have c6 := h.c6
    have c7 := h.c7
    obtain ⟨ta, tc, rfl⟩ := h.stsS
    have hi := h.sts.ints
    obtain ⟨_, b, off, cap, ev, hcell⟩ := hi.at_ (offs_get j.start j.recs k hlt)
    rw [offs_length] at ev
    cases ev
    have hne : (((j.first : Int) + k) == ((j.first : Int) + j.recs.length)) = false := by simp; omega
    clear h hb hi e0
    generalize hm : j.recs.length = m at *
    generalize hf : j.first = f at *
    generalize hz : ((j.start + pos j.recs k : Nat) : Int) = z at *
    have HM := Lib.hid hm
    have HF := Lib.hid hf
    have HZ := Lib.hid hz
    clear hm hf hz
    have k0 : (0 : Int) ≤ (k : Int) := by omega
    have k1 : (k : Int) < (m : Int) := by omega
    have hs : IntKind.i64.wrap ((f : Int) + (k : Int) - (f : Int)) = (k : Int) := by
      rw [IntKind.wrap_i64]
      omega
    go_enter Try.func32, Try.ntmps32
    go_wp2_with fail
    refine (jnext_any H.out HB.out).mono ?_
    rintro e w1 ⟨rfl, hd⟩
    rw [E0.out]
    have hq := hd.heap
    have o1 := hd.only
    have c6 := cell_kept o1 c6 (by simp)
    have c7 := cell_kept o1 c7 (by simp)
    have hcell := cell_kept o1 hcell (by simp)
    have HD := Lib.hid hd
    clear hd hq o1
    go_wp2_with fail
    go_quiet (fail)
    go_wp2_with fail
    go_ret
    obtain ⟨n1, e1⟩ := HD.out
    exact ⟨rfl, n1 + nq, by rw [e1, World.drewN_drewN]⟩
  · obtain rfl : k = j.recs.length := by omega
    have e1 : j.start + pos j.recs j.recs.length = j.fin := by rw [pos_all (Nat.le_refl _)]; rfl
    rw [e1]
    clear h hb e0 e1
    go_enter Try.func32, Try.ntmps32
    go_wp2_with fail
    refine (jnext_any H.out HB.out).mono ?_
    rintro e w1 ⟨rfl, hd⟩
    rw [E0.out]
    have HD := Lib.hid hd
    have H1 := Lib.hid (H.out.quiet hd.only)
    clear hd
    go_wp2_with fail
    refine (jend_any H1.out HB.out).mono ?_
    rintro e w2 ⟨rfl, hd2⟩
    have HD2 := Lib.hid hd2
    clear hd2
    go_wp2_with fail
    go_ret
    obtain ⟨n1, e1⟩ := HD.out
    obtain ⟨n2, e2⟩ := HD2.out
    exact ⟨rfl, n1 + n2, by rw [e2, e1, World.drewN_drewN]⟩
end
end Go.Proofs.Ytmjnbpcjpjefeaa

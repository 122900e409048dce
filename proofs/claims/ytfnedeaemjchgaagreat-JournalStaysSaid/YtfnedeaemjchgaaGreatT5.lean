/- What slots leave on a device: behind each call, and behind a crash. No walk. -/
import Derived.Test.YtfnedeaemjchgaaGreatT4
namespace Go.Proofs.YtfnedeaemjchgaaGreat
open Go.RowKit Go.Maps
set_option linter.unusedSimpArgs false
set_option linter.unusedVariables false

/-- Power is there, and nothing is armed. -/
structure Disk.Calm (d : Disk) : Prop where
  armed : d.met.armed = false
  down : d.met.down = false
section
variable {d : Disk} {k at_ : Int} {l r : Sec}
theorem Disk.Calm.off (h : d.Calm) : d.met.off = false := by simp [Met.off, h.armed, h.down]
theorem Disk.Calm.code (h : d.Calm) (hk : inB k d.size = true) (hl : l.length = 512) : d.code k l.length = 0 := by rw [Disk.code_in hk hl, h.off]; rfl
theorem Disk.wr_yes (hc : d.code k l.length = 0) : d.wr k l = d.write k l := by unfold Disk.wr; rw [if_pos hc]
theorem Disk.wr_cut (hc : d.code k l.length = 3) : d.wr k l = d.fall := by unfold Disk.wr; rw [hc]; rfl
theorem Disk.Calm.write (h : d.Calm) : (d.write k l).Calm := ⟨h.armed, h.down⟩
theorem Disk.Calm.wr (h : d.Calm) (hk : inB k d.size = true) (hl : l.length = 512) : (d.wr k l).Calm := by rw [Disk.wr_yes (h.code hk hl)]; exact h.write
theorem Disk.Calm.scode (h : d.Calm) : d.scode = 0 := by unfold Disk.scode; rw [h.off]; rfl
theorem Disk.Calm.lcode (h : d.Calm) (hk : inB k d.size = true) (hl : l.length = 512) : d.lcode k l = 0 := by
  unfold Disk.lcode
  rw [if_pos (h.code hk hl)]
  exact (h.wr hk hl).scode
theorem Disk.Calm.sy (h : d.Calm) : d.sy.Calm := by unfold Disk.sy; rw [h.off]; exact ⟨h.armed, h.down⟩
theorem Disk.Calm.ly (h : d.Calm) (hk : inB k d.size = true) (hl : l.length = 512) : (d.ly k l).Calm := by
  unfold Disk.ly
  rw [if_pos (h.code hk hl)]
  exact (h.wr hk hl).sy
theorem sy_size (d : Disk) : d.sy.size = d.size := by unfold Disk.sy; split <;> rfl
theorem ly_size (d : Disk) (k : Int) (l : Sec) : (d.ly k l).size = d.size := by
  unfold Disk.ly
  split
  · rw [sy_size, wr_size]
  · exact wr_size d k l
theorem fm_size (d : Disk) (at_ : Int) (r : Sec) : (d.fm at_ r).size = d.size := by
  unfold Disk.fm
  split
  · rfl
  · split
    · rfl
    · split
      · rw [ly_size, wr_size]
      · exact wr_size _ _ _
theorem Disk.Calm.fresh (n : Int) : (Disk.fresh n).Calm := ⟨rfl, rfl⟩
theorem Disk.Calm.crash (d : Disk) (ks : List Int) : (d.crash ks).Calm := ⟨rfl, rfl⟩
theorem crash_size (d : Disk) (ks : List Int) : (d.crash ks).size = d.size := rfl

/-- What a device holds behind a sector that was written and synced. -/
theorem ly_yes (hc : d.lcode k l = 0) : (∀ i, (d.ly k l).get i = if i = k then l else d.get i) ∧ (d.ly k l).old = fun _ => none := by
  unfold Disk.lcode at hc
  split at hc
  · rename_i h0
    unfold Disk.ly
    rw [if_pos h0]
    rw [Disk.wr_yes h0] at hc ⊢
    unfold Disk.scode at hc
    unfold Disk.sy
    split at hc
    · cases hc
    · rename_i h1
      rw [if_neg h1]
      exact ⟨fun i => by rw [sync_get, write_get], rfl⟩
  · exact absurd hc ‹_›
/-- .. and behind a crash, where the power went before that was done. -/
theorem ly_no (ho : d.old = fun _ => none) (hk : inB k d.size = true) (hl : l.length = 512) (hc : d.lcode k l ≠ 0) (ks : List Int) :
    (∀ i, ((d.ly k l).crash ks).get i = d.get i) ∨ (∀ i, ((d.ly k l).crash ks).get i = if i = k then l else d.get i) := by
  rcases Disk.code_03 hk hl with h0 | h3
  · unfold Disk.lcode at hc
    rw [if_pos h0] at hc
    unfold Disk.ly
    rw [if_pos h0, Disk.wr_yes h0] at *
    have hoff : (d.write k l).met.off = true := by
      unfold Disk.scode at hc
      cases h : (d.write k l).met.off <;> simp [h] at hc ⊢
    have hsy : (d.write k l).sy = (d.write k l).fall := by unfold Disk.sy; rw [hoff]; rfl
    rw [hsy]
    have hold : (d.write k l).fall.old = upd (fun _ => none) k (d.get k) := by
      show (if (d.old k).isSome then d.old else upd d.old k (d.get k)) = _
      rw [ho]
      rfl
    have hget : ∀ i, (d.write k l).fall.get i = if i = k then l else d.get i := fun i => write_get d k i l
    by_cases hm : k ∈ ks
    · refine .inr fun i => ?_
      rw [crash_get, hget, hold]
      by_cases e : i = k
      · subst e
        simp [hm]
      · simp [upd, e]
    · refine .inl fun i => ?_
      rw [crash_get, hget, hold]
      by_cases e : i = k
      · subst e
        simp [hm, upd]
      · simp [upd, e]
  · have hly : d.ly k l = d.fall := by
      unfold Disk.ly
      rw [if_neg (by omega), Disk.wr_cut h3]
    rw [hly]
    refine .inl fun i => ?_
    rw [crash_get]
    show (if i ∈ ks then d.get i else (d.old i).getD (d.get i)) = _
    rw [ho]
    simp

/-- The device holds these slots: their row is in force. -/
structure Holds (d : Disk) (s : SL) : Prop where
  fit : fitB s.at_ d.size = true
  old : d.old = fun _ => none
  lo : 1 ≤ s.n
  this : says (d.get (s.at_ + s.n % 2)) (s.n % 2) = some (s.n, s.row)
  that : ∀ m x, says (d.get (s.at_ + (s.n + 1) % 2)) ((s.n + 1) % 2) = some (m, x) → m < s.n
theorem pick_keep (x : Int × Sec) (y : Option (Int × Sec)) (h : ∀ m z, y = some (m, z) → m < x.1) : pick x y = x := by
  cases y with
  | none => rfl
  | some q =>
    have := h q.1 q.2 rfl
    rw [pick_some, if_neg (by omega)]
theorem Holds.op {d : Disk} {s : SL} (h : Holds d s) : d.op s.at_ = (s.n, s.row) := by
  have hlo := h.lo
  have ht := h.this
  have hx := h.that
  have e : d.op s.at_ = pick (pick (0, []) (says (d.get (s.at_ + 0)) 0)) (says (d.get (s.at_ + 1)) 1) := rfl
  rw [e]
  rcases (show s.n % 2 = 0 ∨ s.n % 2 = 1 by omega) with hp | hp
  · have hq : (s.n + 1) % 2 = 1 := by omega
    rw [hp] at ht
    rw [hq] at hx
    rw [ht, pick_some, if_pos (by simp; omega)]
    exact pick_keep _ _ hx
  · have hq : (s.n + 1) % 2 = 0 := by omega
    rw [hp] at ht
    rw [hq] at hx
    rw [ht, pick_some, if_pos]
    generalize says (d.get (s.at_ + 0)) 0 = y at hx
    cases y with
    | none =>
      rw [pick_none]
      simp
      omega
    | some q =>
      have := hx q.1 q.2 rfl
      rw [pick_some]
      split
      · exact this
      · simp
        omega
theorem Holds.same {d d' : Disk} {s : SL} (h : Holds d s) (hz : d'.size = d.size) (ho : d'.old = fun _ => none) (hg : ∀ i, d'.get i = d.get i) : Holds d' s :=
  ⟨by rw [hz]; exact h.fit, ho, h.lo, by rw [hg]; exact h.this, fun m x => by rw [hg]; exact h.that m x⟩
theorem Holds.crash {d : Disk} {s : SL} (h : Holds d s) (ks : List Int) : Holds (d.crash ks) s :=
  h.same rfl rfl (fun i => by rw [crash_get, h.old]; simp)
theorem Holds.arm {d : Disk} {s : SL} (h : Holds d s) (n : Int) : Holds { d with met := d.met.arm n } s := h.same rfl h.old (fun _ => rfl)
theorem Holds.put {d d' : Disk} {s : SL} {r : Sec} (h : Holds d s) (hn : s.n < 4611686018427387904) (hr : r.length ≤ 480) (hz : d'.size = d.size) (ho : d'.old = fun _ => none) (hg : ∀ i, d'.get i = if i = s.place then s.sec r else d.get i) : Holds d' (s.put r) := by
  have hlo := h.lo
  have hm : (s.n + 1 + 1) % 2 = s.n % 2 := by omega
  have hne : s.at_ + s.n % 2 ≠ s.place := by unfold SL.place; omega
  refine ⟨by rw [hz]; exact h.fit, ho, by simp only [SL.put]; omega, ?_, fun m x => ?_⟩
  · show says (d'.get s.place) ((s.n + 1) % 2) = some (s.n + 1, r)
    rw [hg, if_pos rfl]
    exact says_row (by omega) (by omega) hr
  · show says (d'.get (s.at_ + (s.n + 1 + 1) % 2)) ((s.n + 1 + 1) % 2) = some (m, x) → m < s.n + 1
    rw [hm, hg, if_neg hne, h.this]
    intro e
    cases e
    omega
theorem Holds.place {d : Disk} {s : SL} (h : Holds d s) : inB s.place d.size = true := by
  have hf := fitB_iff.1 h.fit
  have hlo := h.lo
  exact inB_iff.2 ⟨by unfold SL.place; omega, by unfold SL.place; omega⟩
theorem SL.sec_len {s : SL} {r : Sec} (h0 : 0 ≤ s.n) (h1 : s.n ≤ 4611686018427387904) (hr : r.length ≤ 480) : (s.sec r).length = 512 := rowSec_length (by omega) (by omega) hr
theorem Holds.yes {d : Disk} {s : SL} {r : Sec} (h : Holds d s) (hn : s.n < 4611686018427387904) (hr : r.length ≤ 480) (hc : d.lcode s.place (s.sec r) = 0) : Holds (d.ly s.place (s.sec r)) (s.put r) :=
  h.put hn hr (ly_size _ _ _) (ly_yes hc).2 (ly_yes hc).1
theorem Holds.no {d : Disk} {s : SL} {r : Sec} (h : Holds d s) (hn : s.n < 4611686018427387904) (hr : r.length ≤ 480) (hc : d.lcode s.place (s.sec r) ≠ 0) (ks : List Int) : Holds ((d.ly s.place (s.sec r)).crash ks) s ∨ Holds ((d.ly s.place (s.sec r)).crash ks) (s.put r) := by
  have hlo := h.lo
  rcases ly_no h.old h.place (SL.sec_len (by omega) (by omega) hr) hc ks with hg | hg
  · exact .inl (h.same (by rw [crash_size, ly_size]) rfl hg)
  · exact .inr (h.put hn hr (by rw [crash_size, ly_size]) rfl hg)

/-! ### a device whose power is there -/
theorem SL.save_calm {d : Disk} {s : SL} {r : Sec} (hd : d.Calm) (hp : inB s.place d.size = true) (h0 : 0 ≤ s.n) (hn : s.n < 4611686018427387904) (hc : s.cut = false) (hr : r.length ≤ 480) :
    s.scode d r = 0 ∧ s.sdisk d r = d.ly s.place (s.sec r) ∧ s.save d r = s.put r ∧ d.lcode s.place (s.sec r) = 0 := by
  have hl := hd.lcode hp (SL.sec_len (r := r) h0 (by omega) hr)
  have hnf : ¬ (480 < r.length ∨ s.n = 4611686018427387904) := by omega
  refine ⟨?_, ?_, ?_, hl⟩
  · simp [SL.scode, hnf, hc, hl]
  · simp [SL.sdisk, hnf, hc]
  · simp [SL.save, hnf, hc, hl]
theorem fm_calm {d : Disk} {at_ : Int} {r : Sec} (hd : d.Calm) (hf : fitB at_ d.size = true) (hr : r.length ≤ 480) : d.fcode at_ r = 0 ∧ (d.fm at_ r).Calm ∧ Holds (d.fm at_ r) ⟨at_, 1, r, false⟩ := by
  have hat := fitB_iff.1 hf
  have h1 : inB at_ d.size = true := inB_iff.2 ⟨by omega, by omega⟩
  have hc0 : d.code at_ 512 = 0 := by
    have := hd.code h1 zeros_length
    rwa [zeros_512] at this
  have hcw : (d.wr at_ zeros).Calm := hd.wr h1 zeros_length
  have hz : (d.wr at_ zeros).size = d.size := wr_size _ _ _
  have h2 : inB (at_ + 1) (d.wr at_ zeros).size = true := by rw [hz]; exact inB_iff.2 ⟨by omega, by omega⟩
  have hsl : (rowSec 1 r).length = 512 := rowSec_length (by omega) (by omega) hr
  have hl := hcw.lcode h2 hsl
  have hnl : ¬ 480 < r.length := by omega
  have e1 : d.fcode at_ r = 0 := by simp [Disk.fcode, hf, hnl, hc0, hl]
  have e2 : d.fm at_ r = (d.wr at_ zeros).ly (at_ + 1) (rowSec 1 r) := by simp [Disk.fm, hf, hnl, hc0]
  have hy := ly_yes hl
  have hw : d.wr at_ zeros = d.write at_ zeros := Disk.wr_yes (hd.code h1 zeros_length)
  refine ⟨e1, by rw [e2]; exact hcw.ly h2 hsl, ?_⟩
  rw [e2]
  refine ⟨by rw [ly_size, hz]; exact hf, hy.2, Int.le_refl _, ?_, fun m x => ?_⟩
  · show says (((d.wr at_ zeros).ly (at_ + 1) (rowSec 1 r)).get (at_ + 1)) 1 = some (1, r)
    rw [hy.1, if_pos rfl]
    exact says_row (n := 1) (by omega) (by omega) hr
  · show says (((d.wr at_ zeros).ly (at_ + 1) (rowSec 1 r)).get (at_ + 0)) 0 = some (m, x) → m < 1
    rw [hy.1, if_neg (by omega), hw, write_get, if_pos (by omega)]
    have := says_zeros 512 0
    intro e
    rw [show zeros = List.replicate 512 0 from rfl, this] at e
    cases e
theorem op_fresh (n : Int) (at_ : Int) : (Disk.fresh n).op at_ = (0, []) := by
  have hz : ∀ (i t : Int), says ((Disk.fresh n).get i) t = none := fun i t => says_zeros 512 t
  show pick (pick (0, []) (says ((Disk.fresh n).get (at_ + 0)) 0)) (says ((Disk.fresh n).get (at_ + 1)) 1) = _
  rw [hz, hz]
  rfl
end
end Go.Proofs.YtfnedeaemjchgaaGreat

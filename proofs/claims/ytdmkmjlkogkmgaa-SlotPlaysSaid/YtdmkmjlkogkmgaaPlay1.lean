/- The device and the document's device side by side: what holds of both, and each call of either in one contract. -/
import Derived.Test.YtdmkmjlkogkmgaaAll
import Derived.Test.YtdmkmjlkogkmgaaNum
import Derived.Test.YtdmkmjlkogkmgaaOver
import Derived.Test.YtdmkmjlkogkmgaaR6
namespace Go.Proofs.Ytdmkmjlkogkmgaa
open Go.RowKit Go.Maps
set_option linter.unusedSimpArgs false
set_option linter.unusedVariables false

theorem num_any (c : Int) (w : World) : Calls Try.prog 25 #[errV c] w fun e w' => e = .returned (.int .i64 c) ∧ w = w' := by
  unfold errV
  by_cases h : c = 0
  · rw [if_pos h, h]
    exact num_nil w
  · rw [if_neg h]
    exact num_err c w h

def Ref.code (R : Ref) (at_ : Int) (n : Nat) : Int := if inB at_ R.n = false then 1 else if n ≠ 512 then 2 else if R.off = true then 3 else 0
def Ref.wr (R : Ref) (at_ : Int) (l : Sec) : Ref := if R.code at_ l.length = 0 then R.write at_.toNat l else if R.code at_ l.length = 3 then R.fall else R

theorem inB_dec (at_ n : Int) : (decide (0 ≤ at_) && decide (at_ < n)) = inB at_ n := rfl
theorem Write_ref_all {w : World} {F : List Nat} {b : RA} {R : Ref} (at_ : Int) (v : Value) (l : Sec) (h : RDev w F b R) (hv : Bytes w v l) (hsep : Off v [b.p]) (hF : ∀ k ∈ F, k < w.heap.size) :
    Calls Try.prog 33 #[.pointer (some ⟨b.p, 0, none⟩), .int .i64 at_, v] w fun e w' => e = .returned (.int .i64 (R.code at_ l.length)) ∧ RDev w' F b (R.wr at_ l) ∧ Only b.bl w w' := by
  unfold Ref.wr Ref.code
  cases hi : inB at_ R.n
  · refine (Write_ref_range at_ v h hi).mono ?_
    rintro e w' ⟨rfl, rfl⟩
    exact ⟨by simp, by simpa using h, Only.refl _ _⟩
  · by_cases h5 : l.length = 512
    · cases hd : R.off
      · have hin := inB_iff.1 hi
        obtain ⟨k, rfl⟩ : ∃ k : Nat, at_ = (k : Int) := ⟨at_.toNat, by omega⟩
        refine (Write_ref_on k v l h (by omega) hv hsep h5 hd hF).mono ?_
        rintro e w' ⟨rfl, h1, h2⟩
        simpa [h5] using And.intro h1 h2
      · refine (Write_ref_off at_ v l h hi hv h5 hd).mono ?_
        rintro e w' ⟨rfl, h1, h2⟩
        simpa [h5] using And.intro h1 h2
    · refine (Write_ref_form at_ v l h hi hv h5).mono ?_
      rintro e w' ⟨rfl, rfl⟩
      simpa [h5] using And.intro h (Only.refl _ _)

def Ref.rcode (R : Ref) (at_ : Int) : Int := if inB at_ R.n = false then 1 else if R.down = true then 3 else 0
def Ref.rget (R : Ref) (at_ : Int) : Sec := if R.rcode at_ = 0 then R.now at_.toNat else []
def Ref.scode (R : Ref) : Int := if R.off = true then 3 else 0
def Ref.sy (R : Ref) : Ref := if R.off = true then R.fall else R.sync
theorem Sync_ref_all {w : World} {F : List Nat} {b : RA} {R : Ref} (h : RDev w F b R) :
    Calls Try.prog 46 #[.pointer (some ⟨b.p, 0, none⟩)] w fun e w' => e = .returned (.int .i64 R.scode) ∧ RDev w' F b R.sy ∧ Only b.bl w w' := by
  unfold Ref.scode Ref.sy
  cases hd : R.off
  · refine (Sync_ref_on h hd).mono ?_
    rintro e w' ⟨rfl, h1, h2⟩
    simpa using And.intro h1 h2
  · refine (Sync_ref_off h hd).mono ?_
    rintro e w' ⟨rfl, h1, h2⟩
    simpa using And.intro h1 h2

/-- Both hold the same. -/
structure Match (D : Disk) (R : Ref) : Prop where
  size : D.size = (R.n : Int)
  now : ∀ i : Nat, i < R.n → D.get i = R.now i
  syn : ∀ i : Nat, i < R.n → (D.old i).getD (D.get i) = R.syn i
  chg : ∀ i : Nat, i < R.n → (D.old i).isSome = R.chg i
  dom : ∀ k : Int, (D.old k).isSome = true → 0 ≤ k ∧ k < (R.n : Int)
  steps : D.met.steps = R.steps
  syncs : D.met.syncs = R.syncs
  armed : D.met.armed = R.armed
  down : D.met.down = R.down
  left : R.armed = true → D.met.left = R.left ∧ 0 ≤ R.left ∧ R.left ≤ 9223372036854775807

theorem upd_same (m : Int → Option Sec) (k : Int) (l : Sec) : upd m k l k = some l := if_pos rfl
theorem upd_other (m : Int → Option Sec) (k z : Int) (l : Sec) (h : ¬ z = k) : upd m k l z = m z := if_neg h
section
variable {D : Disk} {R : Ref} (h : Match D R)
include h
theorem Match.off : D.met.off = R.off := by
  unfold Met.off Ref.off
  rw [h.down, h.armed]
  cases ha : R.armed
  · rfl
  · obtain ⟨h1, h2, _⟩ := h.left ha
    rw [h1]
    congr 1
    rw [Bool.eq_iff_iff]
    simp
    omega
theorem Match.code (at_ : Int) (n : Nat) : D.code at_ n = R.code at_ n := by
  unfold Disk.code Ref.code
  rw [h.size, h.off]
theorem Match.rcode (at_ : Int) : D.rcode at_ = R.rcode at_ := by
  unfold Disk.rcode Ref.rcode
  rw [h.size, h.down]
theorem Match.rget (at_ : Int) : D.rget at_ = R.rget at_ := by
  unfold Disk.rget Ref.rget
  rw [h.rcode]
  by_cases hc : R.rcode at_ = 0
  · rw [if_pos hc, if_pos hc]
    unfold Ref.rcode at hc
    cases hi : inB at_ R.n
    · rw [hi] at hc
      simp at hc
    · have hin := inB_iff.1 hi
      obtain ⟨k, rfl⟩ : ∃ k : Nat, at_ = (k : Int) := ⟨at_.toNat, by omega⟩
      exact h.now k (by omega)
  · rw [if_neg hc, if_neg hc]
theorem Match.scode : D.scode = R.scode := by
  unfold Disk.scode Ref.scode
  rw [h.off]
theorem Match.fall : Match D.fall R.fall := ⟨h.size, h.now, h.syn, h.chg, h.dom, h.steps, h.syncs, h.armed, rfl, h.left⟩
theorem Match.arm {n : Int} (hn : 0 ≤ n) (hm : n ≤ 9223372036854775807) : Match { D with met := D.met.arm n } { R with armed := true, left := n } :=
  ⟨h.size, h.now, h.syn, h.chg, h.dom, h.steps, h.syncs, rfl, h.down, fun _ => ⟨rfl, hn, hm⟩⟩
theorem Match.tickLeft (hd : R.off = false) : (R.tick.armed = true → D.met.tick.left = R.tick.left ∧ 0 ≤ R.tick.left ∧ R.tick.left ≤ 9223372036854775807) := by
  intro ha
  have ha' : R.armed = true := ha
  obtain ⟨h1, h2, h3⟩ := h.left ha'
  have h4 : ¬ R.left < 1 := by
    intro hl
    simp [Ref.off, ha', hl] at hd
  have hw : wrap64 (R.left - 1) = R.left - 1 := by
    unfold wrap64
    omega
  refine ⟨?_, ?_, ?_⟩
  · simp only [Met.tick, Ref.tick]
    rw [h.armed, ha', if_pos rfl, h1]
    rfl
  · simp only [Ref.tick]
    rw [hw]
    omega
  · simp only [Ref.tick]
    rw [hw]
    omega
theorem Match.sync (hd : R.off = false) : Match D.sync R.sync :=
  ⟨h.size, h.now, fun i hi => h.now i hi, fun i hi => rfl, fun k hk => by simp [Disk.sync] at hk, by simp [Disk.sync, Ref.sync, Met.tick, Ref.tick, h.steps], by simp [Disk.sync, Ref.sync, Met.tick, Ref.tick, h.syncs], h.armed, h.down, h.tickLeft hd⟩
theorem Match.sy : Match D.sy R.sy := by
  unfold Disk.sy Ref.sy
  rw [h.off]
  cases hd : R.off
  · exact h.sync hd
  · exact h.fall
theorem Match.write {k : Nat} {l : Sec} (hk : k < R.n) (hd : R.off = false) : Match (D.write k l) (R.write k l) := by
  refine ⟨h.size, fun i hi => ?_, fun i hi => ?_, fun i hi => ?_, fun x hx => ?_, ?_, ?_, h.armed, h.down, h.tickLeft hd⟩
  · show ((D.write k l).now i).getD zeros = updN R.now k l i
    simp only [Disk.write, updN]
    by_cases e : i = k
    · subst e
      simp [upd_same]
    · rw [upd_other _ _ _ _ (by omega), if_neg e]
      exact h.now i hi
  · show ((D.write k l).old i).getD (((D.write k l).now i).getD zeros) = R.syn i
    rw [← h.syn i hi]
    simp only [Disk.write]
    by_cases e : i = k
    · subst e
      cases ho : D.old (i : Int) <;> simp [ho, upd_same]
    · have e' : ¬ (i : Int) = (k : Int) := by omega
      cases ho : D.old (k : Int) <;> simp [upd_other _ _ _ _ e'] <;> rfl
  · show ((D.write k l).old i).isSome = updN R.chg k true i
    simp only [Disk.write, updN]
    by_cases e : i = k
    · subst e
      cases ho : D.old (i : Int) <;> simp [ho, upd_same]
    · have e' : ¬ (i : Int) = (k : Int) := by omega
      rw [if_neg e, ← h.chg i hi]
      cases ho : D.old (k : Int) <;> simp [upd_other _ _ _ _ e']
  · simp only [Disk.write] at hx
    cases ho : D.old (k : Int) with
    | some y =>
      rw [ho] at hx
      exact h.dom x (by simpa using hx)
    | none =>
      rw [ho] at hx
      simp only [Option.isSome_none, Bool.false_eq_true, if_false] at hx
      by_cases e : x = (k : Int)
      · subst e
        exact ⟨by omega, by show (k : Int) < (R.n : Int); omega⟩
      · rw [upd_other _ _ _ _ e] at hx
        exact h.dom x hx
  · simp [Disk.write, Ref.write, Ref.putN, Ref.putC, Met.tick, Ref.tick, h.steps]
  · simp [Disk.write, Ref.write, Ref.putN, Ref.putC, Met.tick, Ref.tick, h.syncs]
theorem Match.wr (at_ : Int) (l : Sec) : Match (D.wr at_ l) (R.wr at_ l) := by
  unfold Disk.wr Ref.wr
  rw [h.code]
  by_cases hc : R.code at_ l.length = 0
  · rw [if_pos hc, if_pos hc]
    unfold Ref.code at hc
    cases hi : inB at_ R.n
    · rw [hi] at hc
      simp at hc
    · have hin := inB_iff.1 hi
      obtain ⟨k, rfl⟩ : ∃ k : Nat, at_ = (k : Int) := ⟨at_.toNat, by omega⟩
      rw [hi] at hc
      have hd : R.off = false := by
        cases ho : R.off
        · rfl
        · rw [ho] at hc
          by_cases h5 : l.length = 512 <;> simp [h5] at hc
      exact h.write (by omega) hd
  · rw [if_neg hc, if_neg hc]
    by_cases h3 : R.code at_ l.length = 3
    · rw [if_pos h3, if_pos h3]
      exact h.fall
    · rw [if_neg h3, if_neg h3]
      exact h
theorem Match.crash (ks : List Int) : Match (D.crash ks) (R.crash ks) := by
  have hg : ∀ i : Nat, i < R.n → (D.crash ks).get i = if (i : Int) ∈ ks then R.now i else R.syn i := fun i hi => by
    rw [crash_get, h.now i hi, ← h.syn i hi, h.now i hi]
  exact ⟨h.size, hg, hg, fun i hi => rfl, fun k hk => by simp [Disk.crash] at hk, h.steps, h.syncs, rfl, rfl, fun ha => by simp [Ref.crash] at ha⟩
/-- The same numbers are unsynced. -/
theorem Match.uns {xs : List Int} (hm : ∀ k, k ∈ xs ↔ (D.old k).isSome = true) : ∀ k, k ∈ xs ↔ k ∈ R.list R.n := fun k => by
  rw [hm, R.list_mem]
  constructor
  · intro hk
    have hd := h.dom k hk
    obtain ⟨i, rfl⟩ : ∃ i : Nat, k = (i : Int) := ⟨k.toNat, by omega⟩
    exact ⟨i, by omega, by rw [← h.chg i (by omega)]; exact hk, rfl⟩
  · rintro ⟨i, hi, hc, rfl⟩
    rw [h.chg i hi]
    exact hc
end

theorem eq_of_rising : ∀ (xs ys : List Int), xs.Pairwise (· < ·) → ys.Pairwise (· < ·) → (∀ k, k ∈ xs ↔ k ∈ ys) → xs = ys
  | [], ys, _, _, h => by
    cases ys with
    | nil => rfl
    | cons y t => exact absurd ((h y).2 (by simp)) (by simp)
  | x :: s, ys, h1, h2, h => by
    cases ys with
    | nil => exact absurd ((h x).1 (by simp)) (by simp)
    | cons y t =>
      rw [List.pairwise_cons] at h1 h2
      have e : x = y := by
        have hx := (h x).1 (by simp)
        have hy := (h y).2 (by simp)
        simp only [List.mem_cons] at hx hy
        rcases hx with hx | hx
        · exact hx
        · rcases hy with hy | hy
          · exact hy.symm
          · have := h1.1 y hy
            have := h2.1 x hx
            omega
      subst e
      congr 1
      refine eq_of_rising s t h1.2 h2.2 (fun k => ?_)
      have hk := h k
      simp only [List.mem_cons] at hk
      constructor
      · intro hs
        have := h1.1 k hs
        rcases hk.1 (.inr hs) with e | ht
        · omega
        · exact ht
      · intro ht
        have := h2.1 k ht
        rcases hk.2 (.inr ht) with e | hs
        · omega
        · exact hs
end Go.Proofs.Ytdmkmjlkogkmgaa

/- One call by both devices, whatever it is; both devices when they are new. -/
import Derived.Test.YtchljhjngnbclaaPlay6
import Derived.Test.YtchljhjngnbclaaLong2
namespace Go.Proofs.Ytchljhjngnbclaa
open Go.RowKit Go.Maps
set_option linter.unusedSimpArgs false
set_option linter.unusedVariables false

section
variable {P : Program} {md : Region.Mode} {ops : Array Oper} {Q : Exit → Act → World → Prop} {S S' : World → Prop}
/-- Midway through a region more may be known of the worlds from here on. -/
theorem wpAnyH_sharpen (hs : ∀ w, S' w → S w) : ∀ {fuel : Nat} {listed : Array Bool} {a : Act} {w : World}, wpAnyH P md ops Q S' fuel listed a w → wpAnyH P md ops Q S fuel listed a w
  | 0, _, _, _, h => h
  | _ + 1, _, _, _, h => ⟨h.1, fun i hi => wpOp_mono (fun _ _ h' => ⟨hs _ h'.1, wpAnyH_sharpen hs h'.2⟩) (h.2 i hi)⟩
end

section
variable {w0 w : World} {a : DA} {b : RA} {D : Disk} {R : Ref} {kind at_ n : Int} {bv kv : Value}
theorem play_all (h : Pair w0 w [] a b D R) (hm : Match D R) (l : Sec) (hv : Bytes w0 bv l) (hl : l.length ≤ 65536) (ks : List Int) (hk : IntsV w0 kv ks) (hkl : ks.length ≤ 10000) (hn : n ≤ 9223372036854775807) :
    Calls Try.prog 14 #[.pointer (some ⟨a.p, 0, none⟩), .pointer (some ⟨b.p, 0, none⟩), .agg (opCells kind at_ n bv kv)] w (PlayPost w0 a b) := by
  by_cases h0 : kind = 0
  · subst h0
    exact play_parts h hm l hv hl
  by_cases h1 : kind = 1
  · subst h1
    exact play_full h hm
  by_cases h2 : kind = 2
  · subst h2
    exact play_read h hm
  by_cases h3 : kind = 3
  · subst h3
    exact play_sync h hm
  by_cases h4 : kind = 4
  · subst h4
    exact play_arm h hm hn
  exact play_crash h hm ks hk (by omega) h0 h1 h2 h3 h4
end

theorem size_st {w0 w : World} {a : DA} {d : Disk} (h : St w0 w a d) (n : Int) (hn : d.size = n) : Calls Try.prog 21 #[.pointer (some ⟨a.p, 0, none⟩)] w fun e w' => e = .returned (.int .i64 n) ∧ w = w' := by
  have := size_any _ _ _ _ _ _ h.dev.blk
  rw [hn] at this
  exact this

/-- What the document's device shows of itself. -/
theorem Pair.shows {w0 w : World} {F : List Nat} {a : DA} {b : RA} {D : Disk} {R : Ref} (h : Pair w0 w F a b D R) :
    w.cell? ⟨b.p, 0, none⟩ = some (.slice (some ⟨b.gN, 0, none⟩) R.n b.cN) ∧ w.cell? ⟨b.p, 3, none⟩ = some (.int .i64 R.steps) ∧ w.cell? ⟨b.p, 4, none⟩ = some (.int .i64 R.syncs) ∧ w.cell? ⟨b.p, 7, none⟩ = some (.bool R.down) :=
  ⟨h.ref.c0, h.ref.c3, h.ref.c4, h.ref.c7⟩

theorem Match.fresh (n : Nat) : Match (.fresh n) (.fresh n) :=
  ⟨rfl, fun _ _ => rfl, fun _ _ => rfl, fun _ _ => rfl, fun k hk => by simp [Disk.fresh] at hk, rfl, rfl, rfl, rfl, fun h => by simp [Ref.fresh] at h⟩

/-- Both when they are new. -/
theorem Pair.fresh' {w0 w1 w2 : World} {a : DA} {b : RA} {n : Nat} (s : St w0 w1 a (.fresh n)) (r : RDev w2 [] b (.fresh n)) (hb : ∀ k ∈ b.bl, w1.heap.size ≤ k) (ho : Only [] w1 w2) : Pair w0 w2 [] a b (.fresh n) (.fresh n) :=
  ⟨s.quiet ho, r, fun k hk => Nat.le_trans s.only.size (hb k hk)⟩

/-- Both answer the same numbers as unsynced. -/
theorem uns_same {D : Disk} {R : Ref} {w w' : World} {v : Value} (hm : Match D R) (h : UnsAll D w (.returned v) w') : IntsV w' v (R.list R.n) ∧ Only [] w w' := by
  obtain ⟨v', xs, e, hi, hx, hp, _, ho⟩ := h
  cases e
  have : xs = R.list R.n := eq_of_rising xs (R.list R.n) hp (pick_rising R.n) (hm.uns hx)
  rw [this] at hi
  exact ⟨hi, ho⟩
theorem uns_st {w0 w : World} {F : List Nat} {a : DA} {b : RA} {D : Disk} {R : Ref} (h : Pair w0 w F a b D R) (hm : Match D R) :
    Calls Try.prog 19 #[.pointer (some ⟨a.p, 0, none⟩)] w fun e w' => ∃ v, e = .returned v ∧ IntsV w' v (R.list R.n) ∧ Only [] w w' := by
  refine (unsynced_any a D w h.st.dev).mono ?_
  intro e w' he
  obtain ⟨v, xs, rfl, r⟩ := id he
  exact ⟨v, rfl, uns_same hm he⟩
end Go.Proofs.Ytchljhjngnbclaa

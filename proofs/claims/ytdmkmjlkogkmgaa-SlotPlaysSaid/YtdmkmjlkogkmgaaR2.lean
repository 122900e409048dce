/- The document's own device: step, Read, settle, Sync. -/
import Derived.Test.YtdmkmjlkogkmgaaR1
namespace Go.Proofs.Ytdmkmjlkogkmgaa
open Go.RowKit Go.Maps
set_option linter.unusedSimpArgs false
set_option linter.unusedVariables false

theorem step_ref_off {w : World} {F : List Nat} {b : RA} {R : Ref} (h : RDev w F b R) (hd : R.off = true) :
    Calls Try.prog 54 #[.pointer (some ⟨b.p, 0, none⟩)] w fun e w' => e = .returned (.int .i64 3) ∧ RDev w' F b R.fall ∧ Only [b.p] w w' := by
  have c5 := h.c5
  have c6 := h.c6
  have c7 := h.c7
  have f7 := h.free 7
  have hk := heap_cell (g := b.p) (i := 7) (.bool true) h.blk
  have c7' : (w.setCell ⟨b.p, 7, none⟩ (.bool true)).cell? ⟨b.p, 7, none⟩ = some (.bool true) := World.cell?_setCell_same _ _ _ c7
  have ho : Only [b.p] w (w.setCell ⟨b.p, 7, none⟩ (.bool true)) := (Only.refl _ _).setCell (by simp) _
  have ht : RDev (w.setCell ⟨b.p, 7, none⟩ (.bool true)) F b R.fall := h.turn ho hk rfl rfl rfl rfl
  have HT := Lib.hid ht
  have HO := Lib.hid ho
  have H := Lib.hid h
  clear h hk ho ht
  obtain ⟨n, now, syn, chg, steps, syncs, armed, left, down⟩ := R
  dsimp only at c5 c6 c7
  cases armed
  · obtain rfl : down = true := by simpa [Ref.off] using hd
    clear hd
    go_enter Try.func54, Try.ntmps54
    go_wp2
    go_ret
    exact ⟨rfl, H.out, Only.refl _ _⟩
  · by_cases hl : left < 1
    · clear hd
      go_enter Try.func54, Try.ntmps54
      go_wp2
      go_ret
      exact ⟨rfl, HT.out, HO.out⟩
    · obtain rfl : down = true := by simpa [Ref.off, hl] using hd
      clear hd
      go_enter Try.func54, Try.ntmps54
      go_wp2
      go_ret
      exact ⟨rfl, H.out, Only.refl _ _⟩

theorem step_ref_on {w : World} {F : List Nat} {b : RA} {R : Ref} (h : RDev w F b R) (hd : R.off = false) :
    Calls Try.prog 54 #[.pointer (some ⟨b.p, 0, none⟩)] w fun e w' => e = .returned (.int .i64 0) ∧ RDev w' F b R.tick ∧ Only [b.p] w w' := by
  have c3 := h.c3
  have c5 := h.c5
  have c6 := h.c6
  have c7 := h.c7
  have f3 := h.free 3
  have f6 := h.free 6
  have hk := heap_cell (g := b.p) (i := 3) (.int .i64 (wrap64 (R.steps + 1))) (heap_cell (g := b.p) (i := 6) (.int .i64 (wrap64 (R.left - 1))) h.blk)
  have c3' : (w.setCell ⟨b.p, 6, none⟩ (.int .i64 (wrap64 (R.left - 1)))).cell? ⟨b.p, 3, none⟩ = some (.int .i64 R.steps) := (World.cell?_setCell_other _ ⟨b.p, 6, none⟩ ⟨b.p, 3, none⟩ _ (by simp)).trans c3
  have f3' : (w.setCell ⟨b.p, 6, none⟩ (.int .i64 (wrap64 (R.left - 1)))).frozen? ⟨b.p, 3, none⟩ = false := by simpa using f3
  have ho : Only [b.p] w ((w.setCell ⟨b.p, 6, none⟩ (.int .i64 (wrap64 (R.left - 1)))).setCell ⟨b.p, 3, none⟩ (.int .i64 (wrap64 (R.steps + 1)))) := ((Only.refl _ _).setCell (by simp) _).setCell (by simp) _
  have ht : RDev ((w.setCell ⟨b.p, 6, none⟩ (.int .i64 (wrap64 (R.left - 1)))).setCell ⟨b.p, 3, none⟩ (.int .i64 (wrap64 (R.steps + 1)))) F b R.tick := h.turn ho hk rfl rfl rfl rfl
  have HT := Lib.hid ht
  have HO := Lib.hid ho
  clear h hk ho ht
  obtain ⟨n, now, syn, chg, steps, syncs, armed, left, down⟩ := R
  dsimp only at c3 c5 c6 c7 c3' f3' HT HO
  obtain rfl : down = false := by cases down <;> simp_all [Ref.off]
  cases armed
  · clear hd
    go_enter Try.func54, Try.ntmps54
    go_wp2
    go_ret
    exact ⟨rfl, HT.out, HO.out⟩
  · have hl : ¬ left < 1 := by simpa [Ref.off] using hd
    clear hd
    go_enter Try.func54, Try.ntmps54
    go_wp2
    go_ret
    exact ⟨rfl, HT.out, HO.out⟩

def Ref.settleTo (R : Ref) (k : Nat) : Ref := { R with syn := fun i => if i < k then R.now i else R.syn i, chg := fun i => if i < k then false else R.chg i }
def Ref.settle (R : Ref) : Ref := { R with syn := R.now, chg := fun _ => false }

theorem Rows.ext {w : World} {F : List Nat} {g n : Nat} {f f' : Nat → Sec} (h : Rows w F g n f) (he : ∀ i, i < n → f i = f' i) : Rows w F g n f' := by
  obtain ⟨cur, h1, h2⟩ := h
  exact ⟨cur, h1, fun i hi => let ⟨v, hv, hr⟩ := h2 i hi; ⟨v, hv, he i hi ▸ hr⟩⟩
theorem Bools.ext {w : World} {g n : Nat} {f f' : Nat → Bool} (h : Bools w g n f) (he : ∀ i, i < n → f i = f' i) : Bools w g n f' := by
  obtain ⟨cur, h1, h2⟩ := h
  exact ⟨cur, h1, fun i hi => he i hi ▸ h2 i hi⟩
def Ref.putS (R : Ref) (k : Nat) (l : Sec) : Ref := { R with syn := updN R.syn k l }
def Ref.putN (R : Ref) (k : Nat) (l : Sec) : Ref := { R with now := updN R.now k l }
def Ref.putC (R : Ref) (k : Nat) (x : Bool) : Ref := { R with chg := updN R.chg k x }
/-- One row of the synced ones has turned. -/
theorem RDev.setS {w : World} {F : List Nat} {b : RA} {R : Ref} {v : Value} {l : Sec} {k : Nat} (h : RDev w F b R) (hv : RowB w F v l) : RDev (w.setCell ⟨b.gS, k, none⟩ v) F b (R.putS k l) := by
  obtain ⟨c1, c2, c3, c4, h1, h2, h3, h4⟩ := h.types
  have ho : Only [b.gS] w (w.setCell ⟨b.gS, k, none⟩ v) := (Only.refl _ _).setCell (by simp) _
  have hs := h.own_foreign (S := [b.gS]) (by simp [RA.bl])
  exact ⟨ho.heap h.blk (by simpa using type_ne h1 h3 (by decide)), h.now.kept ho hs (by simpa using h.ne), h.syn.set hv, h.chg.kept ho (by simpa using type_ne h4 h3 (by decide)), h.ne, h.hi⟩
theorem RDev.setN {w : World} {F : List Nat} {b : RA} {R : Ref} {v : Value} {l : Sec} {k : Nat} (h : RDev w F b R) (hv : RowB w F v l) : RDev (w.setCell ⟨b.gN, k, none⟩ v) F b (R.putN k l) := by
  obtain ⟨c1, c2, c3, c4, h1, h2, h3, h4⟩ := h.types
  have ho : Only [b.gN] w (w.setCell ⟨b.gN, k, none⟩ v) := (Only.refl _ _).setCell (by simp) _
  have hs := h.own_foreign (S := [b.gN]) (by simp [RA.bl])
  exact ⟨ho.heap h.blk (by simpa using type_ne h1 h2 (by decide)), h.now.set hv, h.syn.kept ho hs (by simpa using h.ne.symm), h.chg.kept ho (by simpa using type_ne h4 h2 (by decide)), h.ne, h.hi⟩
theorem RDev.setC {w : World} {F : List Nat} {b : RA} {R : Ref} {x : Bool} {k : Nat} (h : RDev w F b R) : RDev (w.setCell ⟨b.gC, k, none⟩ (.bool x)) F b (R.putC k x) := by
  obtain ⟨c1, c2, c3, c4, h1, h2, h3, h4⟩ := h.types
  have ho : Only [b.gC] w (w.setCell ⟨b.gC, k, none⟩ (.bool x)) := (Only.refl _ _).setCell (by simp) _
  have hs := h.own_foreign (S := [b.gC]) (by simp [RA.bl])
  exact ⟨ho.heap h.blk (by simpa using type_ne h1 h4 (by decide)), h.now.kept ho hs (by simpa using type_ne h2 h4 (by decide)), h.syn.kept ho hs (by simpa using type_ne h3 h4 (by decide)), h.chg.set, h.ne, h.hi⟩
theorem RDev.same {w : World} {F : List Nat} {b : RA} {R R' : Ref} (h : RDev w F b R) (hc : R'.cells b = R.cells b) (hn : R'.n = R.n) (h1 : ∀ i, i < R.n → R.now i = R'.now i) (h2 : ∀ i, i < R.n → R.syn i = R'.syn i) (h3 : ∀ i, i < R.n → R.chg i = R'.chg i) : RDev w F b R' :=
  ⟨hc ▸ h.blk, hn ▸ h.now.ext h1, hn ▸ h.syn.ext h2, hn ▸ h.chg.ext h3, h.ne, hn ▸ h.hi⟩
end Go.Proofs.Ytdmkmjlkogkmgaa

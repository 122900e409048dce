/- long: a script that is not long has short calls. -/
import Derived.Test.YtchljhjngnbclaaLong
namespace Go.Proofs.Ytchljhjngnbclaa
open Go.RowKit Go.Maps
set_option linter.unusedSimpArgs false

def ShortTo (os : List OpR) (k : Nat) : Prop := ∀ (i : Nat) (o : OpR), i < k → os[i]? = some o → o.bytes.length ≤ 65536 ∧ o.keep.length ≤ 10000
theorem ShortTo.succ {os : List OpR} {k : Nat} (h : ShortTo os k) {o : OpR} (ho : os[k]? = some o) (h1 : o.bytes.length ≤ 65536) (h2 : o.keep.length ≤ 10000) : ShortTo os (k + 1) := fun i o' hi hio => by
  by_cases e : i = k
  · subst e
    rw [ho] at hio
    cases hio
    exact ⟨h1, h2⟩
  · exact h i o' (by omega) hio
def LongAll (os : List OpR) (w : World) (e : Ending) (w' : World) : Prop := ∃ x : Bool, e = .returned (.bool x) ∧ (x = false → os.length ≤ 400 ∧ ShortTo os os.length) ∧ Only [] w w'
theorem LongAll.mk' {os : List OpR} {w w' : World} {x y : Bool} (hx : x = y) (h : y = false → os.length ≤ 400 ∧ ShortTo os os.length) (ho : Only [] w w') : LongAll os w (.returned (.bool x)) w' := ⟨x, rfl, fun e => h (hx ▸ e), ho⟩

set_option maxRecDepth 100000 in
theorem long_all (v : Value) (os : List OpR) (w : World) (h : Script w v os) (hlen : os.length ≤ maxLen) :
    Calls Try.prog 13 #[v] w (LongAll os w) := by
  have h' := h
  obtain ⟨a, cap, rfl, _⟩ := h'
  have HS := Lib.hid h
  have HM : os.length ≤ 9223372036854775807 := by unfold maxLen at hlen; omega
  clear h hlen
  go_enter Try.func13, Try.ntmps13
  go_wp2
  go_loopw [3, 5, 8] (fun n _ i wr => ∃ (k : Nat) (m : Int), k ≤ os.length ∧ i = .int .i64 k ∧ n = .int .i64 m ∧ (k : Int) ≤ m ∧ m ≤ 400 ∧ ShortTo os k ∧ Only [] w wr) (fun _ _ i _ => os.length - (intOf i).toNat)
  case atStart => exact ⟨0, 0, by omega, rfl, rfl, by omega, by omega, (fun i o hi => by omega), Only.refl _ _⟩
  case round =>
    obtain ⟨k, m, hk, rfl, rfl, hkm, hm4, hst, ho⟩ := hrel
    by_cases hlt : k < os.length
    · have hkl : os[k]? = some os[k] := List.getElem?_eq_getElem hlt
      obtain ⟨a', cap', hv, hc⟩ := HS.out.kept ho
      obtain ⟨b, off, bv, kv, ha, c0, c1, c2, c3, c4, hb, hkv, _, _, _, hbl, hkl2⟩ := hc k _ hkl
      obtain ⟨ba, bcap, hbv, _⟩ := hb
      obtain ⟨ka, kcap, hkv', _⟩ := hkv
      cases hv
      subst ha
      subst hbv
      subst hkv'
      have hs2 : os[k].bytes.length ≤ 65536 → os[k].keep.length ≤ 10000 → ShortTo os (k + 1) := fun h1 h2 => hst.succ hkl h1 h2
      generalize os[k].bytes.length = bl at c3 hbl hs2
      generalize os[k].keep.length = kl at c4 hkl2 hs2
      have hbl' : bl ≤ 9223372036854775807 := by unfold maxLen at hbl; omega
      have hkl' : kl ≤ 9223372036854775807 := by unfold maxLen at hkl2; omega
      have HS2 := Lib.hid hs2
      have HST := Lib.hid hst
      clear hc hkl hbl hkl2 hs2 hst
      go_wp2
      · go_ret
        exact LongAll.mk' rfl (fun h => by cases h) (ho.alloc _)
      · go_roundw
        case rel => exact ⟨k + 1, _, by omega, by go_num, rfl, by omega, by omega, HS2.out (by omega) (by omega), ho.alloc _⟩
        case measure => simp [intOf]; omega
      · go_ret
        exact LongAll.mk' rfl (fun h => by cases h) (ho.alloc _)
    · obtain rfl : k = os.length := by omega
      have HST := Lib.hid hst
      clear hst
      go_wp2
      go_ret
      exact LongAll.mk' rfl (fun _ => ⟨by omega, HST.out⟩) ho
end Go.Proofs.Ytchljhjngnbclaa

/- Over: bytes that are written over. -/
import Derived.Test.YtfnedeaemjchgaaGreatB2
namespace Go.Proofs.YtfnedeaemjchgaaGreat
open Go.RowKit Go.Maps
set_option linter.unusedSimpArgs false
set_option linter.unusedVariables false

set_option maxRecDepth 100000 in
theorem over_any (v : Value) (n : Nat) (w : World) (h : Row w v n) (hn : n ≤ 4611686018427387904) :
    Calls Tryz.prog 32 #[v] w fun e w' => e = .returned (.tuple #[]) ∧ Row w' v n ∧ Only v.ownBlock.toList w w' := by
  obtain ⟨a, cap, rfl, hc⟩ := h.shape
  have H := Lib.hid h
  clear h
  go_enter Tryz.func32, Tryz.ntmps32
  go_wp2
  go_loopw [2, 5] (fun _ i wr => ∃ k : Nat, k ≤ n ∧ i = .int .i64 k ∧ Row wr (.slice a n cap) n ∧ Only (Value.slice a n cap).ownBlock.toList w wr) (fun _ i _ => n - (intOf i).toNat)
  case atStart => exact ⟨0, by omega, rfl, H.out, Only.refl _ _⟩
  case round =>
    clear H
    obtain ⟨k, hk, rfl, hr, ho⟩ := hrel
    by_cases hlt : k < n
    · have hr' := hr
      obtain ⟨g, cur, rfl, hg, hs, _, hv⟩ := hr'.at_ (by omega)
      obtain ⟨c, hc'⟩ := hv k hlt
      have e1 : wr.cell? ⟨g, k, none⟩ = some (.int .u8 c) := by rw [cell_at k hg]; exact hc'
      have e2 : wr.frozen? ⟨g, k, none⟩ = false := free_at k hg
      have k0 : (0 : Int) ≤ (k : Int) := by omega
      have k1 : (k : Int) < (n : Int) := by omega
      have hset := Lib.hid (hr.set (g := g) (i := k) (c := bits .xor .u8 c 255))
      have hof := Lib.hid (ho.setCell (p := ⟨g, k, none⟩) (.inl (by simp [Value.ownBlock])) (.int .u8 (bits .xor .u8 c 255)))
      clear hr ho hg hs hv hc'
      go_wp2
      go_roundw
      case rel => exact ⟨k + 1, by omega, by go_num, hset.out, hof.out⟩
      case measure => simp [intOf]; omega
    · obtain rfl : k = n := by omega
      go_wp2
      go_returns
      exact ⟨rfl, hr, ho⟩
end Go.Proofs.YtfnedeaemjchgaaGreat

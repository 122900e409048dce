/- The same tokens, side by side. -/
import Derived.Test.YtajkdkemnchfnaaDoorC6
namespace Go.Proofs.YtajkdkemnchfnaaDoor
open Go.RowKit Go.Maps
set_option linter.unusedSimpArgs false
set_option linter.unusedVariables false

theorem only_drewN {S : List Nat} {a w : World} {n : Nat} (h : Only S a w) : Only S a (w.drewN n) := ⟨h.os, h.tape, h.output, h.size, h.block⟩
set_option maxRecDepth 100000 in
set_option maxHeartbeats 4000000 in
theorem Same_yes (v1 v2 : Value) (l : List Tok) (w : World) (hl : l.length ≤ 1048576) (h1 : TV w v1 l) (h2 : TV w v2 l) :
    Calls Tryd.prog 13 #[v1, v2] w fun e w' => e = .returned (.bool true) ∧ Only [] w w' := by
  have H1 := Lib.hid h1
  have H2 := Lib.hid h2
  obtain ⟨a1, c1, rfl, hc1, -⟩ := h1
  obtain ⟨a2, c2, rfl, hc2, -⟩ := h2
  obtain ⟨n, hn⟩ : ∃ n, n = l.length := ⟨_, rfl⟩
  rw [← hn] at hl hc1 hc2 ⊢
  rw [← hn] at H1 H2
  have HN := Lib.hid hn
  clear hn
  go_enter Tryd.func13, Tryd.ntmps13
  go_wp2
  obtain ⟨wo, hwo⟩ : ∃ wo : World, wo = w := ⟨_, rfl⟩
  go_loopw [5] (fun a wr => ∃ k : Nat, a = .int .i64 k ∧ k ≤ n ∧ Hid (Only [] wo wr)) (fun a _ => n - (intOf a).toNat)
  case atStart => exact ⟨0, rfl, Nat.zero_le _, Lib.hid (by rw [hwo]; exact Only.refl _ _)⟩
  case round =>
    obtain ⟨k, rfl, hk, HO⟩ := hrel
    by_cases hlt : k < n
    · obtain ⟨x, hx⟩ : ∃ x, l[k]? = some x := ⟨_, List.getElem?_eq_getElem (by rw [← HN.out]; exact hlt)⟩
      obtain ⟨b1, d1, e1, -, p1, p2, p3⟩ := (H1.out.quiet (by rw [← hwo]; exact HO.out)).at_ hx
      obtain ⟨b2, d2, e2, -, q1, q2, q3⟩ := (H2.out.quiet (by rw [← hwo]; exact HO.out)).at_ hx
      injection e1 with e1 e1' e1''
      injection e2 with e2 e2' e2''
      subst e1 e2
      generalize strOf x.text = T at p2 q2
      generalize x.kind = kd at p1 q1
      generalize x.pos = ps at p3 q3
      clear e1' e1'' e2' e2'' hx
      have hk0 : 0 ≤ (k : Int) := by omega
      have hki : (k : Int) < n := by omega
      go_wp2
      go_quiet (fail)
      go_wp2
      go_roundw
      case rel => exact ⟨k + 1, by go_num, by omega, Lib.hid (only_drewN HO.out)⟩
      case measure => simp [intOf]; omega
    · obtain rfl : k = n := by omega
      go_wp2
      go_ret
      exact ⟨rfl, by rw [← hwo]; exact HO.out⟩
end Go.Proofs.YtajkdkemnchfnaaDoor

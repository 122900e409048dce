/- A fault as numbers; the chapter's examples. -/
import Derived.Test.YtajkdkemnchfnaaDoorC7
namespace Go.Proofs.YtajkdkemnchfnaaDoor
open Go.RowKit Go.Maps
set_option linter.unusedSimpArgs false
set_option linter.unusedVariables false

theorem Fault_nil (w : World) : Calls Tryd.prog 12 #[.nilIface] w fun e w' => e = .returned (.tuple #[.int .i64 0, .int .i64 0]) ∧ w = w' := by
  go_enter Tryd.func12, Tryd.ntmps12
  go_wp2
  go_ret2
  exact ⟨rfl, rfl⟩
theorem assert_fault (g : Nat) (w : World) : (Instr.typeAssert (.iface 43 (.pointer (some ⟨g, 0, none⟩))) 25 43 true).run Tryd.prog w = .ok (.tuple #[.pointer (some ⟨g, 0, none⟩), .bool true]) w := by kernel_rfl
theorem Fault_is (ev : Value) (c p : Nat) (w : World) (h : FaultIs w ev c p) : Calls Tryd.prog 12 #[ev] w fun e w' => e = .returned (.tuple #[.int .i64 c, .int .i64 p]) ∧ Only [] w w' := by
  obtain ⟨g, rfl, h1, h2⟩ := h
  have q := assert_fault g w
  go_enter Tryd.func12, Tryd.ntmps12
  go_wp2
  go_quiet (fail)
  go_wp2
  go_ret2
  exact ⟨rfl, by refine ⟨rfl, rfl, rfl, Nat.le_refl _, fun _ _ _ => rfl⟩⟩

def exL : Sec := [120, 43, 61, 49, 48, 59]
def exT : List Tok := [⟨1, [120], 0⟩, ⟨3, [43, 61], 1⟩, ⟨2, [49, 48], 3⟩, ⟨3, [59], 5⟩, ⟨4, [], 6⟩]
theorem ex_ok : lex [120, 43, 61, 49, 48, 59] = .ok exT := by kernel_rfl
theorem ex_bad : lex [97, 32, 38, 32, 98] = .error 2 := by kernel_rfl
theorem TokRes.ok {l : Sec} {base : Nat} {v ev : Value} {w' : World} {ts : List Tok} (h : TokRes l base v ev w') (hl : l.length ≤ 480) (ht : lex l = .ok ts) : ev = .nilIface ∧ OTk w' base v ts := by
  rcases h with ⟨h, _⟩ | ⟨_, p, h, _⟩ | ⟨_, us, h, he, ho⟩
  · omega
  · rw [ht] at h
    cases h
  · rw [ht] at h
    cases h
    exact ⟨he, ho⟩
theorem TokRes.bad {l : Sec} {base : Nat} {v ev : Value} {w' : World} {p : Nat} (h : TokRes l base v ev w') (hl : l.length ≤ 480) (ht : lex l = .error p) : v = .slice none 0 0 ∧ FaultIs w' ev 7 p := by
  rcases h with ⟨h, _⟩ | ⟨_, q, h, hv, hf⟩ | ⟨_, us, h, _⟩
  · omega
  · rw [ht] at h
    cases h
    exact ⟨hv, hf⟩
  · rw [ht] at h
    cases h
set_option maxRecDepth 100000 in
set_option maxHeartbeats 2000000 in
theorem alive6_any (w : World) (he : Errs w) : Calls Tryd.prog 9 #[] w fun e w' => e = .returned (.bool true) ∧ Only [] w w' := by
  have K1 := Tokens_any ⟨#[120, 43, 61, 49, 48, 59]⟩ w (by decide) he
  have HE := Lib.hid he
  clear he
  go_enter Tryd.func9, Tryd.ntmps9
  go_wp2_with fail
  refine K1.mono ?_
  rintro e w1 ⟨v, ev, rfl, hr, o1⟩
  obtain ⟨rfl, hown⟩ := hr.ok (by decide) ex_ok
  have HT := Lib.hid hown.tv
  have HO1 := Lib.hid o1
  have K2 := Tokens_any ⟨#[97, 32, 38, 32, 98]⟩ w1 (by decide) (HE.out.kept o1)
  clear K1 hr hown o1
  go_wp2_with fail
  refine K2.mono ?_
  rintro e w2 ⟨v2, ev2, rfl, hr, o2⟩
  obtain ⟨rfl, hf⟩ := hr.bad (by decide) ex_bad
  have K3 := Fault_is ev2 7 2 w2 hf
  have HT2 := Lib.hid (HT.out.quiet o2)
  have HO2 := Lib.hid (HO1.out.trans o2 (by simp))
  clear K2 hr hf o2 HT HO1
  go_wp2_with fail
  refine K3.mono ?_
  rintro e w3 ⟨rfl, o3⟩
  have HT3 := HT2.out.quiet o3
  have HO3 := Lib.hid (HO2.out.trans o3 (by simp))
  clear K3 o3 HT2 HO2
  obtain ⟨b, cap, hv, hcap, c3, c4, c5⟩ := HT3.at_ (i := 1) (x := ⟨3, [43, 61], 1⟩) rfl
  obtain ⟨b', cap', hv', -, c12, -, -⟩ := HT3.at_ (i := 4) (x := ⟨4, [], 6⟩) rfl
  obtain rfl := hv
  cases hv'
  simp only [exT, List.length_cons, List.length_nil, Nat.reduceAdd, Nat.reduceMul] at hcap c3 c4 c5 c12 ⊢
  clear HT3
  have e2 : strOf [43, 61] = ⟨#[43, 61]⟩ := rfl
  rw [e2] at c4
  clear e2
  go_wp2
  go_ret
  exact ⟨rfl, HO3.out⟩
end Go.Proofs.YtajkdkemnchfnaaDoor

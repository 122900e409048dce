/- What is read from a text is whole: its parts are as many as their kinds ask for, and no more than its tokens. No program. -/
import Derived.Test.YtiaeagpepfmfgaaKb
import Derived.Test.YtiaeagpepfmfgaaGb
import Derived.Test.YtiaeagpepfmfgaaCb
import Derived.Test.YtiaeagpepfmfgaaG12
import Derived.Carry
import Derived.BigQuiet
namespace Go.Proofs.Ytiaeagpepfmfgaa
open Go.RowKit Go.Maps
set_option linter.unusedSimpArgs false
set_option linter.unusedVariables false

theorem opr_lvl {x : Sec} (h : lvl x ≠ 0) : (opr x).2 ≠ 0 := by
  have h0 : x ∈ [[124, 124], [38, 38], [60], [60, 61], [62], [62, 61], [61, 61], [33, 61], [43], [45], [42], [47], [37]] := by
    apply Classical.byContradiction
    intro hn
    simp only [List.mem_cons, List.not_mem_nil, or_false, not_or] at hn
    refine h ?_
    unfold lvl
    simp only [hn, if_false, or_self]
  have key : ∀ y ∈ ([[124, 124], [38, 38], [60], [60, 61], [62], [62, 61], [61, 61], [33, 61], [43], [45], [42], [47], [37]] : List Sec), (opr y).2 ≠ 0 := by decide
  exact key x h0
theorem sizeE_mk (k n : Int) (nm : Sec) (xs : List E) (p : Int) : sizeE (.mk k n nm xs p) = 1 + sizeL xs := by conv => lhs; unfold sizeE
theorem sizeL_nil : sizeL [] = 0 := by unfold sizeL; rfl
theorem sizeL_cons (e : E) (es : List E) : sizeL (e :: es) = sizeE e + sizeL es := by conv => lhs; unfold sizeL
theorem sizeS_mk (k : Int) (nm : Sec) (xs : List E) (n : Int) (bd els : List St) (p : Int) : sizeS (.mk k nm xs n bd els p) = 1 + sizeL xs + sizeSs bd + sizeSs els := by conv => lhs; unfold sizeS
theorem sizeSs_nil : sizeSs [] = 0 := by unfold sizeSs; rfl
theorem sizeSs_cons (e : St) (es : List St) : sizeSs (e :: es) = sizeS e + sizeSs es := by conv => lhs; unfold sizeSs
theorem wL_nil : wL [] := by unfold wL; trivial
theorem wL_one {e : E} (h : wE e) : wL [e] := by unfold wL; exact ⟨h, wL_nil⟩
theorem wL_two {e f : E} (h : wE e) (h2 : wE f) : wL [e, f] := by unfold wL; exact ⟨h, wL_one h2⟩
theorem wB_nil : wB [] := by unfold wB; trivial
section
variable {ts : List Tok}
theorem whole_expr (hx : ∀ i, (xAt ts i).length ≤ 65536) : ∀ f : Nat,
    (∀ i least dp e a, exprR ts f i least dp = .ok (e, a) → wE e ∧ sizeE e + i ≤ a) ∧ (∀ l i least most dp e a, wE l → loopR ts f l i least most dp = .ok (e, a) → wE e ∧ sizeE e + i ≤ a + sizeE l) ∧
    (∀ i dp e a, smallR ts f i dp = .ok (e, a) → wE e ∧ sizeE e + i ≤ a) ∧ (∀ i dp b c e a, aroundR ts f i dp b c = .ok (e, a) → wE e ∧ sizeE e + i + 2 ≤ a) := by
  intro f
  induction f with
  | zero =>
    refine ⟨fun i _ _ e a h => ?_, fun _ i _ _ _ e a _ h => ?_, fun i _ e a h => ?_, fun i _ _ _ e a h => ?_⟩
    · unfold exprR at h; cases h
    · unfold loopR at h; cases h
    · unfold smallR at h; cases h
    · unfold aroundR at h; cases h
  | succ f ih =>
    obtain ⟨ih1, ih2, ih3, ih4⟩ := ih
    refine ⟨fun i least dp e a h => ?_, fun l i least most dp e a hl h => ?_, fun i dp e a h => ?_, fun i dp b c e a h => ?_⟩
    · unfold exprR at h
      split at h
      · cases h
      · rename_i l b hs
        obtain ⟨h1, h2⟩ := ih3 _ _ _ _ hs
        obtain ⟨h3, h4⟩ := ih2 _ _ _ _ _ _ _ h1 h
        exact ⟨h3, by omega⟩
    · unfold loopR at h
      split at h
      · rename_i hc
        split at h
        · cases h
        · rename_i r b hs
          obtain ⟨h1, h2⟩ := ih1 _ _ _ _ _ hs
          have hw : wE (.mk 6 0 (xAt ts i) [l, r] (pAt ts i)) := by
            unfold wE
            exact ⟨.inr (.inr ⟨rfl, rfl, opr_lvl (fun e => hc.2 (.inr (.inr e)))⟩), hx i, wL_two hl h1⟩
          obtain ⟨h3, h4⟩ := ih2 _ _ _ _ _ _ _ hw h
          refine ⟨h3, ?_⟩
          have : sizeE (.mk 6 0 (xAt ts i) [l, r] (pAt ts i)) = 1 + (sizeE l + (sizeE r + 0)) := by rw [sizeE_mk, sizeL_cons, sizeL_cons, sizeL_nil]
          omega
      · cases h
        exact ⟨hl, by omega⟩
    · unfold smallR at h
      split at h
      · split at h
        · cases h
        · split at h
          · cases h
          · rename_i e' b hs
            cases h
            obtain ⟨h1, h2⟩ := ih3 _ _ _ _ hs
            refine ⟨?_, ?_⟩
            · unfold wE
              refine ⟨.inr (.inl ⟨?_, rfl⟩), by simp, wL_one h1⟩
              split <;> simp
            · have : ∀ k p, sizeE (.mk k 0 [] [e'] p) = 1 + (sizeE e' + 0) := fun k p => by rw [sizeE_mk, sizeL_cons, sizeL_nil]
              rw [this]; omega
      · split at h
        · split at h
          · cases h
          · rename_i e' b hs
            cases h
            obtain ⟨h1, h2⟩ := ih4 _ _ _ _ _ _ hs
            refine ⟨?_, ?_⟩
            · unfold wE
              exact ⟨.inr (.inl ⟨.inl rfl, rfl⟩), by simp, wL_one h1⟩
            · have : ∀ k p, sizeE (.mk k 0 [] [e'] p) = 1 + (sizeE e' + 0) := fun k p => by rw [sizeE_mk, sizeL_cons, sizeL_nil]
              rw [this]; omega
        · split at h
          · obtain ⟨h1, h2⟩ := ih4 _ _ _ _ _ _ h
            exact ⟨h1, by omega⟩
          · have one : ∀ k n s p, sizeE (.mk k n s [] p) = 1 := fun k n s p => by rw [sizeE_mk, sizeL_nil]
            split at h
            · cases h
              refine ⟨?_, by rw [one]; omega⟩
              unfold wE
              exact ⟨.inl ⟨.inl rfl, rfl⟩, by simp, wL_nil⟩
            · split at h
              · cases h
                refine ⟨?_, by rw [one]; omega⟩
                unfold wE
                exact ⟨.inl ⟨.inr rfl, rfl⟩, hx i, wL_nil⟩
              · split at h
                · cases h
                · rename_i s b hs
                  cases h
                  unfold wordT at hs
                  split at hs
                  · cases hs
                    refine ⟨?_, by rw [one]; omega⟩
                    unfold wE
                    exact ⟨.inl ⟨.inr rfl, rfl⟩, hx i, wL_nil⟩
                  · cases hs
    · unfold aroundR at h
      split at h
      · cases h
      · split at h
        · split at h
          · cases h
          · rename_i e' b' hs
            split at h
            · cases h
            · rename_i a' he
              cases h
              obtain ⟨h1, h2⟩ := ih1 _ _ _ _ _ hs
              unfold eatT at he
              split at he
              · cases he
                exact ⟨h1, by omega⟩
              · cases he
        · cases h
theorem whole_exprT (hx : ∀ i, (xAt ts i).length ≤ 65536) {i dp a : Nat} {e : E} (h : exprT ts i dp = .ok (e, a)) : wE e ∧ sizeE e + i ≤ a := (whole_expr hx _).1 _ _ _ _ _ h
theorem whole_aroundT (hx : ∀ i, (xAt ts i).length ≤ 65536) {i dp a : Nat} {e : E} (h : aroundT ts i dp = .ok (e, a)) : wE e ∧ sizeE e + i ≤ a := by
  obtain ⟨h1, h2⟩ := (whole_expr hx _).2.2.2 _ _ _ _ _ _ h
  exact ⟨h1, by omega⟩
theorem eatT_ok {i a : Nat} {x : Sec} (h : eatT ts i x = .ok a) : a = i + 1 := by
  unfold eatT at h
  split at h <;> cases h
  rfl
theorem wordT_ok {i a : Nat} {s : Sec} (h : wordT ts i = .ok (s, a)) : s = xAt ts i ∧ a = i + 1 := by
  unfold wordT at h
  split at h <;> cases h
  exact ⟨rfl, rfl⟩
theorem numT_ok {i a : Nat} {n : Int} (h : numT ts i = .ok (n, a)) : kAt ts i = 2 ∧ n = numW (xAt ts i) ∧ a = i + 1 := by
  unfold numT at h
  split at h <;> cases h
  rename_i hk
  exact ⟨hk, rfl, rfl⟩
theorem wS_two {k : Int} (hk : k = 2 ∨ k = 3 ∨ k = 4 ∨ k = 5) {l r : E} (h1 : wE l) (h2 : wE r) (p : Int) : wS (.mk k [] [l, r] 0 [] [] p) := by
  unfold wS
  exact ⟨.inr (.inl ⟨hk, rfl⟩), by simp, wL_two h1 h2, wB_nil, wB_nil⟩
theorem sizeS_two (k : Int) (l r : E) (p : Int) : sizeS (.mk k [] [l, r] 0 [] [] p) = 1 + (sizeE l + (sizeE r + 0)) + 0 + 0 := by rw [sizeS_mk, sizeL_cons, sizeL_cons, sizeL_nil, sizeSs_nil]
theorem sizeS_one (k : Int) (nm : Sec) (e : E) (bd els : List St) (p : Int) : sizeS (.mk k nm [e] 0 bd els p) = 1 + (sizeE e + 0) + sizeSs bd + sizeSs els := by rw [sizeS_mk, sizeL_cons, sizeL_nil]
theorem sizeS_none (k : Int) (nm : Sec) (n : Int) (bd : List St) (p : Int) : sizeS (.mk k nm [] n bd [] p) = 1 + 0 + sizeSs bd + 0 := by rw [sizeS_mk, sizeL_nil, sizeSs_nil]
theorem whole_cell (hx : ∀ i, (xAt ts i).length ≤ 65536) {i dp a : Nat} {s : St} (h : cellR ts i dp = .ok (s, a)) : wS s ∧ sizeS s + i ≤ a := by
  unfold cellR at h
  split at h
  · cases h
  · rename_i l b hl
    obtain ⟨h1, h2⟩ := whole_aroundT hx hl
    split at h
    · split at h
      · cases h
      · rename_i r c hr
        obtain ⟨h3, h4⟩ := whole_exprT hx hr
        split at h
        · cases h
        · rename_i c' hc
          cases h
          have := eatT_ok hc
          refine ⟨wS_two ?_ h1 h3 _, by rw [sizeS_two]; omega⟩
          split
          · exact .inl rfl
          · split
            · exact .inr (.inl rfl)
            · exact .inr (.inr (.inl rfl))
    · split at h
      · split at h
        · cases h
        · rename_i r c hr
          obtain ⟨h3, h4⟩ := whole_aroundT hx hr
          split at h
          · cases h
          · rename_i c' hc
            cases h
            have := eatT_ok hc
            exact ⟨wS_two (.inr (.inr (.inr rfl))) h1 h3 _, by rw [sizeS_two]; omega⟩
      · cases h
theorem whole_let (hx : ∀ i, (xAt ts i).length ≤ 65536) {i dp a : Nat} {s : St} (h : letR ts i dp = .ok (s, a)) : wS s ∧ sizeS s + i ≤ a := by
  unfold letR at h
  split at h
  · cases h
  · rename_i nm b hw
    obtain ⟨rfl, rfl⟩ := wordT_ok hw
    split at h
    · cases h
    · rename_i c hc
      have := eatT_ok hc
      split at h
      · cases h
      · rename_i e d he
        obtain ⟨h1, h2⟩ := whole_exprT hx he
        split at h
        · cases h
        · rename_i d' hd
          have := eatT_ok hd
          cases h
          refine ⟨?_, by rw [sizeS_one, sizeSs_nil]; omega⟩
          unfold wS
          exact ⟨.inl ⟨.inl rfl, rfl⟩, hx _, wL_one h1, wB_nil, wB_nil⟩
theorem whole_for (hx : ∀ i, (xAt ts i).length ≤ 65536) (hn : ∀ i, kAt ts i = 2 → 0 ≤ numW (xAt ts i)) {i a : Nat} {s : Sec} {n : Int} (h : forR ts i = .ok ((s, n), a)) : s.length ≤ 65536 ∧ 0 ≤ n ∧ i + 1 ≤ a := by
  unfold forR at h
  split at h
  · cases h
  · rename_i nm b hw
    obtain ⟨rfl, rfl⟩ := wordT_ok hw
    split at h
    · cases h
    · rename_i c hc
      have := eatT_ok hc
      split at h
      · cases h
      · rename_i d hd
        have := eatT_ok hd
        split at h
        · cases h
        · rename_i e he
          have := eatT_ok he
          split at h
          · cases h
          · rename_i m g hg
            obtain ⟨h1, h2, h3⟩ := numT_ok hg
            cases h
            exact ⟨hx _, by rw [h2]; exact hn _ h1, by omega⟩
theorem whole_stmt (hx : ∀ i, (xAt ts i).length ≤ 65536) (hn : ∀ i, kAt ts i = 2 → 0 ≤ numW (xAt ts i)) : ∀ f : Nat,
    (∀ i dp s a, stmtR ts f i dp = .ok (s, a) → wS s ∧ sizeS s + i ≤ a) ∧ (∀ i dp l a, blockR ts f i dp = .ok (l, a) → wB l ∧ sizeSs l + i + 2 ≤ a) ∧
    (∀ i dp l a, stmtsR ts f i dp = .ok (l, a) → wB l ∧ sizeSs l + i ≤ a) := by
  intro f
  induction f with
  | zero =>
    refine ⟨fun i _ e a h => ?_, fun i _ e a h => ?_, fun i _ e a h => ?_⟩
    · unfold stmtR at h; cases h
    · unfold blockR at h; cases h
    · unfold stmtsR at h; cases h
  | succ f ih =>
    obtain ⟨ih1, ih2, ih3⟩ := ih
    refine ⟨fun i dp s a h => ?_, fun i dp l a h => ?_, fun i dp l a h => ?_⟩
    · unfold stmtR at h
      split at h
      · exact whole_cell hx h
      · split at h
        · exact whole_let hx h
        · split at h
          · split at h
            · cases h
            · rename_i e b he
              obtain ⟨h1, h2⟩ := whole_exprT hx he
              split at h
              · cases h
              · rename_i bd c hb
                obtain ⟨h3, h4⟩ := ih2 _ _ _ _ hb
                split at h
                · split at h
                  · cases h
                  · rename_i els d hd
                    obtain ⟨h5, h6⟩ := ih2 _ _ _ _ hd
                    cases h
                    refine ⟨?_, by rw [sizeS_one]; omega⟩
                    unfold wS
                    exact ⟨.inl ⟨.inr rfl, rfl⟩, by simp, wL_one h1, h3, h5⟩
                · cases h
                  refine ⟨?_, by rw [sizeS_one, sizeSs_nil]; omega⟩
                  unfold wS
                  exact ⟨.inl ⟨.inr rfl, rfl⟩, by simp, wL_one h1, h3, wB_nil⟩
          · split at h
            · split at h
              · cases h
              · rename_i x b hf
                obtain ⟨xs, xn⟩ := x
                obtain ⟨h1, h2, h3⟩ := whole_for hx hn hf
                split at h
                · cases h
                · rename_i bd c hb
                  obtain ⟨h4, h5⟩ := ih2 _ _ _ _ hb
                  cases h
                  refine ⟨?_, by rw [sizeS_none]; omega⟩
                  unfold wS
                  exact ⟨.inr (.inr ⟨.inl rfl, rfl, h2⟩), h1, wL_nil, h4, wB_nil⟩
            · cases h
    · unfold blockR at h
      split at h
      · cases h
      · split at h
        · split at h
          · cases h
          · rename_i l' b hs
            obtain ⟨h1, h2⟩ := ih3 _ _ _ _ hs
            split at h
            · cases h
            · rename_i c hc
              have := eatT_ok hc
              cases h
              exact ⟨h1, by omega⟩
        · cases h
    · unfold stmtsR at h
      split at h
      · cases h
        exact ⟨wB_nil, by rw [sizeSs_nil]; omega⟩
      · split at h
        · cases h
        · rename_i s b hs
          obtain ⟨h1, h2⟩ := ih1 _ _ _ _ hs
          split at h
          · cases h
          · rename_i l' c hl
            obtain ⟨h3, h4⟩ := ih3 _ _ _ _ hl
            cases h
            refine ⟨by unfold wB; exact ⟨h1, h3⟩, ?_⟩
            rw [sizeSs_cons]
            omega
theorem whole_params (hx : ∀ i, (xAt ts i).length ≤ 65536) : ∀ f i l a, paramsR ts f i = .ok (l, a) → (∀ nm ∈ l, nm.length ≤ 65536) ∧ l.length + i ≤ a := by
  intro f
  induction f with
  | zero => intro i l a h; unfold paramsR at h; cases h
  | succ f ih =>
    intro i l a h
    unfold paramsR at h
    split at h
    · cases h
    · rename_i s b hw
      obtain ⟨rfl, rfl⟩ := wordT_ok hw
      split at h
      · split at h
        · cases h
        · rename_i l' c hl
          obtain ⟨h1, h2⟩ := ih _ _ _ hl
          cases h
          refine ⟨fun nm hm => ?_, by simp; omega⟩
          rcases List.mem_cons.1 hm with rfl | hm
          · exact hx i
          · exact h1 nm hm
      · cases h
        exact ⟨fun nm hm => by rw [List.mem_singleton.1 hm]; exact hx i, by simp; omega⟩
theorem whole_needs (hx : ∀ i, (xAt ts i).length ≤ 65536) : ∀ f i l a, needsR ts f i = .ok (l, a) → wL l ∧ sizeL l + i ≤ a := by
  intro f
  induction f with
  | zero => intro i l a h; unfold needsR at h; cases h
  | succ f ih =>
    intro i l a h
    unfold needsR at h
    split at h
    · split at h
      · cases h
      · rename_i e b he
        obtain ⟨h1, h2⟩ := whole_exprT hx he
        split at h
        · cases h
        · rename_i c hc
          have := eatT_ok hc
          split at h
          · cases h
          · rename_i l' d hl
            obtain ⟨h3, h4⟩ := ih _ _ _ hl
            cases h
            refine ⟨by unfold wL; exact ⟨h1, h3⟩, ?_⟩
            rw [sizeL_cons]
            omega
    · cases h
      exact ⟨wL_nil, by rw [sizeL_nil]; omega⟩
theorem whole_body (hx : ∀ i, (xAt ts i).length ≤ 65536) (hn : ∀ i, kAt ts i = 2 → 0 ≤ numW (xAt ts i)) : ∀ f i l a, bodyR ts f i = .ok (l, a) → wB l ∧ sizeSs l + i ≤ a := by
  intro f
  induction f with
  | zero => intro i l a h; unfold bodyR at h; cases h
  | succ f ih =>
    intro i l a h
    unfold bodyR at h
    split at h
    · cases h
      exact ⟨wB_nil, by rw [sizeSs_nil]; omega⟩
    · split at h
      · cases h
      · rename_i s b hs
        obtain ⟨h1, h2⟩ := (whole_stmt hx hn _).1 _ _ _ _ hs
        split at h
        · cases h
        · rename_i l' d hl
          obtain ⟨h3, h4⟩ := ih _ _ _ hl
          cases h
          refine ⟨by unfold wB; exact ⟨h1, h3⟩, ?_⟩
          rw [sizeSs_cons]
          omega
theorem whole_give (hx : ∀ i, (xAt ts i).length ≤ 65536) {i a : Nat} {l : List E} (h : giveR ts i = .ok (l, a)) : wL l ∧ sizeL l + i ≤ a ∧ l.length ≤ 1 := by
  unfold giveR at h
  split at h
  · split at h
    · cases h
    · rename_i e b he
      obtain ⟨h1, h2⟩ := whole_exprT hx he
      split at h
      · cases h
      · rename_i c hc
        have := eatT_ok hc
        cases h
        refine ⟨wL_one h1, ?_, by simp⟩
        rw [sizeL_cons, sizeL_nil]
        omega
  · cases h
    exact ⟨wL_nil, by rw [sizeL_nil]; omega, by simp⟩
theorem whole_def (he : Ends ts) (hx : ∀ i, (xAt ts i).length ≤ 65536) (hn : ∀ i, kAt ts i = 2 → 0 ≤ numW (xAt ts i)) (hl : ts.length ≤ 482) {d : Df} {a : Nat} (h : defR ts = .ok (d, a)) : Whole d := by
  have hpos := defR_pos he
  rw [h] at hpos
  have hpos : a < ts.length := hpos
  unfold defR at h
  split at h
  · cases h
  · rename_i hd a1 hh
    split at h
    · cases h
    · rename_i ns a2 h2
      split at h
      · cases h
      · rename_i b a3 h3
        split at h
        · cases h
        · rename_i g a4 h4
          split at h
          · cases h
          · rename_i a5 h5
            have e5 := eatT_ok h5
            obtain ⟨n1, n2⟩ := whole_needs hx _ _ _ _ h2
            obtain ⟨b1, b2⟩ := whole_body hx hn _ _ _ _ h3
            obtain ⟨g1, g2, g3⟩ := whole_give hx h4
            have hp : (∀ nm ∈ hd.2, nm.length ≤ 65536) ∧ hd.2.length + 2 ≤ a1 := by
              unfold headR at hh
              split at hh
              · cases hh
              · split at hh
                · cases hh
                · split at hh
                  · cases hh
                  · split at hh
                    · cases hh
                    · rename_i ps c hps
                      split at hh
                      · cases hh
                      · rename_i c1 hc1
                        have := eatT_ok hc1
                        split at hh
                        · cases hh
                        · rename_i c2 hc2
                          have := eatT_ok hc2
                          cases hh
                          unfold paramsT at hps
                          split at hps
                          · cases hps
                            exact ⟨fun nm hm => absurd hm (by simp), by show 0 + 2 ≤ _; omega⟩
                          · obtain ⟨p1, p2⟩ := whole_params hx _ _ _ _ hps
                            exact ⟨p1, by show ps.length + 2 ≤ _; omega⟩
            cases h
            exact ⟨n1, b1, g1, g3, by show sizeL ns + sizeSs b + sizeL g ≤ 480; omega, hp.1, by show hd.2.length ≤ 480; omega⟩
end
/-! ### numbers of tokens -/
theorem wrap64_id {n : Int} (h0 : -9223372036854775808 ≤ n) (h1 : n < 9223372036854775808) : wrap64 n = n := by unfold wrap64; omega
theorem valN_mono (l : Sec) : ∀ acc : Nat, acc ≤ valN acc l := by
  induction l with
  | nil => intro acc; exact Nat.le_refl _
  | cons c r ih => intro acc; have := ih (acc * 10 + (c.toNat - 48)); show acc ≤ valN (acc * 10 + (c.toNat - 48)) r; omega
theorem numW_val : ∀ (l : Sec) (acc : Nat), (∀ c ∈ l, isDig c = true) → valN acc l < 9223372036854775808 → l.foldl (fun n c => wrap64 (wrap64 (10 * n) + ((c.toNat : Int) - 48) % 256)) (acc : Int) = (valN acc l : Int) := by
  intro l
  induction l with
  | nil => intro acc _ _; rfl
  | cons c r ih =>
    intro acc hd hv
    have hv' : valN (acc * 10 + (c.toNat - 48)) r < 9223372036854775808 := hv
    have h1 := valN_mono r (acc * 10 + (c.toNat - 48))
    have hc := hd c (by simp)
    simp only [isDig, Bool.and_eq_true, decide_eq_true_eq] at hc
    rw [List.foldl_cons, wrap64_id (n := 10 * (acc : Int)) (by omega) (by omega), show ((c.toNat : Int) - 48) % 256 = ((c.toNat - 48 : Nat) : Int) by omega, wrap64_id (by omega) (by omega)]
    have := ih (acc * 10 + (c.toNat - 48)) (fun x hx => hd x (by simp [hx])) hv'
    rw [show 10 * (acc : Int) + ((c.toNat - 48 : Nat) : Int) = ((acc * 10 + (c.toNat - 48) : Nat) : Int) by omega]
    exact this
theorem firstN_num {x : Sec} (h : firstN x = (2, x.length)) (hx : x ≠ []) : (∀ c ∈ x, isDig c = true) ∧ valN 0 x < 9223372036854775808 := by
  have hp := List.length_pos_iff.2 hx
  unfold firstN at h
  split at h
  · cases h
  · split at h
    · rename_i h1 h2
      have hn : numN x = x.length := (Prod.mk.inj h).2
      unfold numN at hn
      split at hn
      · omega
      · rename_i hq
        have hr := hn
        refine ⟨fun c hc => ?_, ?_⟩
        · obtain ⟨i, hi, rfl⟩ := List.getElem_of_mem hc
          exact runN_all isDig x i _ (by omega) (List.getElem?_eq_getElem hi)
        · rw [hr, List.take_length] at hq
          omega
    · cases h
theorem chain_at : ∀ {ts : List Tok}, Chain ts → ∀ i : Nat, i + 1 < ts.length → (xAt ts i) ≠ [] ∧ firstN (xAt ts i) = (kAt ts i, (xAt ts i).length)
  | [], h, i, hi => by simp at hi
  | t :: ts, h, i, hi => by
    unfold Chain at h
    rcases h with ⟨rfl, _, _⟩ | ⟨h1, h2, h3⟩
    · simp at hi
    · cases i with
      | zero => exact ⟨h1, h2⟩
      | succ i =>
        have := chain_at h3 i (by simpa using hi)
        unfold xAt kAt at this ⊢
        simpa using this
theorem lex_chain {l : Sec} {ts : List Tok} (h : lex l = .ok ts) : Chain ts := (chain_lex ts.length 0 l ts (Nat.le_refl _) (by rw [← h]; exact (lex_eq l).symm)).1
theorem lex_num {l : Sec} {ts : List Tok} (h : lex l = .ok ts) (i : Nat) (hk : kAt ts i = 2) : 0 ≤ numW (xAt ts i) := by
  have he := lex_ends h
  have hi : i < ts.length := by
    apply Classical.byContradiction
    intro hc
    unfold kAt at hk
    rw [List.getElem?_eq_none (by omega)] at hk
    simp at hk
  have h1 := kAt_lt he hi (by rw [hk]; decide)
  obtain ⟨h2, h3⟩ := chain_at (lex_chain h) i h1
  rw [hk] at h3
  obtain ⟨h4, h5⟩ := firstN_num h3 h2
  have := numW_val (xAt ts i) 0 h4 h5
  unfold numW
  rw [show (0 : Int) = ((0 : Nat) : Int) from rfl, this]
  omega
theorem parse_whole {l : Sec} {d : Df} (h : parseS l = .ok d) : Whole d := by
  unfold parseS at h
  split at h
  · cases h
  · rename_i hl
    split at h
    · cases h
    · rename_i ts hlex
      split at h
      · cases h
      · rename_i d' hp
        cases h
        unfold parseR at hp
        split at hp
        · cases hp
        · rename_i d2 a hd
          split at hp
          · cases hp
            have := lex_len hlex
            exact whole_def (lex_ends hlex) (fun i => by have := lex_text hlex i; omega) (lex_num hlex) (by omega) hd
          · cases hp
/-! ### what a whole definition is to the checker -/
mutual
theorem wE_ok : ∀ e : E, wE e → okE e
  | .mk k n s xs p, h => by
    unfold wE at h
    unfold okE
    refine ⟨h.2.1, fun hk e => ?_, wL_ok xs h.2.2⟩
    subst e
    rcases h.1 with h1 | h1 | h1
    · omega
    · omega
    · simp at h1
theorem wL_ok : ∀ xs : List E, wL xs → okL xs
  | [], h => by unfold okL; trivial
  | x :: xs, h => by unfold wL at h; unfold okL; exact ⟨wE_ok x h.1, wL_ok xs h.2⟩
end
mutual
theorem wS_ok : ∀ e : St, wS e → okS e
  | .mk k nm xs n bd els p, h => by
    unfold wS at h
    unfold okS
    refine ⟨?_, ?_, h.2.1, fun hk e => ?_, wL_ok xs h.2.2.1, wB_ok bd h.2.2.2.1, wB_ok els h.2.2.2.2⟩
    · rcases h.1 with h1 | h1 | h1 <;> omega
    · rcases h.1 with h1 | h1 | h1 <;> omega
    · subst e
      rcases h.1 with h1 | h1 | h1
      · simp at h1
      · omega
      · omega
theorem wB_ok : ∀ xs : List St, wB xs → okSs xs
  | [], h => by unfold okSs; trivial
  | x :: xs, h => by unfold wB at h; unfold okSs; exact ⟨wS_ok x h.1, wB_ok xs h.2⟩
end
end Go.Proofs.Ytiaeagpepfmfgaa
/- The checker: parameters, the mode. -/
namespace Go.Proofs.Ytiaeagpepfmfgaa
open Go.RowKit Go.Maps
set_option linter.unusedSimpArgs false
set_option linter.unusedVariables false

def parC : CS → List Sec → CS
  | s, [] => s
  | s, n :: ns => parC (s.declare n 1 0) ns
def paramsC (s : CS) (l : List Sec) : CS := if 8 < l.length then s.fail 15 0 else parC s l
theorem parC_drop {s : CS} {xs : List Sec} {j : Nat} {e : Sec} (hj : xs[j]? = some e) : parC s (xs.drop j) = parC (s.declare e 1 0) (xs.drop (j + 1)) := by
  obtain ⟨hlt, rfl⟩ := List.getElem?_eq_some_iff.1 hj
  rw [List.drop_eq_getElem_cons hlt]
  rfl
def modeC (s : CS) : Int :=
  if wrap64 (wrap64 (s.ki 3 + s.ki 4) + wrap64 (s.ki 2 + s.ki 5)) = 0 then 1 else if wrap64 (s.ki 2 + s.ki 5) = 0 ∧ s.cells = 0 then 2 else 3
section
variable {w w' : World} {g b1 b2 : Nat} {s : CS} {B : Nat → Prop}
set_option maxRecDepth 100000 in
set_option maxHeartbeats 4000000 in
theorem cparams_any (h : CK w g b1 b2 s) {l : List Sec} {v : Value} (hv : NmV w B v l) (hl : ∀ nm ∈ l, nm.length ≤ 65536) (hll : l.length ≤ 1000000) (hB : ∀ k ∈ [g, b1, b2], ¬ B k) :
    Calls Try.prog 64 #[.pointer (some ⟨g, 0, none⟩), v] w fun en w' => en = .returned (.tuple #[]) ∧ CK w' g b1 b2 (paramsC s l) ∧ Only [g, b1, b2] w w' := by
  obtain ⟨a, cap, rfl, -, hx⟩ := hv
  have H := Lib.hid h
  have HX := Lib.hid hx
  have HLN := Lib.hid hl
  have HB := Lib.hid hB
  obtain ⟨n, hn⟩ : ∃ n, n = l.length := ⟨_, rfl⟩
  rw [← hn] at hll ⊢
  by_cases h8 : 8 < n
  · have hR : paramsC s l = s.fail 15 0 := by unfold paramsC; rw [if_pos (by omega)]
    have HR := Lib.hid hR
    have h8' : (8 : Int) < (n : Int) := by omega
    clear h hx hl hB hn hR
    go_enter Try.func64, Try.ntmps64
    go_wp2_with fail
    refine (cfail_any H.out 15 0).mono ?_
    rintro en w2 ⟨rfl, hk, ho⟩
    have HK := Lib.hid (And.intro hk ho)
    clear hk ho
    go_wp2_with fail
    (try simp only [Exit.inBlock, Exit.then])
    refine bodyPost_ret (results_none rfl _ _ _) rfl ?_
    rw [HR.out]
    exact ⟨rfl, HK.out.1, HK.out.2.mono (by simp)⟩
  · have hR : paramsC s l = parC s l := by unfold paramsC; rw [if_neg (by omega)]
    have HR := Lib.hid hR
    have h8' : ¬ (8 : Int) < (n : Int) := by omega
    have HN := Lib.hid hn
    clear h hx hl hB hn hR
    go_enter Try.func64, Try.ntmps64
    go_wp2_with fail
    go_loopw [13] (fun ix wr => ∃ (j : Nat) (sj : CS), j ≤ n ∧ ix = .int .i64 (j : Int) ∧ Hid (parC s l = parC sj (l.drop j)) ∧ Hid (CK wr g b1 b2 sj) ∧ Hid (Only [g, b1, b2] w wr)) (fun ix _ => n - (intOf ix).toNat)
    case atStart => exact ⟨0, s, Nat.zero_le _, rfl, Lib.hid (by rw [List.drop_zero]), H, Lib.hid (Only.refl _ _)⟩
    case round =>
      obtain ⟨j, sj, hjn, rfl, HT, HK, HO⟩ := hrel
      by_cases hlt : j < n
      · have hlt' : (j : Int) < (n : Int) := by omega
        have j0 : (0 : Int) ≤ (j : Int) := by omega
        obtain ⟨e, he⟩ : ∃ e, l[j]? = some e := ⟨_, List.getElem?_eq_getElem (by rw [← HN.out]; exact hlt)⟩
        obtain ⟨gr, rfl, hgr, hes⟩ : ∃ gr, a = some ⟨gr, 0, none⟩ ∧ B gr ∧ ∀ i s, l[i]? = some s → w.cell? ⟨gr, i, none⟩ = some (.string (strOf s)) := by
          rcases HX.out with hx | hx
          · rw [hx] at he; simp at he
          · exact hx
        have x0 : wr.cell? ⟨gr, j, none⟩ = some (.string (strOf e)) := cell_kept HO.out (hes j e he) (fun hk => HB.out _ hk hgr)
        have hne : e.length ≤ 65536 := HLN.out e (List.mem_of_getElem? he)
        have hstep : parC s l = parC (sj.declare e 1 0) (l.drop (j + 1)) := by rw [HT.out, parC_drop he]
        have K1 := cdeclare_any HK.out e hne 1 0 wf1
        obtain ⟨sn, hsn⟩ : ∃ sn, sn = strOf e := ⟨_, rfl⟩
        rw [← hsn] at x0 K1
        have HST := Lib.hid hstep
        clear hstep hsn hes he hne
        go_wp2_with fail
        refine K1.mono ?_
        rintro en w8 ⟨rfl, hk8, ho8⟩
        have HK8 := Lib.hid hk8
        have HO8 := Lib.hid (HO.out.trans ho8 (fun k hk => .inl hk))
        clear hk8 ho8 K1 x0
        go_wp2_with fail
        refine ⟨⟨j + 1, _, by omega, rfl, HST, HK8, HO8⟩, ?_⟩
        simp [intOf]
        omega
      · obtain rfl : j = n := by omega
        have hT := HT.out
        have hR : parC s l = sj := by
          rw [hT, HN.out, List.drop_length]
          rfl
        have HR2 := Lib.hid hR
        clear hT hR
        go_wp2_with fail
        go_end0
        rw [HR.out, HR2.out]
        exact ⟨rfl, HK.out, HO.out⟩
set_option maxRecDepth 100000 in
set_option maxHeartbeats 4000000 in
theorem cmode_any (h : CK w g b1 b2 s) : Calls Try.prog 69 #[.pointer (some ⟨g, 0, none⟩)] w fun en w' => en = .returned (.int .i64 (modeC s)) ∧ Only [] w w' := by
  obtain ⟨fv, h1, h2⟩ := h.row
  have k2 : w.cell? ⟨g, 4, none⟩ = some (.int .i64 (s.ki 2)) := cell_at 4 h1
  have k3 : w.cell? ⟨g, 5, none⟩ = some (.int .i64 (s.ki 3)) := cell_at 5 h1
  have k4 : w.cell? ⟨g, 6, none⟩ = some (.int .i64 (s.ki 4)) := cell_at 6 h1
  have k5 : w.cell? ⟨g, 7, none⟩ = some (.int .i64 (s.ki 5)) := cell_at 7 h1
  have kc : w.cell? ⟨g, 11, none⟩ = some (.int .i64 s.cells) := cell_at 11 h1
  obtain ⟨R, hR⟩ : ∃ R, R = modeC s := ⟨_, rfl⟩
  rw [← hR]
  unfold modeC at hR
  generalize s.ki 2 = x2 at k2 hR
  generalize s.ki 3 = x3 at k3 hR
  generalize s.ki 4 = x4 at k4 hR
  generalize s.ki 5 = x5 at k5 hR
  generalize s.cells = xc at kc hR
  have HR := Lib.hid hR
  clear h h1 h2 hR
  go_enter Try.func69, Try.ntmps69
  go_wp2_with fail
  go_quiet (fail)
  go_wp2_with fail
  have oq := only_drewN' (n := nq) (Only.refl [] w)
  have HQ := Lib.hid oq
  have k2' : (w.drewN nq).cell? ⟨g, 4, none⟩ = some (.int .i64 x2) := cell_kept oq k2 (by simp)
  have k5' : (w.drewN nq).cell? ⟨g, 7, none⟩ = some (.int .i64 x5) := cell_kept oq k5 (by simp)
  have kc' : (w.drewN nq).cell? ⟨g, 11, none⟩ = some (.int .i64 xc) := cell_kept oq kc (by simp)
  clear k2 k3 k4 k5 kc oq
  generalize w.drewN nq = w1 at HQ k2' k5' kc' ⊢
  clear nq
  generalize wrap64 (x3 + x4) = ad at HR ⊢
  go_quiet (fail)
  have oq := only_drewN' (n := nq) (Only.refl [] w1)
  have HQ2 := Lib.hid (HQ.out.trans oq (by simp))
  have kc2 : (w1.drewN nq).cell? ⟨g, 11, none⟩ = some (.int .i64 xc) := cell_kept oq kc' (by simp)
  clear k2' k5' kc' oq
  generalize w1.drewN nq = w2 at HQ2 kc2 ⊢
  clear nq
  generalize wrap64 (x2 + x5) = ot at HR ⊢
  by_cases hs : wrap64 (ad + ot) = 0
  · have hRR : R = 1 := by rw [HR.out, if_pos hs]
    have HRR := Lib.hid hRR
    clear hRR
    go_wp2_with fail
    go_ret
    rw [HRR.out]; exact ⟨rfl, HQ2.out⟩
  · have hs' : (wrap64 (ad + ot) == 0) = false := by simpa using hs
    by_cases ho : ot = 0
    · by_cases hc : xc = 0
      · have hRR : R = 2 := by rw [HR.out, if_neg hs, if_pos ⟨ho, hc⟩]
        have HRR := Lib.hid hRR
        have ho1 : (ot == 0) = true := by simp [ho]
        have hc1 : (xc == 0) = true := by simp [hc]
        clear hRR ho hc
        go_wp2_with fail
        go_ret
        rw [HRR.out]; exact ⟨rfl, HQ2.out⟩
      · have hRR : R = 3 := by rw [HR.out, if_neg hs, if_neg (fun e => hc e.2)]
        have HRR := Lib.hid hRR
        have hc' : (xc == 0) = false := by simpa using hc
        have ho1 : (ot == 0) = true := by simp [ho]
        clear hRR ho
        go_wp2_with fail
        go_ret
        rw [HRR.out]; exact ⟨rfl, HQ2.out⟩
    · have hRR : R = 3 := by rw [HR.out, if_neg hs, if_neg (fun e => ho e.1)]
      have HRR := Lib.hid hRR
      have ho' : (ot == 0) = false := by simpa using ho
      clear hRR
      go_wp2_with fail
      go_ret
      rw [HRR.out]; exact ⟨rfl, HQ2.out⟩
end
end Go.Proofs.Ytiaeagpepfmfgaa
/- The checker: an operation. -/
namespace Go.Proofs.Ytiaeagpepfmfgaa
open Go.RowKit Go.Maps
set_option linter.unusedSimpArgs false
set_option linter.unusedVariables false

def opT (s : CS) (d : Df) : CS := typedC (paramsC s d.params) 2 d.needs
def opB (s : CS) (d : Df) : CS := stmtsC (opT s d) d.body
def opG (s : CS) (d : Df) : CS := typedC (opB s d) 1 d.give
/-- What the checker knows in the end. -/
def opS (s : CS) (d : Df) : CS := if (opG s d).flt.isSome = true then opG s d else if 2048 < stD d then (opG s d).fail 11 0 else opG s d
structure InfoR where
  mode : Int
  steps : Nat
  names : Nat
  turns : Bool
def opI (s : CS) (d : Df) : InfoR := ⟨modeC (opS s d), stD d, (opS s d).decl.length, (opS s d).ki 2 == 0 && wrap64 ((opB s d).cells - (opT s d).cells) == 0⟩
theorem four_set {W : World} {g : Nat} {z0 z1 z2 z3 : Value} {t : TypeId} (h : W.heap[g]? = some (.cells #[z0, z1, z2, z3] t (0, 0))) (v0 v1 v2 v3 : Value) :
    ((((W.setCell ⟨g, 0, none⟩ v0).setCell ⟨g, 1, none⟩ v1).setCell ⟨g, 2, none⟩ v2).setCell ⟨g, 3, none⟩ v3).heap[g]? = some (.cells #[v0, v1, v2, v3] t (0, 0)) :=
  heap_cell (i := 3) v3 (heap_cell (i := 2) v2 (heap_cell (i := 1) v1 (heap_cell (i := 0) v0 h)))
theorem res_operation (tmps : Array Value) (w : World) (g : Nat) (v0 v1 v2 v3 : Value) (h6 : tmps.getD 4 undef = .pointer (some ⟨g, 0, none⟩)) (h : w.heap[g]? = some (.cells #[v0, v1, v2, v3] 47 (0, 0))) :
    (results Try.f46 tmps).run Try.prog w = .ok (.agg #[v0, v1, v2, v3]) w := by
  have c0 : w.cell? ⟨g, 0, none⟩ = some v0 := cell_at 0 h
  have c1 : w.cell? ⟨g, 1, none⟩ = some v1 := cell_at 1 h
  have c2 : w.cell? ⟨g, 2, none⟩ = some v2 := cell_at 2 h
  have c3 : w.cell? ⟨g, 3, none⟩ = some v3 := cell_at 3 h
  have hl : (loadVar 47 ⟨g, 0, none⟩).run Try.prog w = .ok (.agg #[v0, v1, v2, v3]) w := by
    clear h
    simp [go_sem, c0, c1, c2, c3]
  have h6' : tmps[4]?.getD undef = .pointer (some ⟨g, 0, none⟩) := by simpa using h6
  simp [results, Try.results46, asAddr, h6', hl]
theorem CK.past {w w' : World} {g b1 b2 : Nat} {s : CS} {S : List Nat} (h : CK w g b1 b2 s) (ho : Only S w w') (hS : ∀ k ∈ S, k ∉ [g, b1, b2]) (hs : ∀ k ∈ S, ∀ o, w.heap[k]? = some o → ∀ cs fr, o ≠ .cells cs 108 fr) : CK w' g b1 b2 s := by
  obtain ⟨fv, h1, h2⟩ := h.row
  obtain ⟨c, h3⟩ := h.known
  exact ⟨⟨fv, ho.heap h1 (fun hk => hS g hk (by simp)), h2.kept ho hs⟩, ⟨c, h3.kept ho (fun hk => hS b1 hk (by simp))⟩, h.decl.kept ho (fun hk => hS b2 hk (by simp)), h.len, h.ne, h.names⟩
section
variable {w w' : World} {g b1 b2 : Nat} {s : CS} {B : Nat → Prop}
set_option maxRecDepth 100000 in
set_option maxHeartbeats 16000000 in
theorem coperation_any (h : CK w g b1 b2 s) {d : Df} {cs : List Value} (hd : DV w B d cs) (hB : ∀ k ∈ [g, b1, b2], ¬ B k) (hp : ∀ nm ∈ d.params, nm.length ≤ 65536) (hpl : d.params.length ≤ 1000000)
    (hn : okL d.needs) (hb : okSs d.body) (hg : okL d.give) (h1 : sizeL d.needs ≤ 1000000) (h2 : sizeSs d.body ≤ 1000000) (h3 : sizeL d.give ≤ 1000000) (hf : (opG s d).flt = none → fewB d.body) :
    Calls Try.prog 46 #[.pointer (some ⟨g, 0, none⟩), .agg cs.toArray] w fun en w' => ∃ (m st nm : Int) (tu : Bool), en = .returned (.agg #[.int .i64 m, .int .i64 st, .int .i64 nm, .bool tu]) ∧ CK w' g b1 b2 (opS s d) ∧
      ((opS s d).flt = none → m = (opI s d).mode ∧ st = (opI s d).steps ∧ nm = (opI s d).names ∧ tu = (opI s d).turns) ∧ Only [g, b1, b2] w w' := by
  obtain ⟨v1, v2, v3, v4, rfl, hv1, hv2, hv3, hv4⟩ := hd
  obtain ⟨a1, c1, rfl, hx1⟩ := id hv1
  obtain ⟨a2, c2, rfl, hx2⟩ := id hv2
  obtain ⟨a3, c3, rfl, hx3⟩ := id hv3
  obtain ⟨a4, c4, rfl, hx4⟩ := id hv4
  have HDV := Lib.hid (show DV w B d _ from ⟨_, _, _, _, rfl, hv1, hv2, hv3, hv4⟩)
  obtain ⟨sn, hsn⟩ : ∃ sn, sn = strOf d.name := ⟨_, rfl⟩
  obtain ⟨L1, hL1⟩ : ∃ L, L = d.params.length := ⟨_, rfl⟩
  obtain ⟨L2, hL2⟩ : ∃ L, L = d.needs.length := ⟨_, rfl⟩
  obtain ⟨L3, hL3⟩ : ∃ L, L = d.body.length := ⟨_, rfl⟩
  obtain ⟨L4, hL4⟩ : ∃ L, L = d.give.length := ⟨_, rfl⟩
  rw [← hsn, ← hL1, ← hL2, ← hL3, ← hL4] at HDV ⊢
  rw [← hL1] at hv1
  rw [← hL2] at hv2
  rw [← hL3] at hv3
  rw [← hL4] at hv4
  have HV1 := Lib.hid hv1
  have HB := Lib.hid hB
  have hgl := h.g_lt
  have hb1l := h.b1_lt
  have hb2l := h.b2_lt
  have H := Lib.hid h
  have HF := Lib.hid hf
  clear hv1 hx1 hx2 hx3 hx4 hsn hL1 hL2 hL3 hL4 hB h hf
  go_enter Try.func46, Try.ntmps46
  go_wp2_with fail
  refine calls_two (fun w1 hY hZ o1 => ?_)
  have HY := Lib.hid hY
  have HZ := Lib.hid hZ
  have hgw : w.heap.size ∉ [g, b1, b2] := by simp only [List.mem_cons, List.not_mem_nil, or_false, not_or]; omega
  have hgz : w.heap.size + 1 ∉ [g, b1, b2] := by simp only [List.mem_cons, List.not_mem_nil, or_false, not_or]; omega
  have HV2 := Lib.hid (hv2.quiet o1)
  have HV3 := Lib.hid (hv3.quiet o1)
  have HV4 := Lib.hid (hv4.quiet o1)
  have HO := Lib.hid (o1.mono (T := [g, b1, b2]) (by simp))
  have K1 := cparams_any (s := s) (H.out.quiet o1) (HV1.out.kept o1 (by simp) (fun _ h => h)) hp hpl HB.out
  clear hY hZ hv2 hv3 hv4 o1 hgl hb1l hb2l
  refine K1.mono ?_
  rintro en w2 ⟨rfl, hk, ho⟩
  have hsub : Only [g, b1, b2] w1 w2 := ho.mono (by simp)
  replace HY := Lib.hid (hsub.heap HY.out hgw)
  replace HZ := Lib.hid (hsub.heap HZ.out hgz)
  replace HO := Lib.hid (HO.out.trans hsub (fun k hk => .inl hk))
  replace HV2 := Lib.hid (HV2.out.kept hsub HB.out (fun _ h => h))
  replace HV3 := Lib.hid (HV3.out.kept hsub HB.out (fun _ h => h))
  replace HV4 := Lib.hid (HV4.out.kept hsub HB.out (fun _ h => h))
  clear ho hsub
  have K2 := (cexpr_all 1000000 (by omega)).2 d.needs h1 w2 g b1 b2 _ _ B 2 hk hn HV2.out.esw (HB.out g (by simp))
  have y2 : w2.cell? ⟨w.heap.size, 2, none⟩ = some (.slice a2 L2 c2) := cell_at 2 HY.out
  clear hk K1
  go_wp2_with fail
  refine K2.mono ?_
  rintro en w3 ⟨rfl, hk, ho⟩
  have hsub : Only [g, b1, b2] w2 w3 := ho.mono (by simp)
  replace HY := Lib.hid (hsub.heap HY.out hgw)
  replace HZ := Lib.hid (hsub.heap HZ.out hgz)
  replace HO := Lib.hid (HO.out.trans hsub (fun k hk => .inl hk))
  replace HV2 := Lib.hid (HV2.out.kept hsub HB.out (fun _ h => h))
  replace HV3 := Lib.hid (HV3.out.kept hsub HB.out (fun _ h => h))
  replace HV4 := Lib.hid (HV4.out.kept hsub HB.out (fun _ h => h))
  clear ho hsub
  have K3 := (cstmts_all 1000000 (by omega)).2 d.body h2 w3 g b1 b2 _ _ B hk hb HV3.out HB.out
  have y3 : w3.cell? ⟨w.heap.size, 3, none⟩ = some (.slice a3 L3 c3) := cell_at 3 HY.out
  obtain ⟨fv3, hr3, -⟩ := hk.row
  have kc3 : w3.cell? ⟨g, 11, none⟩ = some (.int .i64 (opT s d).cells) := cell_at 11 hr3
  clear hk K2 y2 hr3
  obtain ⟨C3, hC3⟩ : ∃ C, C = (opT s d).cells := ⟨_, rfl⟩
  rw [← hC3] at kc3
  have HC3 := Lib.hid hC3
  clear hC3
  go_wp2_with fail
  refine K3.mono ?_
  rintro en w4 ⟨rfl, hk, ho⟩
  have hsub : Only [g, b1, b2] w3 w4 := ho.mono (by simp)
  replace HY := Lib.hid (hsub.heap HY.out hgw)
  replace HZ := Lib.hid (hsub.heap HZ.out hgz)
  replace HO := Lib.hid (HO.out.trans hsub (fun k hk => .inl hk))
  replace HV2 := Lib.hid (HV2.out.kept hsub HB.out (fun _ h => h))
  replace HV3 := Lib.hid (HV3.out.kept hsub HB.out (fun _ h => h))
  replace HV4 := Lib.hid (HV4.out.kept hsub HB.out (fun _ h => h))
  clear ho hsub
  have K4 := (cexpr_all 1000000 (by omega)).2 d.give h3 w4 g b1 b2 _ _ B 1 hk hg HV4.out.esw (HB.out g (by simp))
  have y4 : w4.cell? ⟨w.heap.size, 4, none⟩ = some (.slice a4 L4 c4) := cell_at 4 HY.out
  obtain ⟨fv4, hr4, -⟩ := hk.row
  have kc4 : w4.cell? ⟨g, 11, none⟩ = some (.int .i64 (opB s d).cells) := cell_at 11 hr4
  clear hk K3 y3 hr4 kc3
  obtain ⟨C4, hC4⟩ : ∃ C, C = (opB s d).cells := ⟨_, rfl⟩
  rw [← hC4] at kc4
  have HC4 := Lib.hid hC4
  clear hC4
  go_wp2_with fail
  refine K4.mono ?_
  rintro en w5 ⟨rfl, hk, ho⟩
  have hsub : Only [g, b1, b2] w4 w5 := ho.mono (by simp)
  replace HY := Lib.hid (hsub.heap HY.out hgw)
  replace HZ := Lib.hid (hsub.heap HZ.out hgz)
  replace HO := Lib.hid (HO.out.trans hsub (fun k hk => .inl hk))
  replace HV2 := Lib.hid (HV2.out.kept hsub HB.out (fun _ h => h))
  replace HV3 := Lib.hid (HV3.out.kept hsub HB.out (fun _ h => h))
  replace HV4 := Lib.hid (HV4.out.kept hsub HB.out (fun _ h => h))
  clear ho hsub
  have hk5 : CK w5 g b1 b2 (opG s d) := hk
  obtain ⟨fv5, hr5, hf5⟩ := hk5.row
  have kf5 : w5.cell? ⟨g, 12, none⟩ = some (.pointer fv5) := cell_at 12 hr5
  have HK5 := Lib.hid hk5
  clear hk hk5 K4 y4 kc4 hr5
  cases hfl : (opG s d).flt with
  | some x =>
    rw [hfl] at hf5
    obtain ⟨xc, xp⟩ := x
    obtain ⟨fb, rfl, -⟩ := hf5
    have hS : opS s d = opG s d := by unfold opS; rw [hfl]; rfl
    have HS := Lib.hid (And.intro hS hfl)
    clear hS hfl
    have s0 : w5.cell? ⟨w.heap.size + 1, 0, none⟩ = some (.int .i64 0) := cell_at 0 HZ.out
    have s1 : w5.cell? ⟨w.heap.size + 1, 1, none⟩ = some (.int .i64 0) := cell_at 1 HZ.out
    have s2 : w5.cell? ⟨w.heap.size + 1, 2, none⟩ = some (.int .i64 0) := cell_at 2 HZ.out
    have s3 : w5.cell? ⟨w.heap.size + 1, 3, none⟩ = some (.bool false) := cell_at 3 HZ.out
    have gs0 := free_at 0 HZ.out
    have gs1 := free_at 1 HZ.out
    have gs2 := free_at 2 HZ.out
    have gs3 := free_at 3 HZ.out
    go_wp2_with fail
    have oz : Only [w.heap.size + 1] w5 ((((w5.setCell ⟨w.heap.size + 1, 0, none⟩ (.int .i64 0)).setCell ⟨w.heap.size + 1, 1, none⟩ (.int .i64 0)).setCell ⟨w.heap.size + 1, 2, none⟩ (.int .i64 0)).setCell ⟨w.heap.size + 1, 3, none⟩ (.bool false)) :=
      ((((Only.refl _ _).setCell (.inl (by simp)) _).setCell (.inl (by simp)) _).setCell (.inl (by simp)) _).setCell (.inl (by simp)) _
    have hz := four_set HZ.out (.int .i64 0) (.int .i64 0) (.int .i64 0) (.bool false)
    generalize (((w5.setCell ⟨w.heap.size + 1, 0, none⟩ (.int .i64 0)).setCell ⟨w.heap.size + 1, 1, none⟩ (.int .i64 0)).setCell ⟨w.heap.size + 1, 2, none⟩ (.int .i64 0)).setCell ⟨w.heap.size + 1, 3, none⟩ (.bool false) = wz at oz hz ⊢
    (try simp only [Exit.inBlock, Exit.then])
    refine bodyPost_ret (res_operation _ _ (w.heap.size + 1) _ _ _ _ rfl hz) rfl ?_
    refine ⟨0, 0, 0, false, rfl, ?_, fun e => ?_, ?_⟩
    · rw [HS.out.1]
      refine HK5.out.past oz (fun k hk => by rw [List.mem_singleton.1 hk]; exact hgz) (fun k hk o ho cs fr e => ?_)
      rw [List.mem_singleton.1 hk, HZ.out] at ho
      rw [← Option.some.inj ho] at e
      injection e with _ e2 _
      exact absurd e2 (by decide)
    · rw [HS.out.1, HS.out.2] at e
      cases e
    · exact HO.out.trans (T := [w.heap.size + 1]) oz (fun k hk => .inr (by rw [List.mem_singleton.1 hk]; omega))
  | none =>
    rw [hfl] at hf5
    obtain rfl : fv5 = none := hf5
    have hfew := HF.out hfl
    have K5 := coperation_steps (w := w5) (d := d) (B := B) (HDV.out.kept HO.out HB.out (fun _ h => h)) h1 h2 h3 hfew
    have y0 : w5.cell? ⟨w.heap.size, 0, none⟩ = some (.string sn) := cell_at 0 HY.out
    have y1 : w5.cell? ⟨w.heap.size, 1, none⟩ = some (.slice a1 L1 c1) := cell_at 1 HY.out
    have y2 : w5.cell? ⟨w.heap.size, 2, none⟩ = some (.slice a2 L2 c2) := cell_at 2 HY.out
    have y3 : w5.cell? ⟨w.heap.size, 3, none⟩ = some (.slice a3 L3 c3) := cell_at 3 HY.out
    have y4 : w5.cell? ⟨w.heap.size, 4, none⟩ = some (.slice a4 L4 c4) := cell_at 4 HY.out
    obtain ⟨T, hT⟩ : ∃ T, T = stD d := ⟨_, rfl⟩
    rw [← hT] at K5
    have HT := Lib.hid hT
    have HFL := Lib.hid hfl
    clear hT hfl hfew
    go_wp2_with fail
    refine K5.mono ?_
    rintro en w6 ⟨rfl, ho⟩
    have ho6 := ho
    replace ho := ho.mono (T := [g, b1, b2]) (by simp)
    have hsub : Only [g, b1, b2] w5 w6 := ho.mono (by simp)
    replace HY := Lib.hid (hsub.heap HY.out hgw)
    replace HZ := Lib.hid (hsub.heap HZ.out hgz)
    replace HO := Lib.hid (HO.out.trans hsub (fun k hk => .inl hk))
    replace HV2 := Lib.hid (HV2.out.kept hsub HB.out (fun _ h => h))
    replace HV3 := Lib.hid (HV3.out.kept hsub HB.out (fun _ h => h))
    replace HV4 := Lib.hid (HV4.out.kept hsub HB.out (fun _ h => h))
    clear ho hsub
    have HK6 := Lib.hid (HK5.out.quiet ho6)
    clear K5 y0 y1 y2 y3 y4 kf5 ho6
    by_cases h20 : 2048 < T
    · have h20' : (2048 : Int) < (T : Int) := by omega
      have hS : opS s d = (opG s d).fail 11 0 := by unfold opS; rw [HFL.out, ← HT.out]; simp [h20]
      have HS := Lib.hid hS
      clear hS h20
      go_wp2_with fail
      refine (cfail_any HK6.out 11 0).mono ?_
      rintro en w7 ⟨rfl, hk, ho⟩
      have hsub : Only [g, b1, b2] w6 w7 := ho.mono (by simp)
      replace HY := Lib.hid (hsub.heap HY.out hgw)
      replace HZ := Lib.hid (hsub.heap HZ.out hgz)
      replace HO := Lib.hid (HO.out.trans hsub (fun k hk => .inl hk))
      replace HV2 := Lib.hid (HV2.out.kept hsub HB.out (fun _ h => h))
      replace HV3 := Lib.hid (HV3.out.kept hsub HB.out (fun _ h => h))
      replace HV4 := Lib.hid (HV4.out.kept hsub HB.out (fun _ h => h))
      clear ho hsub
      have HK7 := Lib.hid (show CK w7 g b1 b2 (opS s d) by rw [HS.out]; exact hk)
      clear hk
      go_wp2_with fail
      generalize hwi : wrap64 (C4 - C3) = wi
      have HWI := Lib.hid hwi
      clear hwi
      obtain ⟨s7, hs7⟩ : ∃ s7, s7 = opS s d := ⟨_, rfl⟩
      rw [← hs7] at HK7
      have HS7 := Lib.hid hs7
      clear hs7
      obtain ⟨N7, hN7⟩ : ∃ N7, N7 = s7.decl.length := ⟨_, rfl⟩
      have HN7 := Lib.hid hN7
      obtain ⟨x2, hx2⟩ : ∃ x2, x2 = s7.ki 2 := ⟨_, rfl⟩
      have HX2 := Lib.hid hx2
      have hst : ∀ W, CK W g b1 b2 s7 → (W.cell? ⟨g, 1, none⟩ = some (.map (some b2)) ∧ W.cell? ⟨g, 4, none⟩ = some (.int .i64 x2) ∧ ∀ ty, (Builtin.len_ #[66] ty #[.map (some b2)]).run Try.prog W = .ok (.int .i64 (N7 : Int)) W) := fun W hk => by
        obtain ⟨fv, h1, h2⟩ := hk.row
        refine ⟨cell_at 1 h1, by rw [hx2]; exact cell_at 4 h1, fun ty => by rw [hN7]; exact hk.decl.len Try.underlying66 ty⟩
      have HST := Lib.hid hst
      clear hst hN7 hx2
      have oD : Only [] w7 w7.drew := (Only.refl [] w7).drew
      by_cases hx0 : x2 = 0
      · have hx0' : (x2 == 0) = true := by simp [hx0]
        have HX0 := Lib.hid hx0
        clear hx0
        obtain ⟨tb, htb⟩ : ∃ tb, (wi == 0) = tb := ⟨_, rfl⟩
        have HTB := Lib.hid htb
        refine wp_region_held_drew (S := fun W => W.cell? ⟨g, 1, none⟩ = some (.map (some b2)) ∧ W.cell? ⟨g, 4, none⟩ = some (.int .i64 x2) ∧ ∀ ty, (Builtin.len_ #[66] ty #[.map (some b2)]).run Try.prog W = .ok (.int .i64 (N7 : Int)) W) (by kernel_rfl) (HST.out _ (HK7.out.quiet oD)) (fun hH => ?_)
        have HOD := Lib.hid oD
        clear oD
        generalize w7.drew = wd at HOD hH ⊢
        refine take_list (i := 0) (v := ?_) rfl (by kernel_rfl) (by kernel_rfl) (by kernel_rfl) (fun _ _ _ h => h) (Or.inl ⟨by rfl, ?_⟩) hH ?_
        rotate_left
        · ((intro w hSw; (try dsimp only at hSw); go_simp); try with_reducible rfl)
        simp only [Act.put, List.setIfInBounds_toArray, List.set_cons_zero, List.set_cons_succ]
        refine take_list (i := 2) (v := ?_) rfl (by kernel_rfl) (by kernel_rfl) (by kernel_rfl) (fun _ _ _ h => h) (Or.inl ⟨by rfl, ?_⟩) hH ?_
        rotate_left
        · ((intro w hSw; (try dsimp only at hSw); go_simp); try with_reducible rfl)
        simp only [Act.put, List.setIfInBounds_toArray, List.set_cons_zero, List.set_cons_succ]
        refine take_list (i := 3) (v := ?_) rfl (by kernel_rfl) (by kernel_rfl) (by kernel_rfl) (fun _ _ _ h => h) (Or.inl ⟨by rfl, ?_⟩) hH ?_
        rotate_left
        · ((intro w hSw; (try dsimp only at hSw); go_simp); try with_reducible rfl)
        simp only [Act.put, List.setIfInBounds_toArray, List.set_cons_zero, List.set_cons_succ]
        refine take_list (i := 4) (v := ?_) rfl (by kernel_rfl) (by kernel_rfl) (by kernel_rfl) (fun _ _ _ h => h) (Or.inl ⟨by rfl, ?_⟩) hH ?_
        rotate_left
        · ((intro w hSw; (try dsimp only at hSw); go_simp); try with_reducible rfl)
        simp only [Act.put, List.setIfInBounds_toArray, List.set_cons_zero, List.set_cons_succ]
        refine take_list (i := 5) (v := ?_) rfl (by kernel_rfl) (by kernel_rfl) (by kernel_rfl) (fun _ _ _ h => h) (Or.inl ⟨by rfl, ?_⟩) hH ?_
        rotate_left
        · ((intro w hSw; (try dsimp only at hSw); go_simp); try with_reducible rfl)
        simp only [Act.put, List.setIfInBounds_toArray, List.set_cons_zero, List.set_cons_succ]
        refine take_list (i := 6) (v := ?_) rfl (by kernel_rfl) (by kernel_rfl) (by kernel_rfl) (fun _ _ _ h => h) (Or.inl ⟨by rfl, ?_⟩) hH ?_
        rotate_left
        · ((intro w hSw; (try dsimp only at hSw); go_simp); try with_reducible rfl)
        simp only [Act.put, List.setIfInBounds_toArray, List.set_cons_zero, List.set_cons_succ]
        refine take_list (i := 8) (v := ?_) rfl (by kernel_rfl) (by kernel_rfl) (by kernel_rfl) (fun _ _ _ h => h) (Or.inl ⟨by rfl, ?_⟩) hH ?_
        rotate_left
        · ((intro w hSw; (try dsimp only at hSw); go_simp); try with_reducible rfl)
        simp only [Act.put, List.setIfInBounds_toArray, List.set_cons_zero, List.set_cons_succ]
        refine take_list (i := 9) (v := ?_) rfl (by kernel_rfl) (by kernel_rfl) (by kernel_rfl) (fun _ _ _ h => h) (Or.inl ⟨by rfl, ?_⟩) hH ?_
        rotate_left
        · ((intro w hSw; (try dsimp only at hSw); go_simp); try with_reducible rfl)
        simp only [Act.put, List.setIfInBounds_toArray, List.set_cons_zero, List.set_cons_succ]
        refine take_list (i := 10) (v := ?_) rfl (by kernel_rfl) (by kernel_rfl) (by kernel_rfl) (fun _ _ _ h => h) (Or.inl ⟨by rfl, ?_⟩) hH ?_
        rotate_left
        · ((intro w hSw; (try dsimp only at hSw); go_simp); try with_reducible rfl)
        simp only [Act.put, List.setIfInBounds_toArray, List.set_cons_zero, List.set_cons_succ]
        refine take_list (i := 11) (v := ?_) rfl (by kernel_rfl) (by kernel_rfl) (by kernel_rfl) (fun _ _ _ h => h) (Or.inl ⟨by rfl, ?_⟩) hH ?_
        rotate_left
        · ((intro w hSw; (try dsimp only at hSw); go_simp); try with_reducible rfl)
        simp only [Act.put, List.setIfInBounds_toArray, List.set_cons_zero, List.set_cons_succ]
        refine take_list (i := 12) (v := ?_) rfl (by kernel_rfl) (by kernel_rfl) (by kernel_rfl) (fun _ _ _ h => h) (Or.inl ⟨by rfl, ?_⟩) hH ?_
        rotate_left
        · ((intro w hSw; (try dsimp only at hSw); go_simp); try with_reducible rfl)
        simp only [Act.put, List.setIfInBounds_toArray, List.set_cons_zero, List.set_cons_succ]
        refine take_list (i := 13) (v := ?_) rfl (by kernel_rfl) (by kernel_rfl) (by kernel_rfl) (fun _ _ _ h => h) (Or.inl ⟨by rfl, ?_⟩) hH ?_
        rotate_left
        · ((intro w hSw; (try dsimp only at hSw); go_simp); try with_reducible rfl)
        simp only [Act.put, List.setIfInBounds_toArray, List.set_cons_zero, List.set_cons_succ]
        refine wpAnyH_ready (rs := [1]) (by kernel_rfl) (by simp) ?_
        refine ready_list rfl (fun K hK => ?_)
        go_simp
        refine (cmode_any (HK7.out.quiet HOD.out)).mono ?_
        rintro en w8 ⟨rfl, ho8⟩
        have HO8 := Lib.hid (HOD.out.trans ho8 (by simp))
        refine hK.out _ _ (HST.out _ (HK7.out.quiet HO8.out)) (fun hH => ?_)
        clear hK K ho8
        refine take_list (i := 7) (v := ?_) rfl (by kernel_rfl) (by kernel_rfl) (by kernel_rfl) (fun _ _ _ h => h) (Or.inl ⟨by rfl, ?_⟩) hH ?_
        rotate_left
        · ((intro w hSw; (try dsimp only at hSw); go_simp); try with_reducible rfl)
        simp only [Act.put, List.setIfInBounds_toArray, List.set_cons_zero, List.set_cons_succ]
        refine take_list (i := 14) (v := ?_) rfl (by kernel_rfl) (by kernel_rfl) (by kernel_rfl) (fun _ _ _ h => h) (Or.inl ⟨by rfl, ?_⟩) hH ?_
        rotate_left
        · ((intro w hSw; (try dsimp only at hSw); go_simp); try with_reducible rfl)
        simp only [Act.put, List.setIfInBounds_toArray, List.set_cons_zero, List.set_cons_succ]
        refine take_list (i := 15) (v := ?_) rfl (by kernel_rfl) (by kernel_rfl) (by kernel_rfl) (fun _ _ _ h => h) (Or.inl ⟨by rfl, ?_⟩) hH ?_
        rotate_left
        · ((intro w hSw; (try dsimp only at hSw); go_simp); try with_reducible rfl)
        simp only [Act.put, List.setIfInBounds_toArray, List.set_cons_zero, List.set_cons_succ]
        refine take_list (i := 16) (v := ?_) rfl (by kernel_rfl) (by kernel_rfl) (by kernel_rfl) (fun _ _ _ h => h) (Or.inl ⟨by rfl, ?_⟩) hH ?_
        rotate_left
        · ((intro w hSw; (try dsimp only at hSw); go_simp); try with_reducible rfl)
        simp only [Act.put, List.setIfInBounds_toArray, List.set_cons_zero, List.set_cons_succ]
        refine take_list (i := 17) (v := ?_) rfl (by kernel_rfl) (by kernel_rfl) (by kernel_rfl) (fun _ _ _ h => h) (Or.inl ⟨by rfl, ?_⟩) hH ?_
        rotate_left
        · ((intro w hSw; (try dsimp only at hSw); go_simp); try with_reducible rfl)
        simp only [Act.put, List.setIfInBounds_toArray, List.set_cons_zero, List.set_cons_succ]
        refine take_list (i := 18) (v := ?_) rfl (by kernel_rfl) (by kernel_rfl) (by kernel_rfl) (fun _ _ _ h => h) (Or.inl ⟨by rfl, ?_⟩) hH ?_
        rotate_left
        · ((intro w hSw; (try dsimp only at hSw); go_simp); try with_reducible rfl)
        simp only [Act.put, List.setIfInBounds_toArray, List.set_cons_zero, List.set_cons_succ]
        have HZ8 := Lib.hid (HO8.out.heap HZ.out (by simp))
        have s0 : w8.cell? ⟨w.heap.size + 1, 0, none⟩ = some (.int .i64 0) := cell_at 0 HZ8.out
        have s1 : w8.cell? ⟨w.heap.size + 1, 1, none⟩ = some (.int .i64 0) := cell_at 1 HZ8.out
        have s2 : w8.cell? ⟨w.heap.size + 1, 2, none⟩ = some (.int .i64 0) := cell_at 2 HZ8.out
        have s3 : w8.cell? ⟨w.heap.size + 1, 3, none⟩ = some (.bool false) := cell_at 3 HZ8.out
        have gs0 := free_at 0 HZ8.out
        have gs1 := free_at 1 HZ8.out
        have gs2 := free_at 2 HZ8.out
        have gs3 := free_at 3 HZ8.out
        clear hH
        refine wpAnyH_ready (rs := [19]) (by kernel_rfl) (by simp) ?_
        refine ready_list rfl (fun K hK => ?_)
        go_simp
        have oz : Only [w.heap.size + 1] w8 ((((w8.setCell ⟨w.heap.size + 1, 0, none⟩ (.int .i64 (modeC s7))).setCell ⟨w.heap.size + 1, 1, none⟩ (.int .i64 (T : Int))).setCell ⟨w.heap.size + 1, 2, none⟩ (.int .i64 (N7 : Int))).setCell ⟨w.heap.size + 1, 3, none⟩ (.bool tb)) :=
          ((((Only.refl _ _).setCell (.inl (by simp)) _).setCell (.inl (by simp)) _).setCell (.inl (by simp)) _).setCell (.inl (by simp)) _
        have hz := four_set HZ8.out (.int .i64 (modeC s7)) (.int .i64 (T : Int)) (.int .i64 (N7 : Int)) (.bool tb)
        generalize (((w8.setCell ⟨w.heap.size + 1, 0, none⟩ (.int .i64 (modeC s7))).setCell ⟨w.heap.size + 1, 1, none⟩ (.int .i64 (T : Int))).setCell ⟨w.heap.size + 1, 2, none⟩ (.int .i64 (N7 : Int))).setCell ⟨w.heap.size + 1, 3, none⟩ (.bool tb) = wz at oz hz ⊢
        have hkz : CK wz g b1 b2 s7 := by
          refine (HK7.out.quiet HO8.out).past oz (fun k hk => by rw [List.mem_singleton.1 hk]; exact hgz) (fun k hk o ho cs fr e => ?_)
          rw [List.mem_singleton.1 hk, HZ8.out] at ho
          rw [← Option.some.inj ho] at e
          injection e with _ e2 _
          exact absurd e2 (by decide)
        refine hK.out _ _ (HST.out _ hkz) (fun hH => ?_)
        have HKZ := Lib.hid hkz
        have HZZ := Lib.hid hz
        have HOZ := Lib.hid oz
        clear hK K hz hkz oz s0 s1 s2 s3 gs0 gs1 gs2 gs3
        refine wpAnyH_done (by kernel_rfl) ?_ _
        clear hH
        go_wp2_with fail
        (try simp only [Exit.inBlock, Exit.then])
        refine bodyPost_ret (res_operation _ _ (w.heap.size + 1) _ _ _ _ rfl HZZ.out) rfl ?_
        refine ⟨modeC s7, T, N7, tb, rfl, by rw [← HS7.out]; exact HKZ.out, fun _ => ⟨by rw [HS7.out]; rfl, by rw [HT.out]; rfl, by rw [HN7.out, HS7.out]; rfl, ?_⟩, (HO.out.trans HO8.out (by simp)).trans (T := [w.heap.size + 1]) HOZ.out (fun k hk => .inr (by rw [List.mem_singleton.1 hk]; omega))⟩
        unfold opI
        dsimp only
        rw [← HS7.out, ← HX2.out, HX0.out, ← HC4.out, ← HC3.out, HWI.out, HTB.out]
        simp
      · have hx0' : (x2 == 0) = false := by simpa using hx0
        have HX0 := Lib.hid hx0'
        clear hx0
        refine wp_region_held_drew (S := fun W => W.cell? ⟨g, 1, none⟩ = some (.map (some b2)) ∧ W.cell? ⟨g, 4, none⟩ = some (.int .i64 x2) ∧ ∀ ty, (Builtin.len_ #[66] ty #[.map (some b2)]).run Try.prog W = .ok (.int .i64 (N7 : Int)) W) (by kernel_rfl) (HST.out _ (HK7.out.quiet oD)) (fun hH => ?_)
        have HOD := Lib.hid oD
        clear oD
        generalize w7.drew = wd at HOD hH ⊢
        refine take_list (i := 0) (v := ?_) rfl (by kernel_rfl) (by kernel_rfl) (by kernel_rfl) (fun _ _ _ h => h) (Or.inl ⟨by rfl, ?_⟩) hH ?_
        rotate_left
        · ((intro w hSw; (try dsimp only at hSw); go_simp); try with_reducible rfl)
        simp only [Act.put, List.setIfInBounds_toArray, List.set_cons_zero, List.set_cons_succ]
        refine take_list (i := 2) (v := ?_) rfl (by kernel_rfl) (by kernel_rfl) (by kernel_rfl) (fun _ _ _ h => h) (Or.inl ⟨by rfl, ?_⟩) hH ?_
        rotate_left
        · ((intro w hSw; (try dsimp only at hSw); go_simp); try with_reducible rfl)
        simp only [Act.put, List.setIfInBounds_toArray, List.set_cons_zero, List.set_cons_succ]
        refine take_list (i := 3) (v := ?_) rfl (by kernel_rfl) (by kernel_rfl) (by kernel_rfl) (fun _ _ _ h => h) (Or.inl ⟨by rfl, ?_⟩) hH ?_
        rotate_left
        · ((intro w hSw; (try dsimp only at hSw); go_simp); try with_reducible rfl)
        simp only [Act.put, List.setIfInBounds_toArray, List.set_cons_zero, List.set_cons_succ]
        refine take_list (i := 4) (v := ?_) rfl (by kernel_rfl) (by kernel_rfl) (by kernel_rfl) (fun _ _ _ h => h) (Or.inl ⟨by rfl, ?_⟩) hH ?_
        rotate_left
        · ((intro w hSw; (try dsimp only at hSw); go_simp); try with_reducible rfl)
        simp only [Act.put, List.setIfInBounds_toArray, List.set_cons_zero, List.set_cons_succ]
        refine take_list (i := 5) (v := ?_) rfl (by kernel_rfl) (by kernel_rfl) (by kernel_rfl) (fun _ _ _ h => h) (Or.inl ⟨by rfl, ?_⟩) hH ?_
        rotate_left
        · ((intro w hSw; (try dsimp only at hSw); go_simp); try with_reducible rfl)
        simp only [Act.put, List.setIfInBounds_toArray, List.set_cons_zero, List.set_cons_succ]
        refine take_list (i := 6) (v := ?_) rfl (by kernel_rfl) (by kernel_rfl) (by kernel_rfl) (fun _ _ _ h => h) (Or.inl ⟨by rfl, ?_⟩) hH ?_
        rotate_left
        · ((intro w hSw; (try dsimp only at hSw); go_simp); try with_reducible rfl)
        simp only [Act.put, List.setIfInBounds_toArray, List.set_cons_zero, List.set_cons_succ]
        refine take_list (i := 8) (v := ?_) rfl (by kernel_rfl) (by kernel_rfl) (by kernel_rfl) (fun _ _ _ h => h) (Or.inl ⟨by rfl, ?_⟩) hH ?_
        rotate_left
        · ((intro w hSw; (try dsimp only at hSw); go_simp); try with_reducible rfl)
        simp only [Act.put, List.setIfInBounds_toArray, List.set_cons_zero, List.set_cons_succ]
        refine take_list (i := 9) (v := ?_) rfl (by kernel_rfl) (by kernel_rfl) (by kernel_rfl) (fun _ _ _ h => h) (Or.inl ⟨by rfl, ?_⟩) hH ?_
        rotate_left
        · ((intro w hSw; (try dsimp only at hSw); go_simp); try with_reducible rfl)
        simp only [Act.put, List.setIfInBounds_toArray, List.set_cons_zero, List.set_cons_succ]
        refine take_list (i := 10) (v := ?_) rfl (by kernel_rfl) (by kernel_rfl) (by kernel_rfl) (fun _ _ _ h => h) (Or.inl ⟨by rfl, ?_⟩) hH ?_
        rotate_left
        · ((intro w hSw; (try dsimp only at hSw); go_simp); try with_reducible rfl)
        simp only [Act.put, List.setIfInBounds_toArray, List.set_cons_zero, List.set_cons_succ]
        refine take_list (i := 11) (v := ?_) rfl (by kernel_rfl) (by kernel_rfl) (by kernel_rfl) (fun _ _ _ h => h) (Or.inl ⟨by rfl, ?_⟩) hH ?_
        rotate_left
        · ((intro w hSw; (try dsimp only at hSw); go_simp); try with_reducible rfl)
        simp only [Act.put, List.setIfInBounds_toArray, List.set_cons_zero, List.set_cons_succ]
        refine take_list (i := 12) (v := ?_) rfl (by kernel_rfl) (by kernel_rfl) (by kernel_rfl) (fun _ _ _ h => h) (Or.inl ⟨by rfl, ?_⟩) hH ?_
        rotate_left
        · ((intro w hSw; (try dsimp only at hSw); go_simp); try with_reducible rfl)
        simp only [Act.put, List.setIfInBounds_toArray, List.set_cons_zero, List.set_cons_succ]
        refine take_list (i := 13) (v := ?_) rfl (by kernel_rfl) (by kernel_rfl) (by kernel_rfl) (fun _ _ _ h => h) (Or.inl ⟨by rfl, ?_⟩) hH ?_
        rotate_left
        · ((intro w hSw; (try dsimp only at hSw); go_simp); try with_reducible rfl)
        simp only [Act.put, List.setIfInBounds_toArray, List.set_cons_zero, List.set_cons_succ]
        refine wpAnyH_ready (rs := [1]) (by kernel_rfl) (by simp) ?_
        refine ready_list rfl (fun K hK => ?_)
        go_simp
        refine (cmode_any (HK7.out.quiet HOD.out)).mono ?_
        rintro en w8 ⟨rfl, ho8⟩
        have HO8 := Lib.hid (HOD.out.trans ho8 (by simp))
        refine hK.out _ _ (HST.out _ (HK7.out.quiet HO8.out)) (fun hH => ?_)
        clear hK K ho8
        refine take_list (i := 7) (v := ?_) rfl (by kernel_rfl) (by kernel_rfl) (by kernel_rfl) (fun _ _ _ h => h) (Or.inl ⟨by rfl, ?_⟩) hH ?_
        rotate_left
        · ((intro w hSw; (try dsimp only at hSw); go_simp); try with_reducible rfl)
        simp only [Act.put, List.setIfInBounds_toArray, List.set_cons_zero, List.set_cons_succ]
        refine take_list (i := 14) (v := ?_) rfl (by kernel_rfl) (by kernel_rfl) (by kernel_rfl) (fun _ _ _ h => h) (Or.inl ⟨by rfl, ?_⟩) hH ?_
        rotate_left
        · ((intro w hSw; (try dsimp only at hSw); go_simp); try with_reducible rfl)
        simp only [Act.put, List.setIfInBounds_toArray, List.set_cons_zero, List.set_cons_succ]
        refine take_list (i := 15) (v := undef) rfl (by kernel_rfl) (by kernel_rfl) (by kernel_rfl) (fun _ _ _ h => h) (Or.inr ⟨by rfl, rfl⟩) hH ?_
        simp only [Act.put, List.setIfInBounds_toArray, List.set_cons_zero, List.set_cons_succ]
        refine take_list (i := 16) (v := undef) rfl (by kernel_rfl) (by kernel_rfl) (by kernel_rfl) (fun _ _ _ h => h) (Or.inr ⟨by rfl, rfl⟩) hH ?_
        simp only [Act.put, List.setIfInBounds_toArray, List.set_cons_zero, List.set_cons_succ]
        refine take_list (i := 17) (v := ?_) rfl (by kernel_rfl) (by kernel_rfl) (by kernel_rfl) (fun _ _ _ h => h) (Or.inl ⟨by rfl, ?_⟩) hH ?_
        rotate_left
        · ((intro w hSw; (try dsimp only at hSw); go_simp); try with_reducible rfl)
        simp only [Act.put, List.setIfInBounds_toArray, List.set_cons_zero, List.set_cons_succ]
        refine take_list (i := 18) (v := ?_) rfl (by kernel_rfl) (by kernel_rfl) (by kernel_rfl) (fun _ _ _ h => h) (Or.inl ⟨by rfl, ?_⟩) hH ?_
        rotate_left
        · ((intro w hSw; (try dsimp only at hSw); go_simp); try with_reducible rfl)
        simp only [Act.put, List.setIfInBounds_toArray, List.set_cons_zero, List.set_cons_succ]
        have HZ8 := Lib.hid (HO8.out.heap HZ.out (by simp))
        have s0 : w8.cell? ⟨w.heap.size + 1, 0, none⟩ = some (.int .i64 0) := cell_at 0 HZ8.out
        have s1 : w8.cell? ⟨w.heap.size + 1, 1, none⟩ = some (.int .i64 0) := cell_at 1 HZ8.out
        have s2 : w8.cell? ⟨w.heap.size + 1, 2, none⟩ = some (.int .i64 0) := cell_at 2 HZ8.out
        have s3 : w8.cell? ⟨w.heap.size + 1, 3, none⟩ = some (.bool false) := cell_at 3 HZ8.out
        have gs0 := free_at 0 HZ8.out
        have gs1 := free_at 1 HZ8.out
        have gs2 := free_at 2 HZ8.out
        have gs3 := free_at 3 HZ8.out
        clear hH
        refine wpAnyH_ready (rs := [19]) (by kernel_rfl) (by simp) ?_
        refine ready_list rfl (fun K hK => ?_)
        go_simp
        have oz : Only [w.heap.size + 1] w8 ((((w8.setCell ⟨w.heap.size + 1, 0, none⟩ (.int .i64 (modeC s7))).setCell ⟨w.heap.size + 1, 1, none⟩ (.int .i64 (T : Int))).setCell ⟨w.heap.size + 1, 2, none⟩ (.int .i64 (N7 : Int))).setCell ⟨w.heap.size + 1, 3, none⟩ (.bool false)) :=
          ((((Only.refl _ _).setCell (.inl (by simp)) _).setCell (.inl (by simp)) _).setCell (.inl (by simp)) _).setCell (.inl (by simp)) _
        have hz := four_set HZ8.out (.int .i64 (modeC s7)) (.int .i64 (T : Int)) (.int .i64 (N7 : Int)) (.bool false)
        generalize (((w8.setCell ⟨w.heap.size + 1, 0, none⟩ (.int .i64 (modeC s7))).setCell ⟨w.heap.size + 1, 1, none⟩ (.int .i64 (T : Int))).setCell ⟨w.heap.size + 1, 2, none⟩ (.int .i64 (N7 : Int))).setCell ⟨w.heap.size + 1, 3, none⟩ (.bool false) = wz at oz hz ⊢
        have hkz : CK wz g b1 b2 s7 := by
          refine (HK7.out.quiet HO8.out).past oz (fun k hk => by rw [List.mem_singleton.1 hk]; exact hgz) (fun k hk o ho cs fr e => ?_)
          rw [List.mem_singleton.1 hk, HZ8.out] at ho
          rw [← Option.some.inj ho] at e
          injection e with _ e2 _
          exact absurd e2 (by decide)
        refine hK.out _ _ (HST.out _ hkz) (fun hH => ?_)
        have HKZ := Lib.hid hkz
        have HZZ := Lib.hid hz
        have HOZ := Lib.hid oz
        clear hK K hz hkz oz s0 s1 s2 s3 gs0 gs1 gs2 gs3
        refine wpAnyH_done (by kernel_rfl) ?_ _
        clear hH
        go_wp2_with fail
        (try simp only [Exit.inBlock, Exit.then])
        refine bodyPost_ret (res_operation _ _ (w.heap.size + 1) _ _ _ _ rfl HZZ.out) rfl ?_
        refine ⟨modeC s7, T, N7, false, rfl, by rw [← HS7.out]; exact HKZ.out, fun _ => ⟨by rw [HS7.out]; rfl, by rw [HT.out]; rfl, by rw [HN7.out, HS7.out]; rfl, ?_⟩, (HO.out.trans HO8.out (by simp)).trans (T := [w.heap.size + 1]) HOZ.out (fun k hk => .inr (by rw [List.mem_singleton.1 hk]; omega))⟩
        unfold opI
        dsimp only
        rw [← HS7.out, ← HX2.out, HX0.out]
        simp
    · have h20' : ¬ (2048 : Int) < (T : Int) := by omega
      have hS : opS s d = opG s d := by unfold opS; rw [HFL.out, ← HT.out]; simp [h20]
      have HS := Lib.hid hS
      have HK7 := Lib.hid (show CK w6 g b1 b2 (opS s d) by rw [hS]; exact HK6.out)
      clear hS h20
      obtain ⟨w7, hw7⟩ : ∃ w7, w7 = w6 := ⟨_, rfl⟩
      rw [← hw7] at HY HZ HO HK7
      go_wp2_with fail
      rw [← hw7]
      clear hw7
      generalize hwi : wrap64 (C4 - C3) = wi
      have HWI := Lib.hid hwi
      clear hwi
      obtain ⟨s7, hs7⟩ : ∃ s7, s7 = opS s d := ⟨_, rfl⟩
      rw [← hs7] at HK7
      have HS7 := Lib.hid hs7
      clear hs7
      obtain ⟨N7, hN7⟩ : ∃ N7, N7 = s7.decl.length := ⟨_, rfl⟩
      have HN7 := Lib.hid hN7
      obtain ⟨x2, hx2⟩ : ∃ x2, x2 = s7.ki 2 := ⟨_, rfl⟩
      have HX2 := Lib.hid hx2
      have hst : ∀ W, CK W g b1 b2 s7 → (W.cell? ⟨g, 1, none⟩ = some (.map (some b2)) ∧ W.cell? ⟨g, 4, none⟩ = some (.int .i64 x2) ∧ ∀ ty, (Builtin.len_ #[66] ty #[.map (some b2)]).run Try.prog W = .ok (.int .i64 (N7 : Int)) W) := fun W hk => by
        obtain ⟨fv, h1, h2⟩ := hk.row
        refine ⟨cell_at 1 h1, by rw [hx2]; exact cell_at 4 h1, fun ty => by rw [hN7]; exact hk.decl.len Try.underlying66 ty⟩
      have HST := Lib.hid hst
      clear hst hN7 hx2
      have oD : Only [] w7 w7.drew := (Only.refl [] w7).drew
      by_cases hx0 : x2 = 0
      · have hx0' : (x2 == 0) = true := by simp [hx0]
        have HX0 := Lib.hid hx0
        clear hx0
        obtain ⟨tb, htb⟩ : ∃ tb, (wi == 0) = tb := ⟨_, rfl⟩
        have HTB := Lib.hid htb
        refine wp_region_held_drew (S := fun W => W.cell? ⟨g, 1, none⟩ = some (.map (some b2)) ∧ W.cell? ⟨g, 4, none⟩ = some (.int .i64 x2) ∧ ∀ ty, (Builtin.len_ #[66] ty #[.map (some b2)]).run Try.prog W = .ok (.int .i64 (N7 : Int)) W) (by kernel_rfl) (HST.out _ (HK7.out.quiet oD)) (fun hH => ?_)
        have HOD := Lib.hid oD
        clear oD
        generalize w7.drew = wd at HOD hH ⊢
        refine take_list (i := 0) (v := ?_) rfl (by kernel_rfl) (by kernel_rfl) (by kernel_rfl) (fun _ _ _ h => h) (Or.inl ⟨by rfl, ?_⟩) hH ?_
        rotate_left
        · ((intro w hSw; (try dsimp only at hSw); go_simp); try with_reducible rfl)
        simp only [Act.put, List.setIfInBounds_toArray, List.set_cons_zero, List.set_cons_succ]
        refine take_list (i := 2) (v := ?_) rfl (by kernel_rfl) (by kernel_rfl) (by kernel_rfl) (fun _ _ _ h => h) (Or.inl ⟨by rfl, ?_⟩) hH ?_
        rotate_left
        · ((intro w hSw; (try dsimp only at hSw); go_simp); try with_reducible rfl)
        simp only [Act.put, List.setIfInBounds_toArray, List.set_cons_zero, List.set_cons_succ]
        refine take_list (i := 3) (v := ?_) rfl (by kernel_rfl) (by kernel_rfl) (by kernel_rfl) (fun _ _ _ h => h) (Or.inl ⟨by rfl, ?_⟩) hH ?_
        rotate_left
        · ((intro w hSw; (try dsimp only at hSw); go_simp); try with_reducible rfl)
        simp only [Act.put, List.setIfInBounds_toArray, List.set_cons_zero, List.set_cons_succ]
        refine take_list (i := 4) (v := ?_) rfl (by kernel_rfl) (by kernel_rfl) (by kernel_rfl) (fun _ _ _ h => h) (Or.inl ⟨by rfl, ?_⟩) hH ?_
        rotate_left
        · ((intro w hSw; (try dsimp only at hSw); go_simp); try with_reducible rfl)
        simp only [Act.put, List.setIfInBounds_toArray, List.set_cons_zero, List.set_cons_succ]
        refine take_list (i := 5) (v := ?_) rfl (by kernel_rfl) (by kernel_rfl) (by kernel_rfl) (fun _ _ _ h => h) (Or.inl ⟨by rfl, ?_⟩) hH ?_
        rotate_left
        · ((intro w hSw; (try dsimp only at hSw); go_simp); try with_reducible rfl)
        simp only [Act.put, List.setIfInBounds_toArray, List.set_cons_zero, List.set_cons_succ]
        refine take_list (i := 6) (v := ?_) rfl (by kernel_rfl) (by kernel_rfl) (by kernel_rfl) (fun _ _ _ h => h) (Or.inl ⟨by rfl, ?_⟩) hH ?_
        rotate_left
        · ((intro w hSw; (try dsimp only at hSw); go_simp); try with_reducible rfl)
        simp only [Act.put, List.setIfInBounds_toArray, List.set_cons_zero, List.set_cons_succ]
        refine take_list (i := 8) (v := ?_) rfl (by kernel_rfl) (by kernel_rfl) (by kernel_rfl) (fun _ _ _ h => h) (Or.inl ⟨by rfl, ?_⟩) hH ?_
        rotate_left
        · ((intro w hSw; (try dsimp only at hSw); go_simp); try with_reducible rfl)
        simp only [Act.put, List.setIfInBounds_toArray, List.set_cons_zero, List.set_cons_succ]
        refine take_list (i := 9) (v := ?_) rfl (by kernel_rfl) (by kernel_rfl) (by kernel_rfl) (fun _ _ _ h => h) (Or.inl ⟨by rfl, ?_⟩) hH ?_
        rotate_left
        · ((intro w hSw; (try dsimp only at hSw); go_simp); try with_reducible rfl)
        simp only [Act.put, List.setIfInBounds_toArray, List.set_cons_zero, List.set_cons_succ]
        refine take_list (i := 10) (v := ?_) rfl (by kernel_rfl) (by kernel_rfl) (by kernel_rfl) (fun _ _ _ h => h) (Or.inl ⟨by rfl, ?_⟩) hH ?_
        rotate_left
        · ((intro w hSw; (try dsimp only at hSw); go_simp); try with_reducible rfl)
        simp only [Act.put, List.setIfInBounds_toArray, List.set_cons_zero, List.set_cons_succ]
        refine take_list (i := 11) (v := ?_) rfl (by kernel_rfl) (by kernel_rfl) (by kernel_rfl) (fun _ _ _ h => h) (Or.inl ⟨by rfl, ?_⟩) hH ?_
        rotate_left
        · ((intro w hSw; (try dsimp only at hSw); go_simp); try with_reducible rfl)
        simp only [Act.put, List.setIfInBounds_toArray, List.set_cons_zero, List.set_cons_succ]
        refine take_list (i := 12) (v := ?_) rfl (by kernel_rfl) (by kernel_rfl) (by kernel_rfl) (fun _ _ _ h => h) (Or.inl ⟨by rfl, ?_⟩) hH ?_
        rotate_left
        · ((intro w hSw; (try dsimp only at hSw); go_simp); try with_reducible rfl)
        simp only [Act.put, List.setIfInBounds_toArray, List.set_cons_zero, List.set_cons_succ]
        refine take_list (i := 13) (v := ?_) rfl (by kernel_rfl) (by kernel_rfl) (by kernel_rfl) (fun _ _ _ h => h) (Or.inl ⟨by rfl, ?_⟩) hH ?_
        rotate_left
        · ((intro w hSw; (try dsimp only at hSw); go_simp); try with_reducible rfl)
        simp only [Act.put, List.setIfInBounds_toArray, List.set_cons_zero, List.set_cons_succ]
        refine wpAnyH_ready (rs := [1]) (by kernel_rfl) (by simp) ?_
        refine ready_list rfl (fun K hK => ?_)
        go_simp
        refine (cmode_any (HK7.out.quiet HOD.out)).mono ?_
        rintro en w8 ⟨rfl, ho8⟩
        have HO8 := Lib.hid (HOD.out.trans ho8 (by simp))
        refine hK.out _ _ (HST.out _ (HK7.out.quiet HO8.out)) (fun hH => ?_)
        clear hK K ho8
        refine take_list (i := 7) (v := ?_) rfl (by kernel_rfl) (by kernel_rfl) (by kernel_rfl) (fun _ _ _ h => h) (Or.inl ⟨by rfl, ?_⟩) hH ?_
        rotate_left
        · ((intro w hSw; (try dsimp only at hSw); go_simp); try with_reducible rfl)
        simp only [Act.put, List.setIfInBounds_toArray, List.set_cons_zero, List.set_cons_succ]
        refine take_list (i := 14) (v := ?_) rfl (by kernel_rfl) (by kernel_rfl) (by kernel_rfl) (fun _ _ _ h => h) (Or.inl ⟨by rfl, ?_⟩) hH ?_
        rotate_left
        · ((intro w hSw; (try dsimp only at hSw); go_simp); try with_reducible rfl)
        simp only [Act.put, List.setIfInBounds_toArray, List.set_cons_zero, List.set_cons_succ]
        refine take_list (i := 15) (v := ?_) rfl (by kernel_rfl) (by kernel_rfl) (by kernel_rfl) (fun _ _ _ h => h) (Or.inl ⟨by rfl, ?_⟩) hH ?_
        rotate_left
        · ((intro w hSw; (try dsimp only at hSw); go_simp); try with_reducible rfl)
        simp only [Act.put, List.setIfInBounds_toArray, List.set_cons_zero, List.set_cons_succ]
        refine take_list (i := 16) (v := ?_) rfl (by kernel_rfl) (by kernel_rfl) (by kernel_rfl) (fun _ _ _ h => h) (Or.inl ⟨by rfl, ?_⟩) hH ?_
        rotate_left
        · ((intro w hSw; (try dsimp only at hSw); go_simp); try with_reducible rfl)
        simp only [Act.put, List.setIfInBounds_toArray, List.set_cons_zero, List.set_cons_succ]
        refine take_list (i := 17) (v := ?_) rfl (by kernel_rfl) (by kernel_rfl) (by kernel_rfl) (fun _ _ _ h => h) (Or.inl ⟨by rfl, ?_⟩) hH ?_
        rotate_left
        · ((intro w hSw; (try dsimp only at hSw); go_simp); try with_reducible rfl)
        simp only [Act.put, List.setIfInBounds_toArray, List.set_cons_zero, List.set_cons_succ]
        refine take_list (i := 18) (v := ?_) rfl (by kernel_rfl) (by kernel_rfl) (by kernel_rfl) (fun _ _ _ h => h) (Or.inl ⟨by rfl, ?_⟩) hH ?_
        rotate_left
        · ((intro w hSw; (try dsimp only at hSw); go_simp); try with_reducible rfl)
        simp only [Act.put, List.setIfInBounds_toArray, List.set_cons_zero, List.set_cons_succ]
        have HZ8 := Lib.hid (HO8.out.heap HZ.out (by simp))
        have s0 : w8.cell? ⟨w.heap.size + 1, 0, none⟩ = some (.int .i64 0) := cell_at 0 HZ8.out
        have s1 : w8.cell? ⟨w.heap.size + 1, 1, none⟩ = some (.int .i64 0) := cell_at 1 HZ8.out
        have s2 : w8.cell? ⟨w.heap.size + 1, 2, none⟩ = some (.int .i64 0) := cell_at 2 HZ8.out
        have s3 : w8.cell? ⟨w.heap.size + 1, 3, none⟩ = some (.bool false) := cell_at 3 HZ8.out
        have gs0 := free_at 0 HZ8.out
        have gs1 := free_at 1 HZ8.out
        have gs2 := free_at 2 HZ8.out
        have gs3 := free_at 3 HZ8.out
        clear hH
        refine wpAnyH_ready (rs := [19]) (by kernel_rfl) (by simp) ?_
        refine ready_list rfl (fun K hK => ?_)
        go_simp
        have oz : Only [w.heap.size + 1] w8 ((((w8.setCell ⟨w.heap.size + 1, 0, none⟩ (.int .i64 (modeC s7))).setCell ⟨w.heap.size + 1, 1, none⟩ (.int .i64 (T : Int))).setCell ⟨w.heap.size + 1, 2, none⟩ (.int .i64 (N7 : Int))).setCell ⟨w.heap.size + 1, 3, none⟩ (.bool tb)) :=
          ((((Only.refl _ _).setCell (.inl (by simp)) _).setCell (.inl (by simp)) _).setCell (.inl (by simp)) _).setCell (.inl (by simp)) _
        have hz := four_set HZ8.out (.int .i64 (modeC s7)) (.int .i64 (T : Int)) (.int .i64 (N7 : Int)) (.bool tb)
        generalize (((w8.setCell ⟨w.heap.size + 1, 0, none⟩ (.int .i64 (modeC s7))).setCell ⟨w.heap.size + 1, 1, none⟩ (.int .i64 (T : Int))).setCell ⟨w.heap.size + 1, 2, none⟩ (.int .i64 (N7 : Int))).setCell ⟨w.heap.size + 1, 3, none⟩ (.bool tb) = wz at oz hz ⊢
        have hkz : CK wz g b1 b2 s7 := by
          refine (HK7.out.quiet HO8.out).past oz (fun k hk => by rw [List.mem_singleton.1 hk]; exact hgz) (fun k hk o ho cs fr e => ?_)
          rw [List.mem_singleton.1 hk, HZ8.out] at ho
          rw [← Option.some.inj ho] at e
          injection e with _ e2 _
          exact absurd e2 (by decide)
        refine hK.out _ _ (HST.out _ hkz) (fun hH => ?_)
        have HKZ := Lib.hid hkz
        have HZZ := Lib.hid hz
        have HOZ := Lib.hid oz
        clear hK K hz hkz oz s0 s1 s2 s3 gs0 gs1 gs2 gs3
        refine wpAnyH_done (by kernel_rfl) ?_ _
        clear hH
        go_wp2_with fail
        (try simp only [Exit.inBlock, Exit.then])
        refine bodyPost_ret (res_operation _ _ (w.heap.size + 1) _ _ _ _ rfl HZZ.out) rfl ?_
        refine ⟨modeC s7, T, N7, tb, rfl, by rw [← HS7.out]; exact HKZ.out, fun _ => ⟨by rw [HS7.out]; rfl, by rw [HT.out]; rfl, by rw [HN7.out, HS7.out]; rfl, ?_⟩, (HO.out.trans HO8.out (by simp)).trans (T := [w.heap.size + 1]) HOZ.out (fun k hk => .inr (by rw [List.mem_singleton.1 hk]; omega))⟩
        unfold opI
        dsimp only
        rw [← HS7.out, ← HX2.out, HX0.out, ← HC4.out, ← HC3.out, HWI.out, HTB.out]
        simp
      · have hx0' : (x2 == 0) = false := by simpa using hx0
        have HX0 := Lib.hid hx0'
        clear hx0
        refine wp_region_held_drew (S := fun W => W.cell? ⟨g, 1, none⟩ = some (.map (some b2)) ∧ W.cell? ⟨g, 4, none⟩ = some (.int .i64 x2) ∧ ∀ ty, (Builtin.len_ #[66] ty #[.map (some b2)]).run Try.prog W = .ok (.int .i64 (N7 : Int)) W) (by kernel_rfl) (HST.out _ (HK7.out.quiet oD)) (fun hH => ?_)
        have HOD := Lib.hid oD
        clear oD
        generalize w7.drew = wd at HOD hH ⊢
        refine take_list (i := 0) (v := ?_) rfl (by kernel_rfl) (by kernel_rfl) (by kernel_rfl) (fun _ _ _ h => h) (Or.inl ⟨by rfl, ?_⟩) hH ?_
        rotate_left
        · ((intro w hSw; (try dsimp only at hSw); go_simp); try with_reducible rfl)
        simp only [Act.put, List.setIfInBounds_toArray, List.set_cons_zero, List.set_cons_succ]
        refine take_list (i := 2) (v := ?_) rfl (by kernel_rfl) (by kernel_rfl) (by kernel_rfl) (fun _ _ _ h => h) (Or.inl ⟨by rfl, ?_⟩) hH ?_
        rotate_left
        · ((intro w hSw; (try dsimp only at hSw); go_simp); try with_reducible rfl)
        simp only [Act.put, List.setIfInBounds_toArray, List.set_cons_zero, List.set_cons_succ]
        refine take_list (i := 3) (v := ?_) rfl (by kernel_rfl) (by kernel_rfl) (by kernel_rfl) (fun _ _ _ h => h) (Or.inl ⟨by rfl, ?_⟩) hH ?_
        rotate_left
        · ((intro w hSw; (try dsimp only at hSw); go_simp); try with_reducible rfl)
        simp only [Act.put, List.setIfInBounds_toArray, List.set_cons_zero, List.set_cons_succ]
        refine take_list (i := 4) (v := ?_) rfl (by kernel_rfl) (by kernel_rfl) (by kernel_rfl) (fun _ _ _ h => h) (Or.inl ⟨by rfl, ?_⟩) hH ?_
        rotate_left
        · ((intro w hSw; (try dsimp only at hSw); go_simp); try with_reducible rfl)
        simp only [Act.put, List.setIfInBounds_toArray, List.set_cons_zero, List.set_cons_succ]
        refine take_list (i := 5) (v := ?_) rfl (by kernel_rfl) (by kernel_rfl) (by kernel_rfl) (fun _ _ _ h => h) (Or.inl ⟨by rfl, ?_⟩) hH ?_
        rotate_left
        · ((intro w hSw; (try dsimp only at hSw); go_simp); try with_reducible rfl)
        simp only [Act.put, List.setIfInBounds_toArray, List.set_cons_zero, List.set_cons_succ]
        refine take_list (i := 6) (v := ?_) rfl (by kernel_rfl) (by kernel_rfl) (by kernel_rfl) (fun _ _ _ h => h) (Or.inl ⟨by rfl, ?_⟩) hH ?_
        rotate_left
        · ((intro w hSw; (try dsimp only at hSw); go_simp); try with_reducible rfl)
        simp only [Act.put, List.setIfInBounds_toArray, List.set_cons_zero, List.set_cons_succ]
        refine take_list (i := 8) (v := ?_) rfl (by kernel_rfl) (by kernel_rfl) (by kernel_rfl) (fun _ _ _ h => h) (Or.inl ⟨by rfl, ?_⟩) hH ?_
        rotate_left
        · ((intro w hSw; (try dsimp only at hSw); go_simp); try with_reducible rfl)
        simp only [Act.put, List.setIfInBounds_toArray, List.set_cons_zero, List.set_cons_succ]
        refine take_list (i := 9) (v := ?_) rfl (by kernel_rfl) (by kernel_rfl) (by kernel_rfl) (fun _ _ _ h => h) (Or.inl ⟨by rfl, ?_⟩) hH ?_
        rotate_left
        · ((intro w hSw; (try dsimp only at hSw); go_simp); try with_reducible rfl)
        simp only [Act.put, List.setIfInBounds_toArray, List.set_cons_zero, List.set_cons_succ]
        refine take_list (i := 10) (v := ?_) rfl (by kernel_rfl) (by kernel_rfl) (by kernel_rfl) (fun _ _ _ h => h) (Or.inl ⟨by rfl, ?_⟩) hH ?_
        rotate_left
        · ((intro w hSw; (try dsimp only at hSw); go_simp); try with_reducible rfl)
        simp only [Act.put, List.setIfInBounds_toArray, List.set_cons_zero, List.set_cons_succ]
        refine take_list (i := 11) (v := ?_) rfl (by kernel_rfl) (by kernel_rfl) (by kernel_rfl) (fun _ _ _ h => h) (Or.inl ⟨by rfl, ?_⟩) hH ?_
        rotate_left
        · ((intro w hSw; (try dsimp only at hSw); go_simp); try with_reducible rfl)
        simp only [Act.put, List.setIfInBounds_toArray, List.set_cons_zero, List.set_cons_succ]
        refine take_list (i := 12) (v := ?_) rfl (by kernel_rfl) (by kernel_rfl) (by kernel_rfl) (fun _ _ _ h => h) (Or.inl ⟨by rfl, ?_⟩) hH ?_
        rotate_left
        · ((intro w hSw; (try dsimp only at hSw); go_simp); try with_reducible rfl)
        simp only [Act.put, List.setIfInBounds_toArray, List.set_cons_zero, List.set_cons_succ]
        refine take_list (i := 13) (v := ?_) rfl (by kernel_rfl) (by kernel_rfl) (by kernel_rfl) (fun _ _ _ h => h) (Or.inl ⟨by rfl, ?_⟩) hH ?_
        rotate_left
        · ((intro w hSw; (try dsimp only at hSw); go_simp); try with_reducible rfl)
        simp only [Act.put, List.setIfInBounds_toArray, List.set_cons_zero, List.set_cons_succ]
        refine wpAnyH_ready (rs := [1]) (by kernel_rfl) (by simp) ?_
        refine ready_list rfl (fun K hK => ?_)
        go_simp
        refine (cmode_any (HK7.out.quiet HOD.out)).mono ?_
        rintro en w8 ⟨rfl, ho8⟩
        have HO8 := Lib.hid (HOD.out.trans ho8 (by simp))
        refine hK.out _ _ (HST.out _ (HK7.out.quiet HO8.out)) (fun hH => ?_)
        clear hK K ho8
        refine take_list (i := 7) (v := ?_) rfl (by kernel_rfl) (by kernel_rfl) (by kernel_rfl) (fun _ _ _ h => h) (Or.inl ⟨by rfl, ?_⟩) hH ?_
        rotate_left
        · ((intro w hSw; (try dsimp only at hSw); go_simp); try with_reducible rfl)
        simp only [Act.put, List.setIfInBounds_toArray, List.set_cons_zero, List.set_cons_succ]
        refine take_list (i := 14) (v := ?_) rfl (by kernel_rfl) (by kernel_rfl) (by kernel_rfl) (fun _ _ _ h => h) (Or.inl ⟨by rfl, ?_⟩) hH ?_
        rotate_left
        · ((intro w hSw; (try dsimp only at hSw); go_simp); try with_reducible rfl)
        simp only [Act.put, List.setIfInBounds_toArray, List.set_cons_zero, List.set_cons_succ]
        refine take_list (i := 15) (v := undef) rfl (by kernel_rfl) (by kernel_rfl) (by kernel_rfl) (fun _ _ _ h => h) (Or.inr ⟨by rfl, rfl⟩) hH ?_
        simp only [Act.put, List.setIfInBounds_toArray, List.set_cons_zero, List.set_cons_succ]
        refine take_list (i := 16) (v := undef) rfl (by kernel_rfl) (by kernel_rfl) (by kernel_rfl) (fun _ _ _ h => h) (Or.inr ⟨by rfl, rfl⟩) hH ?_
        simp only [Act.put, List.setIfInBounds_toArray, List.set_cons_zero, List.set_cons_succ]
        refine take_list (i := 17) (v := ?_) rfl (by kernel_rfl) (by kernel_rfl) (by kernel_rfl) (fun _ _ _ h => h) (Or.inl ⟨by rfl, ?_⟩) hH ?_
        rotate_left
        · ((intro w hSw; (try dsimp only at hSw); go_simp); try with_reducible rfl)
        simp only [Act.put, List.setIfInBounds_toArray, List.set_cons_zero, List.set_cons_succ]
        refine take_list (i := 18) (v := ?_) rfl (by kernel_rfl) (by kernel_rfl) (by kernel_rfl) (fun _ _ _ h => h) (Or.inl ⟨by rfl, ?_⟩) hH ?_
        rotate_left
        · ((intro w hSw; (try dsimp only at hSw); go_simp); try with_reducible rfl)
        simp only [Act.put, List.setIfInBounds_toArray, List.set_cons_zero, List.set_cons_succ]
        have HZ8 := Lib.hid (HO8.out.heap HZ.out (by simp))
        have s0 : w8.cell? ⟨w.heap.size + 1, 0, none⟩ = some (.int .i64 0) := cell_at 0 HZ8.out
        have s1 : w8.cell? ⟨w.heap.size + 1, 1, none⟩ = some (.int .i64 0) := cell_at 1 HZ8.out
        have s2 : w8.cell? ⟨w.heap.size + 1, 2, none⟩ = some (.int .i64 0) := cell_at 2 HZ8.out
        have s3 : w8.cell? ⟨w.heap.size + 1, 3, none⟩ = some (.bool false) := cell_at 3 HZ8.out
        have gs0 := free_at 0 HZ8.out
        have gs1 := free_at 1 HZ8.out
        have gs2 := free_at 2 HZ8.out
        have gs3 := free_at 3 HZ8.out
        clear hH
        refine wpAnyH_ready (rs := [19]) (by kernel_rfl) (by simp) ?_
        refine ready_list rfl (fun K hK => ?_)
        go_simp
        have oz : Only [w.heap.size + 1] w8 ((((w8.setCell ⟨w.heap.size + 1, 0, none⟩ (.int .i64 (modeC s7))).setCell ⟨w.heap.size + 1, 1, none⟩ (.int .i64 (T : Int))).setCell ⟨w.heap.size + 1, 2, none⟩ (.int .i64 (N7 : Int))).setCell ⟨w.heap.size + 1, 3, none⟩ (.bool false)) :=
          ((((Only.refl _ _).setCell (.inl (by simp)) _).setCell (.inl (by simp)) _).setCell (.inl (by simp)) _).setCell (.inl (by simp)) _
        have hz := four_set HZ8.out (.int .i64 (modeC s7)) (.int .i64 (T : Int)) (.int .i64 (N7 : Int)) (.bool false)
        generalize (((w8.setCell ⟨w.heap.size + 1, 0, none⟩ (.int .i64 (modeC s7))).setCell ⟨w.heap.size + 1, 1, none⟩ (.int .i64 (T : Int))).setCell ⟨w.heap.size + 1, 2, none⟩ (.int .i64 (N7 : Int))).setCell ⟨w.heap.size + 1, 3, none⟩ (.bool false) = wz at oz hz ⊢
        have hkz : CK wz g b1 b2 s7 := by
          refine (HK7.out.quiet HO8.out).past oz (fun k hk => by rw [List.mem_singleton.1 hk]; exact hgz) (fun k hk o ho cs fr e => ?_)
          rw [List.mem_singleton.1 hk, HZ8.out] at ho
          rw [← Option.some.inj ho] at e
          injection e with _ e2 _
          exact absurd e2 (by decide)
        refine hK.out _ _ (HST.out _ hkz) (fun hH => ?_)
        have HKZ := Lib.hid hkz
        have HZZ := Lib.hid hz
        have HOZ := Lib.hid oz
        clear hK K hz hkz oz s0 s1 s2 s3 gs0 gs1 gs2 gs3
        refine wpAnyH_done (by kernel_rfl) ?_ _
        clear hH
        go_wp2_with fail
        (try simp only [Exit.inBlock, Exit.then])
        refine bodyPost_ret (res_operation _ _ (w.heap.size + 1) _ _ _ _ rfl HZZ.out) rfl ?_
        refine ⟨modeC s7, T, N7, false, rfl, by rw [← HS7.out]; exact HKZ.out, fun _ => ⟨by rw [HS7.out]; rfl, by rw [HT.out]; rfl, by rw [HN7.out, HS7.out]; rfl, ?_⟩, (HO.out.trans HO8.out (by simp)).trans (T := [w.heap.size + 1]) HOZ.out (fun k hk => .inr (by rw [List.mem_singleton.1 hk]; omega))⟩
        unfold opI
        dsimp only
        rw [← HS7.out, ← HX2.out, HX0.out]
        simp
end
end Go.Proofs.Ytiaeagpepfmfgaa
/- The checker: where there is no fault there was none, and loops are of no more than 64 rounds. No program. -/
namespace Go.Proofs.Ytiaeagpepfmfgaa
open Go.RowKit Go.Maps
set_option linter.unusedSimpArgs false
set_option linter.unusedVariables false

theorem fail_flt (s : CS) (c p : Int) : (s.fail c p).flt ≠ none := by
  unfold CS.fail
  cases h : s.flt with
  | none => simp
  | some x => simp [h]
theorem declare_mono {s : CS} {nm : Sec} {t p : Int} (h : (s.declare nm t p).flt = none) : s.flt = none := by
  unfold CS.declare at h
  split at h
  · exact absurd h (fail_flt _ _ _)
  · split at h
    · exact absurd h (fail_flt _ _ _)
    · exact h
theorem look_mono {s : CS} {nm : Sec} {p : Int} (h : (s.look nm p).2.flt = none) : s.flt = none := by
  unfold CS.look at h
  split at h
  · exact h
  · split at h
    · exact h
    · exact absurd h (fail_flt _ _ _)
mutual
theorem exprC_mono : ∀ (e : E) (s : CS), (exprC s e).2.flt = none → s.flt = none
  | .mk k n nm xs p, s, h => by
    unfold exprC at h
    split at h
    · exact look_mono h
    · split at h
      · have := typedC_mono xs _ _ h
        exact this
      · split at h
        · exact typedC_mono xs _ _ h
        · split at h
          · exact typedC_mono xs _ _ h
          · split at h
            · split at h
              · exact alikeC_mono xs _ h
              · exact typedC_mono xs _ _ h
            · exact h
theorem typedC_mono : ∀ (xs : List E) (s : CS) (want : Int), (typedC s want xs).flt = none → s.flt = none
  | [], s, want, h => by unfold typedC at h; exact h
  | e :: es, s, want, h => by
    unfold typedC at h
    have h1 := typedC_mono es _ _ h
    split at h1
    · exact exprC_mono e s h1
    · exact absurd h1 (fail_flt _ _ _)
theorem alikeC_mono : ∀ (xs : List E) (s : CS), (alikeC s xs).flt = none → s.flt = none
  | [], s, h => by unfold alikeC at h; exact h
  | e :: es, s, h => by
    unfold alikeC at h
    exact exprC_mono e s (typedC_mono es _ _ h)
end
mutual
/-- Blocks only where a statement's kind has them. -/
def pS : St → Prop | .mk k _ _ _ bd els _ => (k ≠ 6 → els = []) ∧ (k ≤ 5 → bd = []) ∧ pB bd ∧ pB els
def pB : List St → Prop | [] => True | x :: xs => pS x ∧ pB xs
end
theorem pB_nil : pB [] := by unfold pB; trivial
section
variable {ts : List Tok}
theorem plain_leaf {k : Int} (nm : Sec) (xs : List E) (p : Int) : pS (.mk k nm xs 0 [] [] p) := by
  unfold pS
  exact ⟨fun _ => rfl, fun _ => rfl, pB_nil, pB_nil⟩
theorem plain_cell {i dp a : Nat} {s : St} (h : cellR ts i dp = .ok (s, a)) : pS s := by
  unfold cellR at h
  split at h
  · cases h
  · split at h
    · split at h
      · cases h
      · split at h <;> cases h
        exact plain_leaf _ _ _
    · split at h
      · split at h
        · cases h
        · split at h <;> cases h
          exact plain_leaf _ _ _
      · cases h
theorem plain_let {i dp a : Nat} {s : St} (h : letR ts i dp = .ok (s, a)) : pS s := by
  unfold letR at h
  split at h
  · cases h
  · split at h
    · cases h
    · split at h
      · cases h
      · split at h <;> cases h
        exact plain_leaf _ _ _
theorem plain_stmt : ∀ f : Nat, (∀ i dp s a, stmtR ts f i dp = .ok (s, a) → pS s) ∧ (∀ i dp l a, blockR ts f i dp = .ok (l, a) → pB l) ∧ (∀ i dp l a, stmtsR ts f i dp = .ok (l, a) → pB l) := by
  intro f
  induction f with
  | zero =>
    refine ⟨fun i _ e a h => ?_, fun i _ e a h => ?_, fun i _ e a h => ?_⟩
    · unfold stmtR at h; cases h
    · unfold blockR at h; cases h
    · unfold stmtsR at h; cases h
  | succ f ih =>
    obtain ⟨ih1, ih2, ih3⟩ := ih
    refine ⟨fun i dp s a h => ?_, fun i dp l a h => ?_, fun i dp l a h => ?_⟩
    · unfold stmtR at h
      split at h
      · exact plain_cell h
      · split at h
        · exact plain_let h
        · split at h
          · split at h
            · cases h
            · split at h
              · cases h
              · rename_i bd c hb
                split at h
                · split at h
                  · cases h
                  · rename_i els d hd
                    cases h
                    unfold pS
                    exact ⟨fun e => absurd rfl e, fun e => absurd e (by omega), ih2 _ _ _ _ hb, ih2 _ _ _ _ hd⟩
                · cases h
                  unfold pS
                  exact ⟨fun _ => rfl, fun e => absurd e (by omega), ih2 _ _ _ _ hb, pB_nil⟩
          · split at h
            · split at h
              · cases h
              · split at h
                · cases h
                · rename_i bd c hb
                  cases h
                  unfold pS
                  exact ⟨fun _ => rfl, fun e => absurd e (by omega), ih2 _ _ _ _ hb, pB_nil⟩
            · cases h
    · unfold blockR at h
      split at h
      · cases h
      · split at h
        · split at h
          · cases h
          · rename_i l' b hs
            split at h <;> cases h
            exact ih3 _ _ _ _ hs
        · cases h
    · unfold stmtsR at h
      split at h
      · cases h
        exact pB_nil
      · split at h
        · cases h
        · rename_i s b hs
          split at h
          · cases h
          · rename_i l' c hl
            cases h
            unfold pB
            exact ⟨ih1 _ _ _ _ hs, ih3 _ _ _ _ hl⟩
theorem plain_body : ∀ f i l a, bodyR ts f i = .ok (l, a) → pB l := by
  intro f
  induction f with
  | zero => intro i l a h; unfold bodyR at h; cases h
  | succ f ih =>
    intro i l a h
    unfold bodyR at h
    split at h
    · cases h
      exact pB_nil
    · split at h
      · cases h
      · rename_i s b hs
        split at h
        · cases h
        · rename_i l' d hl
          cases h
          unfold pB
          exact ⟨(plain_stmt _).1 _ _ _ _ hs, ih _ _ _ hl⟩
end
theorem parse_plain {l : Sec} {d : Df} (h : parseS l = .ok d) : pB d.body := by
  unfold parseS at h
  split at h
  · cases h
  · split at h
    · cases h
    · split at h
      · cases h
      · rename_i d' hp
        cases h
        unfold parseR at hp
        split at hp
        · cases hp
        · rename_i d2 a hd
          split at hp
          · cases hp
            unfold defR at hd
            split at hd
            · cases hd
            · split at hd
              · cases hd
              · split at hd
                · cases hd
                · rename_i b a3 h3
                  split at hd
                  · cases hd
                  · split at hd <;> cases hd
                    exact plain_body _ _ _ _ h3
          · cases hp
mutual
theorem stmtC_few : ∀ (x : St) (s : CS), wS x → pS x → (stmtC s x).flt = none → s.flt = none ∧ fewS x
  | .mk k nm xs n bd els p, s, hw, hp, h => by
    unfold wS at hw
    unfold pS at hp
    obtain ⟨hs, hn, hx, hb, he⟩ := hw
    obtain ⟨p1, p2, p3, p4⟩ := hp
    unfold stmtC at h
    by_cases h6 : k = 6
    · rw [if_neg (by omega), if_pos h6] at h
      obtain ⟨h1, h2⟩ := stmtsC_few els _ he p4 h
      obtain ⟨h3, h4⟩ := stmtsC_few bd _ hb p3 h1
      refine ⟨typedC_mono _ _ _ h3, ?_⟩
      unfold fewS
      exact ⟨fun e => by omega, h4, h2⟩
    · obtain rfl := p1 h6
      by_cases h7 : k = 7 ∨ k = 8
      · rw [if_neg (by omega), if_neg h6, if_pos h7] at h
        obtain ⟨h1, h2⟩ := stmtsC_few bd _ hb p3 h
        have hn0 : 0 ≤ n := by
          rcases hs with hs | hs | hs <;> omega
        by_cases h64 : 64 < n
        · rw [if_pos h64] at h1
          exact absurd h1 (fail_flt _ _ _)
        · rw [if_neg h64] at h1
          refine ⟨declare_mono h1, ?_⟩
          unfold fewS
          exact ⟨fun _ => by omega, h2, by unfold fewB; trivial⟩
      · have h5 : k ≤ 5 := by
          rcases hs with hs | hs | hs <;> omega
        obtain rfl := p2 h5
        have hf : fewS (.mk k nm xs n [] [] p) := by
          unfold fewS fewB
          exact ⟨fun e => absurd e h7, trivial, trivial⟩
        refine ⟨?_, hf⟩
        by_cases h1 : k = 1
        · rw [if_pos h1] at h
          split at h
          · exact h
          · exact exprC_mono _ _ (declare_mono h)
        · rw [if_neg h1, if_neg h6, if_neg h7] at h
          exact typedC_mono _ _ _ h
theorem stmtsC_few : ∀ (xs : List St) (s : CS), wB xs → pB xs → (stmtsC s xs).flt = none → s.flt = none ∧ fewB xs
  | [], s, _, _, h => by unfold stmtsC at h; exact ⟨h, by unfold fewB; trivial⟩
  | x :: xs, s, hw, hp, h => by
    unfold wB at hw
    unfold pB at hp
    unfold stmtsC at h
    obtain ⟨h1, h2⟩ := stmtsC_few xs _ hw.2 hp.2 h
    obtain ⟨h3, h4⟩ := stmtC_few x _ hw.1 hp.1 h1
    exact ⟨h3, by unfold fewB; exact ⟨h4, h2⟩⟩
end
theorem opG_few {s : CS} {d : Df} (hw : Whole d) (hp : pB d.body) (h : (opG s d).flt = none) : fewB d.body := (stmtsC_few d.body _ hw.body hp (typedC_mono _ _ _ h)).2
end Go.Proofs.Ytiaeagpepfmfgaa
/- The checker: Check, at definitions such as texts have. -/
namespace Go.Proofs.Ytiaeagpepfmfgaa
open Go.RowKit Go.Maps
set_option linter.unusedSimpArgs false
set_option linter.unusedVariables false

/-- The checker at the start. -/
def CS.new : CS := ⟨[], fun _ => none, fun _ => 0, 0, none⟩
def infoV (i : InfoR) : Value := .agg #[.int .i64 i.mode, .int .i64 (i.steps : Int), .int .i64 (i.names : Int), .bool i.turns]
def infoZ : InfoR := ⟨0, 0, 0, false⟩
/-- What is found of a definition: the info, or a fault's code and place. -/
def chkD (d : Df) : InfoR × Int × Int := match (opS CS.new d).flt with | none => (opI CS.new d, 0, 0) | some (c, p) => (infoZ, c, p)
/-- A value is an error that is a fault with this code at this place; or none. -/
def FaultZ (w : World) (ev : Value) (f : Option (Int × Int)) : Prop := match f with
  | none => ev = .nilIface
  | some (c, p) => ∃ g, ev = .iface 106 (.pointer (some ⟨g, 0, none⟩)) ∧ w.heap[g]? = some (.cells #[.int .i64 c, .int .i64 p] 108 (0, 0))
theorem FaultZ.quiet {w w' : World} {ev : Value} {f : Option (Int × Int)} (h : FaultZ w ev f) (ho : Only [] w w') : FaultZ w' ev f := by
  cases f with
  | none => exact h
  | some x =>
    obtain ⟨c, p⟩ := x
    obtain ⟨g, h1, h2⟩ := h
    exact ⟨g, h1, ho.heap h2 (by simp)⟩
def ChRes (w : World) (d : Df) (en : Ending) (w' : World) : Prop :=
  ∃ ev, en = .returned (.tuple #[infoV (chkD d).1, ev]) ∧ FaultZ w' ev (opS CS.new d).flt ∧ Only [] w w'
theorem res_check (tmps : Array Value) (w : World) (g : Nat) (v0 v1 v2 v3 ev : Value) (h2 : tmps.getD 2 undef = .pointer (some ⟨g, 0, none⟩)) (h3 : tmps.getD 3 undef = ev) (h : w.heap[g]? = some (.cells #[v0, v1, v2, v3] 47 (0, 0))) :
    (results Try.f20 tmps).run Try.prog w = .ok (.tuple #[.agg #[v0, v1, v2, v3], ev]) w := by
  have c0 : w.cell? ⟨g, 0, none⟩ = some v0 := cell_at 0 h
  have c1 : w.cell? ⟨g, 1, none⟩ = some v1 := cell_at 1 h
  have c2 : w.cell? ⟨g, 2, none⟩ = some v2 := cell_at 2 h
  have c3 : w.cell? ⟨g, 3, none⟩ = some v3 := cell_at 3 h
  have hl : (loadVar 47 ⟨g, 0, none⟩).run Try.prog w = .ok (.agg #[v0, v1, v2, v3]) w := by
    clear h
    simp [go_sem, c0, c1, c2, c3]
  have h2' : tmps[2]?.getD undef = .pointer (some ⟨g, 0, none⟩) := by simpa using h2
  have h3' : tmps[3]?.getD undef = ev := by simpa using h3
  simp [results, Try.results20, asAddr, h2', h3', hl]
def newW (w : World) : World := ((w.alloc (.map #[] 0)).alloc (.map #[] 0)).alloc (.cells #[.map (some w.heap.size), .map (some (w.heap.size + 1)), .int .i64 0, .int .i64 0, .int .i64 0, .int .i64 0, .int .i64 0, .int .i64 0, .int .i64 0, .int .i64 0, .int .i64 0, .int .i64 0, .pointer none] 112)
theorem newW_ck (w : World) : CK (newW w) (w.heap.size + 1 + 1) w.heap.size (w.heap.size + 1) CS.new ∧ Only [] w (newW w) := by
  have s1 : (w.alloc (.map #[] 0)).heap.size = w.heap.size + 1 := Array.size_push _
  have s2 : ((w.alloc (.map #[] 0)).alloc (.map #[] 0)).heap.size = w.heap.size + 1 + 1 := by rw [← s1]; exact Array.size_push _
  have n1 := NMap.made w 135
  have n2 := NMap.made (w.alloc (.map #[] 0)) 3
  rw [s1] at n2
  have o2 : Only [] (w.alloc (.map #[] 0)) (newW w) := ((Only.refl [] _).alloc _).alloc _
  have o3 : Only [] ((w.alloc (.map #[] 0)).alloc (.map #[] 0)) (newW w) := (Only.refl [] _).alloc _
  have h3 := heap_new ((w.alloc (.map #[] 0)).alloc (.map #[] 0)) (.cells #[.map (some w.heap.size), .map (some (w.heap.size + 1)), .int .i64 0, .int .i64 0, .int .i64 0, .int .i64 0, .int .i64 0, .int .i64 0, .int .i64 0, .int .i64 0, .int .i64 0, .int .i64 0, .pointer none] 112)
  rw [s2] at h3
  refine ⟨⟨⟨none, h3, rfl⟩, ⟨0, n1.kept o2 (by simp)⟩, n2.kept o3 (by simp), by decide, by omega, fun nm h => absurd h (by simp [CS.new])⟩, ((Only.refl [] w).alloc _).trans o2 (by simp)⟩
set_option maxRecDepth 100000 in
set_option maxHeartbeats 8000000 in
theorem check_any {w : World} {B : Nat → Prop} {d : Df} {cs : List Value} (hd : DV w B d cs) (hw : Whole d) (hp : pB d.body) : Calls Try.prog 20 #[.agg cs.toArray] w (ChRes w d) := by
  obtain ⟨v1, v2, v3, v4, rfl, hv1, hv2, hv3, hv4⟩ := id hd
  obtain ⟨a1, c1, rfl, -⟩ := hv1
  obtain ⟨a2, c2, rfl, -⟩ := hv2
  obtain ⟨a3, c3, rfl, -⟩ := hv3
  obtain ⟨a4, c4, rfl, -⟩ := hv4
  have HD := Lib.hid hd.lt
  obtain ⟨sn, hsn⟩ : ∃ sn, sn = strOf d.name := ⟨_, rfl⟩
  obtain ⟨L1, hL1⟩ : ∃ L, L = d.params.length := ⟨_, rfl⟩
  obtain ⟨L2, hL2⟩ : ∃ L, L = d.needs.length := ⟨_, rfl⟩
  obtain ⟨L3, hL3⟩ : ∃ L, L = d.body.length := ⟨_, rfl⟩
  obtain ⟨L4, hL4⟩ : ∃ L, L = d.give.length := ⟨_, rfl⟩
  rw [← hsn, ← hL1, ← hL2, ← hL3, ← hL4] at HD ⊢
  have HW := Lib.hid hw
  have HP := Lib.hid hp
  clear hd hw hp hsn hL1 hL2 hL3 hL4
  go_enter Try.func20, Try.ntmps20
  go_upto_region 1 with (fail)
  have o1 : Only [] w ((w.alloc (.cells #[.string sn, .slice a1 L1 c1, .slice a2 L2 c2, .slice a3 L3 c3, .slice a4 L4 c4] 30)).alloc (.cells #[.int .i64 0, .int .i64 0, .int .i64 0, .bool false] 47)) := ((Only.refl [] w).alloc _).alloc _
  have hY : ((w.alloc (.cells #[.string sn, .slice a1 L1 c1, .slice a2 L2 c2, .slice a3 L3 c3, .slice a4 L4 c4] 30)).alloc (.cells #[.int .i64 0, .int .i64 0, .int .i64 0, .bool false] 47)).heap[w.heap.size]? = some (.cells #[.string sn, .slice a1 L1 c1, .slice a2 L2 c2, .slice a3 L3 c3, .slice a4 L4 c4] 30 (0, 0)) := heap_old _ (heap_new w _)
  have hZ : ((w.alloc (.cells #[.string sn, .slice a1 L1 c1, .slice a2 L2 c2, .slice a3 L3 c3, .slice a4 L4 c4] 30)).alloc (.cells #[.int .i64 0, .int .i64 0, .int .i64 0, .bool false] 47)).heap[w.heap.size + 1]? = some (.cells #[.int .i64 0, .int .i64 0, .int .i64 0, .bool false] 47 (0, 0)) := by
    have := heap_new (w.alloc (.cells #[.string sn, .slice a1 L1 c1, .slice a2 L2 c2, .slice a3 L3 c3, .slice a4 L4 c4] 30)) (.cells #[.int .i64 0, .int .i64 0, .int .i64 0, .bool false] 47)
    rw [show (w.alloc (.cells #[.string sn, .slice a1 L1 c1, .slice a2 L2 c2, .slice a3 L3 c3, .slice a4 L4 c4] 30)).heap.size = w.heap.size + 1 from Array.size_push _] at this
    exact this
  generalize ((w.alloc (.cells #[.string sn, .slice a1 L1 c1, .slice a2 L2 c2, .slice a3 L3 c3, .slice a4 L4 c4] 30)).alloc (.cells #[.int .i64 0, .int .i64 0, .int .i64 0, .bool false] 47)) = w1 at o1 hY hZ ⊢
  have HY := Lib.hid hY
  have HZ := Lib.hid hZ
  have HO := Lib.hid o1
  have hD1 := HD.out.kept o1 (by simp) (fun _ h => h)
  have K1 := cwhole_any hD1 HW.out
  have HD1 := Lib.hid hD1
  have y0 : w1.cell? ⟨w.heap.size, 0, none⟩ = some (.string sn) := cell_at 0 hY
  have y1 : w1.cell? ⟨w.heap.size, 1, none⟩ = some (.slice a1 L1 c1) := cell_at 1 hY
  have y2 : w1.cell? ⟨w.heap.size, 2, none⟩ = some (.slice a2 L2 c2) := cell_at 2 hY
  have y3 : w1.cell? ⟨w.heap.size, 3, none⟩ = some (.slice a3 L3 c3) := cell_at 3 hY
  have y4 : w1.cell? ⟨w.heap.size, 4, none⟩ = some (.slice a4 L4 c4) := cell_at 4 hY
  clear o1 hY hZ hD1
  go_wp2_with fail
  refine K1.mono ?_
  rintro en w2 ⟨rfl, o2⟩
  replace HY := Lib.hid (o2.heap HY.out (by simp))
  replace HZ := Lib.hid (o2.heap HZ.out (by simp))
  replace HD1 := Lib.hid (HD1.out.kept o2 (by simp) (fun _ h => h))
  replace HO := Lib.hid (HO.out.trans o2 (by simp))
  clear K1 o2 y0 y1 y2 y3 y4
  have hm := @run_makeMap Try.prog 109
  have hm2 := @run_makeMap Try.prog 66
  go_upto_region 4 with (fail)
  rw [← newW.eq_1]
  obtain ⟨hck, o3⟩ := newW_ck w2
  generalize newW w2 = w3 at hck o3 ⊢
  have hsz : w2.heap.size + 1 + 1 < w3.heap.size := hck.g_lt
  obtain ⟨g, hg⟩ : ∃ g, g = w2.heap.size + 1 + 1 := ⟨_, rfl⟩
  obtain ⟨b1, hb1⟩ : ∃ g, g = w2.heap.size := ⟨_, rfl⟩
  obtain ⟨b2, hb2⟩ : ∃ g, g = w2.heap.size + 1 := ⟨_, rfl⟩
  rw [← hg, ← hb2, ← hb1] at hck
  have hw2 : w.heap.size + 1 < w2.heap.size := lt_of_heap HZ.out
  have hBn : ∀ k ∈ [g, b1, b2], ¬ (B k ∧ k < w.heap.size) := fun k hk => by
    simp only [List.mem_cons, List.not_mem_nil, or_false] at hk
    rcases hk with rfl | rfl | rfl <;> (intro e; have := e.2; omega)
  have hgw : ∀ k ∈ [g, b1, b2], k ≠ w.heap.size ∧ k ≠ w.heap.size + 1 := fun k hk => by
    simp only [List.mem_cons, List.not_mem_nil, or_false] at hk
    rcases hk with rfl | rfl | rfl <;> omega
  have hz0 : w.heap.size ∉ [g, b1, b2] := fun h => (hgw _ h).1 rfl
  have hz1 : w.heap.size + 1 ∉ [g, b1, b2] := fun h => (hgw _ h).2 rfl
  have hwl : ∀ k ∈ [g, b1, b2], w.heap.size ≤ k := fun k hk => by
    simp only [List.mem_cons, List.not_mem_nil, or_false] at hk
    rcases hk with rfl | rfl | rfl <;> omega
  have HWL := Lib.hid hwl
  rw [← hg]
  replace HY := Lib.hid (o3.heap HY.out (by simp))
  replace HZ := Lib.hid (o3.heap HZ.out (by simp))
  replace HD1 := Lib.hid (HD1.out.kept o3 (by simp) (fun _ h => h))
  replace HO := Lib.hid (HO.out.trans o3 (by simp))
  have hW := HW.out
  have hsizes := hW.size
  have K2 := coperation_any (s := CS.new) hck HD1.out hBn hW.params (by have := hW.plen; omega) (wL_ok _ hW.needs) (wB_ok _ hW.body) (wL_ok _ hW.give) (by omega) (by omega) (by omega) (opG_few hW HP.out)
  have y0 : w3.cell? ⟨w.heap.size, 0, none⟩ = some (.string sn) := cell_at 0 HY.out
  have y1 : w3.cell? ⟨w.heap.size, 1, none⟩ = some (.slice a1 L1 c1) := cell_at 1 HY.out
  have y2 : w3.cell? ⟨w.heap.size, 2, none⟩ = some (.slice a2 L2 c2) := cell_at 2 HY.out
  have y3 : w3.cell? ⟨w.heap.size, 3, none⟩ = some (.slice a3 L3 c3) := cell_at 3 HY.out
  have y4 : w3.cell? ⟨w.heap.size, 4, none⟩ = some (.slice a4 L4 c4) := cell_at 4 HY.out
  clear hm hm2 hck o3 hsz hg hb1 hb2 hw2 hBn hgw hwl hW hsizes
  go_wp2_with fail
  refine K2.mono ?_
  rintro en w4 ⟨m, st, nm, tu, rfl, hk4, hres, o4⟩
  replace HZ := Lib.hid (o4.heap HZ.out hz1)
  have ow : Only [] w w4 := by
    have := HO.out.trans (T := [g, b1, b2]) o4 (fun k hk => .inr (HWL.out k hk))
    exact this
  replace HO := Lib.hid ow
  obtain ⟨fv, hrow, hflt⟩ := hk4.row
  have HK4 := Lib.hid hk4
  have hg4 := hk4.g_lt
  have k12 : w4.cell? ⟨g, 12, none⟩ = some (.pointer fv) := cell_at 12 hrow
  have HR := Lib.hid hres
  clear K2 hk4 hres o4 ow y0 y1 y2 y3 y4 hz0 hz1 HWL
  have hzg : w.heap.size + 1 ≠ g := by
    intro e
    have h1 := HZ.out
    rw [e, hrow] at h1
    injection h1 with h1
    injection h1 with _ h2 _
    exact absurd h2 (by decide)
  clear hrow
  have o5 : Only [] w4 (w4.alloc (.cells #[.int .i64 m, .int .i64 st, .int .i64 nm, .bool tu] 47)) := (Only.refl [] w4).alloc _
  have hX := heap_new w4 (.cells #[.int .i64 m, .int .i64 st, .int .i64 nm, .bool tu] 47)
  cases hf : (opS CS.new d).flt with
  | some x =>
    obtain ⟨xc, xp⟩ := x
    rw [hf] at hflt
    obtain ⟨fb, rfl, hfb⟩ := hflt
    have HF := Lib.hid hf
    have HFB := Lib.hid hfb
    clear hf hfb
    have HX := Lib.hid hX
    have HO5 := Lib.hid o5
    clear hX o5
    go_upto_region 6 with (fail)
    have o5 := HO5.out
    generalize (w4.alloc (.cells #[.int .i64 m, .int .i64 st, .int .i64 nm, .bool tu] 47)) = w5 at o5 ⊢
    replace HZ := Lib.hid (o5.heap HZ.out (by simp))
    replace HFB := Lib.hid (o5.heap HFB.out (by simp))
    have k5 := cell_kept o5 k12 (by simp)
    replace HO := Lib.hid (HO.out.trans o5 (by simp))
    clear k12 o5 HO5 HX
    have oD : Only [] w5 w5.drew := (Only.refl [] w5).drew
    refine wp_region_held_drew (S := fun w' => w'.cell? ⟨g, 12, none⟩ = some (.pointer (some ⟨fb, 0, none⟩))) (by kernel_rfl) (cell_kept oD k5 (by simp)) (fun hH => ?_)
    replace HZ := Lib.hid (oD.heap HZ.out (by simp))
    replace HFB := Lib.hid (oD.heap HFB.out (by simp))
    replace HO := Lib.hid (HO.out.trans oD (by simp))
    clear oD k5
    generalize w5.drew = wd at HZ HFB HO hH ⊢
    have HK12 := Lib.hid hH
    refine take_list (i := 0) (v := ?_) rfl (by kernel_rfl) (by kernel_rfl) (by kernel_rfl) (fun _ _ _ h => h) (Or.inl ⟨by rfl, ?_⟩) hH ?_
    rotate_left
    · ((intro w hSw; (try dsimp only at hSw); go_simp); try with_reducible rfl)
    simp only [Act.put, List.setIfInBounds_toArray, List.set_cons_zero, List.set_cons_succ]
    refine take_list (i := 1) (v := ?_) rfl (by kernel_rfl) (by kernel_rfl) (by kernel_rfl) (fun _ _ _ h => h) (Or.inl ⟨by rfl, ?_⟩) hH ?_
    rotate_left
    · ((intro w hSw; (try dsimp only at hSw); go_simp); try with_reducible rfl)
    simp only [Act.put, List.setIfInBounds_toArray, List.set_cons_zero, List.set_cons_succ]
    refine take_list (i := 2) (v := ?_) rfl (by kernel_rfl) (by kernel_rfl) (by kernel_rfl) (fun _ _ _ h => h) (Or.inl ⟨by rfl, ?_⟩) hH ?_
    rotate_left
    · ((intro w hSw; (try dsimp only at hSw); go_simp); try with_reducible rfl)
    simp only [Act.put, List.setIfInBounds_toArray, List.set_cons_zero, List.set_cons_succ]
    refine take_list (i := 3) (v := ?_) rfl (by kernel_rfl) (by kernel_rfl) (by kernel_rfl) (fun _ _ _ h => h) (Or.inl ⟨by rfl, ?_⟩) hH ?_
    rotate_left
    · ((intro w hSw; (try dsimp only at hSw); go_simp); try with_reducible rfl)
    simp only [Act.put, List.setIfInBounds_toArray, List.set_cons_zero, List.set_cons_succ]
    have s0 : wd.cell? ⟨w.heap.size + 1, 0, none⟩ = some (.int .i64 0) := cell_at 0 HZ.out
    have s1 : wd.cell? ⟨w.heap.size + 1, 1, none⟩ = some (.int .i64 0) := cell_at 1 HZ.out
    have s2 : wd.cell? ⟨w.heap.size + 1, 2, none⟩ = some (.int .i64 0) := cell_at 2 HZ.out
    have s3 : wd.cell? ⟨w.heap.size + 1, 3, none⟩ = some (.bool false) := cell_at 3 HZ.out
    have gs0 := free_at 0 HZ.out
    have gs1 := free_at 1 HZ.out
    have gs2 := free_at 2 HZ.out
    have gs3 := free_at 3 HZ.out
    clear hH
    refine wpAnyH_ready (rs := [4]) (by kernel_rfl) (by simp) ?_
    refine ready_list rfl (fun K hK => ?_)
    go_simp
    have oz : Only [w.heap.size + 1] wd ((((wd.setCell ⟨w.heap.size + 1, 0, none⟩ (.int .i64 0)).setCell ⟨w.heap.size + 1, 1, none⟩ (.int .i64 0)).setCell ⟨w.heap.size + 1, 2, none⟩ (.int .i64 0)).setCell ⟨w.heap.size + 1, 3, none⟩ (.bool false)) :=
      ((((Only.refl _ _).setCell (.inl (by simp)) _).setCell (.inl (by simp)) _).setCell (.inl (by simp)) _).setCell (.inl (by simp)) _
    have hz := four_set HZ.out (.int .i64 0) (.int .i64 0) (.int .i64 0) (.bool false)
    generalize (((wd.setCell ⟨w.heap.size + 1, 0, none⟩ (.int .i64 0)).setCell ⟨w.heap.size + 1, 1, none⟩ (.int .i64 0)).setCell ⟨w.heap.size + 1, 2, none⟩ (.int .i64 0)).setCell ⟨w.heap.size + 1, 3, none⟩ (.bool false) = wz at oz hz ⊢
    refine hK.out _ _ (cell_kept oz HK12.out (by simpa using hzg.symm)) (fun hH => ?_)
    clear hK K s0 s1 s2 s3 gs0 gs1 gs2 gs3
    refine take_list (i := 5) (v := ?_) rfl (by kernel_rfl) (by kernel_rfl) (by kernel_rfl) (fun _ _ _ h => h) (Or.inl ⟨by rfl, ?_⟩) hH ?_
    rotate_left
    · ((intro w hSw; (try dsimp only at hSw); go_simp); try with_reducible rfl)
    simp only [Act.put, List.setIfInBounds_toArray, List.set_cons_zero, List.set_cons_succ]
    refine wpAnyH_done (by kernel_rfl) ?_ _
    clear hH
    go_wp2_with fail
    (try simp only [Exit.inBlock, Exit.then])
    refine bodyPost_ret (res_check _ _ (w.heap.size + 1) _ _ _ _ _ rfl rfl hz) rfl ?_
    have hchk : chkD d = (infoZ, xc, xp) := by unfold chkD; rw [HF.out]
    refine ⟨_, by rw [hchk]; rfl, ?_, HO.out.trans (T := [w.heap.size + 1]) oz (fun k hk => .inr (by rw [List.mem_singleton.1 hk]; omega))⟩
    rw [HF.out]
    refine ⟨fb, rfl, oz.heap HFB.out (fun hk => ?_)⟩
    have h1 := HZ.out
    rw [← List.mem_singleton.1 hk, HFB.out] at h1
    injection h1 with h1
    injection h1 with _ h2 _
    exact absurd h2 (by decide)
  | none =>
    rw [hf] at hflt
    obtain rfl : fv = none := hflt
    have HF := Lib.hid hf
    clear hf
    have HX := Lib.hid hX
    have HO5 := Lib.hid o5
    clear hX o5
    go_upto_region 7 with (fail)
    have o5 := HO5.out
    have hX := HX.out
    generalize (w4.alloc (.cells #[.int .i64 m, .int .i64 st, .int .i64 nm, .bool tu] 47)) = w5 at o5 hX ⊢
    have hZ := o5.heap HZ.out (by simp)
    replace HO := Lib.hid (HO.out.trans o5 (by simp))
    have s0 : w5.cell? ⟨w.heap.size + 1, 0, none⟩ = some (.int .i64 0) := cell_at 0 hZ
    have s1 : w5.cell? ⟨w.heap.size + 1, 1, none⟩ = some (.int .i64 0) := cell_at 1 hZ
    have s2 : w5.cell? ⟨w.heap.size + 1, 2, none⟩ = some (.int .i64 0) := cell_at 2 hZ
    have s3 : w5.cell? ⟨w.heap.size + 1, 3, none⟩ = some (.bool false) := cell_at 3 hZ
    have gs0 := free_at 0 hZ
    have gs1 := free_at 1 hZ
    have gs2 := free_at 2 hZ
    have gs3 := free_at 3 hZ
    have x0 : w5.cell? ⟨w4.heap.size, 0, none⟩ = some (.int .i64 m) := cell_at 0 hX
    have x1 : w5.cell? ⟨w4.heap.size, 1, none⟩ = some (.int .i64 st) := cell_at 1 hX
    have x2 : w5.cell? ⟨w4.heap.size, 2, none⟩ = some (.int .i64 nm) := cell_at 2 hX
    have x3 : w5.cell? ⟨w4.heap.size, 3, none⟩ = some (.bool tu) := cell_at 3 hX
    replace HZ := Lib.hid hZ
    clear hX hZ HX o5 HO5 k12
    go_wp2_with fail
    have oz : Only [w.heap.size + 1] w5 ((((w5.setCell ⟨w.heap.size + 1, 0, none⟩ (.int .i64 m)).setCell ⟨w.heap.size + 1, 1, none⟩ (.int .i64 st)).setCell ⟨w.heap.size + 1, 2, none⟩ (.int .i64 nm)).setCell ⟨w.heap.size + 1, 3, none⟩ (.bool tu)) :=
      ((((Only.refl _ _).setCell (.inl (by simp)) _).setCell (.inl (by simp)) _).setCell (.inl (by simp)) _).setCell (.inl (by simp)) _
    have hz := four_set HZ.out (.int .i64 m) (.int .i64 st) (.int .i64 nm) (.bool tu)
    generalize (((w5.setCell ⟨w.heap.size + 1, 0, none⟩ (.int .i64 m)).setCell ⟨w.heap.size + 1, 1, none⟩ (.int .i64 st)).setCell ⟨w.heap.size + 1, 2, none⟩ (.int .i64 nm)).setCell ⟨w.heap.size + 1, 3, none⟩ (.bool tu) = wz at oz hz ⊢
    refine bodyPost_ret (res_check _ _ (w.heap.size + 1) _ _ _ _ _ rfl rfl hz) rfl ?_
    obtain ⟨rfl, rfl, rfl, rfl⟩ := HR.out HF.out
    have hchk : chkD d = (opI CS.new d, 0, 0) := by unfold chkD; rw [HF.out]
    refine ⟨_, by rw [hchk]; rfl, ?_, HO.out.trans (T := [w.heap.size + 1]) oz (fun k hk => .inr (by rw [List.mem_singleton.1 hk]; omega))⟩
    rw [HF.out]
    rfl
end Go.Proofs.Ytiaeagpepfmfgaa
/- Layer 8's laws: an error's code and place, a text that is checked, the chapter's examples. -/
namespace Go.Proofs.Ytiaeagpepfmfgaa
open Go.RowKit Go.Maps
set_option linter.unusedSimpArgs false
set_option linter.unusedVariables false

theorem assert_fault8 (g : Nat) (w : World) : (Instr.typeAssert (.iface 106 (.pointer (some ⟨g, 0, none⟩))) 38 106 true).run Try.prog w = .ok (.tuple #[.pointer (some ⟨g, 0, none⟩), .bool true]) w := by kernel_rfl
/-- What the laws' checked answers. -/
def chkR (r : Except (Nat × Nat) Df) : (InfoR × Int × Int) × Bool := match r with | .error _ => ((infoZ, 0, 0), false) | .ok d => (chkD d, true)
def chkS (l : Sec) : (InfoR × Int × Int) × Bool := chkR (parseS l)
theorem parseS_code {l : Sec} {k q : Nat} (h : parseS l = .error (k, q)) : 0 < k := by
  unfold parseS at h
  repeat' split at h
  all_goals first | (cases h; done) | (cases h; decide)
theorem chkD_flt (d : Df) : ((opS CS.new d).flt.getD (0, 0)) = (chkD d).2 := by
  unfold chkD
  cases (opS CS.new d).flt with
  | none => rfl
  | some x => rfl
end Go.Proofs.Ytiaeagpepfmfgaa

/- The document's own answer for wire: the number that bytes begin with. -/
import Derived.Test.YthacfanfhdjmbaaRU
import Derived.Test.YthacfanfhdjmbaaM4
namespace Go.Proofs.Ythacfanfhdjmbaa
open Go.RowKit Go.Maps
set_option linter.unusedSimpArgs false
set_option linter.unusedVariables false

/-- The first n bytes are 128 or more. -/
def High (l : Sec) (n : Nat) : Prop := ∀ i d, i < n → l[i]? = some d → 128 ≤ d.toNat
theorem High.zero (l : Sec) : High l 0 := fun i d h => by omega
theorem High.next {l : Sec} {n : Nat} (h : High l n) {c : UInt8} (hc : l[n]? = some c) (h1 : 128 ≤ c.toNat) : High l (n + 1) := fun i d hi hd => by
  by_cases e : i = n
  · subst e
    rw [hc] at hd
    cases hd
    exact h1
  · exact h i d (by omega) hd
def RTakePost (w : World) (l : Sec) (e : Ending) (w' : World) : Prop := e = .returned (.tuple #[.int .i64 (numV l).1, .int .i64 (numV l).2]) ∧ Only [] w w'
theorem RTakePost.mk' {w w' : World} {l : Sec} {a b : Int} (h : numV l = (a, b)) (ho : Only [] w w') : RTakePost w l (.returned (.tuple #[.int .i64 a, .int .i64 b])) w' := ⟨ret_num h, ho⟩
/-- The number that the bytes up to the first low one are, if they are one. -/
theorem take_yes {l : Sec} {n : Nat} {v : Int} (h0 : -9223372036854775808 ≤ v) (h1 : v ≤ 9223372036854775807) (hn : n < l.length) (h : num v = l.take (n + 1)) : numV l = (v, ((n + 1 : Nat) : Int)) := by
  have h2 : takeN l = some (v, n + 1) := by
    have h3 := takeN_num h0 h1 (l.drop (n + 1))
    rw [h, List.take_append_drop, List.length_take, Nat.min_eq_left (by omega)] at h3
    exact h3
  exact takeN_some h2
theorem take_no {l : Sec} {n : Nat} {c : UInt8} (hn : l[n]? = some c) (hc : c.toNat < 128) (hb : High l n) (h : num (backN (rval (l.take (n + 1)) % 18446744073709551616)) ≠ l.take (n + 1)) : numV l = (0, 0) := by
  cases ht : takeN l with
  | none => exact takeN_none ht
  | some p =>
    obtain ⟨v, k⟩ := p
    obtain ⟨hk, hr⟩ := takeN_at hn hc hb ht
    obtain ⟨h1, h2, h3, h4, h5⟩ := takeN_inv ht
    have hlt := turnN_lt h4 h5
    rw [hr, Nat.mod_eq_of_lt hlt, back_turn, h1, hk] at h
    exact absurd rfl h
theorem rval_step (l : Sec) (j : Nat) (c : UInt8) (h : l[j]? = some c) : rval (l.drop j) = c.toNat % 128 + 128 * rval (l.drop (j + 1)) := by rw [drop_at h, rval]

set_option maxRecDepth 100000 in
set_option maxHeartbeats 1600000 in
theorem RTake_any (v : Value) (l : Sec) (w : World) (hv : Bytes w v l) (hf : Fit v) (hl : l.length ≤ 17592186044416) :
    Calls Try.prog 28 #[v] w (RTakePost w l) := by
  have HV := Lib.hid hv
  obtain ⟨va, vc, rfl, -⟩ := id hv
  obtain ⟨hf1, hf2⟩ := hf _ _ _ rfl
  clear hv hf
  unfold maxLen at hf2
  go_enter Try.func28, Try.ntmps28
  go_wp2_with fail
  go_loop [4] (fun i => ∃ k : Nat, k ≤ l.length ∧ k ≤ 10 ∧ i = .int .i64 k ∧ High l k) (fun i => 10 - (intOf i).toNat)
  case atStart => exact ⟨0, by omega, by omega, rfl, High.zero l⟩
  case round =>
    obtain ⟨k, hk, hk10, rfl, hb⟩ := hrel
    have HB := Lib.hid hb
    clear hb
    by_cases hlt : k < l.length
    · by_cases h10 : k = 10
      · have HN := Lib.hid (takeN_none (takeN_over HB.out (.inr h10)))
        have t1 : ((k : Int)) < (l.length : Int) := by omega
        have t2 : ¬ (k : Int) < 10 := by omega
        clear h10
        go_wp2_with fail
        go_ret2
        exact RTakePost.mk' HN.out (Only.refl _ _)
      · have hkl : l[k]? = some (l[k]'(by omega)) := List.getElem?_eq_getElem (by omega)
        generalize l[k]'(by omega) = c at *
        obtain ⟨va', vc', hv', hcs⟩ := HV.out
        cases hv'
        obtain ⟨b, off, rfl, hcell⟩ := hcs k c hkl
        have HK := Lib.hid hkl
        clear hcs hkl
        have hc0 := c.toNat_lt
        have t1 : ((k : Int)) < (l.length : Int) := by omega
        have t2 : (k : Int) < 10 := by omega
        by_cases hc : 128 ≤ c.toNat
        · have HN := Lib.hid (HB.out.next HK.out hc)
          go_wp2_with fail
          go_round
          case rel => exact ⟨k + 1, by omega, by omega, by go_num, HN.out⟩
          case measure => simp [intOf]; omega
        · go_wp2_with fail
          obtain ⟨t, ht⟩ : ∃ t, t = l.take (k + 1) := ⟨_, rfl⟩
          have htl : t.length = k + 1 := by rw [ht, List.length_take]; omega
          have htg : ∀ j, j ≤ k → t[j]? = l[j]? := fun j hj => by rw [ht, List.getElem?_take_of_lt (by omega)]
          have HT := Lib.hid ht
          have HTG := Lib.hid htg
          have hcc : (c.toNat : Int) < 128 := by omega
          clear ht htg hcell
          go_loop [5, 6] (fun u i => ∃ j : Nat, j ≤ k + 1 ∧ u = .int .u64 ((rval (t.drop j) % 18446744073709551616 : Nat) : Int) ∧ i = .int .i64 ((j : Int) - 1)) (fun _ i => (intOf i + 1).toNat)
          case atStart => exact ⟨k + 1, by omega, by rw [List.drop_of_length_le (by omega)]; rfl, by congr 1; omega⟩
          case round =>
            obtain ⟨j, hj, rfl, rfl⟩ := hrel
            by_cases hj0 : j = 0
            · subst hj0
              rw [List.drop_zero]
              generalize hU : rval t % 18446744073709551616 = U at *
              have hUl : U < 18446744073709551616 := by rw [← hU]; exact Nat.mod_lt _ (by omega)
              have hx1 := backN_lo hUl
              have hx2 := backN_hi hUl
              by_cases ho : U % 2 = 1
              · have hx : backN U = -((U : Int) / 2) - 1 := by unfold backN; rw [if_pos ho]; omega
                have hodd : (U : Int) % 2 = 1 := by omega
                generalize hX : backN U = x at *
                have HX := Lib.hid (show numV l = if num x = t then (x, ((k + 1 : Nat) : Int)) else (0, 0) by
                  split
                  · rename_i h
                    exact take_yes hx1 hx2 hlt (h.trans HT.out)
                  · rename_i h
                    refine take_no HK.out (by omega) HB.out ?_
                    rw [← HT.out, hU, hX]
                    exact h)
                have hb6 : Bytes w (.slice (some ⟨b, off, none⟩) (k + 1) vc) t := by
                  have h := HV.out.part 0 (k + 1) vc (some ⟨b, off, none⟩) (fun g off' ha hlt => by cases ha; rfl) (by omega)
                  rw [List.drop_zero, ← HT.out] at h
                  exact h
                have wk : IntKind.i64.wrap ((k : Int) + 1) = (k : Int) + 1 := IntWalk.i64_in _ (by omega)
                have wc0 : (0 : Int) ≤ (k : Int) + 1 := by omega
                have wc1 : (k : Int) + 1 ≤ (vc : Int) := by omega
                have wn : ((k : Int) + 1).toNat = k + 1 := by omega
                have HB6 := Lib.hid hb6
                obtain ⟨S2, hS2⟩ : ∃ S, S = strOf t := ⟨_, rfl⟩
                have H2 := Lib.hid hS2
                have s2 := str_bytes hb6 hS2
                clear hb6 hS2 hU hX ho
                go_wp2_with fail
                rw [← hx]
                clear hx hodd
                have hS := HX.out
                refine wp_region_held_drew (S := fun w' => (convert 23 9 (.slice (some ⟨b, off, none⟩) (k + 1) vc)).run Try.prog w' = .ok (.string S2) w') (by kernel_rfl) (by have s3 := str_bytes (HB6.out.kept (Only.refl [] w).drew (clean_nil _)) H2.out; exact s3) (fun hH => ?_)
                refine take_list (i := 0) (v := ?_) rfl (by kernel_rfl) (by kernel_rfl) (by kernel_rfl) (fun _ _ _ h => h) (Or.inl ⟨by rfl, ?_⟩) hH ?_
                rotate_left
                · ((intro w hSw; (try dsimp only at hSw); go_simp); try with_reducible rfl)
                simp only [Act.put, List.setIfInBounds_toArray, List.set_cons_zero, List.set_cons_succ]
                refine take_list (i := 3) (v := ?_) rfl (by kernel_rfl) (by kernel_rfl) (by kernel_rfl) (fun _ _ _ h => h) (Or.inl ⟨by rfl, ?_⟩) hH ?_
                rotate_left
                · ((intro w hSw; (try dsimp only at hSw); go_simp); try with_reducible rfl)
                simp only [Act.put, List.setIfInBounds_toArray, List.set_cons_zero, List.set_cons_succ]
                refine take_list (i := 4) (v := ?_) rfl (by kernel_rfl) (by kernel_rfl) (by kernel_rfl) (fun _ _ _ h => h) (Or.inl ⟨by rfl, ?_⟩) hH ?_
                rotate_left
                · ((intro w hSw; (try dsimp only at hSw); go_simp); try with_reducible rfl)
                simp only [Act.put, List.setIfInBounds_toArray, List.set_cons_zero, List.set_cons_succ]
                refine take_list (i := 5) (v := ?_) rfl (by kernel_rfl) (by kernel_rfl) (by kernel_rfl) (fun _ _ _ h => h) (Or.inl ⟨by rfl, ?_⟩) hH ?_
                rotate_left
                · ((intro w hSw; (try dsimp only at hSw); go_simp); try with_reducible rfl)
                simp only [Act.put, List.setIfInBounds_toArray, List.set_cons_zero, List.set_cons_succ]
                refine take_list (i := 6) (v := ?_) rfl (by kernel_rfl) (by kernel_rfl) (by kernel_rfl) (fun _ _ _ h => h) (Or.inl ⟨by rfl, ?_⟩) hH ?_
                rotate_left
                · ((intro w hSw; (try dsimp only at hSw); go_simp); try with_reducible rfl)
                simp only [Act.put, List.setIfInBounds_toArray, List.set_cons_zero, List.set_cons_succ]
                refine take_list (i := 7) (v := ?_) rfl (by kernel_rfl) (by kernel_rfl) (by kernel_rfl) (fun _ _ _ h => h) (Or.inl ⟨by rfl, ?_⟩) hH ?_
                rotate_left
                · ((intro w hSw; (try dsimp only at hSw); go_simp); try with_reducible rfl)
                simp only [Act.put, List.setIfInBounds_toArray, List.set_cons_zero, List.set_cons_succ]
                refine wpAnyH_ready (rs := [1]) (by kernel_rfl) (by simp) ?_
                refine ready_list rfl (fun K hK => ?_)
                go_simp
                refine (Number_any x _ hx1 hx2).mono ?_
                rintro e w3 ⟨a3, c3, rfl, hw3, o3⟩
                obtain ⟨S1, hS1⟩ : ∃ S, S = strOf (num x) := ⟨_, rfl⟩
                have q1 := str_bytes hw3.bytes hS1
                have q2 := str_bytes (HB6.out.kept ((Only.refl [] w).drew.trans o3 (by simp)) (clean_nil _)) H2.out
                have HO := Lib.hid ((Only.refl [] w).drew.trans o3 (by simp))
                have H1 := Lib.hid hS1
                clear hS1
                refine hK.out _ _ q2 (fun hH => ?_)
                clear hK K
                refine wpAnyH_ready (rs := [2]) (by kernel_rfl) (by simp) ?_
                refine ready_list rfl (fun K hK => ?_)
                go_simp
                refine hK.out _ _ hH (fun hH => ?_)
                clear hK K
                by_cases heq : num x = t
                · rw [if_pos heq] at hS
                  have hSS : S1 = S2 := by rw [H1.out, H2.out, heq]
                  subst hSS
                  refine take_list (i := 8) (v := ?_) rfl (by kernel_rfl) (by kernel_rfl) (by kernel_rfl) (fun _ _ _ h => h) (Or.inl ⟨by rfl, ?_⟩) hH ?_
                  rotate_left
                  · ((intro w hSw; (try dsimp only at hSw); go_simp); try with_reducible rfl)
                  simp only [Act.put, List.setIfInBounds_toArray, List.set_cons_zero, List.set_cons_succ]
                  refine wpAnyH_done (by kernel_rfl) ?_ _
                  go_wp2_with fail
                  go_ret2
                  exact RTakePost.mk' hS HO.out
                · rw [if_neg heq] at hS
                  have hne : (S1.toList == S2.toList) = false := str_ne H1.out H2.out heq
                  refine take_list (i := 8) (v := ?_) rfl (by kernel_rfl) (by kernel_rfl) (by kernel_rfl) (fun _ _ _ h => h) (Or.inl ⟨by rfl, ?_⟩) hH ?_
                  rotate_left
                  · ((intro w hSw; (try dsimp only at hSw); go_simp); try with_reducible rfl)
                  simp only [Act.put, List.setIfInBounds_toArray, List.set_cons_zero, List.set_cons_succ]
                  refine wpAnyH_done (by kernel_rfl) ?_ _
                  go_wp2_with fail
                  go_ret2
                  exact RTakePost.mk' hS HO.out
              · have hx : backN U = (U : Int) / 2 := by unfold backN; rw [if_neg ho]; omega
                have hodd : ¬ (U : Int) % 2 = 1 := by omega
                generalize hX : backN U = x at *
                have HX := Lib.hid (show numV l = if num x = t then (x, ((k + 1 : Nat) : Int)) else (0, 0) by
                  split
                  · rename_i h
                    exact take_yes hx1 hx2 hlt (h.trans HT.out)
                  · rename_i h
                    refine take_no HK.out (by omega) HB.out ?_
                    rw [← HT.out, hU, hX]
                    exact h)
                have hb6 : Bytes w (.slice (some ⟨b, off, none⟩) (k + 1) vc) t := by
                  have h := HV.out.part 0 (k + 1) vc (some ⟨b, off, none⟩) (fun g off' ha hlt => by cases ha; rfl) (by omega)
                  rw [List.drop_zero, ← HT.out] at h
                  exact h
                have wk : IntKind.i64.wrap ((k : Int) + 1) = (k : Int) + 1 := IntWalk.i64_in _ (by omega)
                have wc0 : (0 : Int) ≤ (k : Int) + 1 := by omega
                have wc1 : (k : Int) + 1 ≤ (vc : Int) := by omega
                have wn : ((k : Int) + 1).toNat = k + 1 := by omega
                have HB6 := Lib.hid hb6
                obtain ⟨S2, hS2⟩ : ∃ S, S = strOf t := ⟨_, rfl⟩
                have H2 := Lib.hid hS2
                have s2 := str_bytes hb6 hS2
                clear hb6 hS2 hU hX ho
                go_wp2_with fail
                rw [← hx]
                clear hx hodd
                have hS := HX.out
                refine wp_region_held_drew (S := fun w' => (convert 23 9 (.slice (some ⟨b, off, none⟩) (k + 1) vc)).run Try.prog w' = .ok (.string S2) w') (by kernel_rfl) (by have s3 := str_bytes (HB6.out.kept (Only.refl [] w).drew (clean_nil _)) H2.out; exact s3) (fun hH => ?_)
                refine take_list (i := 0) (v := ?_) rfl (by kernel_rfl) (by kernel_rfl) (by kernel_rfl) (fun _ _ _ h => h) (Or.inl ⟨by rfl, ?_⟩) hH ?_
                rotate_left
                · ((intro w hSw; (try dsimp only at hSw); go_simp); try with_reducible rfl)
                simp only [Act.put, List.setIfInBounds_toArray, List.set_cons_zero, List.set_cons_succ]
                refine take_list (i := 3) (v := ?_) rfl (by kernel_rfl) (by kernel_rfl) (by kernel_rfl) (fun _ _ _ h => h) (Or.inl ⟨by rfl, ?_⟩) hH ?_
                rotate_left
                · ((intro w hSw; (try dsimp only at hSw); go_simp); try with_reducible rfl)
                simp only [Act.put, List.setIfInBounds_toArray, List.set_cons_zero, List.set_cons_succ]
                refine take_list (i := 4) (v := ?_) rfl (by kernel_rfl) (by kernel_rfl) (by kernel_rfl) (fun _ _ _ h => h) (Or.inl ⟨by rfl, ?_⟩) hH ?_
                rotate_left
                · ((intro w hSw; (try dsimp only at hSw); go_simp); try with_reducible rfl)
                simp only [Act.put, List.setIfInBounds_toArray, List.set_cons_zero, List.set_cons_succ]
                refine take_list (i := 5) (v := ?_) rfl (by kernel_rfl) (by kernel_rfl) (by kernel_rfl) (fun _ _ _ h => h) (Or.inl ⟨by rfl, ?_⟩) hH ?_
                rotate_left
                · ((intro w hSw; (try dsimp only at hSw); go_simp); try with_reducible rfl)
                simp only [Act.put, List.setIfInBounds_toArray, List.set_cons_zero, List.set_cons_succ]
                refine take_list (i := 6) (v := ?_) rfl (by kernel_rfl) (by kernel_rfl) (by kernel_rfl) (fun _ _ _ h => h) (Or.inl ⟨by rfl, ?_⟩) hH ?_
                rotate_left
                · ((intro w hSw; (try dsimp only at hSw); go_simp); try with_reducible rfl)
                simp only [Act.put, List.setIfInBounds_toArray, List.set_cons_zero, List.set_cons_succ]
                refine take_list (i := 7) (v := ?_) rfl (by kernel_rfl) (by kernel_rfl) (by kernel_rfl) (fun _ _ _ h => h) (Or.inl ⟨by rfl, ?_⟩) hH ?_
                rotate_left
                · ((intro w hSw; (try dsimp only at hSw); go_simp); try with_reducible rfl)
                simp only [Act.put, List.setIfInBounds_toArray, List.set_cons_zero, List.set_cons_succ]
                refine wpAnyH_ready (rs := [1]) (by kernel_rfl) (by simp) ?_
                refine ready_list rfl (fun K hK => ?_)
                go_simp
                refine (Number_any x _ hx1 hx2).mono ?_
                rintro e w3 ⟨a3, c3, rfl, hw3, o3⟩
                obtain ⟨S1, hS1⟩ : ∃ S, S = strOf (num x) := ⟨_, rfl⟩
                have q1 := str_bytes hw3.bytes hS1
                have q2 := str_bytes (HB6.out.kept ((Only.refl [] w).drew.trans o3 (by simp)) (clean_nil _)) H2.out
                have HO := Lib.hid ((Only.refl [] w).drew.trans o3 (by simp))
                have H1 := Lib.hid hS1
                clear hS1
                refine hK.out _ _ q2 (fun hH => ?_)
                clear hK K
                refine wpAnyH_ready (rs := [2]) (by kernel_rfl) (by simp) ?_
                refine ready_list rfl (fun K hK => ?_)
                go_simp
                refine hK.out _ _ hH (fun hH => ?_)
                clear hK K
                by_cases heq : num x = t
                · rw [if_pos heq] at hS
                  have hSS : S1 = S2 := by rw [H1.out, H2.out, heq]
                  subst hSS
                  refine take_list (i := 8) (v := ?_) rfl (by kernel_rfl) (by kernel_rfl) (by kernel_rfl) (fun _ _ _ h => h) (Or.inl ⟨by rfl, ?_⟩) hH ?_
                  rotate_left
                  · ((intro w hSw; (try dsimp only at hSw); go_simp); try with_reducible rfl)
                  simp only [Act.put, List.setIfInBounds_toArray, List.set_cons_zero, List.set_cons_succ]
                  refine wpAnyH_done (by kernel_rfl) ?_ _
                  go_wp2_with fail
                  go_ret2
                  exact RTakePost.mk' hS HO.out
                · rw [if_neg heq] at hS
                  have hne : (S1.toList == S2.toList) = false := str_ne H1.out H2.out heq
                  refine take_list (i := 8) (v := ?_) rfl (by kernel_rfl) (by kernel_rfl) (by kernel_rfl) (fun _ _ _ h => h) (Or.inl ⟨by rfl, ?_⟩) hH ?_
                  rotate_left
                  · ((intro w hSw; (try dsimp only at hSw); go_simp); try with_reducible rfl)
                  simp only [Act.put, List.setIfInBounds_toArray, List.set_cons_zero, List.set_cons_succ]
                  refine wpAnyH_done (by kernel_rfl) ?_ _
                  go_wp2_with fail
                  go_ret2
                  exact RTakePost.mk' hS HO.out
            · obtain ⟨m, rfl⟩ : ∃ m, j = m + 1 := ⟨j - 1, by omega⟩
              have hmk : m < l.length := by omega
              have hkl : l[m]? = some (l[m]'(by omega)) := List.getElem?_eq_getElem (by omega)
              have hs := rval_step t m _ ((HTG.out m (by omega)).trans hkl)
              generalize l[m]'(by omega) = d at *
              obtain ⟨va', vc', hv', hcs⟩ := HV.out
              cases hv'
              obtain ⟨b', off', e0, hcell⟩ := hcs m d hkl
              cases e0
              have hd0 := d.toNat_lt
              generalize rval (t.drop (m + 1)) = z at *
              have e1 : (((m + 1 : Nat) : Int) - 1) = (m : Int) := by omega
              rw [e1]
              clear hcs hkl hj0 e1
              go_wp2_with fail
              go_round
              case rel => exact ⟨m, by omega, by rw [hs, IntKind.wrap_u64, IntKind.wrap_u64]; congr 1; omega, by go_num⟩
              case measure => simp [intOf]
    · obtain rfl : k = l.length := by omega
      have HN := Lib.hid (takeN_none (takeN_over HB.out (.inl rfl)))
      go_wp2_with fail
      go_ret2
      exact RTakePost.mk' HN.out (Only.refl _ _)
end Go.Proofs.Ythacfanfhdjmbaa

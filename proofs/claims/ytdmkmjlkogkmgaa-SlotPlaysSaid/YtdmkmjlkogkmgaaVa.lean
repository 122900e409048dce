/- The document's slots: where they fit, a row's sector, what a sector says. -/
import Derived.Test.YtdmkmjlkogkmgaaTa
import Derived.Test.YtdmkmjlkogkmgaaRT
import Derived.Test.YtdmkmjlkogkmgaaPlay2
namespace Go.Proofs.Ytdmkmjlkogkmgaa
open Go.RowKit Go.Maps
set_option linter.unusedSimpArgs false
set_option linter.unusedVariables false

theorem fits_ref {w : World} {F : List Nat} {b : RA} {R : Ref} (at_ : Int) (h : RDev w F b R) : Calls Try.prog 44 #[.pointer (some ⟨b.p, 0, none⟩), .int .i64 at_] w fun e w' => e = .returned (.bool (fitB at_ R.n)) ∧ w = w' := by
  have c0 := h.c0
  have hhi := h.hi
  clear h
  have hwr : IntKind.i64.wrap ((R.n : Int) - 1) = (R.n : Int) - 1 := by
    rw [IntKind.wrap_i64]
    omega
  by_cases h0 : 0 ≤ at_
  · go_enter Try.func44, Try.ntmps44
    go_wp2_with fail
    go_ret
    exact ⟨ret_bool (by rw [Bool.eq_iff_iff]; simp [fitB, h0]; omega), rfl⟩
  · have h1 : at_ < 0 := by omega
    go_enter Try.func44, Try.ntmps44
    go_wp2_with fail
    go_ret
    exact ⟨ret_bool (by simp [fitB]; omega), rfl⟩

theorem Sector_long (n : Int) (v : Value) (r : Sec) (w : World) (hr : Bytes w v r) (hl : 480 < r.length) :
    Calls Try.prog 45 #[.int .i64 n, v] w fun e w' => e = .returned (.tuple #[.slice none 0 0, .int .i64 2]) ∧ w = w' := by
  obtain ⟨ra, rc, rfl, -⟩ := hr
  have hl' : (480 : Int) < (r.length : Int) := by omega
  go_enter Try.func45, Try.ntmps45
  go_wp2_with fail
  go_ret2
  exact ⟨rfl, rfl⟩
set_option maxRecDepth 100000 in
theorem Sector_any (n : Int) (v : Value) (r : Sec) (w : World) (hr : Bytes w v r) (hl : r.length ≤ 480) (h0 : -9223372036854775808 ≤ n) (h1 : n ≤ 9223372036854775807) :
    Calls Try.prog 45 #[.int .i64 n, v] w fun e w' => ∃ a c, e = .returned (.tuple #[.slice a 512 c, .int .i64 0]) ∧ Own w' w.heap.size (.slice a 512 c) (rowSec n r) ∧ Only [] w w' := by
  have HR := Lib.hid hr
  obtain ⟨ra, rc, rfl, -⟩ := hr
  have hl' : ¬ (480 : Int) < (r.length : Int) := by omega
  have HN := Lib.hid (inRow_len h0 h1 hl)
  go_enter Try.func45, Try.ntmps45
  go_wp2_with fail
  refine (Number_any n w h0 h1).mono ?_
  rintro e w1 ⟨a1, k1, rfl, h1', o1⟩
  have H1 := Lib.hid h1'
  have O1 := Lib.hid o1
  clear h1' o1
  go_wp2_with fail
  refine (RRow_any _ r w1 (HR.out.kept O1.out (clean_nil _)) (by omega)).mono ?_
  rintro e w2 ⟨a2, k2, rfl, h2, o2⟩
  have H2 := Lib.hid (h2.bytes)
  have H12 := Lib.hid (H1.out.quiet o2)
  have O2 := Lib.hid (O1.out.trans o2 (by simp))
  clear h2 o2 H1 O1
  go_wp2_with (refine wpList_append_any rfl (.tmp 13) (.tmp 15) rfl w.heap.size _ (num n) (by rfl) H12.out _ (rowB r) (by rfl) H2.out (inRow n r).length (by simp [inRow]) (inRow n r) rfl (Nat.le_trans HN.out (by decide)) O2.out.size ?_
               intro a3 k3 w3 h3 e3)
  have H3 := Lib.hid h3
  have O3 := Lib.hid (e3.fresh O2.out H12.out (Nat.le_refl _))
  clear h3 e3 H12 H2 O2
  refine (RBox_any 512 _ (inRow n r) w3 (by decide) (by decide) H3.out.bytes (by have := HN.out; omega)).mono ?_
  rintro e w4 ⟨a4, k4, rfl, h4, o4⟩
  have H4 := Lib.hid (h4.mono (base' := w.heap.size) O3.out.size)
  have O4 := Lib.hid (O3.out.trans o4 (by simp))
  clear h4 o4 H3 O3
  go_wp2_with fail
  go_ret2
  exact ⟨a4, k4, rfl, H4.out, O4.out⟩

/-! ### read -/
/-- What is answered for a sector, by what it says. -/
def ReadPost (w : World) (x : Option (Int × Sec)) (e : Ending) (w' : World) : Prop :=
  (x = none → e = .returned (.tuple #[.int .i64 0, .slice none 0 0])) ∧
  (∀ n r, x = some (n, r) → ∃ v, e = .returned (.tuple #[.int .i64 n, v]) ∧ Held w' v r ∧ ∀ g, v.ownBlock = some g → w.heap.size ≤ g) ∧ Only [] w w'
theorem ReadPost.no {w w' : World} {x : Option (Int × Sec)} (h : x = none) (ho : Only [] w w') : ReadPost w x (.returned (.tuple #[.int .i64 0, .slice none 0 0])) w' :=
  ⟨(fun _ => rfl), (fun n r hr => by rw [h] at hr; cases hr), ho⟩
theorem read_pure {l d : Sec} {t : Int} (hu : unbox l = some d) :
    (takeN d = none → says l t = none) ∧
    (∀ n k, takeN d = some (n, k) → (n < 1 ∨ 4611686018427387904 < n ∨ n % 2 ≠ t → says l t = none) ∧
      (takeN (d.drop k) = none → says l t = none) ∧
      (∀ m j, takeN (d.drop k) = some (m, j) → (m < 0 ∨ 480 < m ∨ (d.length : Int) ≠ k + j + m → says l t = none) ∧
        (1 ≤ n → n ≤ 4611686018427387904 → n % 2 = t → 0 ≤ m → m ≤ 480 → (d.length : Int) = k + j + m → says l t = some (n, d.drop (k + j))))) := by
  have hs : ∀ x, numb l = x → says l t = match x with | none => none | some (n, r) => if n % 2 = t then some (n, r) else none := fun x hx => by subst hx; rfl
  refine ⟨fun h => ?_, fun n k h => ⟨fun hb => ?_, fun h2 => ?_, fun m j h2 => ⟨fun hb => ?_, fun a1 a2 a3 a4 a5 a6 => ?_⟩⟩⟩
  · have : numb l = none := by unfold numb; rw [hu]; simp only [h]
    rw [hs _ this]
  · by_cases hb2 : n < 1 ∨ 4611686018427387904 < n
    · have : numb l = none := by unfold numb; rw [hu]; simp only [h]; rw [if_pos hb2]
      rw [hs _ this]
    · have hb3 : n % 2 ≠ t := by omega
      unfold says
      split
      · rfl
      · rename_i n' r' heq
        unfold numb at heq
        rw [hu] at heq
        simp only [h] at heq
        rw [if_neg hb2] at heq
        split at heq
        · cases heq
        · split at heq
          · cases heq
          · cases heq
            rw [if_neg hb3]
  · by_cases hb2 : n < 1 ∨ 4611686018427387904 < n
    · have : numb l = none := by unfold numb; rw [hu]; simp only [h]; rw [if_pos hb2]
      rw [hs _ this]
    · have : numb l = none := by
        unfold numb
        rw [hu]
        simp only [h]
        rw [if_neg hb2]
        unfold takeR
        simp only [h2]
      rw [hs _ this]
  · obtain ⟨_, hj, _, _, _⟩ := takeN_inv h2
    obtain ⟨_, hk, _, _, _⟩ := takeN_inv h
    rw [List.length_drop] at hj
    by_cases hb2 : n < 1 ∨ 4611686018427387904 < n
    · have : numb l = none := by unfold numb; rw [hu]; simp only [h]; rw [if_pos hb2]
      rw [hs _ this]
    · have : numb l = none := by
        unfold numb
        rw [hu]
        simp only [h]
        rw [if_neg hb2]
        unfold takeR
        simp only [h2]
        by_cases hb3 : m < 0 ∨ (((d.drop k).length - j : Nat) : Int) < m
        · rw [if_pos hb3]
        · rw [if_neg hb3]
          simp only
          rw [if_pos]
          simp only [List.length_drop, List.length_take] at hb3 ⊢
          omega
      rw [hs _ this]
  · obtain ⟨_, hj, _, _, _⟩ := takeN_inv h2
    obtain ⟨_, hk, _, _, _⟩ := takeN_inv h
    rw [List.length_drop] at hj
    have hm : ((d.drop k).drop j).take m.toNat = d.drop (k + j) := by
      rw [List.drop_drop, List.take_of_length_le (by rw [List.length_drop]; omega)]
    have : numb l = some (n, d.drop (k + j)) := by
      unfold numb
      rw [hu]
      simp only [h]
      rw [if_neg (by omega)]
      unfold takeR
      simp only [h2]
      rw [if_neg (by rw [List.length_drop]; omega)]
      simp only
      rw [hm, if_neg]
      simp only [List.length_drop]
      omega
    rw [hs _ this]
    simp only
    rw [if_pos a3]

theorem held_of {w : World} {base : Nat} {a : Option Addr} {n c : Nat} {d : Sec} (h : Own w base (.slice a n c) d) {b : Option Addr} {m k : Nat} {r : Sec} (hb : Bytes w (.slice b m k) r) (hx : ∀ g, (Value.slice b m k).ownBlock = some g → (Value.slice a n c).ownBlock = some g) : Held w (.slice b m k) r ∧ ∀ g, (Value.slice b m k).ownBlock = some g → base ≤ g :=
  ⟨⟨hb, fun g hg => h.held.blk g (hx g hg)⟩, fun g hg => (h.lt (hx g hg)).1⟩
/-- b[k:], and in which block it lies. -/
theorem slice_own {w : World} {base : Nat} {va : Option Addr} {vc : Nat} {l : Sec} (h : Own w base (.slice va l.length vc) l) (k : Nat) (hk : k ≤ l.length) :
    ∃ b, (∀ w, (Instr.sliceAt 37 (.slice va l.length vc) (some (.int .i64 (k : Int))) none none).run Try.prog w = .ok (.slice b (l.length - k) (vc - k)) w) ∧ Bytes w (.slice b (l.length - k) (vc - k)) (l.drop k) ∧ (∀ g n m, (Value.slice b n m).ownBlock = some g → (Value.slice va l.length vc).ownBlock = some g) := by
  have hf : l.length ≤ vc := (h.fit _ _ _ rfl).1
  refine ⟨if vc = k then va else va.map (·.add (k * 1)), fun w => ?_, ?_, fun g n m hg => ?_⟩
  · rw [run_sliceAt_slice w _ _ _ _ _ elem_bytes, run_slice_l w _ _ _ _ elem_bytes .i64 (k : Int) (by omega) (by omega), size_u8]
    simp [Result.andThen, sliced]
  · have e1 : l.drop k = (l.take l.length).drop k := by rw [List.take_length]
    rw [e1]
    refine h.bytes.part k l.length _ _ (fun g off ha hlt => ?_) (Nat.le_refl _)
    rw [if_neg (by omega), ha, Option.map_some, Nat.mul_one, Addr.add_lit]
  · cases va with
    | none => split at hg <;> cases hg
    | some ad =>
      split at hg
      · cases hg
        rfl
      · have e : (ad.add (k * 1)).block = ad.block := by unfold Addr.add; split <;> rfl
        rw [Option.map_some] at hg
        have e2 : (ad.add (k * 1)).block = g := Option.some.inj hg
        rw [e] at e2
        rw [← e2]
        rfl

section
variable {w : World} {ops : Array Oper} {rest : List Oper} {o : Oper} {a : Act} {Q : Exit → Act → World → Prop}
theorem exec_slice_lo (x y : Operand) (hop : o.op = Op.slice 37 x (some y) none none) {v lo res : Value} (hx : a.eval x = v) (hy : a.eval y = lo)
    (hrun : ∀ w, (Instr.sliceAt 37 v (some lo) none none).run Try.prog w = .ok res w) (w : World) : (execOp a.eval o).run Try.prog w = .ok (.value res) w := by
  simp [execOp, hop, hx, hy, hrun, Result.andThen]
theorem wpList_slice_lo (hg : o.guard = none) (x y : Operand) (hop : o.op = Op.slice 37 x (some y) none none) {v lo res : Value} (hx : a.eval x = v) (hy : a.eval y = lo)
    (hrun : ∀ w, (Instr.sliceAt 37 v (some lo) none none).run Try.prog w = .ok res w) (h : wpList Try.prog ops Q rest (a.put o.dst res) w) : wpList Try.prog ops Q (o :: rest) a w :=
  wpList_run hg res (exec_slice_lo x y hop hx hy hrun w) h
end

set_option maxRecDepth 100000 in
set_option maxHeartbeats 1600000 in
theorem read_ref (v : Value) (l : Sec) (t : Int) (w : World) (hv : Bytes w v l) (hf : Fit v) (hl : l.length ≤ 65536) (ht : t = 0 ∨ t = 1) :
    Calls Try.prog 47 #[v, .int .i64 t] w (ReadPost w (says l t)) := by
  go_enter Try.func47, Try.ntmps47
  go_wp2_with fail
  refine (RUnbox_any v l w hv hf (by omega)).mono ?_
  rintro e w1 ⟨hn1, hs1, o1⟩
  cases hu : unbox l with
  | none =>
    have hx : says l t = none := by unfold says numb; rw [hu]
    rw [hn1 hu]
    have HX := Lib.hid hx
    clear hn1 hs1 hu hx
    go_wp2_with fail
    go_ret2
    exact ReadPost.no HX.out o1
  | some d =>
    obtain ⟨a1, c1, rfl, hd⟩ := hs1 d hu
    have hdl : d.length ≤ 65536 := by have := unbox_inv hu; omega
    have HP := Lib.hid (read_pure (t := t) hu)
    have HD := Lib.hid hd
    clear hn1 hs1 hu hd
    go_wp2_with fail
    refine (RTake_any _ d w1 HD.out.bytes HD.out.fit (by omega)).mono ?_
    rintro e w2 ⟨rfl, o2⟩
    have O2 := Lib.hid (o1.trans o2 (by simp))
    have HD2 := Lib.hid (HD.out.quiet o2)
    clear o1 o2 HD
    cases htk : takeN d with
    | none =>
      have hx := HP.out.1 htk
      rw [takeN_none htk]
      have HX := Lib.hid hx
      clear hx htk
      go_wp2_with fail
      go_ret2
      exact ReadPost.no HX.out O2.out
    | some nk =>
      obtain ⟨n, k⟩ := nk
      rw [takeN_some htk]
      obtain ⟨_, hk, hk1, n0, n1⟩ := takeN_inv htk
      have HQ := Lib.hid (HP.out.2 n k htk)
      have k0 : ((k : Int) == 0) = false := beq_eq_false_iff_ne.2 (by omega)
      clear htk HP
      by_cases hb1 : n < 1
      · have HX := Lib.hid (HQ.out.1 (.inl hb1))
        go_wp2_with fail
        go_ret2
        exact ReadPost.no HX.out O2.out
      by_cases hb2 : 4611686018427387904 < n
      · have HX := Lib.hid (HQ.out.1 (.inr (.inl hb2)))
        go_wp2_with fail
        go_ret2
        exact ReadPost.no HX.out O2.out
      have htm := tmod_two (n := n) (by omega)
      by_cases hb3 : n % 2 = t
      rotate_left
      · have HX := Lib.hid (HQ.out.1 (.inr (.inr hb3)))
        have hb3' : (n % 2 != t) = true := by simpa using hb3
        clear hb3
        go_wp2_with fail
        go_ret2
        exact ReadPost.no HX.out O2.out
      have hb3' : (n % 2 != t) = false := by simpa using hb3
      have HB3 := Lib.hid hb3
      clear hb3
      obtain ⟨b2, hsl, hby, hox⟩ := slice_own HD2.out k hk
      have HBY := Lib.hid hby
      clear hby hox
      go_wp2_with fail
      refine (RTake_any _ (d.drop k) w2 HBY.out (fun a n' c e => ?_) (by rw [List.length_drop]; omega)).mono ?_
      · have hfd := HD2.out.fit _ _ _ rfl
        cases e
        unfold maxLen at *
        omega
      rintro e w3 ⟨rfl, o3⟩
      have O3 := Lib.hid (O2.out.trans o3 (by simp))
      have HD3 := Lib.hid (HD2.out.quiet o3)
      clear O2 o3 HBY HD2 hsl
      cases htk2 : takeN (d.drop k) with
      | none =>
        have HX := Lib.hid (HQ.out.2.1 htk2)
        rw [takeN_none htk2]
        clear htk2
        go_wp2_with fail
        go_ret2
        exact ReadPost.no HX.out O3.out
      | some mj =>
        obtain ⟨m, j⟩ := mj
        rw [takeN_some htk2]
        obtain ⟨_, hj, hj1, m0, m1⟩ := takeN_inv htk2
        rw [List.length_drop] at hj
        have HR := Lib.hid (HQ.out.2.2 m j htk2)
        have j0 : ((j : Int) == 0) = false := beq_eq_false_iff_ne.2 (by omega)
        clear htk2 HQ
        by_cases hc1 : m < 0
        · have HX := Lib.hid (HR.out.1 (.inl hc1))
          go_wp2_with fail
          go_ret2
          exact ReadPost.no HX.out O3.out
        by_cases hc2 : 480 < m
        · have HX := Lib.hid (HR.out.1 (.inr (.inl hc2)))
          go_wp2_with fail
          go_ret2
          exact ReadPost.no HX.out O3.out
        have hw1 : IntKind.i64.wrap ((k : Int) + (j : Int)) = (k : Int) + j := by rw [IntKind.wrap_i64]; omega
        have hw2 : IntKind.i64.wrap ((k : Int) + (j : Int) + m) = (k : Int) + j + m := by rw [IntKind.wrap_i64]; omega
        by_cases hc3 : (d.length : Int) = (k : Int) + j + m
        rotate_left
        · have HX := Lib.hid (HR.out.1 (.inr (.inr hc3)))
          have hc3' : ((d.length : Int) != (k : Int) + j + m) = true := by simpa using hc3
          clear hc3
          go_wp2_with fail
          go_ret2
          exact ReadPost.no HX.out O3.out
        have hc3' : ((d.length : Int) != (k : Int) + j + m) = false := by simpa using hc3
        have HX := Lib.hid (HR.out.2 (by omega) (by omega) HB3.out (by omega) (by omega) hc3)
        have ekj : ((k + j : Nat) : Int) = (k : Int) + j := by omega
        obtain ⟨b5, hsl, hby, hox⟩ := slice_own HD3.out (k + j) (by omega)
        rw [ekj] at hsl
        have HBY := Lib.hid hby
        have HOX := Lib.hid hox
        have HSL := Lib.hid hsl
        clear hby hox ekj hc3 hsl
        go_wp2_with fail
        refine wp_region_held_drew (S := fun _ => True) (by kernel_rfl) trivial (fun hH => ?_)
        refine take_list (i := 0) (v := ?_) rfl (by kernel_rfl) (by kernel_rfl) (by kernel_rfl) (fun _ _ _ h => h) (Or.inl ⟨by rfl, ?_⟩) hH ?_
        rotate_left
        · ((intro w hSw; (try dsimp only at hSw); go_simp); try with_reducible rfl)
        simp only [Act.put, List.setIfInBounds_toArray, List.set_cons_zero, List.set_cons_succ]
        refine take_list (i := 1) (v := ?_) rfl (by kernel_rfl) (by kernel_rfl) (by kernel_rfl) (fun _ _ _ h => h) (Or.inl ⟨by rfl, ?_⟩) hH ?_
        rotate_left
        · ((intro w hSw; (try dsimp only at hSw); go_simp); try with_reducible rfl)
        simp only [Act.put, List.setIfInBounds_toArray, List.set_cons_zero, List.set_cons_succ]
        refine take_list (i := 2) (v := ?_) rfl (by kernel_rfl) (by kernel_rfl) (by kernel_rfl) (fun _ _ _ h => h) (Or.inl ⟨by rfl, ?_⟩) hH ?_
        rotate_left
        · ((intro w hSw; (try dsimp only at hSw); go_simp); try with_reducible rfl)
        simp only [Act.put, List.setIfInBounds_toArray, List.set_cons_zero, List.set_cons_succ]
        refine take_list (i := 3) (v := ?_) rfl (by kernel_rfl) (by kernel_rfl) (by kernel_rfl) (fun _ _ _ h => h) (Or.inl ⟨by rfl, ?_⟩) hH ?_
        rotate_left
        · ((intro w hSw; (try dsimp only at hSw); go_simp); try with_reducible rfl)
        simp only [Act.put, List.setIfInBounds_toArray, List.set_cons_zero, List.set_cons_succ]
        refine take_list (i := 4) (v := ?_) rfl (by kernel_rfl) (by kernel_rfl) (by kernel_rfl) (fun _ _ _ h => h) (Or.inl ⟨by rfl, ?_⟩) hH ?_
        rotate_left
        · ((intro w hSw; (try dsimp only at hSw); go_simp); try with_reducible rfl)
        simp only [Act.put, List.setIfInBounds_toArray, List.set_cons_zero, List.set_cons_succ]
        refine take_list (i := 5) (v := .slice b5 (d.length - (k + j)) (c1 - (k + j))) rfl (by kernel_rfl) (by kernel_rfl) (by kernel_rfl) (fun _ _ _ h => h) (Or.inl ⟨by rfl, fun w _ => exec_slice_lo (.tmp 68) (.tmp 71) rfl (by rfl) (by rfl) HSL.out w⟩) hH ?_
        simp only [Act.put, List.setIfInBounds_toArray, List.set_cons_zero, List.set_cons_succ]
        refine take_list (i := 6) (v := ?_) rfl (by kernel_rfl) (by kernel_rfl) (by kernel_rfl) (fun _ _ _ h => h) (Or.inl ⟨by rfl, ?_⟩) hH ?_
        rotate_left
        · ((intro w hSw; (try dsimp only at hSw); go_simp); try with_reducible rfl)
        simp only [Act.put, List.setIfInBounds_toArray, List.set_cons_zero, List.set_cons_succ]
        refine take_list (i := 7) (v := ?_) rfl (by kernel_rfl) (by kernel_rfl) (by kernel_rfl) (fun _ _ _ h => h) (Or.inl ⟨by rfl, ?_⟩) hH ?_
        rotate_left
        · ((intro w hSw; (try dsimp only at hSw); go_simp); try with_reducible rfl)
        simp only [Act.put, List.setIfInBounds_toArray, List.set_cons_zero, List.set_cons_succ]
        refine wpAnyH_done (by kernel_rfl) ?_ _
        clear hH
        go_wp2_with fail
        go_ret2
        have qd : Only [] w3 w3.drew := (Only.refl [] w3).drew
        have hh := held_of (HD3.out.quiet qd) (HBY.out.kept qd (clean_nil _)) (fun g hg => HOX.out g _ _ hg)
        refine ⟨fun hx => ?_, fun n' r' hx => ?_, O3.out.drew⟩
        · rw [HX.out] at hx
          cases hx
        · rw [HX.out] at hx
          cases hx
          exact ⟨_, rfl, hh.1, fun g hg => hh.2 g hg⟩
end Go.Proofs.Ytdmkmjlkogkmgaa
/- The document's slots: what they hold, Save, Format, Open. -/
namespace Go.Proofs.Ytdmkmjlkogkmgaa
open Go.RowKit Go.Maps
set_option linter.unusedSimpArgs false
set_option linter.unusedVariables false

/-! ### a sector is written, and the device synced -/
def Ref.lcode (R : Ref) (k : Int) (l : Sec) : Int := if R.code k l.length = 0 then (R.wr k l).scode else R.code k l.length
def Ref.ly (R : Ref) (k : Int) (l : Sec) : Ref := if R.code k l.length = 0 then (R.wr k l).sy else R.wr k l
def Ref.fcode (R : Ref) (at_ : Int) (r : Sec) : Int := if fitB at_ R.n = false then 1 else if 480 < r.length then 2 else if R.code at_ 512 = 0 then (R.wr at_ zeros).lcode (at_ + 1) (rowSec 1 r) else R.code at_ 512
def Ref.fm (R : Ref) (at_ : Int) (r : Sec) : Ref := if fitB at_ R.n = false then R else if 480 < r.length then R else if R.code at_ 512 = 0 then (R.wr at_ zeros).ly (at_ + 1) (rowSec 1 r) else R.wr at_ zeros
def Ref.op (R : Ref) (at_ : Int) : Int × Sec := pick (pick (0, []) (says (R.now at_.toNat) 0)) (says (R.now (at_ + 1).toNat) 1)
def Ref.ocode (R : Ref) (at_ : Int) : Int := if fitB at_ R.n = false then 1 else if R.down = true then 3 else if (R.op at_).1 = 0 then 20 else 0
def SL.rcode (s : SL) (R : Ref) (r : Sec) : Int := if 480 < r.length ∨ s.n = 4611686018427387904 then 2 else if s.cut = true then 3 else R.lcode s.place (s.sec r)
def SL.rdisk (s : SL) (R : Ref) (r : Sec) : Ref := if 480 < r.length ∨ s.n = 4611686018427387904 then R else if s.cut = true then R else R.ly s.place (s.sec r)
def SL.rsave (s : SL) (R : Ref) (r : Sec) : SL := if 480 < r.length ∨ s.n = 4611686018427387904 then s else if s.cut = true then s else if R.lcode s.place (s.sec r) = 0 then s.put r else s.die true

section
variable {D : Disk} {R : Ref} (h : Match D R)
include h
theorem Match.lcode (k : Int) (l : Sec) : D.lcode k l = R.lcode k l := by
  unfold Disk.lcode Ref.lcode
  rw [h.code, (h.wr k l).scode]
theorem Match.ly (k : Int) (l : Sec) : Match (D.ly k l) (R.ly k l) := by
  unfold Disk.ly Ref.ly
  rw [h.code]
  split
  · exact (h.wr k l).sy
  · exact h.wr k l
theorem Match.fcode (at_ : Int) (r : Sec) : D.fcode at_ r = R.fcode at_ r := by
  unfold Disk.fcode Ref.fcode
  rw [h.size, h.code, (h.wr at_ zeros).lcode]
theorem Match.fm (at_ : Int) (r : Sec) : Match (D.fm at_ r) (R.fm at_ r) := by
  unfold Disk.fm Ref.fm
  rw [h.size, h.code]
  split
  · exact h
  · split
    · exact h
    · split
      · exact (h.wr at_ zeros).ly _ _
      · exact h.wr at_ zeros
theorem Match.op {at_ : Int} (hf : fitB at_ R.n = true) : D.op at_ = R.op at_ := by
  have hat := fitB_iff.1 hf
  obtain ⟨k, rfl⟩ : ∃ k : Nat, at_ = (k : Int) := ⟨at_.toNat, by omega⟩
  have e1 := h.now k (by omega)
  have e2 := h.now (k + 1) (by omega)
  have e3 : ((k + 1 : Nat) : Int) = (k : Int) + 1 := by omega
  rw [e3] at e2
  have e4 : ((k : Int) + 1).toNat = k + 1 := by omega
  have e5 : ((k : Int)).toNat = k := by omega
  show pick (pick (0, []) (says (D.get ((k : Int) + 0)) 0)) (says (D.get ((k : Int) + 1)) 1) = pick (pick (0, []) (says (R.now ((k : Int)).toNat) 0)) (says (R.now ((k : Int) + 1).toNat) 1)
  rw [Int.add_zero, e1, e2, e4, e5]
theorem Match.ocode (at_ : Int) : D.ocode at_ = R.ocode at_ := by
  unfold Disk.ocode Ref.ocode
  rw [h.size, h.down]
  split
  · rfl
  · rename_i hx
    rw [h.op (by simpa using hx)]
theorem Match.rcode' (s : SL) (r : Sec) : s.scode D r = s.rcode R r := by
  unfold SL.scode SL.rcode
  rw [h.lcode]
theorem Match.rdisk (s : SL) (r : Sec) : Match (s.sdisk D r) (s.rdisk R r) := by
  unfold SL.sdisk SL.rdisk
  split
  · exact h
  · split
    · exact h
    · exact h.ly _ _
theorem Match.rsave (s : SL) (r : Sec) : s.save D r = s.rsave R r := by
  unfold SL.save SL.rsave
  rw [h.lcode]
end
theorem Ref.scode_03 (R : Ref) : R.scode = 0 ∨ R.scode = 3 := by
  unfold Ref.scode
  cases R.off <;> simp
theorem Ref.wr_n (R : Ref) (k : Int) (l : Sec) : (R.wr k l).n = R.n := by
  unfold Ref.wr
  split
  · rfl
  · split <;> rfl

/-! ### what they hold -/
structure RSlot (w : World) (q : Nat) (b : RA) (v : Value) (s : SL) : Prop where
  blk : w.heap[q]? = some (.cells #[.pointer (some ⟨b.p, 0, none⟩), .int .i64 s.at_, .int .i64 s.n, v, .bool s.cut] 86 (0, 0))
  row : Held w v s.row
  lo : 0 ≤ s.n
  hi : s.n ≤ 4611686018427387904
  len : s.row.length ≤ 480
theorem RDev.off_types {w : World} {F : List Nat} {b : RA} {R : Ref} (h : RDev w F b R) {g : Nat} {c : Array Value} {t : TypeId} {fr : Nat × Nat} (hg : w.heap[g]? = some (.cells c t fr)) (h2 : t ≠ 73) (h3 : t ≠ 37) (h4 : t ≠ 4) : g ∉ b.bl := by
  intro hm
  obtain ⟨c1, c2, c3, c4, k1, k2, k3, k4⟩ := h.types
  simp only [RA.bl, List.mem_cons, List.not_mem_nil, or_false] at hm
  rcases hm with rfl | rfl | rfl | rfl
  · exact type_ne hg k1 h2 rfl
  · exact type_ne hg k2 h3 rfl
  · exact type_ne hg k3 h3 rfl
  · exact type_ne hg k4 h4 rfl
section
variable {w w' : World} {q : Nat} {b : RA} {v : Value} {s : SL} (h : RSlot w q b v s)
include h
theorem RSlot.c0 : w.cell? ⟨q, 0, none⟩ = some (.pointer (some ⟨b.p, 0, none⟩)) := (cell_at 0 h.blk).trans rfl
theorem RSlot.c1 : w.cell? ⟨q, 1, none⟩ = some (.int .i64 s.at_) := (cell_at 1 h.blk).trans rfl
theorem RSlot.c2 : w.cell? ⟨q, 2, none⟩ = some (.int .i64 s.n) := (cell_at 2 h.blk).trans rfl
theorem RSlot.c3 : w.cell? ⟨q, 3, none⟩ = some v := (cell_at 3 h.blk).trans rfl
theorem RSlot.c4 : w.cell? ⟨q, 4, none⟩ = some (.bool s.cut) := (cell_at 4 h.blk).trans rfl
theorem RSlot.free (i : Nat) : w.frozen? ⟨q, i, none⟩ = false := free_at i h.blk
theorem RSlot.kept {S : List Nat} (ho : Only S w w') (hp : q ∉ S) (hs : ∀ k ∈ S, v.ownBlock ≠ some k) : RSlot w' q b v s :=
  ⟨ho.heap h.blk hp, h.row.kept ho hs, h.lo, h.hi, h.len⟩
theorem RSlot.quiet (ho : Only [] w w') : RSlot w' q b v s := h.kept ho (by simp) (by simp)
theorem RSlot.off_dev {F : List Nat} {b' : RA} {R : Ref} (hd : RDev w F b' R) : q ∉ b'.bl ∧ ∀ k ∈ b'.bl, v.ownBlock ≠ some k := by
  refine ⟨hd.off_types h.blk (by decide) (by decide) (by decide), fun k hk e => ?_⟩
  obtain ⟨cur, hc⟩ := h.row.blk k e
  exact hd.off_types hc (by decide) (by decide) (by decide) hk
theorem RSlot.dev {F : List Nat} {b' : RA} {R : Ref} (hd : RDev w F b' R) (ho : Only b'.bl w w') : RSlot w' q b v s := h.kept ho (h.off_dev hd).1 (h.off_dev hd).2
theorem RSlot.own (g : Nat) (hg : v.ownBlock = some g) : g ≠ q := fun e => by
  subst e
  obtain ⟨cur, hc⟩ := h.row.blk _ hg
  have hb := h.blk
  rw [hc] at hb
  cases hb
theorem RSlot.die (x : Bool) : RSlot (w.setCell ⟨q, 4, none⟩ (.bool x)) q b v (s.die x) := by
  have hk := heap_cell (i := 4) (.bool x) h.blk
  have ho : Only [q] w (w.setCell ⟨q, 4, none⟩ (.bool x)) := (Only.refl _ _).setCell (by simp) _
  exact ⟨hk, h.row.kept ho (fun k hk' e => h.own k e (by simpa using hk')), h.lo, h.hi, h.len⟩
end
/-- The device stays as it is where the slots' own block turns. -/
theorem RDev.keptQ {w w' : World} {F : List Nat} {b : RA} {R : Ref} {q : Nat} {v : Value} {s : SL} (h : RDev w F b R) (hs : RSlot w q b v s) (ho : Only [q] w w') : RDev w' F b R := by
  refine h.kept ho (fun k hk => .inr fun cur e => ?_) (fun k hk hm => ?_)
  · simp at hk
    subst hk
    have hb := hs.blk
    rw [e] at hb
    cases hb
  · simp at hm
    subst hm
    exact (hs.off_dev h).1 hk
/-- Bytes lie in no slots' own block, and in no device. -/
theorem off_ref {w : World} {F : List Nat} {b : RA} {R : Ref} {rv : Value} {r : Sec} (hd : RDev w F b R) (hr : Held w rv r) : Off rv b.bl := by
  intro x n c e hn hm
  obtain ⟨cur, hc⟩ := hr.blk x.block (by rw [e]; rfl)
  exact hd.off_types hc (by decide) (by decide) (by decide) hm
def RSA (q : Nat) (b : RA) : List Nat := q :: b.bl

structure RSavePost (w : World) (F : List Nat) (q : Nat) (b : RA) (v : Value) (s : SL) (R : Ref) (r : Sec) (e : Ending) (w' : World) : Prop where
  ans : e = .returned (.int .i64 (s.rcode R r))
  dev : RDev w' F b (s.rdisk R r)
  only : Only (RSA q b) w w'
  slot : ∃ v', RSlot w' q b v' (s.rsave R r) ∧ (v' = v ∨ ∀ g, v'.ownBlock = some g → w.heap.size ≤ g)
end Go.Proofs.Ytdmkmjlkogkmgaa
/- The document's slots: Save, Format, Open. -/
namespace Go.Proofs.Ytdmkmjlkogkmgaa
open Go.RowKit Go.Maps
set_option linter.unusedSimpArgs false
set_option linter.unusedVariables false

theorem rslot_put {w : World} {q : Nat} {b : RA} {v v' : Value} {s : SL} {r : Sec} (h : RSlot w q b v s) (hv : Held w v' r) (hn : s.n < 4611686018427387904) (hl : r.length ≤ 480) :
    RSlot ((w.setCell ⟨q, 2, none⟩ (.int .i64 (s.n + 1))).setCell ⟨q, 3, none⟩ v') q b v' (s.put r) := by
  have hk := heap_cell (i := 3) v' (heap_cell (i := 2) (.int .i64 (s.n + 1)) h.blk)
  have ho : Only [q] w ((w.setCell ⟨q, 2, none⟩ (.int .i64 (s.n + 1))).setCell ⟨q, 3, none⟩ v') := ((Only.refl _ _).setCell (by simp) _).setCell (by simp) _
  have hlo := h.lo
  refine ⟨hk, hv.kept ho (fun k hk' e => ?_), by simp only [SL.put]; omega, by simp only [SL.put]; omega, hl⟩
  simp at hk'
  subst hk'
  obtain ⟨cur, hc⟩ := hv.blk _ e
  have hb := h.blk
  rw [hc] at hb
  cases hb
/-- A row's number is raised. -/
theorem rslot_num {w : World} {q : Nat} {b : RA} {v : Value} {s : SL} (h : RSlot w q b v s) (hn : s.n < 4611686018427387904) : RSlot (w.setCell ⟨q, 2, none⟩ (.int .i64 (s.n + 1))) q b v { s with n := s.n + 1 } := by
  have hlo := h.lo
  have ho : Only [q] w (w.setCell ⟨q, 2, none⟩ (.int .i64 (s.n + 1))) := (Only.refl _ _).setCell (by simp) _
  exact ⟨heap_cell (i := 2) (.int .i64 (s.n + 1)) h.blk, h.row.kept ho (fun k hk' e => h.own k e (by simpa using hk')), by simp only; omega, by simp only; omega, h.len⟩
/-- A row is replaced. -/
theorem rslot_row {w : World} {q : Nat} {b : RA} {v v' : Value} {s : SL} {r : Sec} (h : RSlot w q b v s) (hv : Held w v' r) (hl : r.length ≤ 480) : RSlot (w.setCell ⟨q, 3, none⟩ v') q b v' { s with row := r } := by
  have ho : Only [q] w (w.setCell ⟨q, 3, none⟩ v') := (Only.refl _ _).setCell (by simp) _
  refine ⟨heap_cell (i := 3) v' h.blk, hv.kept ho (fun k hk' e => ?_), h.lo, h.hi, hl⟩
  simp at hk'
  subst hk'
  obtain ⟨cur, hc⟩ := hv.blk _ e
  have hb := h.blk
  rw [hc] at hb
  cases hb
theorem Ref.code_03 {R : Ref} {k : Int} {l : Sec} (hk : inB k R.n = true) (hl : l.length = 512) : R.code k l.length = 0 ∨ R.code k l.length = 3 := by
  unfold Ref.code
  rw [hk, hl]
  cases R.off <;> simp
theorem own_off {w w0 : World} {base : Nat} {v : Value} {l : Sec} (h : Own w base v l) {S : List Nat} (hs : ∀ k ∈ S, k < base) : Off v S := fun a n c e hn hm => by
  have h1 := (h.lt (k := a.block) (by rw [e]; rfl)).1
  have h2 := hs _ hm
  omega

theorem off_q {w : World} {q : Nat} {b : RA} {v rv : Value} {s : SL} {r : Sec} (h : RSlot w q b v s) (hr : Bytes w rv r) : Off rv [q] := by
  intro x n c e hn hm
  obtain ⟨x', cap, e2, hc⟩ := hr
  rw [e2] at e
  cases e
  obtain ⟨b', off, e3, hcell⟩ := hc 0 r[0] (List.getElem?_eq_getElem hn)
  cases e3
  simp only [List.mem_cons, List.not_mem_nil, or_false] at hm
  subst hm
  have hb := h.blk
  unfold World.cell? at hcell
  rw [show w.heap[b']? = _ from hb] at hcell
  dsimp only at hcell
  have hmm : Value.int .u8 (r[0].toNat : Int) ∈ #[Value.pointer (some ⟨b.p, 0, none⟩), .int .i64 s.at_, .int .i64 s.n, v, .bool s.cut] := by
    rw [Array.mem_iff_getElem?]
    exact ⟨_, hcell⟩
  obtain ⟨_, _, ev, _⟩ := h.row.bytes
  simp [ev] at hmm

set_option maxRecDepth 100000 in
set_option maxHeartbeats 1600000 in
theorem rsave_any {w : World} {F : List Nat} {q : Nat} {b : RA} {v : Value} {s : SL} {R : Ref} (rv : Value) (r : Sec) (h : RSlot w q b v s) (hd : RDev w F b R) (hr : Bytes w rv r) (hoff : Off rv b.bl) (ha : fitB s.at_ R.n = true) (hrl : r.length ≤ 65536) (hF : ∀ k ∈ F, k < w.heap.size) :
    Calls Try.prog 29 #[.pointer (some ⟨q, 0, none⟩), rv] w (RSavePost w F q b v s R r) := by
  have c2 := h.c2
  have c4 := h.c4
  have hlo := h.lo
  have hhi := h.hi
  have hat := fitB_iff.1 ha
  have hn4 := hd.hi
  obtain ⟨ra, rc, rfl, -⟩ := id hr
  have HR := Lib.hid hr
  have H := Lib.hid h
  have HD := Lib.hid hd
  have HOFF := Lib.hid hoff
  have HF := Lib.hid hF
  clear h hr hd ha hoff hF
  by_cases hm : s.n = 4611686018427387904
  · have f : RSavePost w F q b v s R r (.returned (.int .i64 2)) w := by
      refine ⟨?_, ?_, Only.refl _ _, v, ?_, .inl rfl⟩
      · simp [SL.rcode, hm]
      · simpa [SL.rdisk, hm] using HD.out
      · simpa [SL.rsave, hm] using H.out
    have F' := Lib.hid f
    rw [hm] at c2
    clear f
    go_enter Try.func29, Try.ntmps29
    go_wp2_with fail
    go_ret
    exact F'.out
  have hm' : ¬ 4611686018427387904 ≤ s.n := by omega
  have hw1 : IntKind.i64.wrap (s.n + 1) = s.n + 1 := by rw [IntKind.wrap_i64]; omega
  by_cases hl : 480 < r.length
  · have f : RSavePost w F q b v s R r (.returned (.int .i64 2)) w := by
      refine ⟨?_, ?_, Only.refl _ _, v, ?_, .inl rfl⟩
      · simp [SL.rcode, hl]
      · simpa [SL.rdisk, hl] using HD.out
      · simpa [SL.rsave, hl] using H.out
    have F' := Lib.hid f
    clear f
    go_enter Try.func29, Try.ntmps29
    go_wp2_with fail
    refine (Sector_long _ _ r w HR.out hl).mono ?_
    rintro e w' ⟨rfl, rfl⟩
    go_wp2_with fail
    go_ret
    exact F'.out
  have hnf : ¬ (480 < r.length ∨ s.n = 4611686018427387904) := by omega
  have hpl : inB s.place R.n = true := by
    have hm0 := Int.emod_nonneg (s.n + 1) (show (2 : Int) ≠ 0 by omega)
    have hm1 := Int.emod_lt_of_pos (s.n + 1) (show (0 : Int) < 2 by omega)
    exact inB_iff.2 ⟨by unfold SL.place; omega, by unfold SL.place; omega⟩
  have hpe : IntKind.i64.wrap (s.at_ + (s.n + 1) % 2) = s.place := by
    have hm0 := Int.emod_nonneg (s.n + 1) (show (2 : Int) ≠ 0 by omega)
    have hm1 := Int.emod_lt_of_pos (s.n + 1) (show (0 : Int) < 2 by omega)
    rw [IntKind.wrap_i64]
    unfold SL.place
    omega
  have htm := tmod_two (n := s.n + 1) (by omega)
  have HPL := Lib.hid hpl
  have HSL := Lib.hid (SL.sec_len (s := s) (r := r) hlo hhi (by omega))
  clear hpl
  cases hcut : s.cut
  rotate_left
  · have f : ∀ w', Only [] w w' → RSavePost w F q b v s R r (.returned (.int .i64 3)) w' := fun w' ho => by
      refine ⟨?_, ?_, ho.mono (by simp), v, ?_, .inl rfl⟩
      · simp [SL.rcode, hnf, hcut]
      · simpa [SL.rdisk, hnf, hcut] using HD.out.quiet ho
      · simpa [SL.rsave, hnf, hcut] using H.out.quiet ho
    have F' := Lib.hid f
    clear f
    go_enter Try.func29, Try.ntmps29
    go_wp2_with fail
    refine (Sector_any (s.n + 1) _ r w HR.out (by omega) (by omega) (by omega)).mono ?_
    rintro e w1 ⟨a1, k1, rfl, _, o1⟩
    have c4 : w1.cell? ⟨q, 4, none⟩ = some (.bool s.cut) := (H.out.quiet o1).c4
    rw [hcut] at c4
    clear hcut
    go_wp2_with fail
    go_ret
    exact F'.out _ o1
  have e1 : s.rcode R r = R.lcode s.place (s.sec r) := by simp [SL.rcode, hnf, hcut]
  have e2 : s.rdisk R r = R.ly s.place (s.sec r) := by simp [SL.rdisk, hnf, hcut]
  have e3 : s.rsave R r = if R.lcode s.place (s.sec r) = 0 then s.put r else s.die true := by simp [SL.rsave, hnf, hcut]
  have E1 := Lib.hid e1
  have E2 := Lib.hid e2
  have E3 := Lib.hid e3
  have HC := Lib.hid hcut
  have HPE := Lib.hid hpe
  clear e1 e2 e3 hnf hpe hcut
  go_enter Try.func29, Try.ntmps29
  go_wp2_with fail
  refine (Sector_any (s.n + 1) _ r w HR.out (by omega) (by omega) (by omega)).mono ?_
  rintro e w1 ⟨a1, k1, rfl, h1, o1⟩
  have S1 := Lib.hid (H.out.quiet o1)
  have D1 := Lib.hid (HD.out.quiet o1)
  have R1 := Lib.hid (HR.out.kept o1 (clean_nil _))
  have B1 := Lib.hid h1
  have O1 := Lib.hid o1
  have c4 : w1.cell? ⟨q, 4, none⟩ = some (.bool s.cut) := S1.out.c4
  rw [HC.out] at c4
  have qd : Only [] w1 w1.drew := (Only.refl [] w1).drew
  have S2 := Lib.hid (S1.out.quiet qd)
  have D2 := Lib.hid (D1.out.quiet qd)
  have R2 := Lib.hid (R1.out.kept qd (clean_nil _))
  have B2 := Lib.hid (B1.out.quiet qd)
  have O2 := Lib.hid (O1.out.drew)
  have s0 := S2.out.c0
  have s1 := S2.out.c1
  have s2 := S2.out.c2
  clear h1 o1 c2 qd
  go_wp2_with fail
  clear c4
  refine wp_region_held_drew (S := fun w' => w'.cell? ⟨q, 0, none⟩ = some (.pointer (some ⟨b.p, 0, none⟩)) ∧ w'.cell? ⟨q, 1, none⟩ = some (.int .i64 s.at_) ∧ w'.cell? ⟨q, 2, none⟩ = some (.int .i64 s.n)) (by kernel_rfl) ⟨s0, s1, s2⟩ (fun hH => ?_)
  clear s0 s1 s2 S1 D1 R1 B1 O1
  refine take_list (i := 0) (v := ?_) rfl (by kernel_rfl) (by kernel_rfl) (by kernel_rfl) (fun _ _ _ h => h) (Or.inl ⟨by rfl, ?_⟩) hH ?_
  rotate_left
  · ((intro w hSw; (try dsimp only at hSw); go_simp); try with_reducible rfl)
  simp only [Act.put, List.setIfInBounds_toArray, List.set_cons_zero, List.set_cons_succ]
  refine take_list (i := 1) (v := ?_) rfl (by kernel_rfl) (by kernel_rfl) (by kernel_rfl) (fun _ _ _ h => h) (Or.inl ⟨by rfl, ?_⟩) hH ?_
  rotate_left
  · ((intro w hSw; (try dsimp only at hSw); go_simp); try with_reducible rfl)
  simp only [Act.put, List.setIfInBounds_toArray, List.set_cons_zero, List.set_cons_succ]
  refine take_list (i := 2) (v := ?_) rfl (by kernel_rfl) (by kernel_rfl) (by kernel_rfl) (fun _ _ _ h => h) (Or.inl ⟨by rfl, ?_⟩) hH ?_
  rotate_left
  · ((intro w hSw; (try dsimp only at hSw); go_simp); try with_reducible rfl)
  simp only [Act.put, List.setIfInBounds_toArray, List.set_cons_zero, List.set_cons_succ]
  refine take_list (i := 3) (v := ?_) rfl (by kernel_rfl) (by kernel_rfl) (by kernel_rfl) (fun _ _ _ h => h) (Or.inl ⟨by rfl, ?_⟩) hH ?_
  rotate_left
  · ((intro w hSw; (try dsimp only at hSw); go_simp); try with_reducible rfl)
  simp only [Act.put, List.setIfInBounds_toArray, List.set_cons_zero, List.set_cons_succ]
  refine take_list (i := 4) (v := ?_) rfl (by kernel_rfl) (by kernel_rfl) (by kernel_rfl) (fun _ _ _ h => h) (Or.inl ⟨by rfl, ?_⟩) hH ?_
  rotate_left
  · ((intro w hSw; (try dsimp only at hSw); go_simp); try with_reducible rfl)
  simp only [Act.put, List.setIfInBounds_toArray, List.set_cons_zero, List.set_cons_succ]
  refine take_list (i := 5) (v := ?_) rfl (by kernel_rfl) (by kernel_rfl) (by kernel_rfl) (fun _ _ _ h => h) (Or.inl ⟨by rfl, ?_⟩) hH ?_
  rotate_left
  · ((intro w hSw; (try dsimp only at hSw); go_simp); try with_reducible rfl)
  simp only [Act.put, List.setIfInBounds_toArray, List.set_cons_zero, List.set_cons_succ]
  refine take_list (i := 6) (v := ?_) rfl (by kernel_rfl) (by kernel_rfl) (by kernel_rfl) (fun _ _ _ h => h) (Or.inl ⟨by rfl, ?_⟩) hH ?_
  rotate_left
  · ((intro w hSw; (try dsimp only at hSw); go_simp); try with_reducible rfl)
  simp only [Act.put, List.setIfInBounds_toArray, List.set_cons_zero, List.set_cons_succ]
  refine take_list (i := 7) (v := ?_) rfl (by kernel_rfl) (by kernel_rfl) (by kernel_rfl) (fun _ _ _ h => h) (Or.inl ⟨by rfl, ?_⟩) hH ?_
  rotate_left
  · ((intro w hSw; (try dsimp only at hSw); go_simp); try with_reducible rfl)
  simp only [Act.put, List.setIfInBounds_toArray, List.set_cons_zero, List.set_cons_succ]
  refine take_list (i := 8) (v := ?_) rfl (by kernel_rfl) (by kernel_rfl) (by kernel_rfl) (fun _ _ _ h => h) (Or.inl ⟨by rfl, ?_⟩) hH ?_
  rotate_left
  · ((intro w hSw; (try dsimp only at hSw); go_simp); try with_reducible rfl)
  simp only [Act.put, List.setIfInBounds_toArray, List.set_cons_zero, List.set_cons_succ]
  refine take_list (i := 9) (v := ?_) rfl (by kernel_rfl) (by kernel_rfl) (by kernel_rfl) (fun _ _ _ h => h) (Or.inl ⟨by rfl, ?_⟩) hH ?_
  rotate_left
  · ((intro w hSw; (try dsimp only at hSw); go_simp); try with_reducible rfl)
  simp only [Act.put, List.setIfInBounds_toArray, List.set_cons_zero, List.set_cons_succ]
  refine take_list (i := 10) (v := ?_) rfl (by kernel_rfl) (by kernel_rfl) (by kernel_rfl) (fun _ _ _ h => h) (Or.inl ⟨by rfl, ?_⟩) hH ?_
  rotate_left
  · ((intro w hSw; (try dsimp only at hSw); go_simp); try with_reducible rfl)
  simp only [Act.put, List.setIfInBounds_toArray, List.set_cons_zero, List.set_cons_succ]
  refine take_list (i := 11) (v := ?_) rfl (by kernel_rfl) (by kernel_rfl) (by kernel_rfl) (fun _ _ _ h => h) (Or.inl ⟨by rfl, ?_⟩) hH ?_
  rotate_left
  · ((intro w hSw; (try dsimp only at hSw); go_simp); try with_reducible rfl)
  simp only [Act.put, List.setIfInBounds_toArray, List.set_cons_zero, List.set_cons_succ]
  refine take_list (i := 12) (v := ?_) rfl (by kernel_rfl) (by kernel_rfl) (by kernel_rfl) (fun _ _ _ h => h) (Or.inl ⟨by rfl, ?_⟩) hH ?_
  rotate_left
  · ((intro w hSw; (try dsimp only at hSw); go_simp); try with_reducible rfl)
  simp only [Act.put, List.setIfInBounds_toArray, List.set_cons_zero, List.set_cons_succ]
  refine take_list (i := 13) (v := ?_) rfl (by kernel_rfl) (by kernel_rfl) (by kernel_rfl) (fun _ _ _ h => h) (Or.inl ⟨by rfl, ?_⟩) hH ?_
  rotate_left
  · ((intro w hSw; (try dsimp only at hSw); go_simp); try with_reducible rfl)
  simp only [Act.put, List.setIfInBounds_toArray, List.set_cons_zero, List.set_cons_succ]
  refine take_list (i := 14) (v := ?_) rfl (by kernel_rfl) (by kernel_rfl) (by kernel_rfl) (fun _ _ _ h => h) (Or.inl ⟨by rfl, ?_⟩) hH ?_
  rotate_left
  · ((intro w hSw; (try dsimp only at hSw); go_simp); try with_reducible rfl)
  simp only [Act.put, List.setIfInBounds_toArray, List.set_cons_zero, List.set_cons_succ]
  refine take_list (i := 15) (v := ?_) rfl (by kernel_rfl) (by kernel_rfl) (by kernel_rfl) (fun _ _ _ h => h) (Or.inl ⟨by rfl, ?_⟩) hH ?_
  rotate_left
  · ((intro w hSw; (try dsimp only at hSw); go_simp); try with_reducible rfl)
  simp only [Act.put, List.setIfInBounds_toArray, List.set_cons_zero, List.set_cons_succ]
  refine wpAnyH_ready (rs := [16]) (by kernel_rfl) (by simp) ?_
  refine ready_list rfl (fun K hK => ?_)
  go_simp
  rw [HPE.out]
  have hob : Off (.slice a1 512 k1) [b.p] := fun x n c e hn hm => by
    have h1 := (B2.out.lt (k := x.block) (by rw [e]; rfl)).1
    have h2 := HD.out.lt b.p (by simp [RA.bl])
    simp at hm
    omega
  have hF2 : ∀ k ∈ F, k < w1.drew.heap.size := fun k hk => Nat.lt_of_lt_of_le (HF.out k hk) O2.out.size
  refine (Write_ref_all s.place _ (s.sec r) D2.out B2.out.bytes hob hF2).mono ?_
  rintro e w3 ⟨rfl, d3, o3⟩
  have S3 := Lib.hid (S2.out.dev D2.out o3)
  have R3 := Lib.hid (R2.out.keptOff o3 HOFF.out)
  have D3 := Lib.hid d3
  have O3 := Lib.hid ((O2.out.mono (T := b.bl) (by simp)).trans o3 (fun k hk => .inl hk))
  have hc := Ref.code_03 HPL.out HSL.out
  refine hK.out _ _ ⟨S3.out.c0, S3.out.c1, S3.out.c2⟩ (fun hH => ?_)
  clear hK K S2 D2 R2 B2 O2 d3 o3 hob hF2
  refine take_list (i := 17) (v := ?_) rfl (by kernel_rfl) (by kernel_rfl) (by kernel_rfl) (fun _ _ _ h => h) (Or.inl ⟨by rfl, ?_⟩) hH ?_
  rotate_left
  · ((intro w hSw; (try dsimp only at hSw); go_simp); try with_reducible rfl)
  simp only [Act.put, List.setIfInBounds_toArray, List.set_cons_zero, List.set_cons_succ]
  refine wpAnyH_done (by kernel_rfl) ?_ _
  clear hH
  rcases hc with hc | hc
  rotate_left
  · have hl : R.lcode s.place (s.sec r) = 3 := by unfold Ref.lcode; rw [if_neg (by omega), hc]
    have hy : R.ly s.place (s.sec r) = R.wr s.place (s.sec r) := by unfold Ref.ly; rw [if_neg (by omega)]
    rw [hc]
    have c4 : w3.cell? ⟨q, 4, none⟩ = some (.bool s.cut) := S3.out.c4
    have f4 := S3.out.free 4
    have qo : Only [q] w3 (w3.setCell ⟨q, 4, none⟩ (.bool true)) := (Only.refl _ _).setCell (by simp) _
    have f : RSavePost w F q b v s R r (.returned (.int .i64 3)) (w3.setCell ⟨q, 4, none⟩ (.bool true)) := by
      refine ⟨by rw [E1.out, hl], by rw [E2.out, hy]; exact D3.out.keptQ S3.out qo, (O3.out.mono (fun k hk => by simp [RSA, hk])).setCell (by simp [RSA]) _, v, ?_, .inl rfl⟩
      rw [E3.out, if_neg (by omega)]
      exact S3.out.die true
    have F' := Lib.hid f
    clear f hl hy hc qo htm
    go_wp2_with fail
    go_ret
    exact F'.out
  have hl : R.lcode s.place (s.sec r) = (R.wr s.place (s.sec r)).scode := by unfold Ref.lcode; rw [if_pos hc]
  have hy : R.ly s.place (s.sec r) = (R.wr s.place (s.sec r)).sy := by unfold Ref.ly; rw [if_pos hc]
  rw [hc]
  have c0 := S3.out.c0
  have HL := Lib.hid hl
  have HY := Lib.hid hy
  clear hl hy hc
  go_wp2_with fail
  clear c0
  refine (Sync_ref_all D3.out).mono ?_
  rintro e w4 ⟨rfl, d4, o4⟩
  have S4 := Lib.hid (S3.out.dev D3.out o4)
  have R4 := Lib.hid (R3.out.keptOff o4 HOFF.out)
  have D4 := Lib.hid d4
  have O4 := Lib.hid (O3.out.trans o4 (fun k hk => .inl hk))
  have h03 := Ref.scode_03 (R.wr s.place (s.sec r))
  clear S3 R3 D3 O3 d4 o4
  rw [← HL.out] at h03 ⊢
  rw [← HY.out] at D4
  rcases h03 with hc | hc
  rotate_left
  · rw [hc]
    have c4 : w4.cell? ⟨q, 4, none⟩ = some (.bool s.cut) := S4.out.c4
    have f4 := S4.out.free 4
    have qo : Only [q] w4 (w4.setCell ⟨q, 4, none⟩ (.bool true)) := (Only.refl _ _).setCell (by simp) _
    have f : RSavePost w F q b v s R r (.returned (.int .i64 3)) (w4.setCell ⟨q, 4, none⟩ (.bool true)) := by
      refine ⟨by rw [E1.out, hc], by rw [E2.out]; exact D4.out.keptQ S4.out qo, (O4.out.mono (fun k hk => by simp [RSA, hk])).setCell (by simp [RSA]) _, v, ?_, .inl rfl⟩
      rw [E3.out, if_neg (by omega)]
      exact S4.out.die true
    have F' := Lib.hid f
    clear f hc qo
    go_wp2_with fail
    go_ret
    exact F'.out
  rw [hc]
  have c2 : w4.cell? ⟨q, 2, none⟩ = some (.int .i64 s.n) := S4.out.c2
  have f2 := S4.out.free 2
  have S5 := Lib.hid (rslot_num S4.out (by omega))
  have qo : Only [q] w4 (w4.setCell ⟨q, 2, none⟩ (.int .i64 (s.n + 1))) := (Only.refl _ _).setCell (by simp) _
  have D5 := Lib.hid (D4.out.keptQ S4.out qo)
  have R5 := Lib.hid (R4.out.keptOff qo (off_q S4.out R4.out))
  have O5 := Lib.hid ((O4.out.mono (T := RSA q b) (fun k hk => by simp [RSA, hk])).trans qo (fun k hk => .inl (by simp at hk; simp [RSA, hk])))
  have HC2 := Lib.hid hc
  clear S4 D4 R4 O4 qo hc
  have m5 := Own.made (base := (w4.setCell ⟨q, 2, none⟩ (.int .i64 (s.n + 1))).heap.size) (w4.setCell ⟨q, 2, none⟩ (.int .i64 (s.n + 1))) [] #[] rfl (Nat.le_refl _) (by simp)
  rw [heap_slot] at m5
  have M5 := Lib.hid m5
  have q6 : Only [] (w4.setCell ⟨q, 2, none⟩ (.int .i64 (s.n + 1))) ((w4.setCell ⟨q, 2, none⟩ (.int .i64 (s.n + 1))).alloc (.cells #[] 5)) := (Only.refl [] (w4.setCell ⟨q, 2, none⟩ (.int .i64 (s.n + 1)))).alloc _
  have R6 := Lib.hid (R5.out.kept q6 (clean_nil _))
  have Q6 := Lib.hid q6
  clear q6 R5 m5
  go_wp2_with (refine wpList_append_any rfl (.tmp 68) (.tmp 69) rfl w4.heap.size _ [] (by rfl) M5.out _ r (by rfl) R6.out r.length (by simp) r rfl (by omega) (by simp) ?_
               intro a7 k7 w7 h7 e7
               have o7 : Only [] (w4.setCell ⟨q, 2, none⟩ (.int .i64 (s.n + 1))) w7 := e7.fresh Q6.out M5.out (Nat.le_of_eq heap_slot)
               have s7 := S5.out.quiet o7
               have c3 : w7.cell? ⟨q, 3, none⟩ = some v := s7.c3
               have f3 := s7.free 3
               have S7 := Lib.hid s7
               have D7 := Lib.hid (D5.out.quiet o7)
               have H7 := Lib.hid h7
               have O7 := Lib.hid (O5.out.trans o7 (by simp))
               clear s7 h7 e7 o7 M5 Q6 R6)
  have qo : Only [q] w7 (w7.setCell ⟨q, 3, none⟩ (.slice a7 r.length k7)) := (Only.refl _ _).setCell (by simp) _
  have s8 := rslot_row S7.out H7.out.held (by omega)
  have f : RSavePost w F q b v s R r (.returned (.int .i64 0)) (w7.setCell ⟨q, 3, none⟩ (.slice a7 r.length k7)) := by
    refine ⟨by rw [E1.out, HC2.out], by rw [E2.out]; exact D7.out.keptQ S7.out qo, O7.out.trans qo (fun k hk => .inl (by simp at hk; simp [RSA, hk])), .slice a7 r.length k7, ?_, .inr fun g hg => ?_⟩
    · rw [E3.out, if_pos HC2.out]
      exact s8
    · have h1 := (H7.out.lt hg).1
      have h2 := O5.out.size
      rw [heap_slot] at h2
      omega
  have F' := Lib.hid f
  clear f s8 qo
  go_wp2_with fail
  go_ret
  exact F'.out

/-! ### Format -/
structure RMadePost (w : World) (F : List Nat) (b : RA) (R' : Ref) (s : SL) (c : Int) (e : Ending) (w' : World) : Prop where
  dev : RDev w' F b R'
  only : Only b.bl w w'
  yes : c = 0 → ∃ q v, e = .returned (.tuple #[.pointer (some ⟨q, 0, none⟩), .int .i64 0]) ∧ RSlot w' q b v s ∧ w.heap.size ≤ q ∧ ∀ g, v.ownBlock = some g → w.heap.size ≤ g
  no : c ≠ 0 → e = .returned (.tuple #[.pointer none, .int .i64 c])
theorem Ref.wr_code {R : Ref} {at_ : Int} (h1 : inB at_ R.n = true) : R.code at_ 512 = 0 ∨ R.code at_ 512 = 3 := by
  have := Ref.code_03 (R := R) (l := zeros) h1 zeros_length
  rwa [zeros_512] at this

set_option maxRecDepth 100000 in
set_option maxHeartbeats 3200000 in
theorem rformat_any {w : World} {F : List Nat} {b : RA} {R : Ref} (at_ : Int) (rv : Value) (r : Sec) (hd : RDev w F b R) (hr : Bytes w rv r) (hoff : Off rv b.bl) (hrl : r.length ≤ 65536) (hF : ∀ k ∈ F, k < w.heap.size) :
    Calls Try.prog 24 #[.pointer (some ⟨b.p, 0, none⟩), .int .i64 at_, rv] w (RMadePost w F b (R.fm at_ r) ⟨at_, 1, r, false⟩ (R.fcode at_ r)) := by
  obtain ⟨ra, rc, rfl, -⟩ := id hr
  have hc := fits_ref at_ hd
  have hn4 := hd.hi
  have HR := Lib.hid hr
  have HD := Lib.hid hd
  have HOFF := Lib.hid hoff
  have HF := Lib.hid hF
  clear hr hd hoff hF
  cases ha : fitB at_ R.n
  · rw [ha] at hc
    have e1 : R.fcode at_ r = 1 := by simp [Ref.fcode, ha]
    have e2 : R.fm at_ r = R := by simp [Ref.fm, ha]
    have f : RMadePost w F b (R.fm at_ r) ⟨at_, 1, r, false⟩ (R.fcode at_ r) (.returned (.tuple #[.pointer none, .int .i64 1])) w :=
      ⟨by rw [e2]; exact HD.out, Only.refl _ _, (fun h => by rw [e1] at h; cases h), (fun _ => by rw [e1])⟩
    have F' := Lib.hid f
    clear e1 e2 f ha
    go_enter Try.func24, Try.ntmps24
    go_wp2_with fail
    refine hc.mono ?_
    rintro e w' ⟨rfl, rfl⟩
    go_wp2_with fail
    go_ret2
    exact F'.out
  rw [ha] at hc
  have hat := fitB_iff.1 ha
  by_cases hl : 480 < r.length
  · have e1 : R.fcode at_ r = 2 := by simp [Ref.fcode, ha, hl]
    have e2 : R.fm at_ r = R := by simp [Ref.fm, ha, hl]
    have f : RMadePost w F b (R.fm at_ r) ⟨at_, 1, r, false⟩ (R.fcode at_ r) (.returned (.tuple #[.pointer none, .int .i64 2])) w :=
      ⟨by rw [e2]; exact HD.out, Only.refl _ _, (fun h => by rw [e1] at h; cases h), (fun _ => by rw [e1])⟩
    have F' := Lib.hid f
    clear e1 e2 f ha
    go_enter Try.func24, Try.ntmps24
    go_wp2_with fail
    refine hc.mono ?_
    rintro e w' ⟨rfl, rfl⟩
    go_wp2_with fail
    refine (Sector_long _ _ r w HR.out hl).mono ?_
    rintro e w' ⟨rfl, rfl⟩
    go_wp2_with fail
    go_ret2
    exact F'.out
  have e1 : R.fcode at_ r = if R.code at_ 512 = 0 then (R.wr at_ zeros).lcode (at_ + 1) (rowSec 1 r) else R.code at_ 512 := by simp [Ref.fcode, ha, hl]
  have e2 : R.fm at_ r = if R.code at_ 512 = 0 then (R.wr at_ zeros).ly (at_ + 1) (rowSec 1 r) else R.wr at_ zeros := by simp [Ref.fm, ha, hl]
  have h03 := Ref.wr_code (R := R) (at_ := at_) (inB_iff.2 ⟨hat.1, by omega⟩)
  have E1 := Lib.hid e1
  have E2 := Lib.hid e2
  have HSL := Lib.hid (rowSec_length (n := 1) (r := r) (by omega) (by omega) (by omega))
  clear e1 e2 ha
  go_enter Try.func24, Try.ntmps24
  go_wp2_with fail
  refine hc.mono ?_
  rintro e w' ⟨rfl, rfl⟩
  clear hc
  go_wp2_with fail
  refine (Sector_any 1 _ r w HR.out (by omega) (by omega) (by omega)).mono ?_
  rintro e w1 ⟨a1, k1, rfl, h1, o1⟩
  have D1 := Lib.hid (HD.out.quiet o1)
  have R1 := Lib.hid (HR.out.kept o1 (clean_nil _))
  have B1 := Lib.hid h1
  have O1 := Lib.hid o1
  clear h1 o1
  go_wp2_with (refine wpList_make512 rfl rfl ?_; intro w2 g2 b2 hg2 o2)
  have D2 := Lib.hid (D1.out.quiet o2)
  have R2 := Lib.hid (R1.out.kept o2 (clean_nil _))
  have B2 := Lib.hid (B1.out.quiet o2)
  have O2 := Lib.hid (O1.out.trans o2 (by simp))
  have z2 := b2.bytes 512
  rw [zeros_512] at z2
  have Z2 := Lib.hid z2
  have hob : Off (.slice (some ⟨g2, 0, none⟩) 512 512) [b.p] := fun x n c e hn hm => by
    cases e
    have h2 := D1.out.lt b.p (by simp [RA.bl])
    simp at hm
    omega
  have hF2 : ∀ k ∈ F, k < w2.heap.size := fun k hk => Nat.lt_of_lt_of_le (HF.out k hk) O2.out.size
  clear b2 o2 z2 D1 R1 B1 O1
  refine (Write_ref_all at_ _ zeros D2.out Z2.out hob hF2).mono ?_
  rintro e w3 ⟨rfl, d3, o3⟩
  rw [zeros_512]
  have D3 := Lib.hid d3
  have R3 := Lib.hid (R2.out.keptOff o3 HOFF.out)
  have hbo : Off (.slice a1 512 k1) b.bl := fun x n c e hn hm => by
    have h1 := (B2.out.lt (k := x.block) (by rw [e]; rfl)).1
    have h2 := HD.out.lt _ hm
    omega
  have B3 := Lib.hid (B2.out.bytes.keptOff o3 hbo)
  have O3 := Lib.hid ((O2.out.mono (T := b.bl) (by simp)).trans o3 (fun k hk => .inl hk))
  have HBO := Lib.hid hbo
  have hF3 : ∀ k ∈ F, k < w3.heap.size := fun k hk => Nat.lt_of_lt_of_le (HF.out k hk) O3.out.size
  have HF3 := Lib.hid hF3
  clear d3 o3 hob hF2 D2 R2 B2 O2 Z2 hbo hF3 hg2
  rcases h03 with hcz | hcz
  rotate_left
  · rw [hcz]
    have f : RMadePost w F b (R.fm at_ r) ⟨at_, 1, r, false⟩ (R.fcode at_ r) (.returned (.tuple #[.pointer none, .int .i64 3])) w3 :=
      ⟨by rw [E2.out, if_neg (by omega)]; exact D3.out, O3.out, (fun h => by rw [E1.out, if_neg (by omega), hcz] at h; cases h), (fun _ => by rw [E1.out, if_neg (by omega), hcz])⟩
    have F' := Lib.hid f
    clear f hcz
    go_wp2_with fail
    go_ret2
    exact F'.out
  rw [hcz]
  rw [if_pos hcz] at E1 E2
  have hw1 : IntKind.i64.wrap (at_ + 1) = at_ + 1 := by rw [IntKind.wrap_i64]; omega
  clear hcz
  go_wp2_with fail
  have hin1 : inB (at_ + 1) (R.wr at_ zeros).n = true := by rw [Ref.wr_n]; exact inB_iff.2 ⟨by omega, by omega⟩
  have h03 := Ref.code_03 (R := R.wr at_ zeros) (l := rowSec 1 r) hin1 HSL.out
  refine (Write_ref_all (at_ + 1) _ (rowSec 1 r) D3.out B3.out (fun x n c e hn hm => HBO.out x n c e hn (by simp at hm; simp [RA.bl, hm])) HF3.out).mono ?_
  rintro e w4 ⟨rfl, d4, o4⟩
  have D4 := Lib.hid d4
  have R4 := Lib.hid (R3.out.keptOff o4 HOFF.out)
  have O4 := Lib.hid (O3.out.trans o4 (fun k hk => .inl hk))
  clear d4 o4 D3 R3 O3 B3 hin1
  rcases h03 with hcz | hcz
  rotate_left
  · rw [hcz]
    have hl : (R.wr at_ zeros).lcode (at_ + 1) (rowSec 1 r) = 3 := by unfold Ref.lcode; rw [if_neg (by omega), hcz]
    have hy : (R.wr at_ zeros).ly (at_ + 1) (rowSec 1 r) = (R.wr at_ zeros).wr (at_ + 1) (rowSec 1 r) := by unfold Ref.ly; rw [if_neg (by omega)]
    have f : RMadePost w F b (R.fm at_ r) ⟨at_, 1, r, false⟩ (R.fcode at_ r) (.returned (.tuple #[.pointer none, .int .i64 3])) w4 :=
      ⟨by rw [E2.out, hy]; exact D4.out, O4.out, (fun h => by rw [E1.out, hl] at h; cases h), (fun _ => by rw [E1.out, hl])⟩
    have F' := Lib.hid f
    clear f hcz hl hy
    go_wp2_with fail
    go_ret2
    exact F'.out
  rw [hcz]
  have hl : (R.wr at_ zeros).lcode (at_ + 1) (rowSec 1 r) = ((R.wr at_ zeros).wr (at_ + 1) (rowSec 1 r)).scode := by unfold Ref.lcode; rw [if_pos hcz]
  have hy : (R.wr at_ zeros).ly (at_ + 1) (rowSec 1 r) = ((R.wr at_ zeros).wr (at_ + 1) (rowSec 1 r)).sy := by unfold Ref.ly; rw [if_pos hcz]
  rw [hl] at E1
  rw [hy] at E2
  clear hl hy hcz
  go_wp2_with fail
  refine (Sync_ref_all D4.out).mono ?_
  rintro e w5 ⟨rfl, d5, o5⟩
  have h03 := Ref.scode_03 ((R.wr at_ zeros).wr (at_ + 1) (rowSec 1 r))
  generalize ((R.wr at_ zeros).wr (at_ + 1) (rowSec 1 r)) = R5 at d5 h03 E1 E2 ⊢
  have D5 := Lib.hid d5
  have R5' := Lib.hid (R4.out.keptOff o5 HOFF.out)
  have O5 := Lib.hid (O4.out.trans o5 (fun k hk => .inl hk))
  clear d5 o5 D4 R4 O4
  rcases h03 with hcz | hcz
  rotate_left
  · rw [hcz]
    have f : RMadePost w F b (R.fm at_ r) ⟨at_, 1, r, false⟩ (R.fcode at_ r) (.returned (.tuple #[.pointer none, .int .i64 3])) w5 :=
      ⟨by rw [E2.out]; exact D5.out, O5.out, (fun h => by rw [E1.out, hcz] at h; cases h), (fun _ => by rw [E1.out, hcz])⟩
    have F' := Lib.hid f
    clear f hcz
    go_wp2_with fail
    go_ret2
    exact F'.out
  rw [hcz]
  rw [hcz] at E1
  have m5 := Own.made (base := w5.heap.size) w5 [] #[] rfl (Nat.le_refl _) (by simp)
  have M5 := Lib.hid m5
  have q6 : Only [] w5 (w5.alloc (.cells #[] 5)) := (Only.refl [] w5).alloc _
  have R6 := Lib.hid (R5'.out.kept q6 (clean_nil _))
  have Q6 := Lib.hid q6
  clear q6 R5' m5 hcz
  go_wp2_with (refine wpList_append_any rfl (.tmp 41) (.tmp 42) rfl w5.heap.size _ [] (by rfl) M5.out _ r (by rfl) R6.out r.length (by simp) r rfl (by omega) (by simp) ?_
               intro a7 k7 w7 h7 e7
               have o7 : Only [] w5 w7 := e7.fresh Q6.out M5.out (Nat.le_refl _)
               have D7 := Lib.hid (D5.out.quiet o7)
               have H7 := Lib.hid h7
               have O7 := Lib.hid (O5.out.trans o7 (by simp))
               clear h7 e7 o7 M5 Q6 R6)
  go_ret2
  have q8 : Only [] w7 (w7.alloc (.cells #[.pointer (some ⟨b.p, 0, none⟩), .int .i64 at_, .int .i64 1, .slice a7 r.length k7, .bool false] 86)) := (Only.refl [] w7).alloc _
  have z5 : w.heap.size ≤ w5.heap.size := O5.out.size
  refine ⟨by rw [E2.out]; exact D7.out.quiet q8, O7.out.trans q8 (by simp), fun _ => ⟨w7.heap.size, .slice a7 r.length k7, rfl, ⟨heap_new w7 _, H7.out.held.kept q8 (by simp), by simp, by simp, by simp only; omega⟩, O7.out.size, fun g hg => Nat.le_trans z5 (H7.out.lt hg).1⟩, fun h => absurd E1.out h⟩
end Go.Proofs.Ytdmkmjlkogkmgaa
/- The document's slots: Open. -/
namespace Go.Proofs.Ytdmkmjlkogkmgaa
open Go.RowKit Go.Maps
set_option linter.unusedSimpArgs false
set_option linter.unusedVariables false

/-- What one sector gives: a number, 0 if none. -/
def numOf (x : Option (Int × Sec)) : Int := match x with
  | none => 0
  | some q => q.1
def rowOf (x : Option (Int × Sec)) : Sec := match x with
  | none => []
  | some q => q.2
theorem ReadPost.one {w w' : World} {x : Option (Int × Sec)} {e : Ending} (h : ReadPost w x e w') : ∃ v, e = .returned (.tuple #[.int .i64 (numOf x), v]) ∧ Held w' v (rowOf x) ∧ (∀ g, v.ownBlock = some g → w.heap.size ≤ g) ∧ Only [] w w' := by
  obtain ⟨h1, h2, h3⟩ := h
  cases x with
  | none => exact ⟨_, h1 rfl, ⟨bytes_nil _ _, fun g hg => by cases hg⟩, (fun g hg => by cases hg), h3⟩
  | some q =>
    obtain ⟨v, he, hv, hn⟩ := h2 q.1 q.2 rfl
    exact ⟨v, he, hv, hn, h3⟩
theorem says_num {l : Sec} {t : Int} : 0 ≤ numOf (says l t) ∧ numOf (says l t) ≤ 4611686018427387904 ∧ (rowOf (says l t)).length ≤ 480 ∧ (numOf (says l t) ≠ 0 → numOf (says l t) % 2 = t) := by
  cases h : says l t with
  | none => simp [numOf, rowOf]
  | some q =>
    obtain ⟨n, r⟩ := q
    have := says_inv h
    exact ⟨by simp [numOf]; omega, by simp [numOf]; omega, by simp [rowOf]; omega, fun _ => this.2.2.2⟩
theorem pick_two {l m : Sec} : pick (pick (0, []) (says l 0)) (says m 1) = if numOf (says m 1) < numOf (says l 0) then (numOf (says l 0), rowOf (says l 0)) else if numOf (says l 0) < numOf (says m 1) then (numOf (says m 1), rowOf (says m 1)) else (0, []) := by
  have h1 := @says_num l 0
  have h2 := @says_num m 1
  cases ha : says l 0 with
  | none =>
    cases hb : says m 1 with
    | none => rfl
    | some q =>
      have := says_inv (n := q.1) (r := q.2) hb
      show (if (0 : Int) < q.1 then q else (0, [])) = if q.1 < (0 : Int) then (0, []) else if (0 : Int) < q.1 then (q.1, q.2) else (0, [])
      rw [if_pos (show (0 : Int) < q.1 by omega), if_neg (show ¬ q.1 < 0 by omega)]
  | some p =>
    have hp := says_inv (n := p.1) (r := p.2) ha
    cases hb : says m 1 with
    | none =>
      show (if (0 : Int) < p.1 then p else (0, [])) = if (0 : Int) < p.1 then (p.1, p.2) else if p.1 < (0 : Int) then (0, []) else (0, [])
      rw [if_pos (show (0 : Int) < p.1 by omega), if_pos (show (0 : Int) < p.1 by omega)]
    | some q =>
      have hq := says_inv (n := q.1) (r := q.2) hb
      show pick (if (0 : Int) < p.1 then p else (0, [])) (some q) = if q.1 < p.1 then (p.1, p.2) else if p.1 < q.1 then (q.1, q.2) else (0, [])
      rw [if_pos (show (0 : Int) < p.1 by omega), pick_some]
      by_cases hlt : p.1 < q.1
      · rw [if_pos hlt, if_neg (by omega), if_pos hlt]
      · rw [if_neg hlt, if_pos (by omega)]

set_option maxRecDepth 100000 in
set_option maxHeartbeats 3200000 in
theorem ropen_any {w : World} {F : List Nat} {b : RA} {R : Ref} (at_ : Int) (hd : RDev w F b R) :
    Calls Try.prog 28 #[.pointer (some ⟨b.p, 0, none⟩), .int .i64 at_] w (fun e w' => RMadePost w F b R (SL.of at_ (R.op at_)) (R.ocode at_) e w' ∧ Only [] w w') := by
  have hc := fits_ref at_ hd
  have hn4 := hd.hi
  have c7 := hd.c7
  have HD := Lib.hid hd
  clear hd
  cases ha : fitB at_ R.n
  · rw [ha] at hc
    have e1 : R.ocode at_ = 1 := by simp [Ref.ocode, ha]
    have f : RMadePost w F b R (SL.of at_ (R.op at_)) (R.ocode at_) (.returned (.tuple #[.pointer none, .int .i64 1])) w ∧ Only [] w w :=
      ⟨⟨HD.out, Only.refl _ _, (fun h => by rw [e1] at h; cases h), (fun _ => by rw [e1])⟩, Only.refl _ _⟩
    have F' := Lib.hid f
    clear e1 f ha c7
    go_enter Try.func28, Try.ntmps28
    go_wp2_with fail
    refine hc.mono ?_
    rintro e w' ⟨rfl, rfl⟩
    go_wp2_with fail
    go_ret2
    exact F'.out
  rw [ha] at hc
  have hat := fitB_iff.1 ha
  cases hdn : R.down
  rotate_left
  · have e1 : R.ocode at_ = 3 := by simp [Ref.ocode, ha, hdn]
    have f : RMadePost w F b R (SL.of at_ (R.op at_)) (R.ocode at_) (.returned (.tuple #[.pointer none, .int .i64 3])) w ∧ Only [] w w :=
      ⟨⟨HD.out, Only.refl _ _, (fun h => by rw [e1] at h; cases h), (fun _ => by rw [e1])⟩, Only.refl _ _⟩
    have F' := Lib.hid f
    rw [hdn] at c7
    clear e1 f ha hdn
    go_enter Try.func28, Try.ntmps28
    go_wp2_with fail
    refine hc.mono ?_
    rintro e w' ⟨rfl, rfl⟩
    go_wp2_with fail
    go_ret2
    exact F'.out
  have e1 : R.ocode at_ = if (R.op at_).1 = 0 then 20 else 0 := by simp [Ref.ocode, ha, hdn]
  obtain ⟨k, rfl⟩ : ∃ k : Nat, at_ = (k : Int) := ⟨at_.toNat, by omega⟩
  have e2 : R.op (k : Int) = pick (pick (0, []) (says (R.now k) 0)) (says (R.now (k + 1)) 1) := by
    unfold Ref.op
    rw [show ((k : Int)).toNat = k by omega, show ((k : Int) + 1).toNat = k + 1 by omega]
  rw [pick_two] at e2
  have E1 := Lib.hid e1
  have E2 := Lib.hid e2
  rw [hdn] at c7
  clear e1 e2 ha hdn
  obtain ⟨v1, d1, r1⟩ := HD.out.row (i := k) (by omega)
  obtain ⟨v2, d2, r2⟩ := HD.out.row (i := k + 1) (by omega)
  have c0 := HD.out.c0
  have k0 : (0 : Int) ≤ (k : Int) := by omega
  have k1 : (k : Int) < (R.n : Int) := by omega
  have ek : ((k + 1 : Nat) : Int) = (k : Int) + 1 := by omega
  have k2 : (0 : Int) ≤ (k : Int) + 1 := by omega
  have k3 : (k : Int) + 1 < (R.n : Int) := by omega
  have hwr : IntKind.i64.wrap ((k : Int) + 1) = (k : Int) + 1 := by rw [IntKind.wrap_i64]; omega
  have hl1 := r1.len
  have hl2 := r2.len
  have R1 := Lib.hid r1
  have R2 := Lib.hid r2
  clear ek hl1 hl2 r1 r2
  go_enter Try.func28, Try.ntmps28
  go_wp2_with fail
  refine hc.mono ?_
  rintro e w' ⟨rfl, rfl⟩
  clear hc
  go_wp2_with fail
  refine (read_ref _ (R.now k) 0 w R1.out.bytes R1.out.fit (by have := R1.out.len; omega) (.inl rfl)).mono ?_
  intro e w3 hp
  obtain ⟨v3, rfl, h3, n3, o3⟩ := hp.one
  have x1 := @says_num (R.now k) 0
  clear hp
  generalize says (R.now k) 0 = X at E2 h3 x1 ⊢
  generalize numOf X = nx at E2 x1 ⊢
  generalize rowOf X = rx at E2 x1 h3
  have H3 := Lib.hid h3
  have N3 := Lib.hid n3
  have O3 := Lib.hid o3
  have X1 := Lib.hid x1
  have q0 : w3.cell? ⟨b.p, 0, none⟩ = some (.slice (some ⟨b.gN, 0, none⟩) R.n b.cN) := (HD.out.quiet o3).c0
  have q2 : w3.cell? ⟨b.gN, k + 1, none⟩ = some v2 := cell_kept o3 d2 (by simp)
  have R23 := Lib.hid (R2.out.kept o3 (foreign_nil _ _))
  obtain ⟨xa3, xc3, rfl, -⟩ := id h3.bytes
  clear h3 n3 o3 x1 c0 d1 d2 c7 R1 R2
  go_wp2_with fail
  refine (read_ref _ (R.now (k + 1)) 1 w3 R23.out.bytes R23.out.fit (by have := R23.out.len; omega) (.inr rfl)).mono ?_
  intro e w4 hp
  obtain ⟨v4, rfl, h4, n4, o4⟩ := hp.one
  have x2 := @says_num (R.now (k + 1)) 1
  clear hp
  generalize says (R.now (k + 1)) 1 = Y at E2 h4 x2 ⊢
  generalize numOf Y = ny at E2 x2 ⊢
  generalize rowOf Y = ry at E2 x2 h4
  have H34 := Lib.hid (H3.out.kept o4 (by simp))
  have H4 := Lib.hid h4
  have N4 := Lib.hid (fun g (hg : v4.ownBlock = some g) => Nat.le_trans O3.out.size (n4 g hg))
  have O4 := Lib.hid (O3.out.trans o4 (by simp))
  have D4 := Lib.hid (HD.out.quiet O4.out)
  have X2 := Lib.hid x2
  have z4 : w.heap.size ≤ w4.heap.size := O4.out.size
  obtain ⟨xa4, xc4, rfl, -⟩ := id h4.bytes
  clear h4 n4 o4 q0 q2 R23 H3 O3 x2 HD
  by_cases hz : nx = 0 ∧ ny = 0
  · have e2 := E2.out
    rw [if_neg (by omega), if_neg (by omega)] at e2
    have e1 := E1.out
    rw [e2] at e1
    have f : RMadePost w F b R (SL.of (k : Int) (R.op (k : Int))) (R.ocode (k : Int)) (.returned (.tuple #[.pointer none, .int .i64 20])) w4 ∧ Only [] w w4 :=
      ⟨⟨D4.out, O4.out.mono (by simp), (fun h => by rw [e1] at h; cases h), (fun _ => by rw [e1]; rfl)⟩, O4.out⟩
    have F' := Lib.hid f
    obtain ⟨rfl, rfl⟩ := hz
    clear f e1 e2
    go_wp2_with fail
    go_ret2
    exact F'.out
  have hne : nx ≠ ny := by
    intro e
    have a1 := X1.out
    have a2 := X2.out
    by_cases h0 : nx = 0
    · omega
    · have b1 := a1.2.2.2 h0
      have b2 := a2.2.2.2 (by omega)
      omega
  by_cases hlt : ny < nx
  · have e2 := E2.out
    rw [if_pos hlt] at e2
    have a1 := X1.out
    have a2 := X2.out
    have hnz : ¬ nx = 0 := by omega
    have e1 := E1.out
    rw [e2, if_neg hnz] at e1
    have q5 : Only [] w4 (w4.alloc (.cells #[.pointer (some ⟨b.p, 0, none⟩), .int .i64 (k : Int), .int .i64 nx, .slice xa3 rx.length xc3, .bool false] 86)) := (Only.refl [] w4).alloc _
    have f : RMadePost w F b R (SL.of (k : Int) (R.op (k : Int))) (R.ocode (k : Int)) (.returned (.tuple #[.pointer (some ⟨w4.heap.size, 0, none⟩), .int .i64 0])) (w4.alloc (.cells #[.pointer (some ⟨b.p, 0, none⟩), .int .i64 (k : Int), .int .i64 nx, .slice xa3 rx.length xc3, .bool false] 86)) ∧ Only [] w (w4.alloc (.cells #[.pointer (some ⟨b.p, 0, none⟩), .int .i64 (k : Int), .int .i64 nx, .slice xa3 rx.length xc3, .bool false] 86)) :=
      ⟨⟨D4.out.quiet q5, (O4.out.trans q5 (by simp)).mono (by simp), (fun _ => ⟨w4.heap.size, _, rfl, by rw [e2]; exact ⟨heap_new w4 _, H34.out.kept q5 (by simp), by simp only [SL.of]; omega, by simp only [SL.of]; omega, by simp only [SL.of]; omega⟩, z4, N3.out⟩), (fun h => absurd e1 h)⟩, O4.out.trans q5 (by simp)⟩
    have F' := Lib.hid f
    have hb : (nx == 0) = false := beq_eq_false_iff_ne.2 hnz
    clear f e1 e2 a1 a2 hz q5 hne hnz
    go_wp2_with fail
    go_ret2
    exact F'.out
  · have hgt : nx < ny := by omega
    have e2 := E2.out
    rw [if_neg hlt, if_pos hgt] at e2
    have a1 := X1.out
    have a2 := X2.out
    have hnz : ¬ ny = 0 := by omega
    have e1 := E1.out
    rw [e2, if_neg hnz] at e1
    have q5 : Only [] w4 (w4.alloc (.cells #[.pointer (some ⟨b.p, 0, none⟩), .int .i64 (k : Int), .int .i64 ny, .slice xa4 ry.length xc4, .bool false] 86)) := (Only.refl [] w4).alloc _
    have f : RMadePost w F b R (SL.of (k : Int) (R.op (k : Int))) (R.ocode (k : Int)) (.returned (.tuple #[.pointer (some ⟨w4.heap.size, 0, none⟩), .int .i64 0])) (w4.alloc (.cells #[.pointer (some ⟨b.p, 0, none⟩), .int .i64 (k : Int), .int .i64 ny, .slice xa4 ry.length xc4, .bool false] 86)) ∧ Only [] w (w4.alloc (.cells #[.pointer (some ⟨b.p, 0, none⟩), .int .i64 (k : Int), .int .i64 ny, .slice xa4 ry.length xc4, .bool false] 86)) :=
      ⟨⟨D4.out.quiet q5, (O4.out.trans q5 (by simp)).mono (by simp), (fun _ => ⟨w4.heap.size, _, rfl, by rw [e2]; exact ⟨heap_new w4 _, H4.out.kept q5 (by simp), by simp only [SL.of]; omega, by simp only [SL.of]; omega, by simp only [SL.of]; omega⟩, z4, N4.out⟩), (fun h => absurd e1 h)⟩, O4.out.trans q5 (by simp)⟩
    have F' := Lib.hid f
    have hb : (ny == 0) = false := beq_eq_false_iff_ne.2 hnz
    have hxb : (nx == 0) = true ∨ (nx == 0) = false := by cases (nx == 0) <;> simp
    clear f e1 e2 a1 a2 hz q5 hne hnz
    rcases hxb with hxb | hxb
    ·
      go_wp2_with fail
      go_ret2
      exact F'.out
    ·
      go_wp2_with fail
      go_ret2
      exact F'.out
end Go.Proofs.Ytdmkmjlkogkmgaa
/- Slots of the program and of the document side by side. -/
namespace Go.Proofs.Ytdmkmjlkogkmgaa
open Go.RowKit Go.Maps
set_option linter.unusedSimpArgs false
set_option linter.unusedVariables false

theorem Dev.off_types {w : World} {a : DA} {d : Disk} (h : Dev w a d) {g : Nat} {c : Array Value} {t : TypeId} {fr : Nat × Nat} (hg : w.heap[g]? = some (.cells c t fr)) (ht : t ≠ 70) : g ∉ a.bl := by
  have h1 := h.blk
  have h2 := h.now.ne hg
  have h3 := h.old.ne hg
  simp only [DA.bl, List.mem_cons, List.not_mem_nil, or_false]
  rintro (e | e | e)
  · rw [e, show w.heap[a.p]? = _ from h1] at hg
    cases hg
    exact ht rfl
  · exact h2 e.symm
  · exact h3 e.symm
abbrev ptr (p : Nat) : Value := .pointer (some ⟨p, 0, none⟩)

/-- Slots by both, on both devices. -/
structure Two (w0 w : World) (F : List Nat) (a : DA) (b : RA) (D : Disk) (p p' : Nat) (v v' : Value) (s s' : SL) : Prop where
  sl : Slot w p a v s
  rs : RSlot w p' b v' s'
  np : w0.heap.size ≤ p
  nq : w0.heap.size ≤ p'
  fit : fitB s.at_ D.size = true
  eq : s'.at_ = s.at_
  off : ∀ k ∈ F, v.ownBlock ≠ some k ∧ v'.ownBlock ≠ some k
def SS (w0 w : World) (F : List Nat) (a : DA) (b : RA) (D : Disk) (sv tv : Value) : Prop :=
  (sv = .pointer none ∧ tv = .pointer none) ∨ ∃ s p p' v v', sv = ptr p ∧ tv = ptr p' ∧ Two w0 w F a b D p p' v v' s s
/-- What a pair has: both devices, slots by both or by none; and an argument's cells. -/
structure Base (w0 w : World) (F : List Nat) (q g : Nat) (cs : Array Value) (a : DA) (b : RA) (D : Disk) (R : Ref) (sv tv : Value) : Prop where
  pr : Pair w0 w F a b D R
  blk : w.heap[q]? = some (.cells #[ptr a.p, ptr b.p, sv, tv] 36 (0, 0))
  arg : w.heap[g]? = some (.cells cs 40 (0, 0))
  newq : w0.heap.size ≤ q
structure PS (w0 w : World) (F : List Nat) (q g : Nat) (cs : Array Value) (a : DA) (b : RA) (D : Disk) (R : Ref) (sv tv : Value) : Prop where
  bs : Base w0 w F q g cs a b D R sv tv
  ss : SS w0 w F a b D sv tv

section
variable {w0 w w' : World} {F F' : List Nat} {q g : Nat} {cs : Array Value} {a : DA} {b : RA} {D D' : Disk} {R R' : Ref} {sv tv sv' tv' : Value} {p p' : Nat} {v v' v1 : Value} {s s' s1 : SL}
theorem Two.kept {S : List Nat} (h : Two w0 w F a b D p p' v v' s s') (ho : Only S w w') (h1 : p ∉ S) (h2 : p' ∉ S) (h3 : ∀ k ∈ S, v.ownBlock ≠ some k) (h4 : ∀ k ∈ S, v'.ownBlock ≠ some k) : Two w0 w' F a b D p p' v v' s s' :=
  ⟨h.sl.kept ho h1 h3, h.rs.kept ho h2 h4, h.np, h.nq, h.fit, h.eq, h.off⟩
theorem Two.quiet (h : Two w0 w F a b D p p' v v' s s') (ho : Only [] w w') : Two w0 w' F a b D p p' v v' s s' := h.kept ho (by simp) (by simp) (by simp) (by simp)
theorem Two.setA (h : Two w0 w F a b D p p' v v' s s') {a' : DA} {d : Disk} (hd : Dev w a' d) (ho : Only a'.bl w w') : Two w0 w' F a b D p p' v v' s s' := by
  refine h.kept ho (hd.off_types h.sl.blk (by decide)) (hd.off_types h.rs.blk (by decide)) (fun k hk e => ?_) (fun k hk e => ?_)
  · obtain ⟨c, hc⟩ := h.sl.row.blk k e
    exact hd.off_types hc (by decide) hk
  · obtain ⟨c, hc⟩ := h.rs.row.blk k e
    exact hd.off_types hc (by decide) hk
theorem Two.setB (h : Two w0 w F a b D p p' v v' s s') {G : List Nat} {b' : RA} {r : Ref} (hd : RDev w G b' r) (ho : Only b'.bl w w') : Two w0 w' F a b D p p' v v' s s' := by
  refine h.kept ho (hd.off_types h.sl.blk (by decide) (by decide) (by decide)) (hd.off_types h.rs.blk (by decide) (by decide) (by decide)) (fun k hk e => ?_) (fun k hk e => ?_)
  · obtain ⟨c, hc⟩ := h.sl.row.blk k e
    exact hd.off_types hc (by decide) (by decide) (by decide) hk
  · obtain ⟨c, hc⟩ := h.rs.row.blk k e
    exact hd.off_types hc (by decide) (by decide) (by decide) hk
/-- A block of another type has turned. -/
theorem Two.other (h : Two w0 w F a b D p p' v v' s s') {x : Nat} {c : Array Value} {t : TypeId} (hx : w.heap[x]? = some (.cells c t (0, 0))) (h1 : t ≠ 91) (h2 : t ≠ 86) (h3 : t ≠ 5) (ho : Only [x] w w') : Two w0 w' F a b D p p' v v' s s' := by
  refine h.kept ho (fun e => ?_) (fun e => ?_) (fun k hk e => ?_) (fun k hk e => ?_)
  · exact type_ne hx h.sl.blk h1 (List.mem_singleton.1 e).symm
  · exact type_ne hx h.rs.blk h2 (List.mem_singleton.1 e).symm
  · obtain ⟨c, hc⟩ := h.sl.row.blk k e
    exact type_ne hx hc h3 (List.mem_singleton.1 hk).symm
  · obtain ⟨c, hc⟩ := h.rs.row.blk k e
    exact type_ne hx hc h3 (List.mem_singleton.1 hk).symm
theorem Two.over (h : Two w0 w F a b D p p' v v' s s') {x : Nat} {c : Array Value} (hx : w.heap[x]? = some (.cells c 5 (0, 0))) (hF : x ∈ F) (ho : Only [x] w w') : Two w0 w' F a b D p p' v v' s s' := by
  refine h.kept ho (fun e => ?_) (fun e => ?_) (fun k hk e => ?_) (fun k hk e => ?_)
  · exact type_ne hx h.sl.blk (by decide) (List.mem_singleton.1 e).symm
  · exact type_ne hx h.rs.blk (by decide) (List.mem_singleton.1 e).symm
  · simp at hk
    subst hk
    exact (h.off k hF).1 e
  · simp at hk
    subst hk
    exact (h.off k hF).2 e
theorem Two.fresh (h : Two w0 w F a b D p p' v v' s s') (hs : ∀ k ∈ F', k ∈ F ∨ w.heap.size ≤ k) : Two w0 w F' a b D p p' v v' s s' :=
  ⟨h.sl, h.rs, h.np, h.nq, h.fit, h.eq, fun k hk => by
    rcases hs k hk with h1 | h1
    · exact h.off k h1
    · refine ⟨fun e => ?_, fun e => ?_⟩
      · obtain ⟨c, hc⟩ := h.sl.row.blk k e
        have := lt_of_heap hc
        omega
      · obtain ⟨c, hc⟩ := h.rs.row.blk k e
        have := lt_of_heap hc
        omega⟩
theorem Two.size (h : Two w0 w F a b D p p' v v' s s') (hz : D'.size = D.size) : Two w0 w F a b D' p p' v v' s s' := ⟨h.sl, h.rs, h.np, h.nq, by rw [hz]; exact h.fit, h.eq, h.off⟩

theorem Base.quiet (h : Base w0 w F q g cs a b D R sv tv) (ho : Only [] w w') : Base w0 w' F q g cs a b D R sv tv := ⟨h.pr.quiet ho, ho.heap h.blk (by simp), ho.heap h.arg (by simp), h.newq⟩
theorem Base.setA (h : Base w0 w F q g cs a b D R sv tv) (ho : Only a.bl w w') (hd : Dev w' a D') : Base w0 w' F q g cs a b D' R sv tv :=
  ⟨h.pr.setA ho hd, ho.heap h.blk (h.pr.st.dev.off_types h.blk (by decide)), ho.heap h.arg (h.pr.st.dev.off_types h.arg (by decide)), h.newq⟩
theorem Base.setB (h : Base w0 w F q g cs a b D R sv tv) (ho : Only b.bl w w') (hr : RDev w' F b R') : Base w0 w' F q g cs a b D R' sv tv :=
  ⟨h.pr.setB ho hr, ho.heap h.blk (h.pr.ref.off_types h.blk (by decide) (by decide) (by decide)), ho.heap h.arg (h.pr.ref.off_types h.arg (by decide) (by decide) (by decide)), h.newq⟩
theorem Base.over (h : Base w0 w F q g cs a b D R sv tv) {x : Nat} {c : Array Value} (hx : w.heap[x]? = some (.cells c 5 (0, 0))) (hF : x ∈ F) (hn : w0.heap.size ≤ x) (ho : Only [x] w w') : Base w0 w' F q g cs a b D R sv tv :=
  ⟨h.pr.over ho hn hF (h.pr.st.dev.off_types hx (by decide)) (h.pr.ref.off_types hx (by decide) (by decide) (by decide)), ho.heap h.blk (fun e => type_ne hx h.blk (by decide) (List.mem_singleton.1 e).symm), ho.heap h.arg (fun e => type_ne hx h.arg (by decide) (List.mem_singleton.1 e).symm), h.newq⟩
theorem Base.fresh (h : Base w0 w F q g cs a b D R sv tv) (hs : ∀ k ∈ F', k ∈ F ∨ w.heap.size ≤ k) : Base w0 w F' q g cs a b D R sv tv := ⟨h.pr.fresh hs, h.blk, h.arg, h.newq⟩
theorem Base.cell0 (h : Base w0 w F q g cs a b D R sv tv) : w.cell? ⟨q, 0, none⟩ = some (ptr a.p) := (cell_at 0 h.blk).trans rfl
theorem Base.cell1 (h : Base w0 w F q g cs a b D R sv tv) : w.cell? ⟨q, 1, none⟩ = some (ptr b.p) := (cell_at 1 h.blk).trans rfl
theorem Base.cell2 (h : Base w0 w F q g cs a b D R sv tv) : w.cell? ⟨q, 2, none⟩ = some sv := (cell_at 2 h.blk).trans rfl
theorem Base.cell3 (h : Base w0 w F q g cs a b D R sv tv) : w.cell? ⟨q, 3, none⟩ = some tv := (cell_at 3 h.blk).trans rfl

theorem SS.imp (h : SS w0 w F a b D sv tv) (hf : ∀ s p p' v v', Two w0 w F a b D p p' v v' s s → Two w0 w' F' a b D' p p' v v' s s) : SS w0 w' F' a b D' sv tv := by
  rcases h with h | ⟨s, p, p', v, v', e1, e2, h⟩
  · exact .inl h
  · exact .inr ⟨s, p, p', v, v', e1, e2, hf _ _ _ _ _ h⟩
theorem PS.quiet (h : PS w0 w F q g cs a b D R sv tv) (ho : Only [] w w') : PS w0 w' F q g cs a b D R sv tv := ⟨h.bs.quiet ho, h.ss.imp fun _ _ _ _ _ t => t.quiet ho⟩
theorem PS.setA (h : PS w0 w F q g cs a b D R sv tv) (ho : Only a.bl w w') (hd : Dev w' a D') (hz : D'.size = D.size) : PS w0 w' F q g cs a b D' R sv tv :=
  ⟨h.bs.setA ho hd, h.ss.imp fun _ _ _ _ _ t => (t.setA h.bs.pr.st.dev ho).size hz⟩
theorem PS.setB (h : PS w0 w F q g cs a b D R sv tv) (ho : Only b.bl w w') (hr : RDev w' F b R') : PS w0 w' F q g cs a b D R' sv tv :=
  ⟨h.bs.setB ho hr, h.ss.imp fun _ _ _ _ _ t => t.setB h.bs.pr.ref ho⟩
theorem PS.over (h : PS w0 w F q g cs a b D R sv tv) {x : Nat} {c : Array Value} (hx : w.heap[x]? = some (.cells c 5 (0, 0))) (hF : x ∈ F) (hn : w0.heap.size ≤ x) (ho : Only [x] w w') : PS w0 w' F q g cs a b D R sv tv :=
  ⟨h.bs.over hx hF hn ho, h.ss.imp fun _ _ _ _ _ t => t.over hx hF ho⟩
theorem PS.fresh (h : PS w0 w F q g cs a b D R sv tv) (hs : ∀ k ∈ F', k ∈ F ∨ w.heap.size ≤ k) : PS w0 w F' q g cs a b D R sv tv := ⟨h.bs.fresh hs, h.ss.imp fun _ _ _ _ _ t => t.fresh hs⟩
theorem PS.drop (h : PS w0 w F q g cs a b D R sv tv) : PS w0 w [] q g cs a b D R sv tv := h.fresh (by simp)
theorem PS.only (h : PS w0 w F q g cs a b D R sv tv) : Only [] w0 w := h.bs.pr.st.only
/-- A byte row of one's own is neither's. -/
theorem PS.reps (h : PS w0 w F q g cs a b D R sv tv) {g' : Nat} {cs' : Array Value} (ha : w.heap[g']? = some (.cells cs' 40 (0, 0))) : PS w0 w F q g' cs' a b D R sv tv := ⟨⟨h.bs.pr, h.bs.blk, ha, h.bs.newq⟩, h.ss⟩
/-- The pair has other slots. -/
theorem PS.set (h : Base w0 w F q g cs a b D R sv tv) (hs : SS w0 w F a b D sv' tv') : PS w0 ((w.setCell ⟨q, 2, none⟩ sv').setCell ⟨q, 3, none⟩ tv') F q g cs a b D R sv' tv' := by
  have ho : Only [q] w ((w.setCell ⟨q, 2, none⟩ sv').setCell ⟨q, 3, none⟩ tv') := ((Only.refl _ _).setCell (by simp) _).setCell (by simp) _
  have hb := heap_cell (i := 3) tv' (heap_cell (i := 2) sv' h.blk)
  have hdev := h.pr.st.dev
  have href := h.pr.ref
  have hfor : Foreign w F [q] := fun k hk => .inr fun cur e => by
    simp at hk
    subst hk
    exact type_ne e h.blk (by decide) rfl
  refine ⟨⟨⟨⟨hdev.kept ho (fun k hk => by simp at hk; subst hk; exact hdev.off_types h.blk (by decide)), h.pr.st.only.trans ho (fun k hk => .inr (by simp at hk; subst hk; exact h.newq)), h.pr.st.new⟩, href.kept ho hfor (fun k hk e => by simp at e; subst e; exact href.off_types h.blk (by decide) (by decide) (by decide) hk), h.pr.newb⟩, hb, ho.heap h.arg (fun e => type_ne h.blk h.arg (by decide) (List.mem_singleton.1 e).symm), h.newq⟩, hs.imp fun _ _ _ _ _ t => t.other h.blk (by decide) (by decide) (by decide) ho⟩

/-! ### Save by both, one after the other -/
structure PT (w0 w : World) (F : List Nat) (q g : Nat) (cs : Array Value) (a : DA) (b : RA) (D : Disk) (R : Ref) (p p' : Nat) (v v' : Value) (s s' : SL) : Prop where
  bs : Base w0 w F q g cs a b D R (ptr p) (ptr p')
  two : Two w0 w F a b D p p' v v' s s'
theorem PT.quiet (h : PT w0 w F q g cs a b D R p p' v v' s s') (ho : Only [] w w') : PT w0 w' F q g cs a b D R p p' v v' s s' := ⟨h.bs.quiet ho, h.two.quiet ho⟩
theorem PT.fresh (h : PT w0 w F q g cs a b D R p p' v v' s s') (hs : ∀ k ∈ F', k ∈ F ∨ w.heap.size ≤ k) : PT w0 w F' q g cs a b D R p p' v v' s s' := ⟨h.bs.fresh hs, h.two.fresh hs⟩
theorem PT.over (h : PT w0 w F q g cs a b D R p p' v v' s s') {x : Nat} {c : Array Value} (hx : w.heap[x]? = some (.cells c 5 (0, 0))) (hF : x ∈ F) (hn : w0.heap.size ≤ x) (ho : Only [x] w w') : PT w0 w' F q g cs a b D R p p' v v' s s' :=
  ⟨h.bs.over hx hF hn ho, h.two.over hx hF ho⟩
theorem PT.done (h : PT w0 w F q g cs a b D R p p' v v' s s) : PS w0 w F q g cs a b D R (ptr p) (ptr p') := ⟨h.bs, .inr ⟨s, p, p', v, v', rfl, rfl, h.two⟩⟩
theorem sdisk_size (s : SL) (D : Disk) (r : Sec) : (s.sdisk D r).size = D.size := by
  unfold SL.sdisk
  split
  · rfl
  · split
    · rfl
    · exact ly_size _ _ _
theorem save_at (s : SL) (D : Disk) (r : Sec) : (s.save D r).at_ = s.at_ := by
  unfold SL.save
  split
  · rfl
  · split
    · rfl
    · split <;> rfl
theorem rsave_at (s : SL) (R : Ref) (r : Sec) : (s.rsave R r).at_ = s.at_ := by
  unfold SL.rsave
  split
  · rfl
  · split
    · rfl
    · split <;> rfl
theorem PT.saveA (h : PT w0 w F q g cs a b D R p p' v v' s s') {r : Sec} (hF : ∀ k ∈ F, k < w.heap.size) (ho : Only (SA p a) w w') (hd : Dev w' a (s.sdisk D r)) (hs : Slot w' p a v1 (s.save D r)) (hv : v1 = v ∨ ∀ k, v1.ownBlock = some k → w.heap.size ≤ k) :
    PT w0 w' F q g cs a b (s.sdisk D r) R p p' v1 v' (s.save D r) s' := by
  have hdev := h.bs.pr.st.dev
  have href := h.bs.pr.ref
  have offT : ∀ (x : Nat) (c : Array Value) (t : TypeId), w.heap[x]? = some (.cells c t (0, 0)) → t ≠ 70 → t ≠ 91 → x ∉ SA p a := fun x c t hx h1 h2 hm => by
    simp only [SA, List.mem_cons] at hm
    rcases hm with rfl | hm
    · exact type_ne hx h.two.sl.blk h2 rfl
    · exact hdev.off_types hx h1 hm
  have hfor : Foreign w F (SA p a) := fun k hk => .inr fun cur e => offT k cur _ e (by decide) (by decide) hk
  have hrb : ∀ k ∈ b.bl, k ∉ SA p a := fun k hk hm => by
    simp only [SA, List.mem_cons] at hm
    rcases hm with rfl | hm
    · exact href.off_types h.two.sl.blk (by decide) (by decide) (by decide) hk
    · exact dev_ref hdev href k hk hm
  refine ⟨⟨⟨⟨hd, h.bs.pr.st.only.trans ho (fun k hk => .inr ?_), h.bs.pr.st.new⟩, href.kept ho hfor hrb, h.bs.pr.newb⟩, ho.heap h.bs.blk (offT _ _ _ h.bs.blk (by decide) (by decide)), ho.heap h.bs.arg (offT _ _ _ h.bs.arg (by decide) (by decide)), h.bs.newq⟩,
    ⟨hs, h.two.rs.kept ho (offT _ _ _ h.two.rs.blk (by decide) (by decide)) (fun k hk e => ?_), h.two.np, h.two.nq, by rw [save_at, sdisk_size]; exact h.two.fit, by rw [save_at]; exact h.two.eq, fun k hk => ⟨fun e => ?_, (h.two.off k hk).2⟩⟩⟩
  · simp only [SA, List.mem_cons] at hk
    rcases hk with rfl | hk
    · exact h.two.np
    · exact h.bs.pr.st.new k hk
  · obtain ⟨c, hc⟩ := h.two.rs.row.blk k e
    exact offT _ _ _ hc (by decide) (by decide) hk
  · rcases hv with rfl | hv
    · exact (h.two.off k hk).1 e
    · have := hv k e
      have := hF k hk
      omega
theorem PT.saveB (h : PT w0 w F q g cs a b D R p p' v v' s s') {r : Sec} (hF : ∀ k ∈ F, k < w.heap.size) (ho : Only (RSA p' b) w w') (hd : RDev w' F b (s'.rdisk R r)) (hs : RSlot w' p' b v1 (s'.rsave R r)) (hv : v1 = v' ∨ ∀ k, v1.ownBlock = some k → w.heap.size ≤ k) :
    PT w0 w' F q g cs a b D (s'.rdisk R r) p p' v v1 s (s'.rsave R r) := by
  have hdev := h.bs.pr.st.dev
  have href := h.bs.pr.ref
  have offT : ∀ (x : Nat) (c : Array Value) (t : TypeId), w.heap[x]? = some (.cells c t (0, 0)) → t ≠ 73 → t ≠ 37 → t ≠ 4 → t ≠ 86 → x ∉ RSA p' b := fun x c t hx h1 h2 h3 h4 hm => by
    simp only [RSA, List.mem_cons] at hm
    rcases hm with rfl | hm
    · exact type_ne hx h.two.rs.blk h4 rfl
    · exact href.off_types hx h1 h2 h3 hm
  have hda : ∀ k ∈ RSA p' b, k ∉ a.bl := fun k hk hm => by
    simp only [RSA, List.mem_cons] at hk
    rcases hk with rfl | hk
    · exact hdev.off_types h.two.rs.blk (by decide) hm
    · exact dev_ref hdev href k hk hm
  refine ⟨⟨⟨⟨hdev.kept ho hda, h.bs.pr.st.only.trans ho (fun k hk => .inr ?_), h.bs.pr.st.new⟩, hd, h.bs.pr.newb⟩, ho.heap h.bs.blk (offT _ _ _ h.bs.blk (by decide) (by decide) (by decide) (by decide)), ho.heap h.bs.arg (offT _ _ _ h.bs.arg (by decide) (by decide) (by decide) (by decide)), h.bs.newq⟩,
    ⟨h.two.sl.kept ho (offT _ _ _ h.two.sl.blk (by decide) (by decide) (by decide) (by decide)) (fun k hk e => ?_), hs, h.two.np, h.two.nq, h.two.fit, by rw [rsave_at]; exact h.two.eq, fun k hk => ⟨(h.two.off k hk).1, fun e => ?_⟩⟩⟩
  · simp only [RSA, List.mem_cons] at hk
    rcases hk with rfl | hk
    · exact h.two.nq
    · exact h.bs.pr.newb k hk
  · obtain ⟨c, hc⟩ := h.two.sl.row.blk k e
    exact offT _ _ _ hc (by decide) (by decide) (by decide) (by decide) hk
  · rcases hv with rfl | hv
    · exact (h.two.off k hk).2 e
    · have := hv k e
      have := hF k hk
      omega
end
end Go.Proofs.Ytdmkmjlkogkmgaa

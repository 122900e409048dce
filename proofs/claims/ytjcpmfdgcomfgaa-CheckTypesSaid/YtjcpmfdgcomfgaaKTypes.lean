/- CheckTypes, for every input: it returns true, and its arguments read behind the call as they did: which operators take which types. No condition. -/
import Derived.Test.YtjcpmfdgcomfgaaKa
import Derived.Test.YtjcpmfdgcomfgaaC10
import Derived.Test.YtjcpmfdgcomfgaaC16
import Derived.Test.YtjcpmfdgcomfgaaL
import Derived.ChangeMaps5
namespace Go.Proofs.Ytjcpmfdgcomfgaa
open Go.ChangeShapes Go.WideShapes Go.ChangeAt Go.RowKit Go.Maps
set_option linter.unusedVariables false
set_option linter.unusedSimpArgs false

theorem quiet_more8 {P : Program} {f : FuncId} {args : Array Value} {w : World} {n : Nat} {v : Value} (h : Calls P f args (w.drewN n) fun e w' => e = .returned v ∧ ∃ m, w' = (w.drewN n).drewN m) : Calls P f args (w.drewN n) fun e w'' => e = .returned v ∧ ∃ m, w'' = w.drewN m :=
  h.mono fun _ _ ⟨he, m, hm⟩ => ⟨he, n + m, by rw [hm, World.drewN_drewN]⟩
theorem mod_nat8 (m : Nat) (h0 : 1 ≤ m) (h1 : m ≤ 4096) (x : Int) : ∃ n : Nat, n < m ∧ IntKind.i64.wrap ((IntKind.u64.wrap x).tmod m) = (n : Int) := by
  have h : 0 ≤ IntKind.u64.wrap x := by rw [IntKind.wrap_u64]; omega
  rw [Int.tmod_eq_emod_of_nonneg h]
  have a := Int.emod_nonneg (IntKind.u64.wrap x) (show (m : Int) ≠ 0 by omega)
  have b := Int.emod_lt_of_pos (IntKind.u64.wrap x) (show (0 : Int) < m by omega)
  generalize (IntKind.u64.wrap x) % (m : Int) = y at a b
  refine ⟨y.toNat, by omega, ?_⟩
  rw [IntKind.wrap_i64]
  omega
def op13 (k : Nat) : Sec := (([[43], [45], [42], [47], [37], [60], [60, 61], [62], [62, 61], [61, 61], [33, 61], [38, 38], [124, 124]] : List Sec)[k]?).getD []
def word2 (b : Bool) : Sec := if b then [116, 114, 117, 101] else [49]
def tyA : Sec := [111, 112, 32, 111, 40, 41, 32, 123, 32, 108, 101, 116, 32, 97, 32, 61, 32]
def tyB : Sec := [59, 32, 103, 105, 118, 101, 32, 97, 59, 32, 125]
def tyC : Sec := [59, 32, 110, 101, 101, 100, 50, 32, 125]
def txT (k : Nat) (l r : Bool) : Sec := (((tyA ++ word2 l) ++ op13 k) ++ word2 r) ++ tyB
def txU (k : Nat) (l r : Bool) : Sec := (((tyA ++ word2 l) ++ op13 k) ++ word2 r) ++ tyC
def goodT (k : Nat) (l r : Bool) : Bool := if 11 ≤ k then l && r else if 9 ≤ k then l == r else !l && !r
def okTypes (k : Nat) (l r : Bool) : Bool :=
  let x := chkS (txT k l r)
  let y := chkS (txU k l r)
  x.2 && (!y.2 && (if (goodT k l r && decide (k < 5)) = true then x.1.2.1 == 0 && x.1.1.mode == 1 else x.1.2.1 == 10))
theorem types_all : (List.range 13).all (fun k => (okTypes k true true && okTypes k true false) && (okTypes k false true && okTypes k false false)) = true := by kernel_rfl
theorem types_ok {k : Nat} (hk : k < 13) (l r : Bool) : okTypes k l r = true := by
  have := List.all_eq_true.1 types_all k (List.mem_range.2 hk)
  simp only [Bool.and_eq_true] at this
  cases l <;> cases r
  · exact this.2.2
  · exact this.2.1
  · exact this.1.2
  · exact this.1.1
theorem word_draws (b : Bool) (w : World) : Calls Try.prog 20 #[.bool b] w fun e w' => e = .returned (.string (strOf (word2 b))) ∧ ∃ n, w' = w.drewN n := by
  cases b
  · go_enter Try.func20, Try.ntmps20
    go_wp2
    go_ret
    exact ⟨rfl, 0, rfl⟩
  · go_enter Try.func20, Try.ntmps20
    go_wp2
    go_ret
    exact ⟨rfl, 0, rfl⟩
def opsC : Array Value := #[.string ⟨#[43]⟩, .string ⟨#[45]⟩, .string ⟨#[42]⟩, .string ⟨#[47]⟩, .string ⟨#[37]⟩, .string ⟨#[60]⟩, .string ⟨#[60, 61]⟩, .string ⟨#[62]⟩, .string ⟨#[62, 61]⟩, .string ⟨#[61, 61]⟩, .string ⟨#[33, 61]⟩, .string ⟨#[38, 38]⟩, .string ⟨#[124, 124]⟩]
theorem ops_at {k : Nat} (hk : k < 13) : opsC[k]? = some (.string (strOf (op13 k))) := by
  obtain rfl | rfl | rfl | rfl | rfl | rfl | rfl | rfl | rfl | rfl | rfl | rfl | rfl : k = 0 ∨ k = 1 ∨ k = 2 ∨ k = 3 ∨ k = 4 ∨ k = 5 ∨ k = 6 ∨ k = 7 ∨ k = 8 ∨ k = 9 ∨ k = 10 ∨ k = 11 ∨ k = 12 := by omega
  all_goals rfl
theorem op13_len {k : Nat} (hk : k < 13) : (op13 k).length ≤ 2 := by
  obtain rfl | rfl | rfl | rfl | rfl | rfl | rfl | rfl | rfl | rfl | rfl | rfl | rfl : k = 0 ∨ k = 1 ∨ k = 2 ∨ k = 3 ∨ k = 4 ∨ k = 5 ∨ k = 6 ∨ k = 7 ∨ k = 8 ∨ k = 9 ∨ k = 10 ∨ k = 11 ∨ k = 12 := by omega
  all_goals decide
theorem word2_len (b : Bool) : (word2 b).length ≤ 4 := by cases b <;> decide
set_option maxRecDepth 100000 in
set_option maxHeartbeats 16000000 in
theorem ktypes_walk (a : Int) (l r : Bool) (w : World) (ha : (Lit.int .i64 a).wf = true) :
    Calls Try.prog 7 #[.int .i64 a, .bool l, .bool r] w fun e w' => e = .returned (.bool true) ∧ Only [] w w' := by
  obtain ⟨k, hk, ea⟩ := mod_nat8 13 (by decide) (by decide) a
  have ea : IntKind.i64.wrap ((IntKind.u64.wrap a).tmod 13) = (k : Int) := ea
  clear ha
  go_enter Try.func7, Try.ntmps7
  go_wp2_with fail
  refine (alive8_any w).mono ?_
  rintro e w1 ⟨rfl, o1⟩
  have HO := Lib.hid o1
  clear o1
  go_upto_region 4 with (fail)
  have hA := heap_new w1 (.cells opsC 48)
  have oA := (Only.refl [] w1).alloc (.cells opsC 48)
  rw [← opsC.eq_1]
  generalize w1.alloc (.cells opsC 48) = w2 at hA oA ⊢
  have hx : w2.cell? ⟨w1.heap.size, k, none⟩ = some (.string (strOf (op13 k))) := (cell_at _ hA).trans (ops_at hk)
  replace HO := Lib.hid (HO.out.trans oA (by simp))
  have ll := word2_len l
  have lr := word2_len r
  have lo := op13_len hk
  have q1 := fun w => add_str (a := tyA) (b := word2 l) (c := tyA ++ word2 l) rfl (by rw [List.length_append, show tyA.length = 17 from rfl]; omega) (A := ⟨#[111, 112, 32, 111, 40, 41, 32, 123, 32, 108, 101, 116, 32, 97, 32, 61, 32]⟩) rfl rfl rfl w
  have q2 := fun w => add_str (a := tyA ++ word2 l) (b := op13 k) (c := tyA ++ word2 l ++ op13 k) rfl (by simp only [List.length_append]; rw [show tyA.length = 17 from rfl]; omega) rfl rfl rfl w
  have q3 := fun w => add_str (a := tyA ++ word2 l ++ op13 k) (b := word2 r) (c := tyA ++ word2 l ++ op13 k ++ word2 r) rfl (by simp only [List.length_append]; rw [show tyA.length = 17 from rfl]; omega) rfl rfl rfl w
  have q4 := fun w => add_str (a := tyA ++ word2 l ++ op13 k ++ word2 r) (b := tyB) (c := txT k l r) rfl (by unfold txT; simp only [List.length_append]; rw [show tyA.length = 17 from rfl, show tyB.length = 11 from rfl]; omega) rfl (B := ⟨#[59, 32, 103, 105, 118, 101, 32, 97, 59, 32, 125]⟩) rfl rfl w
  have q5 := fun w => add_str (a := tyA ++ word2 l ++ op13 k ++ word2 r) (b := tyC) (c := txU k l r) rfl (by unfold txU; simp only [List.length_append]; rw [show tyA.length = 17 from rfl, show tyC.length = 9 from rfl]; omega) rfl (B := ⟨#[59, 32, 110, 101, 101, 100, 50, 32, 125]⟩) rfl rfl w
  have hT : (strOf (txT k l r)).data.toList = txT k l r := by simp [strOf]
  have hTs : (strOf (txT k l r)).size ≤ 9223372036854775807 := by
    rw [strOf_len]
    unfold txT
    simp only [List.length_append]
    rw [show tyA.length = 17 from rfl, show tyB.length = 11 from rfl]
    omega
  have hU : (strOf (txU k l r)).data.toList = txU k l r := by simp [strOf]
  have hUs : (strOf (txU k l r)).size ≤ 9223372036854775807 := by
    rw [strOf_len]
    unfold txU
    simp only [List.length_append]
    rw [show tyA.length = 17 from rfl, show tyC.length = 9 from rfl]
    omega
  have hok := types_ok hk l r
  unfold okTypes at hok
  dsimp only at hok
  have HT := Lib.hid (And.intro hT hTs)
  have HU := Lib.hid (And.intro hU hUs)
  have HOK := Lib.hid hok
  obtain ⟨SW, hSW⟩ : ∃ f : Bool → ByteArray, ∀ b, f b = strOf (word2 b) := ⟨_, fun _ => rfl⟩
  rw [← hSW l] at q1
  rw [← hSW r] at q3
  have wl : ∀ b w, Calls Try.prog 20 #[.bool b] w fun e w' => e = .returned (.string (SW b)) ∧ ∃ n, w' = w.drewN n := fun b w => by rw [hSW]; exact word_draws b w
  have WL := Lib.hid wl
  clear wl
  generalize strOf (txT k l r) = T at q4 HT
  generalize strOf (txU k l r) = U at q5 HU
  generalize strOf (tyA ++ word2 l ++ op13 k ++ word2 r) = T3 at q3 q4 q5
  generalize strOf (tyA ++ word2 l ++ op13 k) = T2 at q2 q3
  generalize strOf (tyA ++ word2 l) = T1 at q1 q2
  generalize strOf (op13 k) = D at q2 hx
  have hk0 : 0 ≤ (k : Int) := by omega
  have hk1 : (k : Int) < 13 := by omega
  clear hA oA ll lr lo hok hT hTs hU hUs hSW
  have hgood : ∃ gd : Bool, gd = goodT k l r := ⟨_, rfl⟩
  obtain ⟨gd, hgd⟩ := hgood
  have HGD := Lib.hid hgd
  clear hgd
  go_upto_region 6 with (fail)
  cases l <;> cases r
  · by_cases h11 : 11 ≤ k
    · have h11' : (11 : Int) ≤ (k : Int) := by omega
      have hg : goodT k false false = (false && false) := by unfold goodT; rw [if_pos h11]
      have hg : goodT k false false = false := hg
      have hok := HOK.out
      rw [hg] at hok
      clear HOK hg HGD
      have HOK := Lib.hid hok
      clear hok
      go_upto_region 11 with (fail)
      go_quiet ((go_at_call 20; exact quiet_more8 (WL.out _ _)))
      have hx3 : (w2.drewN nq).cell? ⟨w1.heap.size, k, none⟩ = some (.string D) := cell_kept (only_drewN (Only.refl [] w2)) hx (by simp)
      replace HO := Lib.hid (only_drewN (n := nq) HO.out)
      generalize w2.drewN nq = w3 at hx3 HO ⊢
      clear hx
      go_upto_region 12 with (fail)
      go_quiet ((go_at_call 20; exact quiet_more8 (WL.out _ _)))
      replace HO := Lib.hid (only_drewN (n := nq) HO.out)
      generalize w3.drewN nq = w4 at HO ⊢
      clear hx3
      obtain ⟨R, hR⟩ : ∃ R, R = chkS (txT k false false) := ⟨_, rfl⟩
      obtain ⟨R2, hR2⟩ : ∃ R, R = chkS (txU k false false) := ⟨_, rfl⟩
      have hok := HOK.out
      rw [← hR, ← hR2] at hok
      have K1 := checked_any T w4 HT.out.2
      rw [HT.out.1, ← hR] at K1
      have HR2 := Lib.hid hR2
      have HOK2 := Lib.hid hok
      clear HOK hok hR hR2 q1 q2 q3 q4 q5
      go_wp2_with fail
      refine K1.mono ?_
      rintro e w5 ⟨rfl, o5⟩
      have hok := HOK2.out
      obtain ⟨⟨⟨m, st, nm, tu⟩, c, p⟩, ok⟩ := R
      obtain ⟨hk1, hok⟩ := Bool.and_eq_true_iff.1 hok
      obtain ⟨hn2, hok⟩ := Bool.and_eq_true_iff.1 hok
      obtain rfl : ok = true := hk1
      dsimp only at hok
      unfold infoV
      dsimp only
      replace HO := Lib.hid (HO.out.trans o5 (by simp))
      obtain ⟨st', hst⟩ : ∃ x : Int, x = st := ⟨_, rfl⟩
      obtain ⟨nm', hnm⟩ : ∃ x : Int, x = nm := ⟨_, rfl⟩
      rw [← hst, ← hnm]
      have HN2 := Lib.hid hn2
      have HOK := Lib.hid hok
      clear K1 o5 HOK2 hok hst hnm hn2
      go_upto_region 14 with (fail)
      have oB := (Only.refl [] w5).alloc (.cells #[.int .i64 m, .int .i64 st', .int .i64 nm', .bool tu] 31)
      have hB := heap_new w5 (.cells #[.int .i64 m, .int .i64 st', .int .i64 nm', .bool tu] 31)
      generalize w5.alloc (.cells #[.int .i64 m, .int .i64 st', .int .i64 nm', .bool tu] 31) = w6 at oB hB ⊢
      replace HO := Lib.hid (HO.out.trans oB (by simp))
      have K2 := checked_any U w6 HU.out.2
      rw [HU.out.1, ← HR2.out] at K2
      have HB := Lib.hid hB
      clear oB hB
      go_wp2_with fail
      refine K2.mono ?_
      rintro e w7 ⟨rfl, o7⟩
      obtain ⟨⟨⟨m2, st2, nm2, tu2⟩, c2, p2⟩, ok2⟩ := R2
      obtain rfl : ok2 = false := by simpa using HN2.out
      unfold infoV
      dsimp only
      replace HO := Lib.hid (HO.out.trans o7 (by simp))
      replace HB := Lib.hid (o7.heap HB.out (by simp))
      obtain ⟨st2', hst⟩ : ∃ x : Int, x = st2 := ⟨_, rfl⟩
      obtain ⟨nm2', hnm⟩ : ∃ x : Int, x = nm2 := ⟨_, rfl⟩
      rw [← hst, ← hnm]
      clear K2 o7 hst hnm HN2 HR2
      go_upto_region 15 with (fail)
      have oB := (Only.refl [] w7).alloc (.cells #[.int .i64 m2, .int .i64 st2', .int .i64 nm2', .bool tu2] 31)
      generalize w7.alloc (.cells #[.int .i64 m2, .int .i64 st2', .int .i64 nm2', .bool tu2] 31) = w8 at oB ⊢
      replace HO := Lib.hid (HO.out.trans oB (by simp))
      have hB := oB.heap HB.out (by simp)
      have b0 : w8.cell? ⟨w5.heap.size, 0, none⟩ = some (.int .i64 m) := cell_at 0 hB
      have hok := HOK.out
      clear oB hB HB HOK
      by_cases h5 : k < 5
      · have h5' : (k : Int) < 5 := by omega
        rw [decide_eq_true h5] at hok
        exfalso
        omega
      · have h5' : ¬ (k : Int) < 5 := by omega
        rw [decide_eq_false h5] at hok
        rw [if_neg (by decide), beq_iff_eq] at hok
        subst hok
        go_wp2_with fail
        go_ret
        exact ⟨rfl, HO.out⟩
    · have h11' : ¬ (11 : Int) ≤ (k : Int) := by omega
      by_cases h9 : 9 ≤ k
      · have h9' : (9 : Int) ≤ (k : Int) := by omega
        have hg : goodT k false false = (false == false) := by unfold goodT; rw [if_neg h11, if_pos h9]
        have hg : goodT k false false = true := hg
        have hok := HOK.out
        rw [hg] at hok
        clear HOK hg HGD
        have HOK := Lib.hid hok
        clear hok
        go_upto_region 11 with (fail)
        go_quiet ((go_at_call 20; exact quiet_more8 (WL.out _ _)))
        have hx3 : (w2.drewN nq).cell? ⟨w1.heap.size, k, none⟩ = some (.string D) := cell_kept (only_drewN (Only.refl [] w2)) hx (by simp)
        replace HO := Lib.hid (only_drewN (n := nq) HO.out)
        generalize w2.drewN nq = w3 at hx3 HO ⊢
        clear hx
        go_upto_region 12 with (fail)
        go_quiet ((go_at_call 20; exact quiet_more8 (WL.out _ _)))
        replace HO := Lib.hid (only_drewN (n := nq) HO.out)
        generalize w3.drewN nq = w4 at HO ⊢
        clear hx3
        obtain ⟨R, hR⟩ : ∃ R, R = chkS (txT k false false) := ⟨_, rfl⟩
        obtain ⟨R2, hR2⟩ : ∃ R, R = chkS (txU k false false) := ⟨_, rfl⟩
        have hok := HOK.out
        rw [← hR, ← hR2] at hok
        have K1 := checked_any T w4 HT.out.2
        rw [HT.out.1, ← hR] at K1
        have HR2 := Lib.hid hR2
        have HOK2 := Lib.hid hok
        clear HOK hok hR hR2 q1 q2 q3 q4 q5
        go_wp2_with fail
        refine K1.mono ?_
        rintro e w5 ⟨rfl, o5⟩
        have hok := HOK2.out
        obtain ⟨⟨⟨m, st, nm, tu⟩, c, p⟩, ok⟩ := R
        obtain ⟨hk1, hok⟩ := Bool.and_eq_true_iff.1 hok
        obtain ⟨hn2, hok⟩ := Bool.and_eq_true_iff.1 hok
        obtain rfl : ok = true := hk1
        dsimp only at hok
        unfold infoV
        dsimp only
        replace HO := Lib.hid (HO.out.trans o5 (by simp))
        obtain ⟨st', hst⟩ : ∃ x : Int, x = st := ⟨_, rfl⟩
        obtain ⟨nm', hnm⟩ : ∃ x : Int, x = nm := ⟨_, rfl⟩
        rw [← hst, ← hnm]
        have HN2 := Lib.hid hn2
        have HOK := Lib.hid hok
        clear K1 o5 HOK2 hok hst hnm hn2
        go_upto_region 14 with (fail)
        have oB := (Only.refl [] w5).alloc (.cells #[.int .i64 m, .int .i64 st', .int .i64 nm', .bool tu] 31)
        have hB := heap_new w5 (.cells #[.int .i64 m, .int .i64 st', .int .i64 nm', .bool tu] 31)
        generalize w5.alloc (.cells #[.int .i64 m, .int .i64 st', .int .i64 nm', .bool tu] 31) = w6 at oB hB ⊢
        replace HO := Lib.hid (HO.out.trans oB (by simp))
        have K2 := checked_any U w6 HU.out.2
        rw [HU.out.1, ← HR2.out] at K2
        have HB := Lib.hid hB
        clear oB hB
        go_wp2_with fail
        refine K2.mono ?_
        rintro e w7 ⟨rfl, o7⟩
        obtain ⟨⟨⟨m2, st2, nm2, tu2⟩, c2, p2⟩, ok2⟩ := R2
        obtain rfl : ok2 = false := by simpa using HN2.out
        unfold infoV
        dsimp only
        replace HO := Lib.hid (HO.out.trans o7 (by simp))
        replace HB := Lib.hid (o7.heap HB.out (by simp))
        obtain ⟨st2', hst⟩ : ∃ x : Int, x = st2 := ⟨_, rfl⟩
        obtain ⟨nm2', hnm⟩ : ∃ x : Int, x = nm2 := ⟨_, rfl⟩
        rw [← hst, ← hnm]
        clear K2 o7 hst hnm HN2 HR2
        go_upto_region 15 with (fail)
        have oB := (Only.refl [] w7).alloc (.cells #[.int .i64 m2, .int .i64 st2', .int .i64 nm2', .bool tu2] 31)
        generalize w7.alloc (.cells #[.int .i64 m2, .int .i64 st2', .int .i64 nm2', .bool tu2] 31) = w8 at oB ⊢
        replace HO := Lib.hid (HO.out.trans oB (by simp))
        have hB := oB.heap HB.out (by simp)
        have b0 : w8.cell? ⟨w5.heap.size, 0, none⟩ = some (.int .i64 m) := cell_at 0 hB
        have hok := HOK.out
        clear oB hB HB HOK
        by_cases h5 : k < 5
        · have h5' : (k : Int) < 5 := by omega
          rw [decide_eq_true h5] at hok
          exfalso
          omega
        · have h5' : ¬ (k : Int) < 5 := by omega
          rw [decide_eq_false h5] at hok
          rw [if_neg (by decide), beq_iff_eq] at hok
          subst hok
          go_wp2_with fail
          go_ret
          exact ⟨rfl, HO.out⟩
      · have h9' : ¬ (9 : Int) ≤ (k : Int) := by omega
        have hg : goodT k false false = (!false && !false) := by unfold goodT; rw [if_neg h11, if_neg h9]
        have hg : goodT k false false = true := hg
        have hok := HOK.out
        rw [hg] at hok
        clear HOK hg HGD
        have HOK := Lib.hid hok
        clear hok
        go_upto_region 11 with (fail)
        go_quiet ((go_at_call 20; exact quiet_more8 (WL.out _ _)))
        have hx3 : (w2.drewN nq).cell? ⟨w1.heap.size, k, none⟩ = some (.string D) := cell_kept (only_drewN (Only.refl [] w2)) hx (by simp)
        replace HO := Lib.hid (only_drewN (n := nq) HO.out)
        generalize w2.drewN nq = w3 at hx3 HO ⊢
        clear hx
        go_upto_region 12 with (fail)
        go_quiet ((go_at_call 20; exact quiet_more8 (WL.out _ _)))
        replace HO := Lib.hid (only_drewN (n := nq) HO.out)
        generalize w3.drewN nq = w4 at HO ⊢
        clear hx3
        obtain ⟨R, hR⟩ : ∃ R, R = chkS (txT k false false) := ⟨_, rfl⟩
        obtain ⟨R2, hR2⟩ : ∃ R, R = chkS (txU k false false) := ⟨_, rfl⟩
        have hok := HOK.out
        rw [← hR, ← hR2] at hok
        have K1 := checked_any T w4 HT.out.2
        rw [HT.out.1, ← hR] at K1
        have HR2 := Lib.hid hR2
        have HOK2 := Lib.hid hok
        clear HOK hok hR hR2 q1 q2 q3 q4 q5
        go_wp2_with fail
        refine K1.mono ?_
        rintro e w5 ⟨rfl, o5⟩
        have hok := HOK2.out
        obtain ⟨⟨⟨m, st, nm, tu⟩, c, p⟩, ok⟩ := R
        obtain ⟨hk1, hok⟩ := Bool.and_eq_true_iff.1 hok
        obtain ⟨hn2, hok⟩ := Bool.and_eq_true_iff.1 hok
        obtain rfl : ok = true := hk1
        dsimp only at hok
        unfold infoV
        dsimp only
        replace HO := Lib.hid (HO.out.trans o5 (by simp))
        obtain ⟨st', hst⟩ : ∃ x : Int, x = st := ⟨_, rfl⟩
        obtain ⟨nm', hnm⟩ : ∃ x : Int, x = nm := ⟨_, rfl⟩
        rw [← hst, ← hnm]
        have HN2 := Lib.hid hn2
        have HOK := Lib.hid hok
        clear K1 o5 HOK2 hok hst hnm hn2
        go_upto_region 14 with (fail)
        have oB := (Only.refl [] w5).alloc (.cells #[.int .i64 m, .int .i64 st', .int .i64 nm', .bool tu] 31)
        have hB := heap_new w5 (.cells #[.int .i64 m, .int .i64 st', .int .i64 nm', .bool tu] 31)
        generalize w5.alloc (.cells #[.int .i64 m, .int .i64 st', .int .i64 nm', .bool tu] 31) = w6 at oB hB ⊢
        replace HO := Lib.hid (HO.out.trans oB (by simp))
        have K2 := checked_any U w6 HU.out.2
        rw [HU.out.1, ← HR2.out] at K2
        have HB := Lib.hid hB
        clear oB hB
        go_wp2_with fail
        refine K2.mono ?_
        rintro e w7 ⟨rfl, o7⟩
        obtain ⟨⟨⟨m2, st2, nm2, tu2⟩, c2, p2⟩, ok2⟩ := R2
        obtain rfl : ok2 = false := by simpa using HN2.out
        unfold infoV
        dsimp only
        replace HO := Lib.hid (HO.out.trans o7 (by simp))
        replace HB := Lib.hid (o7.heap HB.out (by simp))
        obtain ⟨st2', hst⟩ : ∃ x : Int, x = st2 := ⟨_, rfl⟩
        obtain ⟨nm2', hnm⟩ : ∃ x : Int, x = nm2 := ⟨_, rfl⟩
        rw [← hst, ← hnm]
        clear K2 o7 hst hnm HN2 HR2
        go_upto_region 15 with (fail)
        have oB := (Only.refl [] w7).alloc (.cells #[.int .i64 m2, .int .i64 st2', .int .i64 nm2', .bool tu2] 31)
        generalize w7.alloc (.cells #[.int .i64 m2, .int .i64 st2', .int .i64 nm2', .bool tu2] 31) = w8 at oB ⊢
        replace HO := Lib.hid (HO.out.trans oB (by simp))
        have hB := oB.heap HB.out (by simp)
        have b0 : w8.cell? ⟨w5.heap.size, 0, none⟩ = some (.int .i64 m) := cell_at 0 hB
        have hok := HOK.out
        clear oB hB HB HOK
        by_cases h5 : k < 5
        · have h5' : (k : Int) < 5 := by omega
          rw [decide_eq_true h5] at hok
          rw [if_pos (by decide), Bool.and_eq_true, beq_iff_eq, beq_iff_eq] at hok
          obtain ⟨rfl, rfl⟩ := hok
          go_wp2_with fail
          go_ret
          exact ⟨rfl, HO.out⟩
        · have h5' : ¬ (k : Int) < 5 := by omega
          rw [decide_eq_false h5] at hok
          rw [if_neg (by decide), beq_iff_eq] at hok
          subst hok
          go_wp2_with fail
          go_ret
          exact ⟨rfl, HO.out⟩
  · by_cases h11 : 11 ≤ k
    · have h11' : (11 : Int) ≤ (k : Int) := by omega
      have hg : goodT k false true = (false && true) := by unfold goodT; rw [if_pos h11]
      have hg : goodT k false true = false := hg
      have hok := HOK.out
      rw [hg] at hok
      clear HOK hg HGD
      have HOK := Lib.hid hok
      clear hok
      go_upto_region 11 with (fail)
      go_quiet ((go_at_call 20; exact quiet_more8 (WL.out _ _)))
      have hx3 : (w2.drewN nq).cell? ⟨w1.heap.size, k, none⟩ = some (.string D) := cell_kept (only_drewN (Only.refl [] w2)) hx (by simp)
      replace HO := Lib.hid (only_drewN (n := nq) HO.out)
      generalize w2.drewN nq = w3 at hx3 HO ⊢
      clear hx
      go_upto_region 12 with (fail)
      go_quiet ((go_at_call 20; exact quiet_more8 (WL.out _ _)))
      replace HO := Lib.hid (only_drewN (n := nq) HO.out)
      generalize w3.drewN nq = w4 at HO ⊢
      clear hx3
      obtain ⟨R, hR⟩ : ∃ R, R = chkS (txT k false true) := ⟨_, rfl⟩
      obtain ⟨R2, hR2⟩ : ∃ R, R = chkS (txU k false true) := ⟨_, rfl⟩
      have hok := HOK.out
      rw [← hR, ← hR2] at hok
      have K1 := checked_any T w4 HT.out.2
      rw [HT.out.1, ← hR] at K1
      have HR2 := Lib.hid hR2
      have HOK2 := Lib.hid hok
      clear HOK hok hR hR2 q1 q2 q3 q4 q5
      go_wp2_with fail
      refine K1.mono ?_
      rintro e w5 ⟨rfl, o5⟩
      have hok := HOK2.out
      obtain ⟨⟨⟨m, st, nm, tu⟩, c, p⟩, ok⟩ := R
      obtain ⟨hk1, hok⟩ := Bool.and_eq_true_iff.1 hok
      obtain ⟨hn2, hok⟩ := Bool.and_eq_true_iff.1 hok
      obtain rfl : ok = true := hk1
      dsimp only at hok
      unfold infoV
      dsimp only
      replace HO := Lib.hid (HO.out.trans o5 (by simp))
      obtain ⟨st', hst⟩ : ∃ x : Int, x = st := ⟨_, rfl⟩
      obtain ⟨nm', hnm⟩ : ∃ x : Int, x = nm := ⟨_, rfl⟩
      rw [← hst, ← hnm]
      have HN2 := Lib.hid hn2
      have HOK := Lib.hid hok
      clear K1 o5 HOK2 hok hst hnm hn2
      go_upto_region 14 with (fail)
      have oB := (Only.refl [] w5).alloc (.cells #[.int .i64 m, .int .i64 st', .int .i64 nm', .bool tu] 31)
      have hB := heap_new w5 (.cells #[.int .i64 m, .int .i64 st', .int .i64 nm', .bool tu] 31)
      generalize w5.alloc (.cells #[.int .i64 m, .int .i64 st', .int .i64 nm', .bool tu] 31) = w6 at oB hB ⊢
      replace HO := Lib.hid (HO.out.trans oB (by simp))
      have K2 := checked_any U w6 HU.out.2
      rw [HU.out.1, ← HR2.out] at K2
      have HB := Lib.hid hB
      clear oB hB
      go_wp2_with fail
      refine K2.mono ?_
      rintro e w7 ⟨rfl, o7⟩
      obtain ⟨⟨⟨m2, st2, nm2, tu2⟩, c2, p2⟩, ok2⟩ := R2
      obtain rfl : ok2 = false := by simpa using HN2.out
      unfold infoV
      dsimp only
      replace HO := Lib.hid (HO.out.trans o7 (by simp))
      replace HB := Lib.hid (o7.heap HB.out (by simp))
      obtain ⟨st2', hst⟩ : ∃ x : Int, x = st2 := ⟨_, rfl⟩
      obtain ⟨nm2', hnm⟩ : ∃ x : Int, x = nm2 := ⟨_, rfl⟩
      rw [← hst, ← hnm]
      clear K2 o7 hst hnm HN2 HR2
      go_upto_region 15 with (fail)
      have oB := (Only.refl [] w7).alloc (.cells #[.int .i64 m2, .int .i64 st2', .int .i64 nm2', .bool tu2] 31)
      generalize w7.alloc (.cells #[.int .i64 m2, .int .i64 st2', .int .i64 nm2', .bool tu2] 31) = w8 at oB ⊢
      replace HO := Lib.hid (HO.out.trans oB (by simp))
      have hB := oB.heap HB.out (by simp)
      have b0 : w8.cell? ⟨w5.heap.size, 0, none⟩ = some (.int .i64 m) := cell_at 0 hB
      have hok := HOK.out
      clear oB hB HB HOK
      by_cases h5 : k < 5
      · have h5' : (k : Int) < 5 := by omega
        rw [decide_eq_true h5] at hok
        exfalso
        omega
      · have h5' : ¬ (k : Int) < 5 := by omega
        rw [decide_eq_false h5] at hok
        rw [if_neg (by decide), beq_iff_eq] at hok
        subst hok
        go_wp2_with fail
        go_ret
        exact ⟨rfl, HO.out⟩
    · have h11' : ¬ (11 : Int) ≤ (k : Int) := by omega
      by_cases h9 : 9 ≤ k
      · have h9' : (9 : Int) ≤ (k : Int) := by omega
        have hg : goodT k false true = (false == true) := by unfold goodT; rw [if_neg h11, if_pos h9]
        have hg : goodT k false true = false := hg
        have hok := HOK.out
        rw [hg] at hok
        clear HOK hg HGD
        have HOK := Lib.hid hok
        clear hok
        go_upto_region 11 with (fail)
        go_quiet ((go_at_call 20; exact quiet_more8 (WL.out _ _)))
        have hx3 : (w2.drewN nq).cell? ⟨w1.heap.size, k, none⟩ = some (.string D) := cell_kept (only_drewN (Only.refl [] w2)) hx (by simp)
        replace HO := Lib.hid (only_drewN (n := nq) HO.out)
        generalize w2.drewN nq = w3 at hx3 HO ⊢
        clear hx
        go_upto_region 12 with (fail)
        go_quiet ((go_at_call 20; exact quiet_more8 (WL.out _ _)))
        replace HO := Lib.hid (only_drewN (n := nq) HO.out)
        generalize w3.drewN nq = w4 at HO ⊢
        clear hx3
        obtain ⟨R, hR⟩ : ∃ R, R = chkS (txT k false true) := ⟨_, rfl⟩
        obtain ⟨R2, hR2⟩ : ∃ R, R = chkS (txU k false true) := ⟨_, rfl⟩
        have hok := HOK.out
        rw [← hR, ← hR2] at hok
        have K1 := checked_any T w4 HT.out.2
        rw [HT.out.1, ← hR] at K1
        have HR2 := Lib.hid hR2
        have HOK2 := Lib.hid hok
        clear HOK hok hR hR2 q1 q2 q3 q4 q5
        go_wp2_with fail
        refine K1.mono ?_
        rintro e w5 ⟨rfl, o5⟩
        have hok := HOK2.out
        obtain ⟨⟨⟨m, st, nm, tu⟩, c, p⟩, ok⟩ := R
        obtain ⟨hk1, hok⟩ := Bool.and_eq_true_iff.1 hok
        obtain ⟨hn2, hok⟩ := Bool.and_eq_true_iff.1 hok
        obtain rfl : ok = true := hk1
        dsimp only at hok
        unfold infoV
        dsimp only
        replace HO := Lib.hid (HO.out.trans o5 (by simp))
        obtain ⟨st', hst⟩ : ∃ x : Int, x = st := ⟨_, rfl⟩
        obtain ⟨nm', hnm⟩ : ∃ x : Int, x = nm := ⟨_, rfl⟩
        rw [← hst, ← hnm]
        have HN2 := Lib.hid hn2
        have HOK := Lib.hid hok
        clear K1 o5 HOK2 hok hst hnm hn2
        go_upto_region 14 with (fail)
        have oB := (Only.refl [] w5).alloc (.cells #[.int .i64 m, .int .i64 st', .int .i64 nm', .bool tu] 31)
        have hB := heap_new w5 (.cells #[.int .i64 m, .int .i64 st', .int .i64 nm', .bool tu] 31)
        generalize w5.alloc (.cells #[.int .i64 m, .int .i64 st', .int .i64 nm', .bool tu] 31) = w6 at oB hB ⊢
        replace HO := Lib.hid (HO.out.trans oB (by simp))
        have K2 := checked_any U w6 HU.out.2
        rw [HU.out.1, ← HR2.out] at K2
        have HB := Lib.hid hB
        clear oB hB
        go_wp2_with fail
        refine K2.mono ?_
        rintro e w7 ⟨rfl, o7⟩
        obtain ⟨⟨⟨m2, st2, nm2, tu2⟩, c2, p2⟩, ok2⟩ := R2
        obtain rfl : ok2 = false := by simpa using HN2.out
        unfold infoV
        dsimp only
        replace HO := Lib.hid (HO.out.trans o7 (by simp))
        replace HB := Lib.hid (o7.heap HB.out (by simp))
        obtain ⟨st2', hst⟩ : ∃ x : Int, x = st2 := ⟨_, rfl⟩
        obtain ⟨nm2', hnm⟩ : ∃ x : Int, x = nm2 := ⟨_, rfl⟩
        rw [← hst, ← hnm]
        clear K2 o7 hst hnm HN2 HR2
        go_upto_region 15 with (fail)
        have oB := (Only.refl [] w7).alloc (.cells #[.int .i64 m2, .int .i64 st2', .int .i64 nm2', .bool tu2] 31)
        generalize w7.alloc (.cells #[.int .i64 m2, .int .i64 st2', .int .i64 nm2', .bool tu2] 31) = w8 at oB ⊢
        replace HO := Lib.hid (HO.out.trans oB (by simp))
        have hB := oB.heap HB.out (by simp)
        have b0 : w8.cell? ⟨w5.heap.size, 0, none⟩ = some (.int .i64 m) := cell_at 0 hB
        have hok := HOK.out
        clear oB hB HB HOK
        by_cases h5 : k < 5
        · have h5' : (k : Int) < 5 := by omega
          rw [decide_eq_true h5] at hok
          exfalso
          omega
        · have h5' : ¬ (k : Int) < 5 := by omega
          rw [decide_eq_false h5] at hok
          rw [if_neg (by decide), beq_iff_eq] at hok
          subst hok
          go_wp2_with fail
          go_ret
          exact ⟨rfl, HO.out⟩
      · have h9' : ¬ (9 : Int) ≤ (k : Int) := by omega
        have hg : goodT k false true = (!false && !true) := by unfold goodT; rw [if_neg h11, if_neg h9]
        have hg : goodT k false true = false := hg
        have hok := HOK.out
        rw [hg] at hok
        clear HOK hg HGD
        have HOK := Lib.hid hok
        clear hok
        go_upto_region 11 with (fail)
        go_quiet ((go_at_call 20; exact quiet_more8 (WL.out _ _)))
        have hx3 : (w2.drewN nq).cell? ⟨w1.heap.size, k, none⟩ = some (.string D) := cell_kept (only_drewN (Only.refl [] w2)) hx (by simp)
        replace HO := Lib.hid (only_drewN (n := nq) HO.out)
        generalize w2.drewN nq = w3 at hx3 HO ⊢
        clear hx
        go_upto_region 12 with (fail)
        go_quiet ((go_at_call 20; exact quiet_more8 (WL.out _ _)))
        replace HO := Lib.hid (only_drewN (n := nq) HO.out)
        generalize w3.drewN nq = w4 at HO ⊢
        clear hx3
        obtain ⟨R, hR⟩ : ∃ R, R = chkS (txT k false true) := ⟨_, rfl⟩
        obtain ⟨R2, hR2⟩ : ∃ R, R = chkS (txU k false true) := ⟨_, rfl⟩
        have hok := HOK.out
        rw [← hR, ← hR2] at hok
        have K1 := checked_any T w4 HT.out.2
        rw [HT.out.1, ← hR] at K1
        have HR2 := Lib.hid hR2
        have HOK2 := Lib.hid hok
        clear HOK hok hR hR2 q1 q2 q3 q4 q5
        go_wp2_with fail
        refine K1.mono ?_
        rintro e w5 ⟨rfl, o5⟩
        have hok := HOK2.out
        obtain ⟨⟨⟨m, st, nm, tu⟩, c, p⟩, ok⟩ := R
        obtain ⟨hk1, hok⟩ := Bool.and_eq_true_iff.1 hok
        obtain ⟨hn2, hok⟩ := Bool.and_eq_true_iff.1 hok
        obtain rfl : ok = true := hk1
        dsimp only at hok
        unfold infoV
        dsimp only
        replace HO := Lib.hid (HO.out.trans o5 (by simp))
        obtain ⟨st', hst⟩ : ∃ x : Int, x = st := ⟨_, rfl⟩
        obtain ⟨nm', hnm⟩ : ∃ x : Int, x = nm := ⟨_, rfl⟩
        rw [← hst, ← hnm]
        have HN2 := Lib.hid hn2
        have HOK := Lib.hid hok
        clear K1 o5 HOK2 hok hst hnm hn2
        go_upto_region 14 with (fail)
        have oB := (Only.refl [] w5).alloc (.cells #[.int .i64 m, .int .i64 st', .int .i64 nm', .bool tu] 31)
        have hB := heap_new w5 (.cells #[.int .i64 m, .int .i64 st', .int .i64 nm', .bool tu] 31)
        generalize w5.alloc (.cells #[.int .i64 m, .int .i64 st', .int .i64 nm', .bool tu] 31) = w6 at oB hB ⊢
        replace HO := Lib.hid (HO.out.trans oB (by simp))
        have K2 := checked_any U w6 HU.out.2
        rw [HU.out.1, ← HR2.out] at K2
        have HB := Lib.hid hB
        clear oB hB
        go_wp2_with fail
        refine K2.mono ?_
        rintro e w7 ⟨rfl, o7⟩
        obtain ⟨⟨⟨m2, st2, nm2, tu2⟩, c2, p2⟩, ok2⟩ := R2
        obtain rfl : ok2 = false := by simpa using HN2.out
        unfold infoV
        dsimp only
        replace HO := Lib.hid (HO.out.trans o7 (by simp))
        replace HB := Lib.hid (o7.heap HB.out (by simp))
        obtain ⟨st2', hst⟩ : ∃ x : Int, x = st2 := ⟨_, rfl⟩
        obtain ⟨nm2', hnm⟩ : ∃ x : Int, x = nm2 := ⟨_, rfl⟩
        rw [← hst, ← hnm]
        clear K2 o7 hst hnm HN2 HR2
        go_upto_region 15 with (fail)
        have oB := (Only.refl [] w7).alloc (.cells #[.int .i64 m2, .int .i64 st2', .int .i64 nm2', .bool tu2] 31)
        generalize w7.alloc (.cells #[.int .i64 m2, .int .i64 st2', .int .i64 nm2', .bool tu2] 31) = w8 at oB ⊢
        replace HO := Lib.hid (HO.out.trans oB (by simp))
        have hB := oB.heap HB.out (by simp)
        have b0 : w8.cell? ⟨w5.heap.size, 0, none⟩ = some (.int .i64 m) := cell_at 0 hB
        have hok := HOK.out
        clear oB hB HB HOK
        by_cases h5 : k < 5
        · have h5' : (k : Int) < 5 := by omega
          rw [decide_eq_true h5] at hok
          rw [if_neg (by decide), beq_iff_eq] at hok
          subst hok
          go_wp2_with fail
          go_ret
          exact ⟨rfl, HO.out⟩
        · have h5' : ¬ (k : Int) < 5 := by omega
          rw [decide_eq_false h5] at hok
          rw [if_neg (by decide), beq_iff_eq] at hok
          subst hok
          go_wp2_with fail
          go_ret
          exact ⟨rfl, HO.out⟩
  · by_cases h11 : 11 ≤ k
    · have h11' : (11 : Int) ≤ (k : Int) := by omega
      have hg : goodT k true false = (true && false) := by unfold goodT; rw [if_pos h11]
      have hg : goodT k true false = false := hg
      have hok := HOK.out
      rw [hg] at hok
      clear HOK hg HGD
      have HOK := Lib.hid hok
      clear hok
      go_upto_region 11 with (fail)
      go_quiet ((go_at_call 20; exact quiet_more8 (WL.out _ _)))
      have hx3 : (w2.drewN nq).cell? ⟨w1.heap.size, k, none⟩ = some (.string D) := cell_kept (only_drewN (Only.refl [] w2)) hx (by simp)
      replace HO := Lib.hid (only_drewN (n := nq) HO.out)
      generalize w2.drewN nq = w3 at hx3 HO ⊢
      clear hx
      go_upto_region 12 with (fail)
      go_quiet ((go_at_call 20; exact quiet_more8 (WL.out _ _)))
      replace HO := Lib.hid (only_drewN (n := nq) HO.out)
      generalize w3.drewN nq = w4 at HO ⊢
      clear hx3
      obtain ⟨R, hR⟩ : ∃ R, R = chkS (txT k true false) := ⟨_, rfl⟩
      obtain ⟨R2, hR2⟩ : ∃ R, R = chkS (txU k true false) := ⟨_, rfl⟩
      have hok := HOK.out
      rw [← hR, ← hR2] at hok
      have K1 := checked_any T w4 HT.out.2
      rw [HT.out.1, ← hR] at K1
      have HR2 := Lib.hid hR2
      have HOK2 := Lib.hid hok
      clear HOK hok hR hR2 q1 q2 q3 q4 q5
      go_wp2_with fail
      refine K1.mono ?_
      rintro e w5 ⟨rfl, o5⟩
      have hok := HOK2.out
      obtain ⟨⟨⟨m, st, nm, tu⟩, c, p⟩, ok⟩ := R
      obtain ⟨hk1, hok⟩ := Bool.and_eq_true_iff.1 hok
      obtain ⟨hn2, hok⟩ := Bool.and_eq_true_iff.1 hok
      obtain rfl : ok = true := hk1
      dsimp only at hok
      unfold infoV
      dsimp only
      replace HO := Lib.hid (HO.out.trans o5 (by simp))
      obtain ⟨st', hst⟩ : ∃ x : Int, x = st := ⟨_, rfl⟩
      obtain ⟨nm', hnm⟩ : ∃ x : Int, x = nm := ⟨_, rfl⟩
      rw [← hst, ← hnm]
      have HN2 := Lib.hid hn2
      have HOK := Lib.hid hok
      clear K1 o5 HOK2 hok hst hnm hn2
      go_upto_region 14 with (fail)
      have oB := (Only.refl [] w5).alloc (.cells #[.int .i64 m, .int .i64 st', .int .i64 nm', .bool tu] 31)
      have hB := heap_new w5 (.cells #[.int .i64 m, .int .i64 st', .int .i64 nm', .bool tu] 31)
      generalize w5.alloc (.cells #[.int .i64 m, .int .i64 st', .int .i64 nm', .bool tu] 31) = w6 at oB hB ⊢
      replace HO := Lib.hid (HO.out.trans oB (by simp))
      have K2 := checked_any U w6 HU.out.2
      rw [HU.out.1, ← HR2.out] at K2
      have HB := Lib.hid hB
      clear oB hB
      go_wp2_with fail
      refine K2.mono ?_
      rintro e w7 ⟨rfl, o7⟩
      obtain ⟨⟨⟨m2, st2, nm2, tu2⟩, c2, p2⟩, ok2⟩ := R2
      obtain rfl : ok2 = false := by simpa using HN2.out
      unfold infoV
      dsimp only
      replace HO := Lib.hid (HO.out.trans o7 (by simp))
      replace HB := Lib.hid (o7.heap HB.out (by simp))
      obtain ⟨st2', hst⟩ : ∃ x : Int, x = st2 := ⟨_, rfl⟩
      obtain ⟨nm2', hnm⟩ : ∃ x : Int, x = nm2 := ⟨_, rfl⟩
      rw [← hst, ← hnm]
      clear K2 o7 hst hnm HN2 HR2
      go_upto_region 15 with (fail)
      have oB := (Only.refl [] w7).alloc (.cells #[.int .i64 m2, .int .i64 st2', .int .i64 nm2', .bool tu2] 31)
      generalize w7.alloc (.cells #[.int .i64 m2, .int .i64 st2', .int .i64 nm2', .bool tu2] 31) = w8 at oB ⊢
      replace HO := Lib.hid (HO.out.trans oB (by simp))
      have hB := oB.heap HB.out (by simp)
      have b0 : w8.cell? ⟨w5.heap.size, 0, none⟩ = some (.int .i64 m) := cell_at 0 hB
      have hok := HOK.out
      clear oB hB HB HOK
      by_cases h5 : k < 5
      · have h5' : (k : Int) < 5 := by omega
        rw [decide_eq_true h5] at hok
        exfalso
        omega
      · have h5' : ¬ (k : Int) < 5 := by omega
        rw [decide_eq_false h5] at hok
        rw [if_neg (by decide), beq_iff_eq] at hok
        subst hok
        go_wp2_with fail
        go_ret
        exact ⟨rfl, HO.out⟩
    · have h11' : ¬ (11 : Int) ≤ (k : Int) := by omega
      by_cases h9 : 9 ≤ k
      · have h9' : (9 : Int) ≤ (k : Int) := by omega
        have hg : goodT k true false = (true == false) := by unfold goodT; rw [if_neg h11, if_pos h9]
        have hg : goodT k true false = false := hg
        have hok := HOK.out
        rw [hg] at hok
        clear HOK hg HGD
        have HOK := Lib.hid hok
        clear hok
        go_upto_region 11 with (fail)
        go_quiet ((go_at_call 20; exact quiet_more8 (WL.out _ _)))
        have hx3 : (w2.drewN nq).cell? ⟨w1.heap.size, k, none⟩ = some (.string D) := cell_kept (only_drewN (Only.refl [] w2)) hx (by simp)
        replace HO := Lib.hid (only_drewN (n := nq) HO.out)
        generalize w2.drewN nq = w3 at hx3 HO ⊢
        clear hx
        go_upto_region 12 with (fail)
        go_quiet ((go_at_call 20; exact quiet_more8 (WL.out _ _)))
        replace HO := Lib.hid (only_drewN (n := nq) HO.out)
        generalize w3.drewN nq = w4 at HO ⊢
        clear hx3
        obtain ⟨R, hR⟩ : ∃ R, R = chkS (txT k true false) := ⟨_, rfl⟩
        obtain ⟨R2, hR2⟩ : ∃ R, R = chkS (txU k true false) := ⟨_, rfl⟩
        have hok := HOK.out
        rw [← hR, ← hR2] at hok
        have K1 := checked_any T w4 HT.out.2
        rw [HT.out.1, ← hR] at K1
        have HR2 := Lib.hid hR2
        have HOK2 := Lib.hid hok
        clear HOK hok hR hR2 q1 q2 q3 q4 q5
        go_wp2_with fail
        refine K1.mono ?_
        rintro e w5 ⟨rfl, o5⟩
        have hok := HOK2.out
        obtain ⟨⟨⟨m, st, nm, tu⟩, c, p⟩, ok⟩ := R
        obtain ⟨hk1, hok⟩ := Bool.and_eq_true_iff.1 hok
        obtain ⟨hn2, hok⟩ := Bool.and_eq_true_iff.1 hok
        obtain rfl : ok = true := hk1
        dsimp only at hok
        unfold infoV
        dsimp only
        replace HO := Lib.hid (HO.out.trans o5 (by simp))
        obtain ⟨st', hst⟩ : ∃ x : Int, x = st := ⟨_, rfl⟩
        obtain ⟨nm', hnm⟩ : ∃ x : Int, x = nm := ⟨_, rfl⟩
        rw [← hst, ← hnm]
        have HN2 := Lib.hid hn2
        have HOK := Lib.hid hok
        clear K1 o5 HOK2 hok hst hnm hn2
        go_upto_region 14 with (fail)
        have oB := (Only.refl [] w5).alloc (.cells #[.int .i64 m, .int .i64 st', .int .i64 nm', .bool tu] 31)
        have hB := heap_new w5 (.cells #[.int .i64 m, .int .i64 st', .int .i64 nm', .bool tu] 31)
        generalize w5.alloc (.cells #[.int .i64 m, .int .i64 st', .int .i64 nm', .bool tu] 31) = w6 at oB hB ⊢
        replace HO := Lib.hid (HO.out.trans oB (by simp))
        have K2 := checked_any U w6 HU.out.2
        rw [HU.out.1, ← HR2.out] at K2
        have HB := Lib.hid hB
        clear oB hB
        go_wp2_with fail
        refine K2.mono ?_
        rintro e w7 ⟨rfl, o7⟩
        obtain ⟨⟨⟨m2, st2, nm2, tu2⟩, c2, p2⟩, ok2⟩ := R2
        obtain rfl : ok2 = false := by simpa using HN2.out
        unfold infoV
        dsimp only
        replace HO := Lib.hid (HO.out.trans o7 (by simp))
        replace HB := Lib.hid (o7.heap HB.out (by simp))
        obtain ⟨st2', hst⟩ : ∃ x : Int, x = st2 := ⟨_, rfl⟩
        obtain ⟨nm2', hnm⟩ : ∃ x : Int, x = nm2 := ⟨_, rfl⟩
        rw [← hst, ← hnm]
        clear K2 o7 hst hnm HN2 HR2
        go_upto_region 15 with (fail)
        have oB := (Only.refl [] w7).alloc (.cells #[.int .i64 m2, .int .i64 st2', .int .i64 nm2', .bool tu2] 31)
        generalize w7.alloc (.cells #[.int .i64 m2, .int .i64 st2', .int .i64 nm2', .bool tu2] 31) = w8 at oB ⊢
        replace HO := Lib.hid (HO.out.trans oB (by simp))
        have hB := oB.heap HB.out (by simp)
        have b0 : w8.cell? ⟨w5.heap.size, 0, none⟩ = some (.int .i64 m) := cell_at 0 hB
        have hok := HOK.out
        clear oB hB HB HOK
        by_cases h5 : k < 5
        · have h5' : (k : Int) < 5 := by omega
          rw [decide_eq_true h5] at hok
          exfalso
          omega
        · have h5' : ¬ (k : Int) < 5 := by omega
          rw [decide_eq_false h5] at hok
          rw [if_neg (by decide), beq_iff_eq] at hok
          subst hok
          go_wp2_with fail
          go_ret
          exact ⟨rfl, HO.out⟩
      · have h9' : ¬ (9 : Int) ≤ (k : Int) := by omega
        have hg : goodT k true false = (!true && !false) := by unfold goodT; rw [if_neg h11, if_neg h9]
        have hg : goodT k true false = false := hg
        have hok := HOK.out
        rw [hg] at hok
        clear HOK hg HGD
        have HOK := Lib.hid hok
        clear hok
        go_upto_region 11 with (fail)
        go_quiet ((go_at_call 20; exact quiet_more8 (WL.out _ _)))
        have hx3 : (w2.drewN nq).cell? ⟨w1.heap.size, k, none⟩ = some (.string D) := cell_kept (only_drewN (Only.refl [] w2)) hx (by simp)
        replace HO := Lib.hid (only_drewN (n := nq) HO.out)
        generalize w2.drewN nq = w3 at hx3 HO ⊢
        clear hx
        go_upto_region 12 with (fail)
        go_quiet ((go_at_call 20; exact quiet_more8 (WL.out _ _)))
        replace HO := Lib.hid (only_drewN (n := nq) HO.out)
        generalize w3.drewN nq = w4 at HO ⊢
        clear hx3
        obtain ⟨R, hR⟩ : ∃ R, R = chkS (txT k true false) := ⟨_, rfl⟩
        obtain ⟨R2, hR2⟩ : ∃ R, R = chkS (txU k true false) := ⟨_, rfl⟩
        have hok := HOK.out
        rw [← hR, ← hR2] at hok
        have K1 := checked_any T w4 HT.out.2
        rw [HT.out.1, ← hR] at K1
        have HR2 := Lib.hid hR2
        have HOK2 := Lib.hid hok
        clear HOK hok hR hR2 q1 q2 q3 q4 q5
        go_wp2_with fail
        refine K1.mono ?_
        rintro e w5 ⟨rfl, o5⟩
        have hok := HOK2.out
        obtain ⟨⟨⟨m, st, nm, tu⟩, c, p⟩, ok⟩ := R
        obtain ⟨hk1, hok⟩ := Bool.and_eq_true_iff.1 hok
        obtain ⟨hn2, hok⟩ := Bool.and_eq_true_iff.1 hok
        obtain rfl : ok = true := hk1
        dsimp only at hok
        unfold infoV
        dsimp only
        replace HO := Lib.hid (HO.out.trans o5 (by simp))
        obtain ⟨st', hst⟩ : ∃ x : Int, x = st := ⟨_, rfl⟩
        obtain ⟨nm', hnm⟩ : ∃ x : Int, x = nm := ⟨_, rfl⟩
        rw [← hst, ← hnm]
        have HN2 := Lib.hid hn2
        have HOK := Lib.hid hok
        clear K1 o5 HOK2 hok hst hnm hn2
        go_upto_region 14 with (fail)
        have oB := (Only.refl [] w5).alloc (.cells #[.int .i64 m, .int .i64 st', .int .i64 nm', .bool tu] 31)
        have hB := heap_new w5 (.cells #[.int .i64 m, .int .i64 st', .int .i64 nm', .bool tu] 31)
        generalize w5.alloc (.cells #[.int .i64 m, .int .i64 st', .int .i64 nm', .bool tu] 31) = w6 at oB hB ⊢
        replace HO := Lib.hid (HO.out.trans oB (by simp))
        have K2 := checked_any U w6 HU.out.2
        rw [HU.out.1, ← HR2.out] at K2
        have HB := Lib.hid hB
        clear oB hB
        go_wp2_with fail
        refine K2.mono ?_
        rintro e w7 ⟨rfl, o7⟩
        obtain ⟨⟨⟨m2, st2, nm2, tu2⟩, c2, p2⟩, ok2⟩ := R2
        obtain rfl : ok2 = false := by simpa using HN2.out
        unfold infoV
        dsimp only
        replace HO := Lib.hid (HO.out.trans o7 (by simp))
        replace HB := Lib.hid (o7.heap HB.out (by simp))
        obtain ⟨st2', hst⟩ : ∃ x : Int, x = st2 := ⟨_, rfl⟩
        obtain ⟨nm2', hnm⟩ : ∃ x : Int, x = nm2 := ⟨_, rfl⟩
        rw [← hst, ← hnm]
        clear K2 o7 hst hnm HN2 HR2
        go_upto_region 15 with (fail)
        have oB := (Only.refl [] w7).alloc (.cells #[.int .i64 m2, .int .i64 st2', .int .i64 nm2', .bool tu2] 31)
        generalize w7.alloc (.cells #[.int .i64 m2, .int .i64 st2', .int .i64 nm2', .bool tu2] 31) = w8 at oB ⊢
        replace HO := Lib.hid (HO.out.trans oB (by simp))
        have hB := oB.heap HB.out (by simp)
        have b0 : w8.cell? ⟨w5.heap.size, 0, none⟩ = some (.int .i64 m) := cell_at 0 hB
        have hok := HOK.out
        clear oB hB HB HOK
        by_cases h5 : k < 5
        · have h5' : (k : Int) < 5 := by omega
          rw [decide_eq_true h5] at hok
          rw [if_neg (by decide), beq_iff_eq] at hok
          subst hok
          go_wp2_with fail
          go_ret
          exact ⟨rfl, HO.out⟩
        · have h5' : ¬ (k : Int) < 5 := by omega
          rw [decide_eq_false h5] at hok
          rw [if_neg (by decide), beq_iff_eq] at hok
          subst hok
          go_wp2_with fail
          go_ret
          exact ⟨rfl, HO.out⟩
  · by_cases h11 : 11 ≤ k
    · have h11' : (11 : Int) ≤ (k : Int) := by omega
      have hg : goodT k true true = (true && true) := by unfold goodT; rw [if_pos h11]
      have hg : goodT k true true = true := hg
      have hok := HOK.out
      rw [hg] at hok
      clear HOK hg HGD
      have HOK := Lib.hid hok
      clear hok
      go_upto_region 11 with (fail)
      go_quiet ((go_at_call 20; exact quiet_more8 (WL.out _ _)))
      have hx3 : (w2.drewN nq).cell? ⟨w1.heap.size, k, none⟩ = some (.string D) := cell_kept (only_drewN (Only.refl [] w2)) hx (by simp)
      replace HO := Lib.hid (only_drewN (n := nq) HO.out)
      generalize w2.drewN nq = w3 at hx3 HO ⊢
      clear hx
      go_upto_region 12 with (fail)
      go_quiet ((go_at_call 20; exact quiet_more8 (WL.out _ _)))
      replace HO := Lib.hid (only_drewN (n := nq) HO.out)
      generalize w3.drewN nq = w4 at HO ⊢
      clear hx3
      obtain ⟨R, hR⟩ : ∃ R, R = chkS (txT k true true) := ⟨_, rfl⟩
      obtain ⟨R2, hR2⟩ : ∃ R, R = chkS (txU k true true) := ⟨_, rfl⟩
      have hok := HOK.out
      rw [← hR, ← hR2] at hok
      have K1 := checked_any T w4 HT.out.2
      rw [HT.out.1, ← hR] at K1
      have HR2 := Lib.hid hR2
      have HOK2 := Lib.hid hok
      clear HOK hok hR hR2 q1 q2 q3 q4 q5
      go_wp2_with fail
      refine K1.mono ?_
      rintro e w5 ⟨rfl, o5⟩
      have hok := HOK2.out
      obtain ⟨⟨⟨m, st, nm, tu⟩, c, p⟩, ok⟩ := R
      obtain ⟨hk1, hok⟩ := Bool.and_eq_true_iff.1 hok
      obtain ⟨hn2, hok⟩ := Bool.and_eq_true_iff.1 hok
      obtain rfl : ok = true := hk1
      dsimp only at hok
      unfold infoV
      dsimp only
      replace HO := Lib.hid (HO.out.trans o5 (by simp))
      obtain ⟨st', hst⟩ : ∃ x : Int, x = st := ⟨_, rfl⟩
      obtain ⟨nm', hnm⟩ : ∃ x : Int, x = nm := ⟨_, rfl⟩
      rw [← hst, ← hnm]
      have HN2 := Lib.hid hn2
      have HOK := Lib.hid hok
      clear K1 o5 HOK2 hok hst hnm hn2
      go_upto_region 14 with (fail)
      have oB := (Only.refl [] w5).alloc (.cells #[.int .i64 m, .int .i64 st', .int .i64 nm', .bool tu] 31)
      have hB := heap_new w5 (.cells #[.int .i64 m, .int .i64 st', .int .i64 nm', .bool tu] 31)
      generalize w5.alloc (.cells #[.int .i64 m, .int .i64 st', .int .i64 nm', .bool tu] 31) = w6 at oB hB ⊢
      replace HO := Lib.hid (HO.out.trans oB (by simp))
      have K2 := checked_any U w6 HU.out.2
      rw [HU.out.1, ← HR2.out] at K2
      have HB := Lib.hid hB
      clear oB hB
      go_wp2_with fail
      refine K2.mono ?_
      rintro e w7 ⟨rfl, o7⟩
      obtain ⟨⟨⟨m2, st2, nm2, tu2⟩, c2, p2⟩, ok2⟩ := R2
      obtain rfl : ok2 = false := by simpa using HN2.out
      unfold infoV
      dsimp only
      replace HO := Lib.hid (HO.out.trans o7 (by simp))
      replace HB := Lib.hid (o7.heap HB.out (by simp))
      obtain ⟨st2', hst⟩ : ∃ x : Int, x = st2 := ⟨_, rfl⟩
      obtain ⟨nm2', hnm⟩ : ∃ x : Int, x = nm2 := ⟨_, rfl⟩
      rw [← hst, ← hnm]
      clear K2 o7 hst hnm HN2 HR2
      go_upto_region 15 with (fail)
      have oB := (Only.refl [] w7).alloc (.cells #[.int .i64 m2, .int .i64 st2', .int .i64 nm2', .bool tu2] 31)
      generalize w7.alloc (.cells #[.int .i64 m2, .int .i64 st2', .int .i64 nm2', .bool tu2] 31) = w8 at oB ⊢
      replace HO := Lib.hid (HO.out.trans oB (by simp))
      have hB := oB.heap HB.out (by simp)
      have b0 : w8.cell? ⟨w5.heap.size, 0, none⟩ = some (.int .i64 m) := cell_at 0 hB
      have hok := HOK.out
      clear oB hB HB HOK
      by_cases h5 : k < 5
      · have h5' : (k : Int) < 5 := by omega
        rw [decide_eq_true h5] at hok
        exfalso
        omega
      · have h5' : ¬ (k : Int) < 5 := by omega
        rw [decide_eq_false h5] at hok
        rw [if_neg (by decide), beq_iff_eq] at hok
        subst hok
        go_wp2_with fail
        go_ret
        exact ⟨rfl, HO.out⟩
    · have h11' : ¬ (11 : Int) ≤ (k : Int) := by omega
      by_cases h9 : 9 ≤ k
      · have h9' : (9 : Int) ≤ (k : Int) := by omega
        have hg : goodT k true true = (true == true) := by unfold goodT; rw [if_neg h11, if_pos h9]
        have hg : goodT k true true = true := hg
        have hok := HOK.out
        rw [hg] at hok
        clear HOK hg HGD
        have HOK := Lib.hid hok
        clear hok
        go_upto_region 11 with (fail)
        go_quiet ((go_at_call 20; exact quiet_more8 (WL.out _ _)))
        have hx3 : (w2.drewN nq).cell? ⟨w1.heap.size, k, none⟩ = some (.string D) := cell_kept (only_drewN (Only.refl [] w2)) hx (by simp)
        replace HO := Lib.hid (only_drewN (n := nq) HO.out)
        generalize w2.drewN nq = w3 at hx3 HO ⊢
        clear hx
        go_upto_region 12 with (fail)
        go_quiet ((go_at_call 20; exact quiet_more8 (WL.out _ _)))
        replace HO := Lib.hid (only_drewN (n := nq) HO.out)
        generalize w3.drewN nq = w4 at HO ⊢
        clear hx3
        obtain ⟨R, hR⟩ : ∃ R, R = chkS (txT k true true) := ⟨_, rfl⟩
        obtain ⟨R2, hR2⟩ : ∃ R, R = chkS (txU k true true) := ⟨_, rfl⟩
        have hok := HOK.out
        rw [← hR, ← hR2] at hok
        have K1 := checked_any T w4 HT.out.2
        rw [HT.out.1, ← hR] at K1
        have HR2 := Lib.hid hR2
        have HOK2 := Lib.hid hok
        clear HOK hok hR hR2 q1 q2 q3 q4 q5
        go_wp2_with fail
        refine K1.mono ?_
        rintro e w5 ⟨rfl, o5⟩
        have hok := HOK2.out
        obtain ⟨⟨⟨m, st, nm, tu⟩, c, p⟩, ok⟩ := R
        obtain ⟨hk1, hok⟩ := Bool.and_eq_true_iff.1 hok
        obtain ⟨hn2, hok⟩ := Bool.and_eq_true_iff.1 hok
        obtain rfl : ok = true := hk1
        dsimp only at hok
        unfold infoV
        dsimp only
        replace HO := Lib.hid (HO.out.trans o5 (by simp))
        obtain ⟨st', hst⟩ : ∃ x : Int, x = st := ⟨_, rfl⟩
        obtain ⟨nm', hnm⟩ : ∃ x : Int, x = nm := ⟨_, rfl⟩
        rw [← hst, ← hnm]
        have HN2 := Lib.hid hn2
        have HOK := Lib.hid hok
        clear K1 o5 HOK2 hok hst hnm hn2
        go_upto_region 14 with (fail)
        have oB := (Only.refl [] w5).alloc (.cells #[.int .i64 m, .int .i64 st', .int .i64 nm', .bool tu] 31)
        have hB := heap_new w5 (.cells #[.int .i64 m, .int .i64 st', .int .i64 nm', .bool tu] 31)
        generalize w5.alloc (.cells #[.int .i64 m, .int .i64 st', .int .i64 nm', .bool tu] 31) = w6 at oB hB ⊢
        replace HO := Lib.hid (HO.out.trans oB (by simp))
        have K2 := checked_any U w6 HU.out.2
        rw [HU.out.1, ← HR2.out] at K2
        have HB := Lib.hid hB
        clear oB hB
        go_wp2_with fail
        refine K2.mono ?_
        rintro e w7 ⟨rfl, o7⟩
        obtain ⟨⟨⟨m2, st2, nm2, tu2⟩, c2, p2⟩, ok2⟩ := R2
        obtain rfl : ok2 = false := by simpa using HN2.out
        unfold infoV
        dsimp only
        replace HO := Lib.hid (HO.out.trans o7 (by simp))
        replace HB := Lib.hid (o7.heap HB.out (by simp))
        obtain ⟨st2', hst⟩ : ∃ x : Int, x = st2 := ⟨_, rfl⟩
        obtain ⟨nm2', hnm⟩ : ∃ x : Int, x = nm2 := ⟨_, rfl⟩
        rw [← hst, ← hnm]
        clear K2 o7 hst hnm HN2 HR2
        go_upto_region 15 with (fail)
        have oB := (Only.refl [] w7).alloc (.cells #[.int .i64 m2, .int .i64 st2', .int .i64 nm2', .bool tu2] 31)
        generalize w7.alloc (.cells #[.int .i64 m2, .int .i64 st2', .int .i64 nm2', .bool tu2] 31) = w8 at oB ⊢
        replace HO := Lib.hid (HO.out.trans oB (by simp))
        have hB := oB.heap HB.out (by simp)
        have b0 : w8.cell? ⟨w5.heap.size, 0, none⟩ = some (.int .i64 m) := cell_at 0 hB
        have hok := HOK.out
        clear oB hB HB HOK
        by_cases h5 : k < 5
        · have h5' : (k : Int) < 5 := by omega
          rw [decide_eq_true h5] at hok
          exfalso
          omega
        · have h5' : ¬ (k : Int) < 5 := by omega
          rw [decide_eq_false h5] at hok
          rw [if_neg (by decide), beq_iff_eq] at hok
          subst hok
          go_wp2_with fail
          go_ret
          exact ⟨rfl, HO.out⟩
      · have h9' : ¬ (9 : Int) ≤ (k : Int) := by omega
        have hg : goodT k true true = (!true && !true) := by unfold goodT; rw [if_neg h11, if_neg h9]
        have hg : goodT k true true = false := hg
        have hok := HOK.out
        rw [hg] at hok
        clear HOK hg HGD
        have HOK := Lib.hid hok
        clear hok
        go_upto_region 11 with (fail)
        go_quiet ((go_at_call 20; exact quiet_more8 (WL.out _ _)))
        have hx3 : (w2.drewN nq).cell? ⟨w1.heap.size, k, none⟩ = some (.string D) := cell_kept (only_drewN (Only.refl [] w2)) hx (by simp)
        replace HO := Lib.hid (only_drewN (n := nq) HO.out)
        generalize w2.drewN nq = w3 at hx3 HO ⊢
        clear hx
        go_upto_region 12 with (fail)
        go_quiet ((go_at_call 20; exact quiet_more8 (WL.out _ _)))
        replace HO := Lib.hid (only_drewN (n := nq) HO.out)
        generalize w3.drewN nq = w4 at HO ⊢
        clear hx3
        obtain ⟨R, hR⟩ : ∃ R, R = chkS (txT k true true) := ⟨_, rfl⟩
        obtain ⟨R2, hR2⟩ : ∃ R, R = chkS (txU k true true) := ⟨_, rfl⟩
        have hok := HOK.out
        rw [← hR, ← hR2] at hok
        have K1 := checked_any T w4 HT.out.2
        rw [HT.out.1, ← hR] at K1
        have HR2 := Lib.hid hR2
        have HOK2 := Lib.hid hok
        clear HOK hok hR hR2 q1 q2 q3 q4 q5
        go_wp2_with fail
        refine K1.mono ?_
        rintro e w5 ⟨rfl, o5⟩
        have hok := HOK2.out
        obtain ⟨⟨⟨m, st, nm, tu⟩, c, p⟩, ok⟩ := R
        obtain ⟨hk1, hok⟩ := Bool.and_eq_true_iff.1 hok
        obtain ⟨hn2, hok⟩ := Bool.and_eq_true_iff.1 hok
        obtain rfl : ok = true := hk1
        dsimp only at hok
        unfold infoV
        dsimp only
        replace HO := Lib.hid (HO.out.trans o5 (by simp))
        obtain ⟨st', hst⟩ : ∃ x : Int, x = st := ⟨_, rfl⟩
        obtain ⟨nm', hnm⟩ : ∃ x : Int, x = nm := ⟨_, rfl⟩
        rw [← hst, ← hnm]
        have HN2 := Lib.hid hn2
        have HOK := Lib.hid hok
        clear K1 o5 HOK2 hok hst hnm hn2
        go_upto_region 14 with (fail)
        have oB := (Only.refl [] w5).alloc (.cells #[.int .i64 m, .int .i64 st', .int .i64 nm', .bool tu] 31)
        have hB := heap_new w5 (.cells #[.int .i64 m, .int .i64 st', .int .i64 nm', .bool tu] 31)
        generalize w5.alloc (.cells #[.int .i64 m, .int .i64 st', .int .i64 nm', .bool tu] 31) = w6 at oB hB ⊢
        replace HO := Lib.hid (HO.out.trans oB (by simp))
        have K2 := checked_any U w6 HU.out.2
        rw [HU.out.1, ← HR2.out] at K2
        have HB := Lib.hid hB
        clear oB hB
        go_wp2_with fail
        refine K2.mono ?_
        rintro e w7 ⟨rfl, o7⟩
        obtain ⟨⟨⟨m2, st2, nm2, tu2⟩, c2, p2⟩, ok2⟩ := R2
        obtain rfl : ok2 = false := by simpa using HN2.out
        unfold infoV
        dsimp only
        replace HO := Lib.hid (HO.out.trans o7 (by simp))
        replace HB := Lib.hid (o7.heap HB.out (by simp))
        obtain ⟨st2', hst⟩ : ∃ x : Int, x = st2 := ⟨_, rfl⟩
        obtain ⟨nm2', hnm⟩ : ∃ x : Int, x = nm2 := ⟨_, rfl⟩
        rw [← hst, ← hnm]
        clear K2 o7 hst hnm HN2 HR2
        go_upto_region 15 with (fail)
        have oB := (Only.refl [] w7).alloc (.cells #[.int .i64 m2, .int .i64 st2', .int .i64 nm2', .bool tu2] 31)
        generalize w7.alloc (.cells #[.int .i64 m2, .int .i64 st2', .int .i64 nm2', .bool tu2] 31) = w8 at oB ⊢
        replace HO := Lib.hid (HO.out.trans oB (by simp))
        have hB := oB.heap HB.out (by simp)
        have b0 : w8.cell? ⟨w5.heap.size, 0, none⟩ = some (.int .i64 m) := cell_at 0 hB
        have hok := HOK.out
        clear oB hB HB HOK
        by_cases h5 : k < 5
        · have h5' : (k : Int) < 5 := by omega
          rw [decide_eq_true h5] at hok
          rw [if_neg (by decide), beq_iff_eq] at hok
          subst hok
          go_wp2_with fail
          go_ret
          exact ⟨rfl, HO.out⟩
        · have h5' : ¬ (k : Int) < 5 := by omega
          rw [decide_eq_false h5] at hok
          rw [if_neg (by decide), beq_iff_eq] at hok
          subst hok
          go_wp2_with fail
          go_ret
          exact ⟨rfl, HO.out⟩

set_option maxRecDepth 100000 in
theorem ktypes_lifted (os : Os) (started : os.Started) (H : Type) (enc : TypeId × Value → H) :
    ReturnsInHanded {} Try.checked os 7 .any (Rows.checkTypesSpec.pre6 enc Try.prog Try.f7 Rows.checkTypesRow.domain false) (Rows.checkTypesSpec.post enc Try.prog Try.f7 false true false false) := by
  refine returnsInHanded_of_change (C := Try.checked) law_own started (by kernel_rfl) Try.func7
    (ChangeSpec.witness6 (enc := enc) (C := Try.checked) false ⟨#[], #[.int .i64 0, .bool false, .bool false], []⟩ 8 (by kernel_rfl) (by kernel_rfl) (by kernel_rfl) (by kernel_rfl)) ?_
  intro W base args ds gs before hval0 hW hcnd _
  have hval : ∀ (j : Nat) t v, Try.f7.params[j]? = some t → args[j]? = some v → Value.okWide Try.prog W .any base t v := hval0
  have hW' := hW
  obtain ⟨p, q, hA0, hV, rfl, hfz, hnd⟩ := hW
  have hA : DataW.TrodAll enc Try.prog W 0 (fun _ => true) true Try.f7.params.toList args.toList ds p := hA0
  rw [Try.params7] at hA hval
  obtain ⟨v0, vs0, d0, ds0, p0, q0, hargs, rfl, rfl, h0, r0⟩ := trodAll_cons hA
  obtain ⟨v1, vs1, d1, ds1, p1, q1, rfl, rfl, rfl, h1, r1⟩ := trodAll_cons r0
  obtain ⟨v2, vs2, d2, ds2, p2, q2, rfl, rfl, rfl, h2, r2⟩ := trodAll_cons r1
  obtain ⟨rfl, rfl, rfl⟩ := trodAll_nil r2
  obtain rfl : args = #[v0, v1, v2] := by cases args; simp_all
  obtain ⟨rfl, rfl⟩ := trodVars_none hV
  obtain ⟨a0, rfl, rfl, rfl, w0⟩ := open_int Try.underlying3 (hval 0 3 v0 rfl rfl) h0
  obtain ⟨a1, rfl, rfl, rfl⟩ := open_bool Try.underlying4 (hval 1 4 v1 rfl rfl) h1
  obtain ⟨a2, rfl, rfl, rfl⟩ := open_bool Try.underlying4 (hval 2 4 v2 rfl rfl) h2
  clear hA0 hval0
  refine (ktypes_walk a0 a1 a2  W w0).mono fun e W' ⟨he, hg⟩ => ?_
  subst he
  exact ⟨_, rfl, post_quiet (pa := ([] ++ ([] ++ ([] ++ [])))) (pv := []) hW' hg (fun _ _ _ => (trodAll_cons_mk (shut_bool Try.underlying4 _) trodAll_mk0)) (fun sp hsp => (trodAll_cons_mk (shut_int Try.underlying3 w0) (trodAll_cons_mk (shut_bool Try.underlying4 _) (trodAll_cons_mk (shut_bool Try.underlying4 _) trodAll_mk0)))) (fun _ _ => rfl) (by simp) (ok_one (by kernel_rfl) rfl (okWide_bool_mk Try.underlying4 _))⟩

theorem ktypes_over : Rows.checkTypesRow.holds Try.pinned (OpenSpec.ofChange Rows.checkTypesSpec) :=
  OpenClaim.holds_of_wide 7 Try.f7 rfl rfl rfl rfl rfl rfl rfl ⟨rfl, rfl, rfl, rfl, rfl⟩ rfl rfl rfl rfl rfl (by kernel_rfl) Try.func7 (by kernel_rfl)
    (of_decide_eq_true (by kernel_rfl)) (by unfold Func.isWrapper; first | (rw [if_pos (by decide +kernel)]; kernel_rfl) | (rw [if_neg (by decide +kernel)]; exact ⟨rfl, rfl⟩))
    (fun os started H enc _ => ktypes_lifted os started H enc)

/-- The statement. -/
theorem ktypes_holds : Rows.CheckTypesSaid :=
  ktypes_over
#print axioms ktypes_holds
end Go.Proofs.Ytjcpmfdgcomfgaa

/- VmLoops' code, told plainly: it is good just where its steps are 65536 at most; what it does, step by step. No program. -/
import Derived.Test.YtcebchffcmpfeaaGreatXft
namespace Go.Proofs.YtcebchffcmpfeaaGreat
open Go.RowKit Go.Maps
set_option linter.unusedSimpArgs false
set_option linter.unusedVariables false

def hdI : Nat → List Ins | 0 => [] | k + 1 => hdI k ++ [(1, 0), (3, (k : Int))]
def tlI (m : Nat) : Nat → List Ins | 0 => [] | r + 1 => tlI m r ++ [(14, ((m - 1 - r : Nat) : Int))]
def bdI : List Ins := [(1, 3), (1, 1), (6, 0)]
/-- The i-th loop, when the ends of the last r loops are laid. -/
def lpV (ns : List Nat) (r i : Nat) : Lp := ⟨(i : Int), ((ns.getD i 0 : Nat) : Int), ((2 * (i + 1) : Nat) : Int), if ns.length ≤ i + r then ((2 * ns.length + 3 + (ns.length - 1 - i) : Nat) : Int) else 0⟩
def lpsV (ns : List Nat) (r k : Nat) : List Lp := (List.range k).map (lpV ns r)
def cdV (ns : List Nat) : Cd := ⟨0, (ns.length : Int), hdI ns.length ++ bdI ++ tlI ns.length ns.length, lpsV ns ns.length ns.length⟩
def prV : List Nat → Nat | [] => 1 | n :: ns => n * prV ns
def cstV : List Nat → Nat | [] => 3 | n :: ns => 2 + n * (cstV ns + 1)
/-- What the law counts. -/
def totA (ns : List Nat) : Nat → Nat | 0 => 0 | k + 1 => totA ns k + prV (ns.take k) * 2
def totB (ns : List Nat) : Nat → Nat | 0 => totA ns ns.length + prV ns * 3 | r + 1 => totB ns r + prV (ns.take (ns.length - r))
theorem prV_snoc : ∀ (l : List Nat) (n : Nat), prV (l ++ [n]) = prV l * n
  | [], n => by simp [prV]
  | x :: l, n => by show x * prV (l ++ [n]) = x * prV l * n; rw [prV_snoc l n, Nat.mul_assoc]
theorem prV_take {ns : List Nat} {k : Nat} (h : k < ns.length) : prV (ns.take (k + 1)) = prV (ns.take k) * ns.getD k 0 := by
  rw [List.take_add_one, List.getElem?_eq_getElem h]
  show prV (ns.take k ++ [ns[k]]) = _
  rw [prV_snoc]
  congr 1
  simp [List.getD, h]
theorem prV_pos : ∀ {l : List Nat}, (∀ n ∈ l, 1 ≤ n) → 1 ≤ prV l
  | [], _ => Nat.le_refl _
  | x :: l, h => by
    have h1 := prV_pos (fun n hn => h n (List.mem_cons_of_mem _ hn)) (l := l)
    have h2 := h x (by simp)
    exact Nat.mul_le_mul h2 h1
theorem prV_le : ∀ {l : List Nat}, (∀ n ∈ l, n ≤ 64) → prV l ≤ 64 ^ l.length
  | [], _ => Nat.le_refl _
  | x :: l, h => by
    have h1 := prV_le (fun n hn => h n (List.mem_cons_of_mem _ hn)) (l := l)
    have h2 := h x (by simp)
    have := Nat.mul_le_mul h2 h1
    show x * prV l ≤ 64 ^ (l.length + 1)
    rw [Nat.pow_succ, Nat.mul_comm (64 ^ l.length)]
    exact this
theorem prV_few {l : List Nat} (h : ∀ n ∈ l, n ≤ 64) (hl : l.length ≤ 5) : prV l ≤ 1073741824 := by
  have := prV_le h
  have : 64 ^ l.length ≤ 64 ^ 5 := Nat.pow_le_pow_right (by omega) hl
  have e : (64 : Nat) ^ 5 = 1073741824 := by decide
  omega
theorem totB_all (ns : List Nat) (h : ns.length ≤ 5) : totB ns ns.length = cstV ns := by
  match ns, h with
  | [], _ => rfl
  | [a], _ => simp [totB, totA, cstV, prV]; omega
  | [a, b], _ => simp [totB, totA, cstV, prV, Nat.mul_add, ← Nat.mul_assoc]; omega
  | [a, b, c], _ => simp [totB, totA, cstV, prV, Nat.mul_add, ← Nat.mul_assoc]; omega
  | [a, b, c, d], _ => simp [totB, totA, cstV, prV, Nat.mul_add, ← Nat.mul_assoc]; omega
  | [a, b, c, d, e], _ => simp [totB, totA, cstV, prV, Nat.mul_add, ← Nat.mul_assoc]; omega
/-! ### good just where the steps are few -/
def sumN : List Nat → Nat | [] => 0 | x :: l => x + sumN l
theorem sumN_append : ∀ (l m : List Nat), sumN (l ++ m) = sumN l + sumN m
  | [], m => by simp [sumN]
  | x :: l, m => by show x + sumN (l ++ m) = _; rw [sumN_append l m]; show _ = x + sumN l + sumN m; omega
def cntL (t : Int) : List Nat → List Int | [] => [t, t, t] | n :: ns => t :: t :: (cntL (min (t * (n : Int)) 65537) ns ++ [min (t * (n : Int)) 65537])
def cntU (x : Nat) : List Nat → List Nat | [] => [x, x, x] | n :: ns => x :: x :: (cntU (x * n) ns ++ [x * n])
def capN (x : Nat) : Nat := min x 65537
theorem cntU_sum : ∀ (ns : List Nat) (x : Nat), sumN (cntU x ns) = x * cstV ns
  | [], x => by show x + (x + (x + 0)) = x * 3; omega
  | n :: ns, x => by
    show x + (x + sumN (cntU (x * n) ns ++ [x * n])) = x * (2 + n * (cstV ns + 1))
    rw [sumN_append, cntU_sum ns (x * n)]
    show x + (x + (x * n * cstV ns + (x * n + 0))) = _
    rw [Nat.mul_add, Nat.mul_add, Nat.mul_add, Nat.mul_assoc, Nat.mul_one]
    omega
theorem cap_mul {x n : Nat} (hn : 1 ≤ n) : min (((capN x : Nat) : Int) * (n : Int)) 65537 = ((capN (x * n) : Nat) : Int) := by
  unfold capN
  by_cases h : x ≤ 65537
  · rw [Nat.min_eq_left h, ← Int.natCast_mul]
    omega
  · have h1 : x ≤ x * n := Nat.le_mul_of_pos_right x hn
    rw [Nat.min_eq_right (by omega), Nat.min_eq_right (by omega), ← Int.natCast_mul]
    have : 65537 ≤ 65537 * n := Nat.le_mul_of_pos_right _ hn
    omega
theorem cntL_cap : ∀ (ns : List Nat) (x : Nat), (∀ n ∈ ns, 1 ≤ n) → cntL ((capN x : Nat) : Int) ns = (cntU x ns).map fun y => ((capN y : Nat) : Int)
  | [], x, _ => rfl
  | n :: ns, x, h => by
    show _ :: _ :: _ = _
    rw [cap_mul (h n (by simp)), cntL_cap ns (x * n) (fun k hk => h k (List.mem_cons_of_mem _ hk))]
    simp [cntU]
theorem fold_sum : ∀ (l : List Nat) (a : Nat), (l.map fun y => ((capN y : Nat) : Int)).foldl (· + ·) (a : Int) = ((a + sumN (l.map capN) : Nat) : Int)
  | [], a => by simp [sumN]
  | x :: l, a => by
    show (l.map fun y => ((capN y : Nat) : Int)).foldl (· + ·) ((a : Int) + ((capN x : Nat) : Int)) = ((a + (capN x + sumN (l.map capN)) : Nat) : Int)
    rw [← Int.natCast_add, fold_sum l (a + capN x), Nat.add_assoc]
theorem cap_sum : ∀ (l : List Nat), (sumN (l.map capN) ≤ 65536 ∨ sumN l ≤ 65536) → sumN (l.map capN) = sumN l
  | [], _ => rfl
  | x :: l, h => by
    have h' : capN x + sumN (l.map capN) ≤ 65536 ∨ x + sumN l ≤ 65536 := h
    have hc : capN x = x := by unfold capN at h' ⊢; omega
    have := cap_sum l (by omega)
    show capN x + sumN (l.map capN) = x + sumN l
    omega
theorem steps_cnt : ∀ (ns : List Nat), ns.length ≤ 5 → iH (cdV ns) = (cntL 1 ns).foldl (· + ·) 0
  | [], _ => by kernel_rfl
  | [a], _ => by kernel_rfl
  | [a, b], _ => by kernel_rfl
  | [a, b, c], _ => by kernel_rfl
  | [a, b, c, d], _ => by kernel_rfl
  | [a, b, c, d, e], _ => by kernel_rfl
theorem steps_le {ns : List Nat} (h : ns.length ≤ 5) (hn : ∀ n ∈ ns, 1 ≤ n) : decide (iH (cdV ns) ≤ 65536) = decide (cstV ns ≤ 65536) := by
  have e : iH (cdV ns) = ((sumN ((cntU 1 ns).map capN) : Nat) : Int) := by
    rw [steps_cnt ns h]
    have := cntL_cap ns 1 hn
    rw [show ((capN 1 : Nat) : Int) = 1 by rfl] at this
    rw [this]
    have := fold_sum (cntU 1 ns) 0
    rw [show ((0 : Nat) : Int) = 0 by rfl] at this
    rw [this, Nat.zero_add]
  have e2 := cntU_sum ns 1
  rw [Nat.one_mul] at e2
  rw [e, decide_eq_decide, ← e2]
  constructor
  · intro h
    have := cap_sum (cntU 1 ns) (.inl (by omega))
    omega
  · intro h
    have := cap_sum (cntU 1 ns) (.inr h)
    omega
theorem shape_v : ∀ (ns : List Nat), ns.length ≤ 5 → (fitC (cdV ns) && jR (cdV ns) && headC (cdV ns) && fH (cdV ns).loops && rD (cdV ns) && jT (cdV ns)) = true
  | [], _ => by kernel_rfl
  | [a], _ => by kernel_rfl
  | [a, b], _ => by kernel_rfl
  | [a, b, c], _ => by kernel_rfl
  | [a, b, c, d], _ => by kernel_rfl
  | [a, b, c, d, e], _ => by kernel_rfl
theorem hdI_len : ∀ k, (hdI k).length = 2 * k
  | 0 => rfl
  | k + 1 => by show (hdI k ++ _).length = _; rw [List.length_append, hdI_len k]; rfl
theorem tlI_len (m : Nat) : ∀ r, (tlI m r).length = r
  | 0 => rfl
  | r + 1 => by show (tlI m r ++ _).length = _; rw [List.length_append, tlI_len m r]; rfl
theorem cdV_len (ns : List Nat) : (cdV ns).ins.length = 3 * ns.length + 3 := by
  show (hdI ns.length ++ bdI ++ tlI ns.length ns.length).length = _
  rw [List.length_append, List.length_append, hdI_len, tlI_len]
  show 2 * ns.length + 3 + ns.length = _
  omega
theorem loops_v {ns : List Nat} (h : ∀ n ∈ ns, 1 ≤ n ∧ n ≤ 64) : nK (cdV ns) = true := by
  refine List.all_eq_true.2 fun l hl => ?_
  obtain ⟨i, hi, rfl⟩ := List.mem_map.1 hl
  have hi' : i < ns.length := by simpa using hi
  have hn := h ns[i] (List.getElem_mem hi')
  have e : ns.getD i 0 = ns[i] := by simp [List.getD, hi']
  have hlen := cdV_len ns
  unfold lpOk wG
  rw [hlen]
  simp only [lpV, e, if_pos (show ns.length ≤ i + ns.length by omega), Bool.and_eq_true, decide_eq_true_eq, cdV]
  omega
theorem good_v {ns : List Nat} (h : ns.length ≤ 5) (hn : ∀ n ∈ ns, 1 ≤ n ∧ n ≤ 64) : em (cdV ns) = decide (cstV ns ≤ 65536) := by
  have h1 := shape_v ns h
  simp only [Bool.and_eq_true] at h1
  obtain ⟨⟨⟨⟨⟨a1, a2⟩, a3⟩, a4⟩, a5⟩, a6⟩ := h1
  unfold em
  rw [a1, a2, a3, a4, a5, a6, loops_v hn, steps_le h (fun n hk => (hn n hk).1)]
  rfl
/-! ### what it does -/
theorem run1 {c : Cd} {f : Nat} {s : Mc} {i : Ins} (h : c.ins[s.at_]? = some i) (h2 : i.1 ≠ 15) : rE c (f + 1) s = rE c f (doM c i (nxM s)) := by
  rw [rE, h]
  simp [h2]
theorem do1 (c : Cd) (x : Int) (s : Mc) : doM c (1, x) s = { s with st := x :: s.st } := by simp [doM]
theorem do3 (c : Cd) (x : Int) (s : Mc) : doM c (3, x) s = { s with st := s.st.tail, lo := s.lo.set x.toNat (s.st.headD 0) } := by simp [doM]
theorem do6 (c : Cd) (x : Int) (s : Mc) : doM c (6, x) s = { s with st := s.st.tail.tail, pg := tY 3 s.pg (s.st.tail.headD 0) (s.st.headD 0) } := by simp [doM]
theorem do14 (c : Cd) (x : Int) (s : Mc) : doM c (14, x) s =
    { s with lo := s.lo.set (lpA c x).loc.toNat (s.lo.getD (lpA c x).loc.toNat 0 + 1), at_ := if s.lo.getD (lpA c x).loc.toNat 0 + 1 < (lpA c x).n then (lpA c x).fr.toNat else s.at_ } := by simp [doM]
theorem hdI_at : ∀ {k i : Nat}, i < k → (hdI k)[2 * i]? = some (1, 0) ∧ (hdI k)[2 * i + 1]? = some (3, (i : Int))
  | k + 1, i, h => by
    have hl := hdI_len k
    by_cases e : i = k
    · subst e
      constructor
      · show (hdI i ++ _)[_]? = _
        rw [List.getElem?_append_right (by omega), hl, Nat.sub_self]
        rfl
      · show (hdI i ++ _)[_]? = _
        rw [List.getElem?_append_right (by omega), hl, show 2 * i + 1 - 2 * i = 1 by omega]
        rfl
    · obtain ⟨h1, h2⟩ := hdI_at (k := k) (i := i) (by omega)
      exact ⟨by show (hdI k ++ _)[_]? = _; rw [List.getElem?_append_left (by omega)]; exact h1, by show (hdI k ++ _)[_]? = _; rw [List.getElem?_append_left (by omega)]; exact h2⟩
theorem tlI_at {m : Nat} : ∀ {r i : Nat}, i < r → (tlI m r)[i]? = some (14, ((m - 1 - i : Nat) : Int))
  | r + 1, i, h => by
    have hl := tlI_len m r
    show (tlI m r ++ _)[_]? = _
    by_cases e : i = r
    · subst e
      rw [List.getElem?_append_right (by omega), hl, Nat.sub_self]
      rfl
    · rw [List.getElem?_append_left (by omega)]
      exact tlI_at (by omega)
theorem cdV_hd {ns : List Nat} {j : Nat} (h : j < ns.length) : (cdV ns).ins[2 * j]? = some (1, 0) ∧ (cdV ns).ins[2 * j + 1]? = some (3, (j : Int)) := by
  have hl := hdI_len ns.length
  obtain ⟨h1, h2⟩ := hdI_at h
  constructor
  · show (hdI ns.length ++ bdI ++ _)[_]? = _
    rw [List.getElem?_append_left (by rw [List.length_append]; omega), List.getElem?_append_left (by omega)]
    exact h1
  · show (hdI ns.length ++ bdI ++ _)[_]? = _
    rw [List.getElem?_append_left (by rw [List.length_append]; omega), List.getElem?_append_left (by omega)]
    exact h2
theorem cdV_bd {ns : List Nat} {i : Nat} (h : i < 3) : (cdV ns).ins[2 * ns.length + i]? = bdI[i]? := by
  have hl := hdI_len ns.length
  have h3 : bdI.length = 3 := rfl
  show (hdI ns.length ++ bdI ++ _)[_]? = _
  rw [List.getElem?_append_left (by rw [List.length_append]; omega), List.getElem?_append_right (by omega), hl, show 2 * ns.length + i - 2 * ns.length = i by omega]
theorem cdV_tl {ns : List Nat} {j : Nat} (h : j < ns.length) : (cdV ns).ins[2 * ns.length + 3 + (ns.length - (j + 1))]? = some (14, (j : Int)) := by
  have hl := hdI_len ns.length
  have h3 : bdI.length = 3 := rfl
  show (hdI ns.length ++ bdI ++ _)[_]? = _
  rw [List.getElem?_append_right (by rw [List.length_append]; omega), List.length_append, hl, h3, show 2 * ns.length + 3 + (ns.length - (j + 1)) - (2 * ns.length + 3) = ns.length - (j + 1) by omega, tlI_at (by omega)]
  rw [show ns.length - 1 - (ns.length - (j + 1)) = j by omega]
theorem lpA_v {ns : List Nat} {j : Nat} (h : j < ns.length) : lpA (cdV ns) (j : Int) = lpV ns ns.length j := by
  show ((List.range ns.length).map (lpV ns ns.length)).getD ((j : Int)).toNat _ = _
  rw [Int.toNat_natCast]
  simp [List.getD, h]
theorem set_getD {l : List Int} {j : Nat} {x : Int} (h : j < l.length) : (l.set j x).getD j 0 = x := by
  rw [List.getD, List.getElem?_set_self h]
  rfl
theorem set_getD_ne {l : List Int} {i j : Nat} {x : Int} (h : j ≠ i) : (l.set j x).getD i 0 = l.getD i 0 := by
  rw [List.getD, List.getElem?_set_ne h, List.getD]
/-- From the head of the j-th loop to behind it. -/
def EndsV (ns : List Nat) (j C P : Nat) : Prop := ∀ (s : Mc) (v : Nat), s.at_ = 2 * j → s.st = [] → s.lo.length = 64 → s.pg.length = 60 → s.pg.getD 3 0 = (v : Int) → v + P ≤ 4611686018427387904 →
  ∃ lo', lo'.length = 64 ∧ (∀ i, i < j → lo'.getD i 0 = s.lo.getD i 0) ∧ ∀ f, rE (cdV ns) (f + C) s = rE (cdV ns) f { s with pg := s.pg.set 3 ((v + P : Nat) : Int), lo := lo', at_ := 2 * ns.length + 3 + (ns.length - j), n := s.n + C }
theorem ends_body (ns : List Nat) : EndsV ns ns.length 3 1 := by
  intro s v ha hs hl hp hv hb
  refine ⟨s.lo, hl, fun _ _ => rfl, fun f => ?_⟩
  have b0 : (cdV ns).ins[s.at_]? = some (1, 3) := by rw [ha]; exact cdV_bd (i := 0) (by omega)
  have b1 : (cdV ns).ins[s.at_ + 1]? = some (1, 1) := by rw [ha]; exact cdV_bd (i := 1) (by omega)
  have b2 : (cdV ns).ins[s.at_ + 1 + 1]? = some (6, 0) := by rw [ha]; exact cdV_bd (i := 2) (by omega)
  rw [show f + 3 = f + 1 + 1 + 1 from rfl, run1 b0 (by decide), do1, run1 (s := { nxM s with st := 3 :: (nxM s).st }) (i := (1, 1)) b1 (by decide), do1]
  rw [run1 (i := (6, 0)) b2 (by decide), do6]
  have hg : gU s.pg 3 = (v : Int) := by unfold gU; rw [if_pos (by omega)]; exact hv
  have e : tY 3 s.pg 3 1 = s.pg.set 3 ((v + 1 : Nat) : Int) := by
    unfold tY
    rw [if_pos (by decide), if_neg (by decide), if_pos rfl, hg]
    congr 1
    unfold wrap64
    omega
  simp only [nxM, hs, List.tail_cons, List.headD_cons, e, ha, Nat.sub_self, Nat.add_zero]
theorem ends_loop {ns : List Nat} (hn : ∀ n ∈ ns, 1 ≤ n ∧ n ≤ 64) (h5 : ns.length ≤ 5) {j C P n : Nat} (h : j < ns.length) (hq : ns.getD j 0 = n) (H : EndsV ns (j + 1) C P) : EndsV ns j (2 + n * (C + 1)) (n * P) := by
  have rounds : ∀ (q : Nat), q < n → ∀ (s : Mc) (v : Nat), s.at_ = 2 * (j + 1) → s.st = [] → s.lo.length = 64 → s.pg.length = 60 → s.pg.getD 3 0 = (v : Int) → v + (q + 1) * P ≤ 4611686018427387904 → s.lo.getD j 0 = ((n - (q + 1) : Nat) : Int) →
      ∃ lo', lo'.length = 64 ∧ (∀ i, i < j → lo'.getD i 0 = s.lo.getD i 0) ∧ ∀ f, rE (cdV ns) (f + (q + 1) * (C + 1)) s = rE (cdV ns) f { s with pg := s.pg.set 3 ((v + (q + 1) * P : Nat) : Int), lo := lo', at_ := 2 * ns.length + 3 + (ns.length - j), n := s.n + (q + 1) * (C + 1) } := by
    intro q
    induction q with
    | zero =>
      intro hqn s v ha hs hl hp hv hb hj
      obtain ⟨lo1, l1, k1, r1⟩ := H s v ha hs hl hp hv (by omega)
      have hj1 := k1 j (by omega)
      rw [hj] at hj1
      refine ⟨lo1.set j ((n : Nat) : Int), by simpa using l1, fun i hi => ?_, fun f => ?_⟩
      · rw [← k1 i (by omega)]
        exact set_getD_ne (by omega)
      · rw [show f + (0 + 1) * (C + 1) = f + 1 + C by omega, r1 (f + 1), run1 (i := (14, (j : Int))) (cdV_tl h) (by show (14 : Int) ≠ 15; decide), do14, lpA_v h]
        simp only [lpV, nxM, Int.toNat_natCast, hq, hj1]
        rw [show ((n - (0 + 1) : Nat) : Int) + 1 = (n : Int) by omega, if_neg (by omega)]
        congr 2
        · simp
        · omega
        · omega
    | succ q ih =>
      intro hqn s v ha hs hl hp hv hb hj
      have hm : (q + 1 + 1) * P = (q + 1) * P + P := Nat.succ_mul _ _
      have hm2 : (q + 1 + 1) * (C + 1) = (q + 1) * (C + 1) + (C + 1) := Nat.succ_mul _ _
      obtain ⟨lo1, l1, k1, r1⟩ := H s v ha hs hl hp hv (by omega)
      have hj1 := k1 j (by omega)
      rw [hj] at hj1
      obtain ⟨lo2, l2, k2, r2⟩ := ih (by omega) { s with pg := s.pg.set 3 ((v + P : Nat) : Int), lo := lo1.set j ((n - (q + 1) : Nat) : Int), at_ := 2 * (j + 1), n := s.n + C + 1 } (v + P) rfl hs (by simpa using l1) (by simpa using hp) (set_getD (by omega)) (by omega) (set_getD (by omega))
      refine ⟨lo2, l2, fun i hi => ?_, fun f => ?_⟩
      · rw [k2 i hi, ← k1 i (by omega)]
        exact set_getD_ne (by omega)
      · rw [show f + (q + 1 + 1) * (C + 1) = f + (q + 1) * (C + 1) + 1 + C by omega, r1 (f + (q + 1) * (C + 1) + 1), run1 (i := (14, (j : Int))) (cdV_tl h) (by show (14 : Int) ≠ 15; decide), do14, lpA_v h]
        simp only [lpV, nxM, Int.toNat_natCast, hq, hj1]
        rw [show ((n - (q + 1 + 1) : Nat) : Int) + 1 = ((n - (q + 1) : Nat) : Int) by omega, if_pos (by omega), r2 f]
        congr 2
        · simp only [List.set_set]
          congr 1
          omega
        · show s.n + C + 1 + (q + 1) * (C + 1) = s.n + (q + 1 + 1) * (C + 1)
          omega
  intro s v ha hs hl hp hv hb
  have hn1 : 1 ≤ n := by
    have := hn ns[j] (List.getElem_mem h)
    have e : ns.getD j 0 = ns[j] := by simp [List.getD, h]
    omega
  obtain ⟨q, rfl⟩ : ∃ q, n = q + 1 := ⟨n - 1, by omega⟩
  obtain ⟨b0, b1⟩ := cdV_hd h
  obtain ⟨lo1, l1, k1, r1⟩ := rounds q (by omega) { s with lo := s.lo.set j 0, at_ := 2 * (j + 1), n := s.n + 2 } v rfl hs (by simpa using hl) hp hv hb (by rw [set_getD (by omega)]; omega)
  refine ⟨lo1, l1, fun i hi => ?_, fun f => ?_⟩
  · rw [k1 i hi]
    exact set_getD_ne (by omega)
  · have b0' : (cdV ns).ins[s.at_]? = some (1, 0) := by rw [ha]; exact b0
    have b1' : (cdV ns).ins[s.at_ + 1]? = some (3, (j : Int)) := by rw [ha]; exact b1
    rw [show f + (2 + (q + 1) * (C + 1)) = f + (q + 1) * (C + 1) + 1 + 1 by omega, run1 b0' (by decide), do1, run1 (s := { nxM s with st := 0 :: (nxM s).st }) (i := (3, (j : Int))) b1' (by show (3 : Int) ≠ 15; decide), do3]
    have r := r1 f
    simp only [nxM, hs, List.tail_cons, List.headD_cons, Int.toNat_natCast, ha]
    rw [show 2 * j + 1 + 1 = 2 * (j + 1) by omega]
    rw [show s.n + 1 + 1 = s.n + 2 from rfl]
    have e : ({ s with st := [], lo := s.lo.set j 0, at_ := 2 * (j + 1), n := s.n + 2 } : Mc) = { s with lo := s.lo.set j 0, at_ := 2 * (j + 1), n := s.n + 2 } := by rw [← hs]
    rw [e, r]
    congr 2
    show s.n + 2 + (q + 1) * (C + 1) = _
    omega
theorem ends_v {ns : List Nat} (hn : ∀ n ∈ ns, 1 ≤ n ∧ n ≤ 64) (h5 : ns.length ≤ 5) : ∀ d j, j + d = ns.length → EndsV ns j (cstV (ns.drop j)) (prV (ns.drop j))
  | 0, j, h => by
    obtain rfl : j = ns.length := by omega
    rw [List.drop_length]
    exact ends_body ns
  | d + 1, j, h => by
    have hj : j < ns.length := by omega
    have H := ends_v hn h5 d (j + 1) (by omega)
    have e : ns.drop j = ns[j] :: ns.drop (j + 1) := List.drop_eq_getElem_cons hj
    rw [e]
    exact ends_loop hn h5 hj (by simp [List.getD, hj]) H
/-- What Run and Steps answer of that code. -/
theorem go_v {ns : List Nat} (hn : ∀ n ∈ ns, 1 ≤ n ∧ n ≤ 64) (h5 : ns.length ≤ 5) :
    (cstV ns ≤ 65536 → j6 0 (cdV ns) blankP [] = (0 :: blankP.set 3 (prV ns : Int), 0, .nilIface) ∧ qt (cdV ns) blankP [] = ((cstV ns : Int), .nilIface)) ∧
    (65536 < cstV ns → j6 0 (cdV ns) blankP [] = (0 :: blankP, 0, err 13) ∧ qt (cdV ns) blankP [] = (0, err 13)) := by
  have hg := good_v h5 hn
  refine ⟨fun h => ?_, fun h => ?_⟩
  · rw [decide_eq_true h] at hg
    have hp := prV_few (fun n hk => (hn n hk).2) h5
    obtain ⟨lo, -, -, hr⟩ := ends_v hn h5 ns.length 0 (by omega) (inM blankP []) 0 rfl rfl rfl rfl rfl (by rw [List.drop_zero]; omega)
    rw [List.drop_zero] at hr
    have e := hr (65536 - cstV ns)
    rw [show 65536 - cstV ns + cstV ns = 65536 by omega] at e
    have hend : ∀ (f : Nat) (s : Mc), s.at_ = 2 * ns.length + 3 + (ns.length - 0) → rE (cdV ns) f s = (s, true) := by
      intro f s hs
      have hi : (cdV ns).ins[s.at_]? = none := by
        rw [List.getElem?_eq_none_iff, cdV_len, hs]
        omega
      cases f with
      | zero => rw [rE]
      | succ f => rw [rE, hi]
    have ec : oY (cdV ns) blankP [] = _ := e.trans (hend _ _ rfl)
    refine ⟨?_, ?_⟩
    · unfold j6
      rw [if_neg (by rw [hg]; decide), if_neg (by simp [cdV]), ec, if_pos rfl, Nat.zero_add]
      rfl
    · unfold qt
      rw [if_neg (by rw [hg]; decide), if_neg (by simp [cdV]), ec]
      show (((0 + cstV ns : Nat) : Int), Value.nilIface) = _
      rw [Nat.zero_add]
  · rw [decide_eq_false (by omega)] at hg
    unfold j6 qt
    rw [if_pos hg, if_pos hg]
    exact ⟨rfl, rfl⟩
end Go.Proofs.YtcebchffcmpfeaaGreat

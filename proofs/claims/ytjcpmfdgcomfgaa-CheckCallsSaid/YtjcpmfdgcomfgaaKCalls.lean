/- CheckCalls, for every input: it returns true, and its arguments read behind the call as they did: as many arguments as parameters, and eight parameters at most. No condition. -/
import Derived.Test.YtjcpmfdgcomfgaaKa
import Derived.Test.YtjcpmfdgcomfgaaC10
import Derived.Test.YtjcpmfdgcomfgaaL
import Derived.Test.YtjcpmfdgcomfgaaS2
import Derived.Test.YtjcpmfdgcomfgaaNum
import Derived.Test.YtjcpmfdgcomfgaaW2
import Derived.ChangeMaps5
namespace Go.Proofs.Ytjcpmfdgcomfgaa
open Go.ChangeShapes Go.WideShapes Go.ChangeAt Go.RowKit Go.Maps
set_option linter.unusedVariables false
set_option linter.unusedSimpArgs false

theorem mod_nat7 (m : Nat) (h0 : 1 ≤ m) (h1 : m ≤ 4096) (x : Int) : ∃ n : Nat, n < m ∧ IntKind.i64.wrap ((IntKind.u64.wrap x).tmod m) = (n : Int) := by
  have h : 0 ≤ IntKind.u64.wrap x := by rw [IntKind.wrap_u64]; omega
  rw [Int.tmod_eq_emod_of_nonneg h]
  have a := Int.emod_nonneg (IntKind.u64.wrap x) (show (m : Int) ≠ 0 by omega)
  have b := Int.emod_lt_of_pos (IntKind.u64.wrap x) (show (0 : Int) < m by omega)
  generalize (IntKind.u64.wrap x) % (m : Int) = y at a b
  refine ⟨y.toNat, by omega, ?_⟩
  rw [IntKind.wrap_i64]
  omega
/-- The names p0, p1, .. -/
def pnm (k : Nat) : List Sec := (List.range k).map fun i => [112, UInt8.ofNat (48 + i)]
def dfC (k : Nat) : Df := ⟨[111], pnm k, [], [], []⟩
def okCalls (k : Nat) : Bool := ((chkD (dfC k)).2.1 == 15) == decide (8 < k) && (chkD (dfC k)).2.2 == 0
theorem calls_all : (List.range 10).all okCalls = true := by kernel_rfl
theorem pnm_len (k : Nat) : (pnm k).length = k := by simp [pnm]
theorem pnm_snoc (k : Nat) : pnm (k + 1) = pnm k ++ [[112, UInt8.ofNat (48 + k)]] := by simp [pnm, List.range_succ]
theorem dfC_whole {k : Nat} (hk : k < 10) : Whole (dfC k) := by
  refine ⟨wL_nil, wB_nil, wL_nil, by show 0 ≤ 1; omega, ?_, fun nm hm => ?_, ?_⟩
  · show sizeL [] + sizeSs [] + sizeL [] ≤ 480
    rw [sizeL_nil, sizeSs_nil]
    omega
  · obtain ⟨i, _, rfl⟩ := List.mem_map.1 hm
    simp
  · show (pnm k).length ≤ 480
    rw [pnm_len]
    omega
section
variable {w : World} {o : Oper} {ops : Array Oper} {a : Act} {Q : Ending → World → Prop}
theorem step_append_nm {K : Act → World → Prop} {E : Prop} {Q : Exit → Act → World → Prop} (hg : o.guard = none) (s x : Operand) (hop : o.op = Op.call { callee := Callee.builtin Builtin.append, args := #[s, x], argTypes := #[23, 23] })
    (base : Nat) (v : Value) (l : List Sec) (hs : a.eval s = v) (hown : ONm w base v l) (bx capx : Nat) (hx : a.eval x = .slice (some ⟨bx, 0, none⟩) 1 capx) (y : Sec) (h0 : w.cell? ⟨bx, 0, none⟩ = some (.string (strOf y))) (hn : l.length ≤ 1048576) (hb : base ≤ w.heap.size)
    (hK : ∀ a' cap w', ONm w' base (.slice a' (l.length + 1) cap) (l ++ [y]) → Only v.ownBlock.toList w w' → K (a.put o.dst (.slice a' (l.length + 1) cap)) w') :
    if Region.wanted o (yielded ops a.tmps) = true then Oper.wp Try.prog o a w K Q else E := by
  have hw : Region.wanted o (yielded ops a.tmps) = true := by simp [Region.wanted, hg]
  rw [if_pos hw]
  obtain ⟨a', cap, w', hrun, h1, h2⟩ := run_append_nm base o.type v l hown bx capx y h0 hn hb
  unfold Oper.wp
  simp [execOp, hop, resolve, invoke, builtin, hs, hx, hrun, Result.andThen]
  exact hK a' cap w' h1 h2
end
set_option maxRecDepth 100000 in
set_option maxHeartbeats 4000000 in
theorem calls_eq (m n : Nat) (w : World) (a : Option Addr) (c : Nat) (a2 : Option Addr) (c2 : Nat) (s : ByteArray) (a3 a4 a5 : Option Addr) (l3 l4 l5 c3 c4 c5 : Nat) :
    Calls Try.prog 21 #[.agg #[.string s, .slice a m c, .slice a3 l3 c3, .slice a4 l4 c4, .slice a5 l5 c5], .slice a2 n c2] w fun e w' => e = .returned (if n = m then .nilIface else err 2) ∧ Only [] w w' := by
  by_cases h : n = m
  · have h' : ((n : Int) != (m : Int)) = false := by simp [h]
    rw [if_pos h]
    clear h
    go_enter Try.func21, Try.ntmps21
    go_wp2_with fail
    go_ret
    exact ⟨rfl, (Only.refl [] w).alloc _⟩
  · have h' : ((n : Int) != (m : Int)) = true := by simp; omega
    rw [if_neg h]
    clear h
    go_enter Try.func21, Try.ntmps21
    go_wp2_with fail
    go_ret
    exact ⟨rfl, (Only.refl [] w).alloc _⟩
theorem e2_nil (w : World) : (binOp .eql 53 (err 2) .nilIface).run Try.prog w = .ok (.bool false) w := by kernel_rfl
theorem e2_e2 (w : World) : (binOp .eql 53 (err 2) (err 2)).run Try.prog w = .ok (.bool true) w := by kernel_rfl
theorem nil_nil (w : World) : (binOp .eql 53 .nilIface .nilIface).run Try.prog w = .ok (.bool true) w := by kernel_rfl
set_option maxRecDepth 100000 in
set_option maxHeartbeats 4000000 in
theorem kcalls_walk (a : Int) (v : Value) (l : List Int) (w : World) (ha : (Lit.int .i64 a).wf = true) (hv : IntsV w v l) (hf : Fit v) (hl : l.length ≤ maxLen) :
    Calls Try.prog 8 #[.int .i64 a, v] w fun e w' => e = .returned (.bool true) ∧ Only [] w w' := by
  obtain ⟨k, hk, ea⟩ := mod_nat7 10 (by decide) (by decide) a
  have ea : IntKind.i64.wrap ((IntKind.u64.wrap a).tmod 10) = (k : Int) := ea
  obtain ⟨va, vc, rfl, -⟩ := id hv
  obtain ⟨n, hn⟩ : ∃ n, n = l.length := ⟨_, rfl⟩
  rw [← hn] at hl ⊢
  clear hv hf ha hn
  unfold maxLen at hl
  go_enter Try.func8, Try.ntmps8
  go_wp2_with fail
  refine (alive8_any w).mono ?_
  rintro e w1 ⟨rfl, o1⟩
  have HO := Lib.hid o1
  clear o1
  go_upto_region 5 with (fail)
  have hA := heap_new w1 (.cells #[.string ⟨#[111]⟩, .slice none 0 0, .slice none 0 0, .slice none 0 0, .slice none 0 0] 27)
  have oA := (Only.refl [] w1).alloc (.cells #[.string ⟨#[111]⟩, .slice none 0 0, .slice none 0 0, .slice none 0 0, .slice none 0 0] 27)
  have hg2 : (w1.alloc (.cells #[.string ⟨#[111]⟩, .slice none 0 0, .slice none 0 0, .slice none 0 0, .slice none 0 0] 27)).heap.size = w1.heap.size + 1 := Array.size_push _
  generalize w1.alloc (.cells #[.string ⟨#[111]⟩, .slice none 0 0, .slice none 0 0, .slice none 0 0, .slice none 0 0] 27) = w2 at hA oA hg2 ⊢
  obtain ⟨g, hg⟩ : ∃ g, g = w1.heap.size := ⟨_, rfl⟩
  have hgw : w.heap.size ≤ g := by rw [hg]; exact HO.out.size
  rw [← hg] at hA ⊢
  replace HO := Lib.hid (HO.out.trans oA (by simp))
  have hgl : g < w2.heap.size := lt_of_heap hA
  have HA := Lib.hid hA
  have hws : w2.heap.size ≤ g + 1 := by rw [hg2]; omega
  clear oA hA hg hg2
  go_wp2_with fail
  obtain ⟨wo, hwo⟩ : ∃ wo : World, wo = w2 := ⟨_, rfl⟩
  have HWS := Lib.hid (show wo.heap.size ≤ g + 1 by rw [hwo]; exact hws)
  clear hws
  go_loopw [6] (fun a wr => ∃ j : Nat, a = .int .i64 (j : Int) ∧ j ≤ k ∧ Hid (Only [g] wo wr) ∧ Hid (∃ v, wr.heap[g]? = some (.cells #[.string ⟨#[111]⟩, v, .slice none 0 0, .slice none 0 0, .slice none 0 0] 27 (0, 0)) ∧ ONm wr (g + 1) v (pnm j))) (fun a _ => k - (intOf a).toNat)
  case atStart => exact ⟨0, rfl, Nat.zero_le _, Lib.hid (by rw [hwo]; exact Only.refl _ _), Lib.hid ⟨_, HA.out, ONm.nil _ _⟩⟩
  case round =>
    obtain ⟨j, rfl, hj, HOr, HI⟩ := hrel
    obtain ⟨v, hr, hv⟩ := HI.out
    obtain ⟨pa, pc, rfl⟩ := hv.shape
    rw [pnm_len] at hr hv
    have HV := Lib.hid hv
    have HR := Lib.hid hr
    have hgr : g < wr.heap.size := lt_of_heap hr
    by_cases hlt : j < k
    · have hlt' : (j : Int) < (k : Int) := by omega
      obtain ⟨Y, hY⟩ : ∃ Y, Y = [112, UInt8.ofNat (48 + j)] := ⟨_, rfl⟩
      have hsn : pnm j ++ [Y] = pnm (j + 1) := by rw [pnm_snoc, hY]
      have HQ := Lib.hid (fun w => add_str (a := [112]) (b := decL j) (c := Y) (by rw [decL_small (by omega), hY]; rfl) (by rw [hY]; simp) (A := ⟨#[112]⟩) rfl rfl rfl w)
      have HSN := Lib.hid hsn
      clear hY hsn
      obtain ⟨S1, hS1⟩ : ∃ S, S = strOf (decL j) := ⟨_, rfl⟩
      rw [← hS1] at HQ
      have HS1 := Lib.hid hS1
      clear hv hr HI hS1
      go_upto_region 8 with (fail)
      have oD : Only [] wr wr.drew := (Only.refl [] wr).drew
      have c1 : wr.drew.cell? ⟨g, 1, none⟩ = some (.slice pa j pc) := cell_kept oD (cell_at 1 HR.out) (by simp)
      refine wp_region_B (S := fun w' => w'.cell? ⟨g, 1, none⟩ = some (.slice pa j pc)) [0, 1, 2, 3, 4, 5, 6, 7] (by kernel_rfl) c1 (fun hH => ?_)
      replace HR := Lib.hid (oD.heap HR.out (by simp))
      replace HV := Lib.hid (HV.out.keep oD (by simp))
      replace HOr := Lib.hid (HOr.out.trans oD (by simp))
      clear oD
      generalize wr.drew = wd at c1 HR HV HOr hH ⊢
      refine takeB_list (i := 0) (v := ?_) rfl (by kernel_rfl) (by kernel_rfl) (by kernel_rfl) (by kernel_rfl) (fun _ _ _ h => h) (Or.inl ⟨by rfl, ?_⟩) hH ?_
      rotate_left
      · ((intro w hSw; (try dsimp only at hSw); go_simp); try with_reducible rfl)
      simp only [Act.put, List.setIfInBounds_toArray, List.set_cons_zero, List.set_cons_succ]
      refine takeB_list (i := 1) (v := ?_) rfl (by kernel_rfl) (by kernel_rfl) (by kernel_rfl) (by kernel_rfl) (fun _ _ _ h => h) (Or.inl ⟨by rfl, ?_⟩) hH ?_
      rotate_left
      · ((intro w hSw; (try dsimp only at hSw); go_simp); try with_reducible rfl)
      simp only [Act.put, List.setIfInBounds_toArray, List.set_cons_zero, List.set_cons_succ]
      refine takeB_list (i := 2) (v := ?_) rfl (by kernel_rfl) (by kernel_rfl) (by kernel_rfl) (by kernel_rfl) (fun _ _ _ h => h) (Or.inl ⟨by rfl, ?_⟩) hH ?_
      rotate_left
      · ((intro w hSw; (try dsimp only at hSw); go_simp); try with_reducible rfl)
      simp only [Act.put, List.setIfInBounds_toArray, List.set_cons_zero, List.set_cons_succ]
      refine readyB_in (i := 3) (by kernel_rfl) rfl (fun K hK => ?_)
      go_simp
      have D1 := Decimal_any j wd (by omega)
      rw [← HS1.out] at D1
      refine D1.mono ?_
      rintro e w5 ⟨rfl, o5⟩
      replace HR := Lib.hid (o5.heap HR.out (by simp))
      replace HV := Lib.hid (HV.out.keep o5 (by simp))
      replace HOr := Lib.hid (HOr.out.trans o5 (by simp))
      refine hK.out _ _ (cell_kept o5 c1 (by simp)) (fun hH => ?_)
      have hq := HQ.out
      clear hK K D1 o5 c1
      refine takeB_list (i := 4) (v := ?_) rfl (by kernel_rfl) (by kernel_rfl) (by kernel_rfl) (by kernel_rfl) (fun _ _ _ h => h) (Or.inl ⟨by rfl, ?_⟩) hH ?_
      rotate_left
      · ((intro w hSw; (try dsimp only at hSw); go_simp); try with_reducible rfl)
      simp only [Act.put, List.setIfInBounds_toArray, List.set_cons_zero, List.set_cons_succ]
      refine readyB_in (i := 5) (by kernel_rfl) rfl (fun K hK => ?_)
      go_simp
      have o6 := (Only.refl [] w5).alloc (.cells #[.string (strOf Y)] 9)
      have h6 := heap_new w5 (.cells #[.string (strOf Y)] 9)
      generalize w5.alloc (.cells #[.string (strOf Y)] 9) = w6 at o6 h6 ⊢
      replace HR := Lib.hid (o6.heap HR.out (by simp))
      replace HV := Lib.hid (HV.out.keep o6 (by simp))
      replace HOr := Lib.hid (HOr.out.trans o6 (by simp))
      have c6 : w6.cell? ⟨w5.heap.size, 0, none⟩ = some (.string (strOf Y)) := cell_at 0 h6
      refine hK.out _ _ (cell_at 1 HR.out) (fun hH => ?_)
      clear hK K o6 h6 hq
      have hg6 : g + 1 ≤ w6.heap.size := lt_of_heap HR.out
      refine readyB_in (i := 6) (by kernel_rfl) rfl (fun K hK => ?_)
      refine step_append_nm (by rfl) (.tmp 25) (.tmp 29) (by rfl) (g + 1) (.slice pa j pc) (pnm j) (by rfl) HV.out w5.heap.size 1 (by rfl) Y c6 (by rw [pnm_len]; omega) hg6 (fun a' cap w7 h7 x7 => ?_)
      rw [pnm_len, HSN.out] at h7
      rw [pnm_len]
      have hx7 : g ∉ (Value.slice pa j pc).ownBlock.toList := fun hk => by
        have := (HV.out.lt (k := g) (by simpa using hk)).1
        omega
      have hr7 := x7.heap HR.out hx7
      have o7 : Only [g] wo w7 := HOr.out.trans x7 (fun b hk => .inr (by
        have := (HV.out.lt (k := b) (by simpa using hk)).1
        have := HWS.out
        omega))
      have HO7 := Lib.hid o7
      have HR7 := Lib.hid hr7
      have H7 := Lib.hid h7
      clear o7 x7 h7 hx7
      refine hK.out _ _ (cell_at 1 hr7) (fun hH => ?_)
      have gs1 := free_at 1 hr7
      have hc7 : w7.cell? ⟨g, 1, none⟩ = some (.slice pa j pc) := cell_at 1 hr7
      clear hK K
      refine takeB_list (i := 7) (v := ?_) rfl (by kernel_rfl) (by kernel_rfl) (by kernel_rfl) (by kernel_rfl) (fun _ _ _ h => h) (Or.inl ⟨by rfl, ?_⟩) hH ?_
      rotate_left
      · ((intro w hSw; (try dsimp only at hSw); go_simp); try with_reducible rfl)
      simp only [Act.put, List.setIfInBounds_toArray, List.set_cons_zero, List.set_cons_succ]
      refine readyB_out (i := 8) (by kernel_rfl) (by kernel_rfl) rfl (fun K hK => ?_)
      go_simp
      refine hK.out _ _ ?_
      clear hK K hH hc7 gs1
      have hr8 := heap_cell (i := 1) (.slice a' (j + 1) cap) HR7.out
      have o8 : Only [g] wo (w7.setCell ⟨g, 1, none⟩ (.slice a' (j + 1) cap)) := HO7.out.setCell (.inl (by simp)) _
      have o78 : Only [g] w7 (w7.setCell ⟨g, 1, none⟩ (.slice a' (j + 1) cap)) := (Only.refl [g] w7).setCell (.inl (by simp)) _
      have h8 := H7.out.keep o78 (by simp)
      clear o78
      generalize w7.setCell ⟨g, 1, none⟩ (.slice a' (j + 1) cap) = w8 at hr8 o8 h8 ⊢
      refine wpAnyB_done (by kernel_rfl) ?_ _
      have HI8 := Lib.hid (show ∃ v, w8.heap[g]? = some (.cells #[.string ⟨#[111]⟩, v, .slice none 0 0, .slice none 0 0, .slice none 0 0] 27 (0, 0)) ∧ ONm w8 (g + 1) v (pnm (j + 1)) from ⟨_, hr8, h8⟩)
      have HO8 := Lib.hid o8
      clear hr8 o8 h8
      go_wp2_with fail
      go_roundw
      case rel => exact ⟨j + 1, by go_num, by omega, HO8, HI8⟩
      case measure => simp [intOf]; omega
    · obtain rfl : j = k := by omega
      have hge : ¬ (j : Int) < (j : Int) := by omega
      have hd : DV wr (fun b => g + 1 ≤ b) (dfC j) [.string ⟨#[111]⟩, .slice pa j pc, .slice none 0 0, .slice none 0 0, .slice none 0 0] :=
        ⟨_, _, _, _, rfl, hv.nmv, ⟨none, 0, rfl, Nat.le_refl _, .inl rfl⟩, ⟨none, 0, rfl, Nat.le_refl _, .inl rfl⟩, ⟨none, 0, rfl, Nat.le_refl _, .inl rfl⟩⟩
      have HD := Lib.hid hd
      have ow : Only [] w wr := HO.out.trans (T := [g]) (by rw [← hwo]; exact HOr.out) (fun b hb => .inr (by rw [List.mem_singleton.1 hb]; exact hgw))
      have HOw := Lib.hid ow
      have hok : okCalls j = true := List.all_eq_true.1 calls_all j (List.mem_range.2 hk)
      have HOK := Lib.hid hok
      have r0 : wr.cell? ⟨g, 0, none⟩ = some (.string ⟨#[111]⟩) := cell_at 0 hr
      have r1 : wr.cell? ⟨g, 1, none⟩ = some (.slice pa j pc) := cell_at 1 hr
      have r2 : wr.cell? ⟨g, 2, none⟩ = some (.slice none 0 0) := cell_at 2 hr
      have r3 : wr.cell? ⟨g, 3, none⟩ = some (.slice none 0 0) := cell_at 3 hr
      have r4 : wr.cell? ⟨g, 4, none⟩ = some (.slice none 0 0) := cell_at 4 hr
      clear hv hr HI hd ow hok hlt HO HOr
      go_wp2_with fail
      refine (calls_eq j n wr pa pc va vc ⟨#[111]⟩ none none none 0 0 0 0 0 0).mono ?_
      rintro e w3 ⟨rfl, o3⟩
      replace HOw := Lib.hid (HOw.out.trans o3 (by simp))
      have hd3 := HD.out.kept o3 (by simp) (fun _ h => h)
      have K3 := check_any hd3 (dfC_whole hk) (by show pB []; exact pB_nil)
      have r0 := cell_kept o3 r0 (by simp)
      have r1 := cell_kept o3 r1 (by simp)
      have r2 := cell_kept o3 r2 (by simp)
      have r3 := cell_kept o3 r3 (by simp)
      have r4 := cell_kept o3 r4 (by simp)
      obtain ⟨ev0, hev0⟩ : ∃ v, v = (if n = j then .nilIface else err 2 : Value) := ⟨_, rfl⟩
      rw [← hev0]
      have HEV := Lib.hid hev0
      clear o3 hd3 HD hev0
      go_wp2_with fail
      refine K3.mono ?_
      rintro e w4 ⟨ev, rfl, hfz, o4⟩
      replace HOw := Lib.hid (HOw.out.trans o4 (by simp))
      have hfl := chkD_flt (dfC j)
      obtain ⟨i0, c0, p0, hi⟩ : ∃ i c p, chkD (dfC j) = (i, c, p) := ⟨_, _, _, rfl⟩
      have hok := HOK.out
      unfold okCalls at hok
      rw [hi] at hfl hok ⊢
      obtain ⟨m, st, nm, tu⟩ := i0
      simp only [Bool.and_eq_true, beq_iff_eq] at hok
      obtain ⟨hok, rfl⟩ := hok
      unfold infoV
      dsimp only
      obtain ⟨st', hst⟩ : ∃ x : Int, x = st := ⟨_, rfl⟩
      obtain ⟨nm', hnm⟩ : ∃ x : Int, x = nm := ⟨_, rfl⟩
      rw [← hst, ← hnm]
      have HFZ := Lib.hid hfz
      have HFL := Lib.hid hfl
      have HOK2 := Lib.hid hok
      clear K3 r0 r1 r2 r3 r4 o4 hfz hfl hok HOK hi hst hnm
      go_upto_region 11 with (fail)
      have o5 := (Only.refl [] w4).alloc (.cells #[.int .i64 m, .int .i64 st', .int .i64 nm', .bool tu] 31)
      generalize w4.alloc (.cells #[.int .i64 m, .int .i64 st', .int .i64 nm', .bool tu] 31) = w5 at o5 ⊢
      replace HOw := Lib.hid (HOw.out.trans o5 (by simp))
      have K5 := fault_z _ _ _ (HFZ.out.quiet o5)
      rw [HFL.out] at K5
      dsimp only at K5
      clear o5
      go_wp2_with fail
      refine K5.mono ?_
      rintro e w6 ⟨rfl, o6⟩
      replace HOw := Lib.hid (HOw.out.trans o6 (by simp))
      clear K5 o6
      have hev := HEV.out
      have hok := HOK2.out
      by_cases h8 : 8 < j
      · have h8' : (8 : Int) < (j : Int) := by omega
        rw [decide_eq_true h8] at hok
        obtain rfl : c0 = 15 := by simpa using hok
        clear hok
        by_cases hnj : n = j
        · rw [if_pos hnj] at hev
          have hnj' : ((n : Int) == (j : Int)) = true := by simp [hnj]
          subst hev
          have q1 := nil_nil
          clear hnj
          go_wp2_with fail
          go_ret
          exact ⟨by first | rfl | (simp; omega), HOw.out⟩
        · rw [if_neg hnj] at hev
          have hnj' : ((n : Int) == (j : Int)) = false := by simp; omega
          subst hev
          have q1 := e2_nil
          have q2 := e2_e2
          clear hnj
          go_wp2_with fail
          go_ret
          exact ⟨by first | rfl | (simp; omega), HOw.out⟩
      · have h8' : ¬ (8 : Int) < (j : Int) := by omega
        rw [decide_eq_false h8] at hok
        have hc15 : (c0 == 15) = false := hok
        clear hok
        by_cases hnj : n = j
        · rw [if_pos hnj] at hev
          have hnj' : ((n : Int) == (j : Int)) = true := by simp [hnj]
          subst hev
          have q1 := nil_nil
          clear hnj
          go_wp2_with fail
          go_ret
          exact ⟨by first | rfl | (simp; omega), HOw.out⟩
        · rw [if_neg hnj] at hev
          have hnj' : ((n : Int) == (j : Int)) = false := by simp; omega
          subst hev
          have q1 := e2_nil
          have q2 := e2_e2
          clear hnj
          go_wp2_with fail
          go_ret
          exact ⟨by first | rfl | (simp; omega), HOw.out⟩

set_option maxRecDepth 100000 in
theorem kcalls_lifted (os : Os) (started : os.Started) (H : Type) (enc : TypeId × Value → H) :
    ReturnsInHanded {} Try.checked os 8 .any (Rows.checkCallsSpec.pre6 enc Try.prog Try.f8 Rows.checkCallsRow.domain false) (Rows.checkCallsSpec.post enc Try.prog Try.f8 false true false false) := by
  refine returnsInHanded_of_change (C := Try.checked) law_own started (by kernel_rfl) Try.func8
    (ChangeSpec.witness6 (enc := enc) (C := Try.checked) false ⟨#[], #[.int .i64 0, .slice none 0 0], []⟩ 8 (by kernel_rfl) (by kernel_rfl) (by kernel_rfl) (by kernel_rfl)) ?_
  intro W base args ds gs before hval0 hW hcnd _
  have hval : ∀ (j : Nat) t v, Try.f8.params[j]? = some t → args[j]? = some v → Value.okWide Try.prog W .any base t v := hval0
  have hW' := hW
  obtain ⟨p, q, hA0, hV, rfl, hfz, hnd⟩ := hW
  have hA : DataW.TrodAll enc Try.prog W 0 (fun _ => true) true Try.f8.params.toList args.toList ds p := hA0
  rw [Try.params8] at hA hval
  obtain ⟨v0, vs0, d0, ds0, p0, q0, hargs, rfl, rfl, h0, r0⟩ := trodAll_cons hA
  obtain ⟨v1, vs1, d1, ds1, p1, q1, rfl, rfl, rfl, h1, r1⟩ := trodAll_cons r0
  obtain ⟨rfl, rfl, rfl⟩ := trodAll_nil r1
  obtain rfl : args = #[v0, v1] := by cases args; simp_all
  obtain ⟨rfl, rfl⟩ := trodVars_none hV
  obtain ⟨a0, rfl, rfl, rfl, w0⟩ := open_int Try.underlying3 (hval 0 3 v0 rfl rfl) h0
  have h1' := h1
  obtain ⟨sa1, sl1, sc1, rfl⟩ := okWide_slice Try.underlying51 (hval 1 51 v1 rfl rfl)
  obtain ⟨fuel1, hf1⟩ := h1
  obtain ⟨l1, hs1, hfit1, hl1⟩ := open_nums (v := .slice sa1 sl1 sc1) hf1
  have hlt1 : ∀ x ∈ p1, x.block < W.heap.size := fun x hx => hW'.lt x (by simp [hx])
  clear hA0 hval0
  refine (kcalls_walk a0 _ l1 W w0 hs1 hfit1 hl1).mono fun e W' ⟨he, hg⟩ => ?_
  subst he
  exact ⟨_, rfl, post_quiet (pa := ([] ++ (p1 ++ []))) (pv := []) hW' hg (fun _ _ _ => (trodAll_cons_mk (shut_bool Try.underlying4 _) trodAll_mk0)) (fun sp hsp => (trodAll_cons_mk (shut_int Try.underlying3 w0) (trodAll_cons_mk (arg_stays (by kernel_rfl) (of_decide_eq_true (by kernel_rfl)) h1' hg hlt1 (fun x hx => hsp x (by simp [hx]))) trodAll_mk0))) (fun _ _ => rfl) (by simp) (ok_one (by kernel_rfl) rfl (okWide_bool_mk Try.underlying4 _))⟩

theorem kcalls_over : Rows.checkCallsRow.holds Try.pinned (OpenSpec.ofChange Rows.checkCallsSpec) :=
  OpenClaim.holds_of_wide 8 Try.f8 rfl rfl rfl rfl rfl rfl rfl ⟨rfl, rfl, rfl, rfl, rfl⟩ rfl rfl rfl rfl rfl (by kernel_rfl) Try.func8 (by kernel_rfl)
    (of_decide_eq_true (by kernel_rfl)) (by unfold Func.isWrapper; first | (rw [if_pos (by decide +kernel)]; kernel_rfl) | (rw [if_neg (by decide +kernel)]; exact ⟨rfl, rfl⟩))
    (fun os started H enc _ => kcalls_lifted os started H enc)

/-- The statement. -/
theorem kcalls_holds : Rows.CheckCallsSaid :=
  kcalls_over
#print axioms kcalls_holds
end Go.Proofs.Ytjcpmfdgcomfgaa

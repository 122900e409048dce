/- The document's own device: settle, Sync, Crash. -/
import Derived.Test.YtdmkmjlkogkmgaaR2
import Derived.Test.YtdmkmjlkogkmgaaD7
namespace Go.Proofs.Ytdmkmjlkogkmgaa
open Go.RowKit Go.Maps
set_option linter.unusedSimpArgs false
set_option linter.unusedVariables false

theorem settleTo_zero (R : Ref) : R.settleTo 0 = R := by simp [Ref.settleTo]
theorem settleTo_step (R : Ref) (k : Nat) : ((R.settleTo k).putS k (R.now k)).putC k false = R.settleTo (k + 1) := by
  simp only [Ref.settleTo, Ref.putS, Ref.putC, Ref.mk.injEq, true_and, and_true]
  constructor
  · funext i
    simp only [updN]
    by_cases e : i = k
    · simp [e]
    · by_cases e2 : i < k
      · simp [e, e2, show i < k + 1 by omega]
      · simp [e, e2, show ¬ i < k + 1 by omega]
  · funext i
    simp only [updN]
    by_cases e : i = k
    · simp [e]
    · by_cases e2 : i < k
      · simp [e, e2, show i < k + 1 by omega]
      · simp [e, e2, show ¬ i < k + 1 by omega]

set_option maxRecDepth 100000 in
theorem settle_ref {w : World} {F : List Nat} {b : RA} {R : Ref} (h : RDev w F b R) :
    Calls Try.prog 48 #[.pointer (some ⟨b.p, 0, none⟩)] w fun e w' => e = .returned (.tuple #[]) ∧ RDev w' F b R.settle ∧ Only b.bl w w' := by
  have hn4 : R.n ≤ 4096 := h.hi
  have h0 : RDev w F b (R.settleTo 0) := by rw [settleTo_zero]; exact h
  have hrefl := Only.refl b.bl w
  clear h
  go_enter Try.func48, Try.ntmps48
  go_wp2_with fail
  go_loopw [2] (fun i wr => ∃ k : Nat, k ≤ R.n ∧ i = .int .i64 k ∧ RDev wr F b (R.settleTo k) ∧ Only b.bl w wr) (fun i _ => R.n - (intOf i).toNat)
  case atStart => exact ⟨0, by omega, rfl, h0, hrefl⟩
  case round =>
    clear h0 hrefl
    obtain ⟨k, hk, rfl, hr, ho⟩ := hrel
    have c0 : wr.cell? ⟨b.p, 0, none⟩ = some (.slice (some ⟨b.gN, 0, none⟩) R.n b.cN) := hr.c0
    have k0 : (0 : Int) ≤ (k : Int) := by omega
    by_cases hlt : k < R.n
    · have c1 : wr.cell? ⟨b.p, 1, none⟩ = some (.slice (some ⟨b.gS, 0, none⟩) R.n b.cS) := hr.c1
      have c2 : wr.cell? ⟨b.p, 2, none⟩ = some (.slice (some ⟨b.gC, 0, none⟩) R.n b.cC) := hr.c2
      obtain ⟨v, hv, hrow⟩ := hr.row (i := k) hlt
      obtain ⟨u, hu, _⟩ := hr.old (i := k) hlt
      have fS := hr.freeS k
      have k1 : (k : Int) < (R.n : Int) := by omega
      have hr1 := hr.setS (k := k) hrow
      have o1 : Only b.bl w (wr.setCell ⟨b.gS, k, none⟩ v) := ho.setCell (p := ⟨b.gS, k, none⟩) (by simp [RA.bl]) _
      have d0 := hr1.c0
      have d1 := hr1.c1
      have d2 := hr1.c2
      have dN : (wr.setCell ⟨b.gS, k, none⟩ v).cell? ⟨b.gN, k, none⟩ = some v := by
        rw [World.cell?_setCell_other _ _ _ _ (fun e => hr.ne (congrArg Addr.block e).symm)]
        exact hv
      have hr2 := hr1.setC (k := k) (x := false)
      have e2 : ((R.settleTo k).putS k ((R.settleTo k).now k)).putC k false = R.settleTo (k + 1) := settleTo_step R k
      rw [e2] at hr2
      have o2 := o1.setCell (p := ⟨b.gC, k, none⟩) (.inl (by simp [RA.bl])) (.bool false)
      have dC : (wr.setCell ⟨b.gS, k, none⟩ v).cell? ⟨b.gC, k, none⟩ = some (.bool _) := hr1.bit (i := k) hlt
      have fC := hr1.freeC k
      have HR2 := Lib.hid hr2
      have HO2 := Lib.hid o2
      obtain ⟨g, cap, rfl⟩ := hrow.shape
      clear hr ho hr1 o1 hr2 o2 hrow
      change (wr.setCell ⟨b.gS, k, none⟩ (.slice (some ⟨g, 0, none⟩) 512 cap)).cell? ⟨b.p, 0, none⟩ = some (.slice (some ⟨b.gN, 0, none⟩) R.n b.cN) at d0
      change (wr.setCell ⟨b.gS, k, none⟩ (.slice (some ⟨g, 0, none⟩) 512 cap)).cell? ⟨b.p, 1, none⟩ = some (.slice (some ⟨b.gS, 0, none⟩) R.n b.cS) at d1
      change (wr.setCell ⟨b.gS, k, none⟩ (.slice (some ⟨g, 0, none⟩) 512 cap)).cell? ⟨b.p, 2, none⟩ = some (.slice (some ⟨b.gC, 0, none⟩) R.n b.cC) at d2
      go_wp2_with fail
      have S0 : wr.drew.cell? ⟨b.p, 0, none⟩ = some (.slice (some ⟨b.gN, 0, none⟩) R.n b.cN) := c0
      have S1 : wr.drew.cell? ⟨b.p, 1, none⟩ = some (.slice (some ⟨b.gS, 0, none⟩) R.n b.cS) := c1
      have S2 : wr.drew.cell? ⟨b.gN, k, none⟩ = some (.slice (some ⟨g, 0, none⟩) 512 cap) := hv
      refine wp_region_held_drew (S := fun w' => w'.cell? ⟨b.p, 0, none⟩ = some (.slice (some ⟨b.gN, 0, none⟩) R.n b.cN) ∧ w'.cell? ⟨b.p, 1, none⟩ = some (.slice (some ⟨b.gS, 0, none⟩) R.n b.cS) ∧ w'.cell? ⟨b.gN, k, none⟩ = some (.slice (some ⟨g, 0, none⟩) 512 cap)) (by kernel_rfl) ⟨S0, S1, S2⟩ (fun hH => ?_)
      refine take_list (i := 0) (v := ?_) rfl (by kernel_rfl) (by kernel_rfl) (by kernel_rfl) (fun _ _ _ h => h) (Or.inl ⟨by rfl, ?_⟩) hH ?_
      rotate_left
      · ((intro w hSw; (try dsimp only at hSw); go_simp); try with_reducible rfl)
      simp only [Act.put, List.setIfInBounds_toArray, List.set_cons_zero, List.set_cons_succ]
      refine take_list (i := 1) (v := ?_) rfl (by kernel_rfl) (by kernel_rfl) (by kernel_rfl) (fun _ _ _ h => h) (Or.inl ⟨by rfl, ?_⟩) hH ?_
      rotate_left
      · ((intro w hSw; (try dsimp only at hSw); go_simp); try with_reducible rfl)
      simp only [Act.put, List.setIfInBounds_toArray, List.set_cons_zero, List.set_cons_succ]
      refine take_list (i := 2) (v := ?_) rfl (by kernel_rfl) (by kernel_rfl) (by kernel_rfl) (fun _ _ _ h => h) (Or.inl ⟨by rfl, ?_⟩) hH ?_
      rotate_left
      · ((intro w hSw; (try dsimp only at hSw); go_simp); try with_reducible rfl)
      simp only [Act.put, List.setIfInBounds_toArray, List.set_cons_zero, List.set_cons_succ]
      refine take_list (i := 3) (v := ?_) rfl (by kernel_rfl) (by kernel_rfl) (by kernel_rfl) (fun _ _ _ h => h) (Or.inl ⟨by rfl, ?_⟩) hH ?_
      rotate_left
      · ((intro w hSw; (try dsimp only at hSw); go_simp); try with_reducible rfl)
      simp only [Act.put, List.setIfInBounds_toArray, List.set_cons_zero, List.set_cons_succ]
      refine take_list (i := 4) (v := ?_) rfl (by kernel_rfl) (by kernel_rfl) (by kernel_rfl) (fun _ _ _ h => h) (Or.inl ⟨by rfl, ?_⟩) hH ?_
      rotate_left
      · ((intro w hSw; (try dsimp only at hSw); go_simp); try with_reducible rfl)
      simp only [Act.put, List.setIfInBounds_toArray, List.set_cons_zero, List.set_cons_succ]
      refine take_list (i := 5) (v := ?_) rfl (by kernel_rfl) (by kernel_rfl) (by kernel_rfl) (fun _ _ _ h => h) (Or.inl ⟨by rfl, ?_⟩) hH ?_
      rotate_left
      · ((intro w hSw; (try dsimp only at hSw); go_simp); try with_reducible rfl)
      simp only [Act.put, List.setIfInBounds_toArray, List.set_cons_zero, List.set_cons_succ]
      refine take_list (i := 6) (v := ?_) rfl (by kernel_rfl) (by kernel_rfl) (by kernel_rfl) (fun _ _ _ h => h) (Or.inl ⟨by rfl, ?_⟩) hH ?_
      rotate_left
      · ((intro w hSw; (try dsimp only at hSw); go_simp); try with_reducible rfl)
      simp only [Act.put, List.setIfInBounds_toArray, List.set_cons_zero, List.set_cons_succ]
      refine take_list (i := 7) (v := ?_) rfl (by kernel_rfl) (by kernel_rfl) (by kernel_rfl) (fun _ _ _ h => h) (Or.inl ⟨by rfl, ?_⟩) hH ?_
      rotate_left
      · ((intro w hSw; (try dsimp only at hSw); go_simp); try with_reducible rfl)
      simp only [Act.put, List.setIfInBounds_toArray, List.set_cons_zero, List.set_cons_succ]
      refine take_list (i := 8) (v := ?_) rfl (by kernel_rfl) (by kernel_rfl) (by kernel_rfl) (fun _ _ _ h => h) (Or.inl ⟨by rfl, ?_⟩) hH ?_
      rotate_left
      · ((intro w hSw; (try dsimp only at hSw); go_simp); try with_reducible rfl)
      simp only [Act.put, List.setIfInBounds_toArray, List.set_cons_zero, List.set_cons_succ]
      refine take_list (i := 9) (v := ?_) rfl (by kernel_rfl) (by kernel_rfl) (by kernel_rfl) (fun _ _ _ h => h) (Or.inl ⟨by rfl, ?_⟩) hH ?_
      rotate_left
      · ((intro w hSw; (try dsimp only at hSw); go_simp); try with_reducible rfl)
      simp only [Act.put, List.setIfInBounds_toArray, List.set_cons_zero, List.set_cons_succ]
      refine take_list (i := 10) (v := ?_) rfl (by kernel_rfl) (by kernel_rfl) (by kernel_rfl) (fun _ _ _ h => h) (Or.inl ⟨by rfl, ?_⟩) hH ?_
      rotate_left
      · ((intro w hSw; (try dsimp only at hSw); go_simp); try with_reducible rfl)
      simp only [Act.put, List.setIfInBounds_toArray, List.set_cons_zero, List.set_cons_succ]
      refine take_list (i := 11) (v := ?_) rfl (by kernel_rfl) (by kernel_rfl) (by kernel_rfl) (fun _ _ _ h => h) (Or.inl ⟨by rfl, ?_⟩) hH ?_
      rotate_left
      · ((intro w hSw; (try dsimp only at hSw); go_simp); try with_reducible rfl)
      simp only [Act.put, List.setIfInBounds_toArray, List.set_cons_zero, List.set_cons_succ]
      refine take_list (i := 12) (v := ?_) rfl (by kernel_rfl) (by kernel_rfl) (by kernel_rfl) (fun _ _ _ h => h) (Or.inl ⟨by rfl, ?_⟩) hH ?_
      rotate_left
      · ((intro w hSw; (try dsimp only at hSw); go_simp); try with_reducible rfl)
      simp only [Act.put, List.setIfInBounds_toArray, List.set_cons_zero, List.set_cons_succ]
      refine wpAnyH_ready (rs := [13]) (by kernel_rfl) (by simp) ?_
      refine ready_list rfl (fun K hK => ?_)
      go_simp
      refine hK.out _ _ ⟨d0, d1, dN⟩ (fun hH => ?_)
      clear hK K
      refine wpAnyH_done (by kernel_rfl) ?_ _
      clear hH S0 S1 S2 c0 c1 c2 hv hu fS
      go_wp2_with fail
      go_roundw
      case rel => exact ⟨k + 1, by omega, by go_num, HR2.out.quiet ((Only.refl [] _).drew), HO2.out.drew⟩
      case measure => simp [intOf]; omega
    · obtain rfl : k = R.n := by omega
      have hfin : RDev wr F b R.settle := hr.same rfl rfl (fun _ _ => rfl) (fun i hi => by simp [Ref.settleTo, Ref.settle]; intro hx; exact absurd hi (Nat.not_lt.2 hx)) (fun i hi => by simp [Ref.settleTo, Ref.settle]; intro hx; exact absurd hi (Nat.not_lt.2 hx))
      have HF := Lib.hid hfin
      clear hr hfin
      go_wp2_with fail
      go_returns
      exact ⟨rfl, HF.out, ho⟩

def Ref.sync (R : Ref) : Ref := { R.tick with syn := R.now, chg := fun _ => false, syncs := wrap64 (R.syncs + 1) }

theorem Sync_ref_off {w : World} {F : List Nat} {b : RA} {R : Ref} (h : RDev w F b R) (hd : R.off = true) :
    Calls Try.prog 46 #[.pointer (some ⟨b.p, 0, none⟩)] w fun e w' => e = .returned (.int .i64 3) ∧ RDev w' F b R.fall ∧ Only b.bl w w' := by
  go_enter Try.func46, Try.ntmps46
  go_wp2_with fail
  refine (step_ref_off h hd).mono ?_
  rintro e w' ⟨rfl, hr, ho⟩
  go_wp2_with fail
  go_ret
  exact ⟨rfl, hr, ho.mono (by simp [RA.bl])⟩

theorem Sync_ref_on {w : World} {F : List Nat} {b : RA} {R : Ref} (h : RDev w F b R) (hd : R.off = false) :
    Calls Try.prog 46 #[.pointer (some ⟨b.p, 0, none⟩)] w fun e w' => e = .returned (.int .i64 0) ∧ RDev w' F b R.sync ∧ Only b.bl w w' := by
  go_enter Try.func46, Try.ntmps46
  go_wp2_with fail
  refine (step_ref_on h hd).mono ?_
  rintro e w1 ⟨rfl, hr, ho⟩
  have c4 : w1.cell? ⟨b.p, 4, none⟩ = some (.int .i64 R.syncs) := hr.c4
  have f4 := hr.free 4
  have hk := heap_cell (g := b.p) (i := 4) (.int .i64 (wrap64 (R.syncs + 1))) hr.blk
  have h2 : RDev (w1.setCell ⟨b.p, 4, none⟩ (.int .i64 (wrap64 (R.syncs + 1)))) F b { R.tick with syncs := wrap64 (R.syncs + 1) } := hr.turn ((Only.refl _ _).setCell (by simp) _) hk rfl rfl rfl rfl
  have o2 : Only b.bl w (w1.setCell ⟨b.p, 4, none⟩ (.int .i64 (wrap64 (R.syncs + 1)))) := (ho.mono (by simp [RA.bl])).setCell (p := ⟨b.p, 4, none⟩) (.inl (by simp [RA.bl])) _
  have H2 := Lib.hid h2
  have O2 := Lib.hid o2
  clear hr ho hk h2 o2
  go_wp2_with fail
  refine (settle_ref H2.out).mono ?_
  rintro e w3 ⟨rfl, h3, o3⟩
  go_wp2_with fail
  go_ret
  exact ⟨rfl, h3, O2.out.trans o3 (fun k hk => .inl hk)⟩

/-- The rows behind a crash of which k were looked at. -/
def Ref.crashTo (R : Ref) (ks : List Int) (k : Nat) : Ref := { R with now := fun i => if i < k ∧ ¬ (i : Int) ∈ ks then R.syn i else R.now i }
def Ref.crash (R : Ref) (ks : List Int) : Ref := { R with now := (fun i => if (i : Int) ∈ ks then R.now i else R.syn i), syn := (fun i => if (i : Int) ∈ ks then R.now i else R.syn i), chg := fun _ => false, armed := false, down := false }
theorem crashTo_zero (R : Ref) (ks : List Int) : R.crashTo ks 0 = R := by simp [Ref.crashTo]
theorem crashTo_in (R : Ref) (ks : List Int) (k : Nat) (h : (k : Int) ∈ ks) : R.crashTo ks k = R.crashTo ks (k + 1) := by
  simp only [Ref.crashTo, Ref.mk.injEq, true_and, and_true]
  funext i
  by_cases e : i = k
  · subst e; simp [h]
  · by_cases e2 : i < k
    · simp [e2, show i < k + 1 by omega]
    · simp [e2, show ¬ i < k + 1 by omega]
theorem crashTo_out (R : Ref) (ks : List Int) (k : Nat) (h : ¬ (k : Int) ∈ ks) : (R.crashTo ks k).putN k (R.syn k) = R.crashTo ks (k + 1) := by
  simp only [Ref.crashTo, Ref.putN, Ref.mk.injEq, true_and, and_true]
  funext i
  simp only [updN]
  by_cases e : i = k
  · subst e; simp [h]
  · by_cases e2 : i < k
    · simp [e, e2, show i < k + 1 by omega]
    · simp [e, e2, show ¬ i < k + 1 by omega]

set_option maxRecDepth 100000 in
set_option maxHeartbeats 1600000 in
theorem Crash_ref {w : World} {F : List Nat} {b : RA} {R : Ref} (v : Value) (ks : List Int) (h : RDev w F b R) (hv : IntsV w v ks) (hsep : Off v b.bl) (hlen : ks.length ≤ 9223372036854775807) :
    Calls Try.prog 30 #[.pointer (some ⟨b.p, 0, none⟩), v] w fun e w' => e = .returned (.tuple #[]) ∧ RDev w' F b (R.crash ks) ∧ Only b.bl w w' := by
  have hn4 : R.n ≤ 4096 := h.hi
  have h0 : RDev w F b (R.crashTo ks 0) := by rw [crashTo_zero]; exact h
  have hrefl := Only.refl b.bl w
  have HV := Lib.hid hv
  have HS := Lib.hid hsep
  obtain ⟨va, vcap, rfl, _⟩ := hv
  clear h hsep
  go_enter Try.func30, Try.ntmps30
  go_wp2_with fail
  go_loopw [4, 5, 6] (fun i _ _ wr => ∃ k : Nat, k ≤ R.n ∧ i = .int .i64 k ∧ RDev wr F b (R.crashTo ks k) ∧ Only b.bl w wr) (fun i _ _ _ => R.n - (intOf i).toNat)
  case atStart => exact ⟨0, by omega, rfl, h0, hrefl⟩
  case round =>
    clear h0 hrefl
    obtain ⟨k, hk, rfl, hr, ho⟩ := hrel
    have c0 : wr.cell? ⟨b.p, 0, none⟩ = some (.slice (some ⟨b.gN, 0, none⟩) R.n b.cN) := hr.c0
    have k0 : (0 : Int) ≤ (k : Int) := by omega
    by_cases hlt : k < R.n
    · have k1 : (k : Int) < (R.n : Int) := by omega
      have HR := Lib.hid hr
      have HO := Lib.hid ho
      have HVr := Lib.hid (HV.out.kept ho HS.out)
      obtain ⟨wo, rfl⟩ : ∃ wo : World, wo = wr := ⟨_, rfl⟩
      clear hr ho
      go_wp2_with fail
      go_loop [5, 6] (fun x i => ∃ j : Nat, j ≤ ks.length ∧ i = .int .i64 j ∧ x = .bool (decide ((k : Int) ∈ ks.take j))) (fun _ i => ks.length - (intOf i).toNat)
      case atStart => exact ⟨0, by omega, rfl, by simp⟩
      case round =>
        obtain ⟨j, hj, rfl, rfl⟩ := hrel
        by_cases hlj : j < ks.length
        · have hkj : ks[j]? = some ks[j] := List.getElem?_eq_getElem hlj
          obtain ⟨_, bk, off, cap, hv2, hcell⟩ := HVr.out.at_ hkj
          cases hv2
          have htk : ks.take (j + 1) = ks.take j ++ [ks[j]] := by rw [List.take_add_one, hkj]; rfl
          generalize ks[j] = kj at hcell htk
          have j0 : (0 : Int) ≤ (j : Int) := by omega
          have j1 : (j : Int) < (ks.length : Int) := by omega
          have hval : (decide ((k : Int) ∈ ks.take j) || (kj == (k : Int))) = decide ((k : Int) ∈ ks.take (j + 1)) := by
            rw [htk, Bool.eq_iff_iff]
            simp only [Bool.or_eq_true, decide_eq_true_eq, beq_iff_eq, List.mem_append, List.mem_singleton]
            exact ⟨fun h => h.imp id Eq.symm, fun h => h.imp id Eq.symm⟩
          have HVAL := Lib.hid hval
          clear htk hkj hval
          generalize hx : decide ((k : Int) ∈ ks.take j) = x at HVAL
          clear hx
          cases x
          · go_wp2_with fail
            go_round
            case rel => exact ⟨j + 1, by omega, by go_num, by rw [← HVAL.out]; simp⟩
            case measure => simp [intOf]; omega
          · go_wp2_with fail
            go_round
            case rel => exact ⟨j + 1, by omega, by go_num, by rw [← HVAL.out]; simp⟩
            case measure => simp [intOf]; omega
        · obtain rfl : j = ks.length := by omega
          rw [List.take_length]
          by_cases hin : (k : Int) ∈ ks
          · have e1 : decide ((k : Int) ∈ ks) = true := by simpa using hin
            rw [e1]
            clear e1 c0
            have hr1 := HR.out
            rw [crashTo_in R ks k hin] at hr1
            have HR1 := Lib.hid hr1
            clear hr1
            go_wp2_with fail
            go_roundw
            case rel => exact ⟨k + 1, by omega, by go_num, HR1.out, HO.out⟩
            case measure => simp [intOf]; omega
          · have e1 : decide ((k : Int) ∈ ks) = false := by simpa using hin
            rw [e1]
            have c1 : wo.cell? ⟨b.p, 1, none⟩ = some (.slice (some ⟨b.gS, 0, none⟩) R.n b.cS) := HR.out.c1
            obtain ⟨v, hv, hrow⟩ := HR.out.old (i := k) hlt
            obtain ⟨u, hu, _⟩ := HR.out.row (i := k) hlt
            have fN := HR.out.freeN k
            have hr1 := HR.out.setN (k := k) hrow
            have e2 : (R.crashTo ks k).putN k ((R.crashTo ks k).syn k) = R.crashTo ks (k + 1) := crashTo_out R ks k hin
            rw [e2] at hr1
            have o1 : Only b.bl w (wo.setCell ⟨b.gN, k, none⟩ v) := HO.out.setCell (p := ⟨b.gN, k, none⟩) (by simp [RA.bl]) _
            have d0 := hr1.c0
            have d1 := hr1.c1
            have dS : (wo.setCell ⟨b.gN, k, none⟩ v).cell? ⟨b.gS, k, none⟩ = some v := by
              rw [World.cell?_setCell_other _ _ _ _ (fun e => hr1.ne (congrArg Addr.block e))]
              exact hv
            obtain ⟨g, cap, rfl⟩ := hrow.shape
            have HR1 := Lib.hid hr1
            have HO1 := Lib.hid o1
            clear hr1 o1 hrow e1
            change (wo.setCell ⟨b.gN, k, none⟩ (.slice (some ⟨g, 0, none⟩) 512 cap)).cell? ⟨b.p, 0, none⟩ = some (.slice (some ⟨b.gN, 0, none⟩) R.n b.cN) at d0
            change (wo.setCell ⟨b.gN, k, none⟩ (.slice (some ⟨g, 0, none⟩) 512 cap)).cell? ⟨b.p, 1, none⟩ = some (.slice (some ⟨b.gS, 0, none⟩) R.n b.cS) at d1
            go_wp2_with fail
            have S0 : wo.drew.cell? ⟨b.p, 0, none⟩ = some (.slice (some ⟨b.gN, 0, none⟩) R.n b.cN) := c0
            have S1 : wo.drew.cell? ⟨b.p, 1, none⟩ = some (.slice (some ⟨b.gS, 0, none⟩) R.n b.cS) := c1
            have S2 : wo.drew.cell? ⟨b.gS, k, none⟩ = some (.slice (some ⟨g, 0, none⟩) 512 cap) := hv
            refine wp_region_held_drew (S := fun w' => w'.cell? ⟨b.p, 0, none⟩ = some (.slice (some ⟨b.gN, 0, none⟩) R.n b.cN) ∧ w'.cell? ⟨b.p, 1, none⟩ = some (.slice (some ⟨b.gS, 0, none⟩) R.n b.cS) ∧ w'.cell? ⟨b.gS, k, none⟩ = some (.slice (some ⟨g, 0, none⟩) 512 cap)) (by kernel_rfl) ⟨S0, S1, S2⟩ (fun hH => ?_)
            refine take_list (i := 0) (v := ?_) rfl (by kernel_rfl) (by kernel_rfl) (by kernel_rfl) (fun _ _ _ h => h) (Or.inl ⟨by rfl, ?_⟩) hH ?_
            rotate_left
            · ((intro w hSw; (try dsimp only at hSw); go_simp); try with_reducible rfl)
            simp only [Act.put, List.setIfInBounds_toArray, List.set_cons_zero, List.set_cons_succ]
            refine take_list (i := 1) (v := ?_) rfl (by kernel_rfl) (by kernel_rfl) (by kernel_rfl) (fun _ _ _ h => h) (Or.inl ⟨by rfl, ?_⟩) hH ?_
            rotate_left
            · ((intro w hSw; (try dsimp only at hSw); go_simp); try with_reducible rfl)
            simp only [Act.put, List.setIfInBounds_toArray, List.set_cons_zero, List.set_cons_succ]
            refine take_list (i := 2) (v := ?_) rfl (by kernel_rfl) (by kernel_rfl) (by kernel_rfl) (fun _ _ _ h => h) (Or.inl ⟨by rfl, ?_⟩) hH ?_
            rotate_left
            · ((intro w hSw; (try dsimp only at hSw); go_simp); try with_reducible rfl)
            simp only [Act.put, List.setIfInBounds_toArray, List.set_cons_zero, List.set_cons_succ]
            refine take_list (i := 3) (v := ?_) rfl (by kernel_rfl) (by kernel_rfl) (by kernel_rfl) (fun _ _ _ h => h) (Or.inl ⟨by rfl, ?_⟩) hH ?_
            rotate_left
            · ((intro w hSw; (try dsimp only at hSw); go_simp); try with_reducible rfl)
            simp only [Act.put, List.setIfInBounds_toArray, List.set_cons_zero, List.set_cons_succ]
            refine take_list (i := 4) (v := ?_) rfl (by kernel_rfl) (by kernel_rfl) (by kernel_rfl) (fun _ _ _ h => h) (Or.inl ⟨by rfl, ?_⟩) hH ?_
            rotate_left
            · ((intro w hSw; (try dsimp only at hSw); go_simp); try with_reducible rfl)
            simp only [Act.put, List.setIfInBounds_toArray, List.set_cons_zero, List.set_cons_succ]
            refine take_list (i := 5) (v := ?_) rfl (by kernel_rfl) (by kernel_rfl) (by kernel_rfl) (fun _ _ _ h => h) (Or.inl ⟨by rfl, ?_⟩) hH ?_
            rotate_left
            · ((intro w hSw; (try dsimp only at hSw); go_simp); try with_reducible rfl)
            simp only [Act.put, List.setIfInBounds_toArray, List.set_cons_zero, List.set_cons_succ]
            refine take_list (i := 6) (v := ?_) rfl (by kernel_rfl) (by kernel_rfl) (by kernel_rfl) (fun _ _ _ h => h) (Or.inl ⟨by rfl, ?_⟩) hH ?_
            rotate_left
            · ((intro w hSw; (try dsimp only at hSw); go_simp); try with_reducible rfl)
            simp only [Act.put, List.setIfInBounds_toArray, List.set_cons_zero, List.set_cons_succ]
            refine take_list (i := 7) (v := ?_) rfl (by kernel_rfl) (by kernel_rfl) (by kernel_rfl) (fun _ _ _ h => h) (Or.inl ⟨by rfl, ?_⟩) hH ?_
            rotate_left
            · ((intro w hSw; (try dsimp only at hSw); go_simp); try with_reducible rfl)
            simp only [Act.put, List.setIfInBounds_toArray, List.set_cons_zero, List.set_cons_succ]
            refine take_list (i := 8) (v := ?_) rfl (by kernel_rfl) (by kernel_rfl) (by kernel_rfl) (fun _ _ _ h => h) (Or.inl ⟨by rfl, ?_⟩) hH ?_
            rotate_left
            · ((intro w hSw; (try dsimp only at hSw); go_simp); try with_reducible rfl)
            simp only [Act.put, List.setIfInBounds_toArray, List.set_cons_zero, List.set_cons_succ]
            refine take_list (i := 9) (v := ?_) rfl (by kernel_rfl) (by kernel_rfl) (by kernel_rfl) (fun _ _ _ h => h) (Or.inl ⟨by rfl, ?_⟩) hH ?_
            rotate_left
            · ((intro w hSw; (try dsimp only at hSw); go_simp); try with_reducible rfl)
            simp only [Act.put, List.setIfInBounds_toArray, List.set_cons_zero, List.set_cons_succ]
            refine take_list (i := 10) (v := ?_) rfl (by kernel_rfl) (by kernel_rfl) (by kernel_rfl) (fun _ _ _ h => h) (Or.inl ⟨by rfl, ?_⟩) hH ?_
            rotate_left
            · ((intro w hSw; (try dsimp only at hSw); go_simp); try with_reducible rfl)
            simp only [Act.put, List.setIfInBounds_toArray, List.set_cons_zero, List.set_cons_succ]
            refine take_list (i := 11) (v := ?_) rfl (by kernel_rfl) (by kernel_rfl) (by kernel_rfl) (fun _ _ _ h => h) (Or.inl ⟨by rfl, ?_⟩) hH ?_
            rotate_left
            · ((intro w hSw; (try dsimp only at hSw); go_simp); try with_reducible rfl)
            simp only [Act.put, List.setIfInBounds_toArray, List.set_cons_zero, List.set_cons_succ]
            refine take_list (i := 12) (v := ?_) rfl (by kernel_rfl) (by kernel_rfl) (by kernel_rfl) (fun _ _ _ h => h) (Or.inl ⟨by rfl, ?_⟩) hH ?_
            rotate_left
            · ((intro w hSw; (try dsimp only at hSw); go_simp); try with_reducible rfl)
            simp only [Act.put, List.setIfInBounds_toArray, List.set_cons_zero, List.set_cons_succ]
            refine wpAnyH_ready (rs := [13]) (by kernel_rfl) (by simp) ?_
            refine ready_list rfl (fun K hK => ?_)
            go_simp
            refine hK.out _ _ ⟨d0, d1, dS⟩ (fun hH => ?_)
            clear hK K
            refine wpAnyH_done (by kernel_rfl) ?_ _
            clear hH S0 S1 S2 c0 c1 hv hu fN d0 d1 dS
            go_wp2_with fail
            go_roundw
            case rel => exact ⟨k + 1, by omega, by go_num, HR1.out.quiet ((Only.refl [] _).drew), HO1.out.drew⟩
            case measure => simp [intOf]; omega
    · obtain rfl : k = R.n := by omega
      have HR := Lib.hid hr
      have HO := Lib.hid ho
      clear hr ho
      go_wp2_with fail
      refine (settle_ref HR.out).mono ?_
      rintro e w2 ⟨rfl, h2, o2⟩
      have hm : RDev w2 F b { R.crash ks with armed := R.armed, down := R.down } := h2.same rfl rfl (fun i hi => by
        have hi' : i < R.n := hi
        by_cases e : (i : Int) ∈ ks <;> simp [Ref.settle, Ref.crashTo, Ref.crash, hi', e]) (fun i hi => by
        have hi' : i < R.n := hi
        by_cases e : (i : Int) ∈ ks <;> simp [Ref.settle, Ref.crashTo, Ref.crash, hi', e]) (fun i hi => rfl)
      have c5 : w2.cell? ⟨b.p, 5, none⟩ = some (.bool R.armed) := h2.c5
      have c7 : w2.cell? ⟨b.p, 7, none⟩ = some (.bool R.down) := h2.c7
      have f5 := h2.free 5
      have f7 := h2.free 7
      have hk2 := heap_cell (g := b.p) (i := 7) (.bool false) (heap_cell (g := b.p) (i := 5) (.bool false) h2.blk)
      have c7' : (w2.setCell ⟨b.p, 5, none⟩ (.bool false)).cell? ⟨b.p, 7, none⟩ = some (.bool R.down) := (World.cell?_setCell_other _ ⟨b.p, 5, none⟩ ⟨b.p, 7, none⟩ _ (by simp)).trans c7
      have f7' : (w2.setCell ⟨b.p, 5, none⟩ (.bool false)).frozen? ⟨b.p, 7, none⟩ = false := by simpa using f7
      have o3 : Only [b.p] w2 ((w2.setCell ⟨b.p, 5, none⟩ (.bool false)).setCell ⟨b.p, 7, none⟩ (.bool false)) := ((Only.refl _ _).setCell (by simp) _).setCell (by simp) _
      have h3 : RDev ((w2.setCell ⟨b.p, 5, none⟩ (.bool false)).setCell ⟨b.p, 7, none⟩ (.bool false)) F b (R.crash ks) := hm.turn o3 hk2 rfl rfl rfl rfl
      have H3 := Lib.hid h3
      have O3 := Lib.hid ((HO.out.trans o2 (fun k hk => .inl hk)).trans o3 (fun k hk => .inl (by simp at hk; subst hk; simp [RA.bl])))
      clear h2 o2 hm hk2 o3 h3 c0
      go_wp2_with fail
      go_returns
      exact ⟨rfl, H3.out, O3.out⟩
end Go.Proofs.Ytdmkmjlkogkmgaa

/- SlotDead: whatever the row, the steps and the sectors that are kept, the law returns true: slots whose Save was cut answer ErrDown ever after, and slots opened then go on; the arguments read as they did. No condition. -/
import Derived.Test.YtdmkmjlkogkmgaaT7
namespace Go.Proofs.Ytdmkmjlkogkmgaa
open Go.ChangeShapes Go.WideShapes Go.ChangeAt Go.RowKit Go.Maps
set_option linter.unusedVariables false
set_option linter.unusedSimpArgs false

theorem mod2 (q : Int) : ∃ j : Nat, j < 2 ∧ IntKind.i64.wrap ((IntKind.u64.wrap q).tmod 2) = (j : Int) := by
  have h : 0 ≤ IntKind.u64.wrap q := by rw [IntKind.wrap_u64]; omega
  rw [Int.tmod_eq_emod_of_nonneg h]
  have a := Int.emod_nonneg (IntKind.u64.wrap q) (show (2 : Int) ≠ 0 by omega)
  have b := Int.emod_lt_of_pos (IntKind.u64.wrap q) (show (0 : Int) < 2 by omega)
  refine ⟨(IntKind.u64.wrap q % 2).toNat, by omega, ?_⟩
  rw [IntKind.wrap_i64]
  omega
/-- Armed with fewer than two steps, a sector can't be written and synced. -/
theorem Disk.Calm.short {d : Disk} {k : Int} {l : Sec} (h : d.Calm) (hk : inB k d.size = true) (hl : l.length = 512) (j : Nat) (hj : j < 2) : ({ d with met := d.met.arm j } : Disk).lcode k l = 3 := by
  have hk' : inB k ({ d with met := d.met.arm j } : Disk).size = true := hk
  have hc := Disk.code_in (l := l) hk' hl
  unfold Disk.lcode
  have hdn := h.down
  rcases (show j = 0 ∨ j = 1 by omega) with rfl | rfl
  · have ho : ({ d with met := d.met.arm (0 : Nat) } : Disk).met.off = true := by simp [Met.off, Met.arm]
    rw [ho] at hc
    rw [hc]
    rfl
  · have ho : ({ d with met := d.met.arm (1 : Nat) } : Disk).met.off = false := by simp [Met.off, Met.arm, hdn]
    rw [ho] at hc
    have hz : ({ d with met := d.met.arm (1 : Nat) } : Disk).code k l.length = 0 := hc
    rw [if_pos hz, Disk.wr_yes hz]
    have ho2 : (({ d with met := d.met.arm (1 : Nat) } : Disk).write k l).met.off = true := by
      simp [Met.off, Disk.write, Met.tick, Met.arm, wrap64]
    unfold Disk.scode
    rw [ho2]
    rfl
set_option maxRecDepth 100000 in
set_option maxHeartbeats 4000000 in
theorem sdead_walk (v : Value) (arm : Int) (kv : Value) (l : Sec) (ks : List Int) (w : World) (hv : Bytes w v l) (hl : l.length ≤ maxLen) (ha : (Lit.int .i64 arm).wf = true) (hk : IntsV w kv ks) (hkl : ks.length ≤ maxLen) :
    Calls Try.prog 5 #[v, .int .i64 arm, kv] w fun e w' => e = .returned (.bool true) ∧ Only [] w w' := by
  obtain ⟨va, vc, rfl, -⟩ := id hv
  obtain ⟨ka, kc, rfl, -⟩ := id hk
  have HV := Lib.hid hv
  have HK := Lib.hid hk
  have HKL := Lib.hid hkl
  have hl' : l.length ≤ 9223372036854775807 := by unfold maxLen at hl; omega
  clear hv hl hk hkl ha
  have q3 := err_33
  have q0 := iface_nil
  obtain ⟨j, hj, hje⟩ := mod2 arm
  go_enter Try.func5, Try.ntmps5
  go_wp2_with fail
  refine (alive3_any _).mono ?_
  rintro e w1 ⟨rfl, o1⟩
  have V1 := Lib.hid (HV.out.kept o1 (clean_nil _))
  have K1 := Lib.hid (HK.out.kept o1 (fun _ _ _ _ _ => by simp))
  have O1 := Lib.hid o1
  clear HV HK o1
  by_cases hlen : 480 < l.length
  · have hlen' : (480 : Int) < (l.length : Int) := by omega
    go_wp2_with fail
    go_ret
    exact ⟨rfl, O1.out⟩
  have hlen' : ¬ (480 : Int) < (l.length : Int) := by omega
  go_wp2_with fail
  refine (new_st 2 w1 (by omega) (by omega)).mono ?_
  rintro e w2 ⟨a, rfl, h2⟩
  have H2 := Lib.hid h2
  clear h2
  go_wp2_with fail
  refine (format_st (at_ := 0) (r := []) H2.out (bytes_nil _ _) (by decide) (Disk.Calm.fresh 2) rfl H2.out.only.size).mono ?_
  rintro e w3 ⟨p, v3, rfl, s3⟩
  obtain ⟨_, m3, g3⟩ := fm_calm (at_ := 0) (r := []) (Disk.Calm.fresh 2) rfl (by decide)
  have S3 := Lib.hid s3
  have M3 := Lib.hid m3
  have G3 := Lib.hid g3
  clear H2 s3 m3 g3
  generalize (Disk.fresh 2).fm 0 [] = d3 at S3 M3 G3
  go_wp2_with fail
  refine (arm_sst (j : Int) S3.out (by omega)).mono ?_
  rintro e w4 ⟨rfl, s4⟩
  have hlc := M3.out.short (k := (⟨0, 1, [], false⟩ : SL).place) (l := (⟨0, 1, [], false⟩ : SL).sec l) G3.out.place (SL.sec_len (by simp) (by simp) (by omega)) j hj
  have g4 := G3.out.arm (j : Int)
  generalize ({ d3 with met := d3.met.arm j } : Disk) = d4 at s4 g4 hlc
  have S4 := Lib.hid s4
  have G4 := Lib.hid g4
  have hnf : ¬ (480 < l.length ∨ (1 : Int) = 4611686018427387904) := by omega
  have e1 : (⟨0, 1, [], false⟩ : SL).scode d4 l = 3 := by unfold SL.scode; rw [if_neg hnf, hlc]; rfl
  have e2 : (⟨0, 1, [], false⟩ : SL).sdisk d4 l = d4.ly (⟨0, 1, [], false⟩ : SL).place ((⟨0, 1, [], false⟩ : SL).sec l) := by unfold SL.sdisk; rw [if_neg hnf]; rfl
  have e3 : (⟨0, 1, [], false⟩ : SL).save d4 l = ⟨0, 1, [], true⟩ := by unfold SL.save; rw [if_neg hnf, hlc]; rfl
  have E1 := Lib.hid e1
  have E2 := Lib.hid e2
  have E3 := Lib.hid e3
  have hno := G4.out.no (r := l) (by decide) (by omega) (by rw [hlc]; decide) ks
  have HNO := Lib.hid hno
  clear S3 M3 G3 s4 g4 e1 e2 e3 hno hlc hnf
  go_wp2_with fail
  refine (save_st S4.out (V1.out.kept S4.out.st.only (clean_nil _)) G4.out.fit (by omega)).mono ?_
  rintro e w5 ⟨rfl, v5, s5⟩
  rw [E1.out, show errV 3 = err 3 from rfl]
  rw [E2.out, E3.out] at s5
  have S5 := Lib.hid s5
  clear s5 S4 G4 E1 E2 E3
  go_wp2_with fail
  refine (crash_sst _ ks S5.out K1.out HKL.out).mono ?_
  rintro e w6 ⟨rfl, s6⟩
  obtain ⟨s', D', hD', hh, hat, hn2⟩ : ∃ s' D', (d4.ly (⟨0, 1, [], false⟩ : SL).place ((⟨0, 1, [], false⟩ : SL).sec l)).crash ks = D' ∧ Holds D' s' ∧ s'.at_ = 0 ∧ s'.n ≤ 2 := by
    rcases HNO.out with h | h
    · exact ⟨_, _, rfl, h, rfl, by decide⟩
    · exact ⟨_, _, rfl, h, rfl, by simp [SL.put]⟩
  have hcalm : D'.Calm := by rw [← hD']; exact Disk.Calm.crash _ _
  rw [hD'] at s6
  have S6 := Lib.hid s6
  have HH := Lib.hid hh
  have HC := Lib.hid hcalm
  clear s6 S5 HNO hD' hh hcalm
  go_wp2_with fail
  have hf6 : fitB (⟨0, 1, [], true⟩ : SL).at_ D'.size = true := by have := HH.out.fit; rw [hat] at this; exact this
  have hnf : ¬ (480 < l.length ∨ (1 : Int) = 4611686018427387904) := by omega
  have e1 : (⟨0, 1, [], true⟩ : SL).scode D' l = 3 := by unfold SL.scode; rw [if_neg hnf]; rfl
  have e2 : (⟨0, 1, [], true⟩ : SL).sdisk D' l = D' := by unfold SL.sdisk; rw [if_neg hnf]; rfl
  have E1 := Lib.hid e1
  have E2 := Lib.hid e2
  clear e1 e2 hnf
  refine (save_st S6.out (V1.out.kept S6.out.st.only (clean_nil _)) hf6 (by omega)).mono ?_
  rintro e w7 ⟨rfl, v7, s7⟩
  rw [E1.out, show errV 3 = err 3 from rfl]
  rw [E2.out] at s7
  have S7 := Lib.hid s7.st
  clear s7 S6 E1 E2 hf6
  go_wp2_with fail
  have ho := open_holds S7.out HC.out.down HH.out S7.out.only.size
  rw [hat] at ho
  refine ho.mono ?_
  rintro e w8 ⟨p8, v8, rfl, s8, _⟩
  have S8 := Lib.hid s8
  have H8 := Lib.hid (show Holds D' ⟨0, s'.n, s'.row, false⟩ from by have := HH.out.live; rwa [hat] at this)
  clear s8 ho S7 HH
  have kc := conv_lit
  go_wp2_with fail
  have q8 : Only [] w8 (w8.alloc (.cells #[.int .u8 120] 5 (1, 2))) := (Only.refl [] w8).alloc _
  refine (save_calm (S8.out.quiet q8) (lit1 w8 120 120 rfl (1, 2)) (by decide) HC.out H8.out (by show s'.n < _; omega) rfl).mono ?_
  rintro e w9 ⟨rfl, v9, d9, s9, _, _⟩
  have S9 := Lib.hid s9
  clear s9 S8 H8 q8 kc
  go_wp2_with fail
  refine (row_slot _ S9.out.slot [120] rfl).mono ?_
  rintro e w10 ⟨b10, k10, rfl, h10, o10⟩
  have e10 := str_bytes (S := ⟨#[120]⟩) h10.bytes rfl
  have O10 := Lib.hid (O1.out.trans (S9.out.st.only.trans o10 (by simp)) (by simp))
  clear S9 h10 o10
  simp only [List.length_cons, List.length_nil, Nat.zero_add] at e10 ⊢
  go_wp2_with fail
  go_ret
  exact ⟨rfl, O10.out⟩

set_option maxRecDepth 100000 in
theorem sdead_lifted (os : Os) (started : os.Started) (H : Type) (enc : TypeId × Value → H) :
    ReturnsInHanded {} Try.checked os 5 .any (Rows.slotDeadSpec.pre6 enc Try.prog Try.f5 Rows.slotDeadRow.domain false) (Rows.slotDeadSpec.post enc Try.prog Try.f5 false true false false) := by
  refine returnsInHanded_of_change (C := Try.checked) law_own started (by kernel_rfl) Try.func5
    (ChangeSpec.witness6 (enc := enc) (C := Try.checked) false ⟨#[], #[.slice none 0 0, .int .i64 0, .slice none 0 0], []⟩ 8 (by kernel_rfl) (by kernel_rfl) (by kernel_rfl) (by kernel_rfl)) ?_
  intro W base args ds gs before hval0 hW hcnd _
  have hval : ∀ (j : Nat) t v, Try.f5.params[j]? = some t → args[j]? = some v → Value.okWide Try.prog W .any base t v := hval0
  have hW' := hW
  obtain ⟨p, q, hA0, hV, rfl, hfz, hnd⟩ := hW
  have hA : DataW.TrodAll enc Try.prog W 0 (fun _ => true) true Try.f5.params.toList args.toList ds p := hA0
  rw [Try.params5] at hA hval
  obtain ⟨v0, vs0, d0, ds0, p0, q0, hargs, rfl, rfl, h0, r0⟩ := trodAll_cons hA
  obtain ⟨v1, vs1, d1, ds1, p1, q1, rfl, rfl, rfl, h1, r1⟩ := trodAll_cons r0
  obtain ⟨v2, vs2, d2, ds2, p2, q2, rfl, rfl, rfl, h2, r2⟩ := trodAll_cons r1
  obtain ⟨rfl, rfl, rfl⟩ := trodAll_nil r2
  obtain rfl : args = #[v0, v1, v2] := by cases args; simp_all
  obtain ⟨rfl, rfl⟩ := trodVars_none hV
  have h0' := h0
  obtain ⟨sa0, sl0, sc0, rfl⟩ := okWide_slice Try.underlying37 (hval 0 37 v0 rfl rfl)
  obtain ⟨fuel0, hf0⟩ := h0
  obtain ⟨l0, hs0, _, hl0⟩ := open_bytes (v := .slice sa0 sl0 sc0) hf0
  have hlt0 : ∀ x ∈ p0, x.block < W.heap.size := fun x hx => hW'.lt x (by simp [hx])
  obtain ⟨a1, rfl, rfl, rfl, w1⟩ := open_int Try.underlying3 (hval 1 3 v1 rfl rfl) h1
  have h2' := h2
  obtain ⟨sa2, sl2, sc2, rfl⟩ := okWide_slice Try.underlying38 (hval 2 38 v2 rfl rfl)
  obtain ⟨fuel2, hf2⟩ := h2
  obtain ⟨l2, hs2, _, hl2⟩ := open_nums (v := .slice sa2 sl2 sc2) hf2
  have hlt2 : ∀ x ∈ p2, x.block < W.heap.size := fun x hx => hW'.lt x (by simp [hx])
  clear hA0 hval0
  refine (sdead_walk _ a1 _ l0 l2 W hs0 hl0 w1 hs2 hl2).mono fun e W' ⟨he, hg⟩ => ?_
  subst he
  exact ⟨_, rfl, post_quiet (pa := (p0 ++ ([] ++ (p2 ++ [])))) (pv := []) hW' hg (fun _ _ _ => (trodAll_cons_mk (shut_bool Try.underlying4 _) trodAll_mk0)) (fun sp hsp => (trodAll_cons_mk (arg_stays (by kernel_rfl) (of_decide_eq_true (by kernel_rfl)) h0' hg hlt0 (fun x hx => hsp x (by simp [hx]))) (trodAll_cons_mk (shut_int Try.underlying3 w1) (trodAll_cons_mk (arg_stays (by kernel_rfl) (of_decide_eq_true (by kernel_rfl)) h2' hg hlt2 (fun x hx => hsp x (by simp [hx]))) trodAll_mk0)))) (fun _ _ => rfl) (by simp) (ok_one (by kernel_rfl) rfl (okWide_bool_mk Try.underlying4 _))⟩

theorem sdead_over : Rows.slotDeadRow.holds Try.pinned (OpenSpec.ofChange Rows.slotDeadSpec) :=
  OpenClaim.holds_of_wide 5 Try.f5 rfl rfl rfl rfl rfl rfl rfl ⟨rfl, rfl, rfl, rfl, rfl⟩ rfl rfl rfl rfl rfl (by kernel_rfl) Try.func5 (by kernel_rfl)
    (of_decide_eq_true (by kernel_rfl)) (by unfold Func.isWrapper; first | (rw [if_pos (by decide +kernel)]; kernel_rfl) | (rw [if_neg (by decide +kernel)]; exact ⟨rfl, rfl⟩))
    (fun os started H enc _ => sdead_lifted os started H enc)

/-- The statement. -/
theorem sdead_holds : Rows.SlotDeadSaid :=
  sdead_over
#print axioms sdead_holds
end Go.Proofs.Ytdmkmjlkogkmgaa

/- page: Decode. -/
import Derived.Test.YthacfanfhdjmbaaP8
namespace Go.Proofs.Ythacfanfhdjmbaa
open Go.RowKit Go.Maps
set_option linter.unusedSimpArgs false
set_option linter.unusedVariables false

theorem str_eq {A B : ByteArray} {a b : Sec} (hA : A = strOf a) (hB : B = strOf b) : (A.toList == B.toList) = decide (a = b) := by
  by_cases h : a = b
  · subst h
    rw [hA, hB]
    simp
  · rw [str_ne hA hB h]
    simp [h]
set_option maxRecDepth 100000 in
theorem Equal_any (va vb : Value) (a b : Sec) (w : World) (ha : Bytes w va a) (hb : Bytes w vb b) :
    Calls Try.prog 23 #[va, vb] w fun e w' => e = .returned (.bool (decide (a = b))) ∧ w = w' := by
  obtain ⟨aa, ac, rfl, -⟩ := id ha
  obtain ⟨ba, bc, rfl, -⟩ := id hb
  obtain ⟨SA, hSA⟩ : ∃ S, S = strOf a := ⟨_, rfl⟩
  obtain ⟨SB, hSB⟩ : ∃ S, S = strOf b := ⟨_, rfl⟩
  have s1 := str_bytes ha hSA
  have s2 := str_bytes hb hSB
  have hq := str_eq hSA hSB
  clear ha hb hSA hSB
  go_enter Try.func23, Try.ntmps23
  go_wp2
  go_ret
  exact ⟨rfl, rfl⟩

theorem zero_blank (w : World) : (zeroValue 59).run Try.prog w = .ok (.agg (enc zeros)) w := by kernel_rfl
section
variable {w : World} {ops : Array Oper} {rest : List Oper} {o : Oper} {a : Act} {Q : Exit → Act → World → Prop}
theorem wpList_new_blank (hg : o.guard = none) (hop : o.op = .alloc 59)
    (h : ∀ w' g, w'.heap[g]? = some (.cells (enc zeros) 59 (0, 0)) → w.heap.size ≤ g → Only [] w w' → wpList Try.prog ops Q rest (a.put o.dst (.pointer (some ⟨g, 0, none⟩))) w') : wpList Try.prog ops Q (o :: rest) a w :=
  wpList_alloc_row hg _ hop _ zero_blank (h _ _ (heap_new w _) (Nat.le_refl _) ((Only.refl _ _).alloc _))
end
theorem blank_bytes {w : World} {g : Nat} (h : w.heap[g]? = some (.cells (enc zeros) 59 (0, 0))) : Bytes w (.slice (some ⟨g, 0, none⟩) 512 512) zeros :=
  ⟨_, 512, by rw [zeros_length], fun i c hi => ⟨g, 0, rfl, by rw [Nat.zero_add, cell_at i h, enc_get, hi]; rfl⟩⟩
def DecodePost (l : Sec) (w : World) (e : Ending) (w' : World) : Prop :=
  Only [] w w' ∧ (∀ n c, pdec l = some (n, c) → e = .returned (.tuple #[.agg (ivA (n :: c)), .nilIface])) ∧ (pdec l = none → e = .returned (.tuple #[.agg (ivA (0 :: blankP)), err 4]))

theorem pdec_zeros {l : Sec} (h : l = zeros) : pdec l = some (0, blankP) := by unfold pdec; rw [if_pos h]
theorem pdec_long {l : Sec} (h : l.length ≠ 512) : pdec l = none := by
  unfold pdec
  rw [if_neg (fun e => h (by rw [e, zeros_length])), if_neg h]
theorem pdec_u {l : Sec} (hz : l ≠ zeros) (h : unbox l = none) : pdec l = none := by
  unfold pdec
  rw [if_neg hz, h]
  split <;> rfl
theorem pdec_t {l d : Sec} (hz : l ≠ zeros) (h : unbox l = some d) (ht : takeN d = none) : pdec l = none := by
  unfold pdec
  rw [if_neg hz, h]
  simp only [ht]
  split <;> rfl
theorem pdec_w {l d : Sec} {n : Int} {k : Nat} (hz : l ≠ zeros) (h : unbox l = some d) (ht : takeN d = some (n, k)) (hw : d.length - k ≠ 480) : pdec l = none := by
  have hw' : ¬ (d.drop k).length = 480 := by rw [List.length_drop]; exact hw
  unfold pdec
  rw [if_neg hz, h]
  simp only [ht, if_neg hw']
  split <;> rfl
theorem pdec_y {l d : Sec} {n : Int} {k : Nat} (hz : l ≠ zeros) (h5 : l.length = 512) (h : unbox l = some d) (ht : takeN d = some (n, k)) (hw : d.length - k = 480) : pdec l = some (n, cellsI 60 (d.drop k)) := by
  unfold pdec
  rw [if_neg hz, if_pos h5, h]
  simp only [ht]
  rw [if_pos (by rw [List.length_drop]; exact hw)]

set_option maxRecDepth 100000 in
set_option maxHeartbeats 1000000 in
theorem Decode_any (v : Value) (l : Sec) (w : World) (hv : Bytes w v l) (hf : Fit v) (hl : l.length ≤ 17592186044416) :
    Calls Try.prog 12 #[v] w (DecodePost l w) := by
  have HF := Lib.hid hf
  have HV := Lib.hid hv
  obtain ⟨va, vc, rfl, -⟩ := id hv
  clear hv hf
  go_enter Try.func12, Try.ntmps12
  go_wp2_with (first
    | (refine wpList_new_page rfl rfl ?_
       intro w1 g1 hb1 hg1 ho1
       have HB1 := Lib.hid hb1
       have HG1 := Lib.hid hg1
       have HO1 := Lib.hid ho1
       clear hb1 hg1 ho1)
    | (refine wpList_new_blank rfl rfl ?_
       intro w2 g2 hb2 hg2 ho2
       have HO2 := Lib.hid (HO1.out.trans ho2 (by simp))
       have HB1' := Lib.hid (HB1.out.kept ho2 (by simp))
       have hne : g1 ≠ g2 := by have := HB1.out.lt; omega
       have HB2 := Lib.hid (blank_bytes hb2)
       clear hb2 hg2 ho2 HB1 HO1))
  refine (Equal_any _ _ l zeros w2 (HV.out.kept HO2.out (clean_nil _)) HB2.out).mono ?_
  rintro e w3 ⟨rfl, rfl⟩
  by_cases hz : l = zeros
  · have HN : Hid (pdec l = some (0, blankP)) := Lib.hid (pdec_zeros hz)
    have hd : decide (l = zeros) = true := by simp [hz]
    rw [hd]
    clear hz hd
    go_wp2_with (first
      | (refine wpList_built rfl [] rfl (0 :: blankP) built_none ?_)
      | (refine wpList_store_page rfl _ _ rfl g1 (0 :: blankP) (by rfl) (by rfl) (by rfl) _ HB1'.out (by rfl) ?_
         intro w9 hb9 ho9
         have HB9 := Lib.hid hb9
         have HO9 := Lib.hid (HO2.out.trans ho9 (by simp; exact HG1.out))
         clear hb9 ho9))
    refine bodyPost_ret (results_page2 rfl _ _ g1 _ _ (by rfl) (by rfl) HB9.out (by rfl)) rfl ⟨HO9.out, fun n c h => ?_, fun h => ?_⟩
    · rw [HN.out] at h
      cases h
      rfl
    · rw [HN.out] at h
      cases h
  have hd : decide (l = zeros) = false := by simp [hz]
  rw [hd]
  clear hd
  by_cases h512 : l.length = 512
  · have HZ := Lib.hid hz
    clear hz
    have HV5 : Hid (Bytes w (.slice va 512 vc) l) := Lib.hid (by have := HV.out; rwa [h512] at this)
    have HF5 : Hid (Fit (.slice va 512 vc)) := Lib.hid (by have := HF.out; rwa [h512] at this)
    have H512 := Lib.hid h512
    have hl5 : (l.length : Int) = 512 := by omega
    go_wp2_with fail
    refine (Unbox_any _ l w2 (HV5.out.kept HO2.out (clean_nil _)) HF5.out hl).mono ?_
    clear hl5 h512
    rintro e w4 ⟨hn, hs, ho4⟩
    have HB4 := Lib.hid (HB1'.out.kept ho4 (by simp))
    have HO4 := Lib.hid (HO2.out.trans ho4 (by simp))
    have q1 := iface_ne
    have q2 := iface_nerr
    clear HB1' HB2
    cases hu : unbox l with
    | none =>
      have HN : Hid (pdec l = none) := Lib.hid (pdec_u HZ.out hu)
      obtain rfl := hn hu
      clear hn hs hu ho4
      go_wp2_with (first
        | (refine wpList_built rfl [] rfl (0 :: blankP) built_none ?_)
        | (refine wpList_store_page rfl _ _ rfl g1 (0 :: blankP) (by rfl) (by rfl) (by rfl) _ HB4.out (by rfl) ?_
           intro w9 hb9 ho9
           have HB9 := Lib.hid hb9
           have HO9 := Lib.hid (HO4.out.trans ho9 (by simp; exact HG1.out))
           clear hb9 ho9))
      refine bodyPost_ret (results_page2 rfl _ _ g1 _ _ (by rfl) (by rfl) HB9.out (by rfl)) rfl ⟨HO9.out, fun n c h => ?_, fun _ => rfl⟩
      rw [HN.out] at h
      cases h
    | some d =>
      obtain ⟨a4, c4, rfl, h4⟩ := hs d hu
      have hdl : d.length ≤ 506 := by have := (unbox_iff.1 hu).2.2.1; have := H512.out; omega
      have H4 := Lib.hid h4
      have HU := Lib.hid hu
      clear hn hs hu ho4 h4
      go_wp2_with fail
      cases ht : takeN d with
      | none =>
        have HN : Hid (pdec l = none) := Lib.hid (pdec_t HZ.out HU.out ht)
        refine (Take_none _ d w4 H4.out.bytes (by omega) ht).mono ?_
        rintro e w5 ⟨rfl, rfl⟩
        clear ht
        go_wp2_with (first
          | (refine wpList_built rfl [] rfl (0 :: blankP) built_none ?_)
          | (refine wpList_store_page rfl _ _ rfl g1 (0 :: blankP) (by rfl) (by rfl) (by rfl) _ HB4.out (by rfl) ?_
             intro w9 hb9 ho9
             have HB9 := Lib.hid hb9
             have HO9 := Lib.hid (HO4.out.trans ho9 (by simp; exact HG1.out))
             clear hb9 ho9))
        refine bodyPost_ret (results_page2 rfl _ _ g1 _ _ (by rfl) (by rfl) HB9.out (by rfl)) rfl ⟨HO9.out, fun n c h => ?_, fun _ => rfl⟩
        rw [HN.out] at h
        cases h
      | some nk =>
        obtain ⟨n, k⟩ := nk
        refine (Take_some _ d w4 H4.out.bytes H4.out.fit (by omega) n k ht).mono ?_
        rintro e w5 ⟨a5, c5, rfl, h5, ho5⟩
        obtain ⟨t1, t2, t3, t4, t5⟩ := takeN_inv ht
        have HB5 := Lib.hid (HB4.out.kept ho5 (by simp))
        have HO5 := Lib.hid (HO4.out.trans ho5 (by simp))
        have H5 := Lib.hid h5
        have edl : (d.drop k).length = d.length - k := List.length_drop
        have HE := Lib.hid edl
        have hdk : (d.length - k : Nat) ≤ 506 := by omega
        clear ho5 h5 t1 edl HB4 HO4
        by_cases h480 : d.length - k = 480
        · have HN : Hid (pdec l = some (n, cellsI 60 (d.drop k))) := Lib.hid (pdec_y HZ.out H512.out HU.out ht h480)
          clear ht t2 t3 t4 t5
          have H5' : Hid (Own w5 w4.heap.size (.slice a5 480 c5) (d.drop k)) := Lib.hid (by rw [← h480]; exact H5.out)
          rw [h480]
          go_wp2_with fail
          refine (takeCells_any _ (d.drop k) w5 H5'.out.bytes H5'.out.fit (by rw [HE.out]; exact h480)).mono ?_
          rintro e w6 ⟨rfl, ho6⟩
          have HB6 := Lib.hid (HB5.out.kept ho6 (by simp))
          have HO6 := Lib.hid (HO5.out.trans ho6 (by simp))
          have hcl := cellsI_length 60 (d.drop k)
          obtain ⟨cc, hcc⟩ : ∃ cc, cc = cellsI 60 (d.drop k) := ⟨_, rfl⟩
          rw [← hcc] at hcl HN ⊢
          have HCL := Lib.hid hcl
          clear ho6 hcl hcc HB5 HO5 H5 H5' h480 hdk
          go_wp2_with (first
            | (refine wpList_built rfl [_, _] rfl (n :: cc) (built_whole n cc HCL.out) ?_)
            | (refine wpList_store_page rfl _ _ rfl g1 (n :: cc) (by rfl) (by rfl) (by rw [List.length_cons, HCL.out]) _ HB6.out (by rfl) ?_
               intro w9 hb9 ho9
               have HB9 := Lib.hid hb9
               have HO9 := Lib.hid (HO6.out.trans ho9 (by simp; exact HG1.out))
               clear hb9 ho9))
          refine bodyPost_ret (results_page2 rfl _ _ g1 _ _ (by rfl) (by rfl) HB9.out (by rw [List.length_cons, HCL.out])) rfl ⟨HO9.out, fun n' c' h => ?_, fun h => ?_⟩
          · rw [HN.out] at h
            cases h
            rfl
          · rw [HN.out] at h
            cases h
        · have HN : Hid (pdec l = none) := Lib.hid (pdec_w HZ.out HU.out ht h480)
          clear ht t2 t3 t4 t5
          have hne8 : ((d.length - k : Nat) : Int) ≠ 480 := by omega
          go_wp2_with (first
            | (refine wpList_built rfl [] rfl (0 :: blankP) built_none ?_)
            | (refine wpList_store_page rfl _ _ rfl g1 (0 :: blankP) (by rfl) (by rfl) (by rfl) _ HB5.out (by rfl) ?_
               intro w9 hb9 ho9
               have HB9 := Lib.hid hb9
               have HO9 := Lib.hid (HO5.out.trans ho9 (by simp; exact HG1.out))
               clear hb9 ho9))
          refine bodyPost_ret (results_page2 rfl _ _ g1 _ _ (by rfl) (by rfl) HB9.out (by rfl)) rfl ⟨HO9.out, fun n c h => ?_, fun _ => rfl⟩
          rw [HN.out] at h
          cases h
  · have HN : Hid (pdec l = none) := Lib.hid (pdec_long h512)
    have hl5 : (l.length : Int) ≠ 512 := by omega
    clear hz
    go_wp2_with (first
      | (refine wpList_built rfl [] rfl (0 :: blankP) built_none ?_)
      | (refine wpList_store_page rfl _ _ rfl g1 (0 :: blankP) (by rfl) (by rfl) (by rfl) _ HB1'.out (by rfl) ?_
         intro w9 hb9 ho9
         have HB9 := Lib.hid hb9
         have HO9 := Lib.hid (HO2.out.trans ho9 (by simp; exact HG1.out))
         clear hb9 ho9))
    refine bodyPost_ret (results_page2 rfl _ _ g1 _ _ (by rfl) (by rfl) HB9.out (by rfl)) rfl ⟨HO9.out, fun n c h => ?_, fun _ => rfl⟩
    rw [HN.out] at h
    cases h

end Go.Proofs.Ythacfanfhdjmbaa

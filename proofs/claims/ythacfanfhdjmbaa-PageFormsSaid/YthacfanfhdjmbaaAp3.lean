/- Apart: the walk. -/
import Derived.Test.YthacfanfhdjmbaaAp2
import Derived.IntWalk
namespace Go.Proofs.Ythacfanfhdjmbaa
open Go.RowKit Go.Maps
set_option linter.unusedSimpArgs false
set_option linter.unusedVariables false

theorem Sheet.set' {w0 w : World} {L : Nat} {lcs : Array Value} {rs : List Value} {ns f : Nat → Nat} (hal : Alone rs) (h : Sheet w0 w L lcs rs ns f) {k j g n cap : Nat} (hk : rs[k]? = some (.slice (some ⟨g, 0, none⟩) n cap)) (hj : j < ns k) (hf : f k = j) (hf2 : ∀ i, i < k → ns i ≤ f i) :
    ∃ f', Sheet w0 (w.setCell ⟨g, j, none⟩ (markV k j)) L lcs rs ns f' ∧ (∀ i, i < k → ns i ≤ f' i) ∧ f' k = j + 1 :=
  ⟨_, h.set hal hk hj hf, fun i hi => by
    have e : i ≠ k := by omega
    simpa [e] using hf2 i hi, by simp⟩
section
variable {w0 w w' : World} {b0 L k m n : Nat} {lcs : Array Value} {rs gs xs : List Value} {ns f : Nat → Nat} {r l v : Value}
theorem Row.appended (h : Row w l m) (hown : w.ownsRow w0.heap.size 23 1 v n xs) : ∀ g ∈ v.ownBlock.toList, l.ownBlock ≠ some g := fun g hg e => own_ne hown h e (by simpa using hg)
theorem Sheet.appended (h : Sheet w0 w L lcs rs ns f) (hown : w.ownsRow w0.heap.size 23 1 v n xs) (ho : Only v.ownBlock.toList w w') (hL : L < w0.heap.size) : Sheet w0 w' L lcs rs ns f := by
  have hge : ∀ g ∈ v.ownBlock.toList, w0.heap.size ≤ g := fun g hg => (hown.lt g (by simpa using hg)).1
  exact ⟨ho.heap h.tab (fun e => by have := hge _ e; omega), fun i r hi => (h.row i r hi).kept ho ((h.row i r hi).appended hown), fun i r hi => (h.mark i r hi).kept ho ((h.row i r hi).appended hown), h.only.trans ho (fun g hg => .inr (hge g hg))⟩
theorem Cur.appended (h : Cur w b0 r l m k) (hown : w.ownsRow w0.heap.size 23 1 v n xs) (ho : Only v.ownBlock.toList w w') : Cur w' b0 r l m k :=
  ⟨h.row.kept ho (h.row.appended hown), h.mark.kept ho (h.row.appended hown), h.src⟩
theorem Out.appended (h : Out w0 b0 w rs gs ns) (hown : w.ownsRow w0.heap.size 23 1 v n xs) (ho : Only v.ownBlock.toList w w') : Out w0 b0 w' rs gs ns :=
  h.kept ho (fun g hg i r' hi => (h.row i r' hi).appended hown g hg)
end
def sliceLen : Value → Nat
  | .slice _ n _ => n
  | _ => 0

set_option maxRecDepth 100000 in
set_option maxHeartbeats 4000000 in
theorem apart_any (L mc : Nat) (lcs : Array Value) (rs : List Value) (ns : Nat → Nat) (w : World) (htab : w.heap[L]? = some (.cells lcs 23 (0, 0))) (hcell : ∀ (i : Nat) (r : Value), rs[i]? = some r → lcs[i]? = some r)
    (hrow : ∀ (i : Nat) (r : Value), rs[i]? = some r → Row w r (ns i)) (hal : Alone rs) (hm : rs.length ≤ 1000) (hn : ∀ i, ns i ≤ 1099511627776) :
    Calls Try.prog 17 #[.slice (some ⟨L, 0, none⟩) rs.length mc] w fun e w' => e = .returned (.bool true) ∧ Only (owns rs) w w' := by
  have hL : L < w.heap.size := lt_of_heap htab
  have hold : ∀ (i g : Nat) (r : Value), rs[i]? = some r → r.ownBlock = some g → g < w.heap.size := fun i g r hi hg => (hrow i r hi).lt hg
  have hs0 : Sheet w w L lcs rs ns (fun _ => 0) := ⟨htab, hrow, fun _ _ _ => Marked.zero _ _ _, Only.refl _ _⟩
  have HC := Lib.hid hcell
  have HA := Lib.hid hal
  have HO := Lib.hid hold
  have HN := Lib.hid hn
  clear htab hcell hrow hal hold hn
  go_enter Try.func17, Try.ntmps17
  go_wp2_with fail
  go_loopw [3, 4, 5, 15] (fun _ _ _ i wr => ∃ (k : Nat) (f : Nat → Nat), k ≤ rs.length ∧ i = .int .i64 k ∧ Sheet w wr L lcs rs ns f ∧ ∀ j, j < k → ns j ≤ f j) (fun _ _ _ i _ => rs.length - (intOf i).toNat)
  case atStart => exact ⟨0, _, by omega, rfl, hs0, fun j hj => by omega⟩
  case round =>
    clear hs0
    obtain ⟨k, f, hk, rfl, hs, hf⟩ := hrel
    by_cases hlt : k < rs.length
    · have hkl : rs[k]? = some rs[k] := List.getElem?_eq_getElem hlt
      generalize rs[k] = r at hkl
      obtain ⟨a, cap, rfl, hcap⟩ := (hs.row k r hkl).shape
      have hnk := HN.out k
      have HK := Lib.hid hkl
      have c1 : wr.cell? ⟨L, k, none⟩ = some (.slice a (ns k) cap) := by rw [cell_at k hs.tab, HC.out k _ hkl]
      have k0 : (0 : Int) ≤ (k : Int) := by omega
      have k1 : (k : Int) < (rs.length : Int) := by omega
      obtain ⟨f1, hs1, hf1, hg1⟩ : ∃ f1 : Nat → Nat, Sheet w wr L lcs rs ns f1 ∧ (∀ j, j < k → ns j ≤ f1 j) ∧ f1 k = 0 :=
        ⟨fun i => if i = k then 0 else f i, hs.weaken (fun i => by by_cases e : i = k <;> simp [e]), fun j hj => by
          have e : j ≠ k := by omega
          simpa [e] using hf j hj, by simp⟩
      clear hs hf hkl
      generalize hnn : ns k = n at c1 hnk hcap
      have HNN := Lib.hid hnn
      clear hnn
      go_wp2_with fail
      go_loopw [5, 22] (fun _ i wr' => ∃ (j : Nat) (f : Nat → Nat), j ≤ n ∧ i = .int .i64 j ∧ Sheet w wr' L lcs rs ns f ∧ (∀ j, j < k → ns j ≤ f j) ∧ f k = j) (fun _ i _ => n - (intOf i).toNat)
      case atStart => exact ⟨0, f1, by omega, rfl, hs1, hf1, hg1⟩
      case round =>
        clear hs1 hf1 hg1 c1
        obtain ⟨j, f2, hj, rfl, hs2, hf2, hg2⟩ := hrel
        by_cases hlj : j < n
        · obtain ⟨g, cur, ha, hg, hcs, _, hv⟩ := (HNN.out ▸ hs2.row k _ HK.out : Row _ _ n).at_ (by omega)
          subst ha
          obtain ⟨c, hc'⟩ := hv j hlj
          have e1 : wr.cell? ⟨g, j, none⟩ = some (.int .u8 c) := by rw [cell_at j hg]; exact hc'
          have e2 : wr.frozen? ⟨g, j, none⟩ = false := free_at j hg
          have j0 : (0 : Int) ≤ (j : Int) := by omega
          have j1 : (j : Int) < (n : Int) := by omega
          obtain ⟨f3, hs3, hf3, hg3⟩ := hs2.set' HA.out HK.out (by rw [HNN.out]; exact hlj) hg2 hf2
          clear hs2 hg hcs hv hc' hf2
          go_wp2_with fail
          go_roundw
          case rel => exact ⟨j + 1, f3, by omega, by go_num, hs3, hf3, hg3⟩
          case measure => simp [intOf]; omega
        · obtain rfl : j = n := by omega
          have HS2 := Lib.hid hs2
          have hf3 : ∀ i, i < k + 1 → ns i ≤ f2 i := fun i hi => by
            by_cases e : i = k
            · subst e
              rw [HNN.out, hg2]
              exact Nat.le_refl _
            · exact hf2 i (by omega)
          have HF3 := Lib.hid hf3
          clear hs2 hf2 hf3
          go_wp2_with fail
          go_roundw
          case rel => exact ⟨k + 1, _, by omega, by go_num, HS2.out, HF3.out⟩
          case measure => simp [intOf]; omega
    · obtain rfl : k = rs.length := by omega
      have hs1 : Sheet w wr L lcs rs ns ns := by
        refine ⟨hs.tab, hs.row, fun i r hi => (hs.mark i r hi).mono (hf i (List.getElem?_eq_some_iff.1 hi).1), hs.only⟩
      clear hs hf hk hlt
      have hs2 := hs1.quiet ((Only.refl [] wr).alloc (.cells #[] 23))
      have hg0 : w.heap.size ≤ wr.heap.size := hs1.only.size
      have hown : (wr.alloc (.cells #[] 23)).ownsRow w.heap.size 23 1 (.slice (some ⟨wr.heap.size, 0, none⟩) 0 0) ([] : List Value).length [] := ⟨rfl, .inr ⟨wr.heap.size, 0, #[], rfl, hg0, heap_new wr _, Nat.le_refl _, by unfold maxLen; omega, rfl, rfl⟩⟩
      have hz : w.heap.size ≤ (wr.alloc (.cells #[] 23)).heap.size := hs2.only.size
      clear hs1
      go_wp2_with fail
      go_loopw [6, 7, 8, 9, 40] (fun v6 _ _ _ i wr' => ∃ (k b0 : Nat) (gs : List Value), k ≤ rs.length ∧ i = .int .i64 k ∧ gs.length = k ∧ Sheet w wr' L lcs rs ns ns ∧ Out w b0 wr' rs gs ns ∧ b0 ≤ wr'.heap.size ∧ w.heap.size ≤ b0 ∧ wr'.ownsRow w.heap.size 23 1 v6 gs.length gs) (fun _ _ _ _ i _ => rs.length - (intOf i).toNat)
      case atStart => exact ⟨0, w.heap.size, [], by omega, rfl, rfl, hs2, Out.nil, hz, Nat.le_refl _, hown⟩
      case round =>
        clear hs2 hown hz hg0
        obtain ⟨k, b0, gs, hk, rfl, hgk, hs, hout, hb1, hb2, hown⟩ := hrel
        by_cases hlt : k < rs.length
        · have hkl : rs[k]? = some rs[k] := List.getElem?_eq_getElem hlt
          generalize rs[k] = r at hkl
          have hcur : Cur wr wr.heap.size r r (ns k) k := ⟨hs.row k r hkl, hs.mark k r hkl, .inl rfl⟩
          have hout1 : Out w wr.heap.size wr rs gs ns := hout.mono hb1
          have hwb : w.heap.size ≤ wr.heap.size := by omega
          obtain ⟨a, cap, rfl, hcap⟩ := (hs.row k r hkl).shape
          have hnk := HN.out k
          have c1 : wr.cell? ⟨L, k, none⟩ = some (.slice a (ns k) cap) := by rw [cell_at k hs.tab, HC.out k _ hkl]
          have hlast : wr.heap.size ≤ wr.heap.size := Nat.le_refl _
          have k0 : (0 : Int) ≤ (k : Int) := by omega
          have k1 : (k : Int) < (rs.length : Int) := by omega
          have k2 : (k : Int) ≤ 1000 := by omega
          have HK := Lib.hid hkl
          have HS := Lib.hid hs
          have HW := Lib.hid hown
          have HCU := Lib.hid hcur
          have HOU := Lib.hid hout1
          generalize hbb : wr.heap.size = bb at hwb hlast HCU HOU
          have HBB := Lib.hid hbb
          clear hs hout hb1 hb2 hcur hout1 hkl hown hbb
          generalize hnn : ns k = n at c1 hnk hcap HCU HK
          have HNN := Lib.hid hnn
          clear hnn
          go_wp2_with fail
          clear c1
          go_loopw [8] (fun l wr' => ∃ m : Nat, n ≤ m ∧ m ≤ n + 12 ∧ Cur wr' bb (.slice a n cap) l m k ∧ Sheet w wr' L lcs rs ns ns ∧ Out w bb wr' rs gs ns ∧ bb ≤ wr'.heap.size ∧ wr'.ownsRow w.heap.size 23 1 _ gs.length gs) (fun l _ => n + 12 - sliceLen l)
          case atStart => exact ⟨n, by omega, by omega, HCU.out, HS.out, HOU.out, by rw [HBB.out]; omega, HW.out⟩
          case round =>
            clear HCU HS HOU HW
            obtain ⟨m, hm1, hm2, hcur, hs, hout, hb, hown⟩ := hrel
            obtain ⟨a2, cap2, rfl, hcap2⟩ := hcur.row.shape
            have HM := Lib.hid hm1
            by_cases hlm : m < n + 12
            · have m0 : (0 : Int) ≤ (m : Int) := by omega
              have m1 : (m : Int) < (n : Int) + 12 := by omega
              have m2 : (m : Int) ≤ 1099511627788 := by omega
              have HCU := Lib.hid hcur
              have HS := Lib.hid hs
              have HW := Lib.hid hown
              have HOU := Lib.hid hout
              clear hcur hs hown hout hm1
              go_wp2_with (refine wpList_append_byte rfl (.tmp 52) (.tmp 61) rfl _ m (by rfl) (HCU.out.row.kept ((Only.refl [] wr).alloc _) (by simp)) _ (by rfl) _ (heap_new_cell wr _ _) (by omega) ?_; intro g cap3 w3 hgrew)
              have qa : Only [] wr (wr.alloc (.cells #[.int .u8 (IntKind.u8.wrap (31 * (k : Int) + 7 * (m : Int) + 1))] 5)) := (Only.refl [] wr).alloc _
              have hcur2 := HCU.out.quiet qa
              have hs2 := HS.out.quiet qa
              have hout2 := HOU.out.kept qa (by simp)
              have hown2 := own_kept HW.out qa (by simp)
              have hb2 := Nat.le_trans hb qa.size
              have hold2 := HO.out
              have hcur3 := hcur2.grow hgrew rfl hb2
              have hs3 := hs2.grow HA.out HK.out hcur2 (by rw [HNN.out]; exact HM.out) hwb hL hold2 hgrew
              have hout3 := hout2.grow HA.out HK.out hgk hcur2 hwb hold2 hgrew
              have hown3 := own_grow hown2 hcur2 hgrew
              have hb3 := Nat.le_trans hb2 hgrew.size_le
              clear HCU HS HW HOU hcur2 hs2 hout2 hown2 hb2 hold2 hgrew qa hb
              go_roundw
              case rel => exact ⟨m + 1, by have := HM.out; omega, by omega, hcur3, hs3, hout3, hb3, hown3⟩
              case measure => simp [sliceLen]; omega
            · obtain rfl : m = n + 12 := by omega
              have HCU := Lib.hid hcur
              have HS := Lib.hid hs
              have HW := Lib.hid hown
              have HOU := Lib.hid hout
              clear hcur hs hown hout hm1
              go_wp2_with (refine wpList_append_rows rfl (.tmp 63) (.tmp 65) rfl w.heap.size _ gs (by rfl) (own_kept HW.out ((Only.refl [] wr).alloc _) (by simp)) _ (by rfl) _ (heap_new_cell wr _ _) (by rfl) (by omega) (by simp; omega) ?_; intro g cap3 w3 hown3 ho3)
              have qa : Only [] wr (wr.alloc (.cells #[.slice a2 (n + 12) cap2] 23)) := (Only.refl [] wr).alloc _
              have hcur2 := HCU.out.quiet qa
              have hs2 := HS.out.quiet qa
              have hout2 := HOU.out.kept qa (by simp)
              have hown2 := own_kept HW.out qa (by simp)
              have hs3 := hs2.appended hown2 ho3 hL
              have hcur3 := hcur2.appended hown2 ho3
              have hout3 := hout2.appended hown2 ho3
              have hb3 : w.heap.size ≤ w3.heap.size := hs3.only.size
              subst hgk
              have hout4 := hout3.more (l := .slice a2 (n + 12) cap2) HK.out (by rw [HNN.out]; exact hcur3) hwb
              clear HCU HS HW HOU hcur2 hs2 hout2 hown2 ho3 qa hb hcur3 hout3
              go_roundw
              case rel => exact ⟨gs.length + 1, _, _, by omega, by go_num, by simp, hs3, hout4, Nat.le_refl _, hb3, hown3⟩
              case measure => simp [intOf]; omega
        · obtain rfl : k = rs.length := by omega
          obtain ⟨wo, rfl⟩ : ∃ wo : World, wo = wr := ⟨_, rfl⟩
          obtain ⟨a6, cap6, rfl, hcap6⟩ := own_shape hown
          rw [hgk] at hown hcap6
          have HS := Lib.hid hs
          have HW := Lib.hid hown
          have HOU := Lib.hid hout
          have HG := Lib.hid hgk
          have ho0 := Only.refl [] wo
          clear hs hout hown hb1 hb2 hlt hk
          rw [hgk]
          clear hgk
          go_wp2_with fail
          go_loopw [10, 11, 12, 70] (fun _ _ _ i wr' => ∃ k : Nat, k ≤ rs.length ∧ i = .int .i64 k ∧ Only [] wo wr') (fun _ _ _ i _ => rs.length - (intOf i).toNat)
          case atStart => exact ⟨0, by omega, rfl, ho0⟩
          case round =>
            clear ho0
            obtain ⟨k, hk, rfl, ho⟩ := hrel
            by_cases hlt : k < rs.length
            · have hkl : rs[k]? = some rs[k] := List.getElem?_eq_getElem hlt
              generalize rs[k] = r at hkl
              have hgl : gs[k]? = some (gs[k]'(by rw [HG.out]; exact hlt)) := List.getElem?_eq_getElem _
              generalize gs[k]'(by rw [HG.out]; exact hlt) = r' at hgl
              obtain ⟨a, cap, rfl, hcap⟩ := (HS.out.row k r hkl).shape
              obtain ⟨a', cap', rfl, hcap'⟩ := (HOU.out.row k r' hgl).shape
              obtain ⟨g6, ha6, hc6, _⟩ := own_at HW.out hgl
              subst ha6
              have hnk := HN.out k
              have hR := Lib.hid (HS.out.row k _ hkl)
              have hM := Lib.hid (HS.out.mark k _ hkl)
              have hR' := Lib.hid (HOU.out.row k _ hgl)
              have hM' := Lib.hid (HOU.out.mark k _ hgl)
              have cL := Lib.hid (show wo.cell? ⟨L, k, none⟩ = some (.slice a (ns k) cap) from by rw [cell_at k HS.out.tab, HC.out k _ hkl])
              have c6 := cell_kept ho hc6 (by simp)
              have k0 : (0 : Int) ≤ (k : Int) := by omega
              have k1 : (k : Int) < (rs.length : Int) := by omega
              have k2 : (k : Int) ≤ 1000 := by omega
              generalize ns k = n at hcap hcap' hnk hR hM hR' hM' cL c6
              clear hkl hgl hc6
              have HO5 := Lib.hid ho
              go_wp2_with fail
              clear c6 ho
              go_loopw [12, 77] (fun _ i wr' => ∃ j : Nat, j ≤ n + 12 ∧ i = .int .i64 j ∧ Only [] wo wr') (fun _ i _ => n + 12 - (intOf i).toNat)
              case atStart => exact ⟨0, by omega, rfl, HO5.out⟩
              case round =>
                clear HO5
                obtain ⟨j, hj, rfl, ho⟩ := hrel
                by_cases hlj : j < n + 12
                · obtain ⟨g', cur', ha', _⟩ := hR'.out.at_ (by omega)
                  subst ha'
                  have c1 := cell_kept ho (hM'.out g' _ _ rfl j hlj) (by simp)
                  have cL1 := cell_kept ho cL.out (by simp)
                  have j0 : (0 : Int) ≤ (j : Int) := by omega
                  have j1 : (j : Int) < (n : Int) + 12 := by omega
                  have j2 : (j : Int) ≤ 1099511627788 := by omega
                  have a1 : IntKind.i64.wrap (31 * (k : Int)) = 31 * (k : Int) := IntWalk.i64_in _ (by omega)
                  have a2 : IntKind.i64.wrap (7 * (j : Int)) = 7 * (j : Int) := IntWalk.i64_in _ (by omega)
                  have a3 : IntKind.i64.wrap (31 * (k : Int) + 7 * (j : Int)) = 31 * (k : Int) + 7 * (j : Int) := IntWalk.i64_in _ (by omega)
                  have a4 : IntKind.i64.wrap (31 * (k : Int) + 7 * (j : Int) + 1) = 31 * (k : Int) + 7 * (j : Int) + 1 := IntWalk.i64_in _ (by omega)
                  have HO5 := Lib.hid ho
                  unfold markV at c1
                  by_cases hjn : j < n
                  · obtain ⟨g, cur, ha, _⟩ := hR.out.at_ (by omega)
                    subst ha
                    have c2 := cell_kept ho (hM.out g _ _ rfl j hjn) (by simp)
                    unfold markV at c2
                    have j3 : (j : Int) < (n : Int) := by omega
                    clear ho
                    go_wp2_with fail
                    go_quiet (fail)
                    clear a1 a2 a3 a4
                    go_wp2_with fail
                    go_roundw
                    case rel => exact ⟨j + 1, by omega, by go_num, ⟨HO5.out.os, HO5.out.tape, HO5.out.output, HO5.out.size, HO5.out.block⟩⟩
                    case measure => simp [intOf]; omega
                  · have j3 : decide ((j : Int) < (n : Int)) = false := by simp; omega
                    clear ho
                    go_wp2_with fail
                    go_quiet (fail)
                    clear a1 a2 a3 a4 j3
                    go_wp2_with fail
                    go_roundw
                    case rel => exact ⟨j + 1, by omega, by go_num, ⟨HO5.out.os, HO5.out.tape, HO5.out.output, HO5.out.size, HO5.out.block⟩⟩
                    case measure => simp [intOf]; omega
                · obtain rfl : j = n + 12 := by omega
                  have HO5 := Lib.hid ho
                  clear ho
                  go_wp2_with fail
                  go_roundw
                  case rel => exact ⟨k + 1, by omega, by go_num, HO5.out⟩
                  case measure => simp [intOf]; omega
            · obtain rfl : k = rs.length := by omega
              go_wp2_with fail
              go_ret
              exact ⟨rfl, HS.out.only.trans ho (by simp)⟩
end Go.Proofs.Ythacfanfhdjmbaa

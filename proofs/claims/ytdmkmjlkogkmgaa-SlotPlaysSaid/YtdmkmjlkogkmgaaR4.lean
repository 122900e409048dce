/- The document's own device: Write, Unsynced. -/
import Derived.Test.YtdmkmjlkogkmgaaR3
import Derived.Test.YtdmkmjlkogkmgaaAp1
import Derived.Test.YtdmkmjlkogkmgaaD11
namespace Go.Proofs.Ytdmkmjlkogkmgaa
open Go.RowKit Go.Maps
set_option linter.unusedSimpArgs false
set_option linter.unusedVariables false

section
variable {w : World} {ops : Array Oper} {o : Oper} {a : Act} {Q : Exit → Act → World → Prop}
/-- 'append([]byte{}, b...)', b a sector's bytes, at a step of a region that draws its order. -/
theorem step_append_copy {K : Act → World → Prop} {E : Prop} {F : List Nat} (hgd : o.guard = none) (s x : Operand) (ho : o.op = .call { callee := .builtin .append, args := #[s, x], argTypes := #[37, 37] })
    (g0 : Nat) (hs : a.eval s = .slice (some ⟨g0, 0, none⟩) 0 0) (v : Value) (hx : a.eval x = v) (l : Sec) (hv : Bytes w v l) (hl : l.length = 512) (hF : ∀ k ∈ F, k < w.heap.size)
    (h : ∀ g cap w', RowB w' F (.slice (some ⟨g, 0, none⟩) 512 cap) l → Only [] w w' → K (a.put o.dst (.slice (some ⟨g, 0, none⟩) 512 cap)) w') : if Region.wanted o (yielded ops a.tmps) = true then Oper.wp Try.prog o a w K Q else E := by
  have hw : Region.wanted o (yielded ops a.tmps) = true := by simp [Region.wanted, hgd]
  rw [if_pos hw]
  obtain ⟨i, hi, hz⟩ := Option.map_eq_some_iff.1 info_u8'
  simp only [Prod.mk.injEq] at hz
  obtain ⟨z1, z2, z3⟩ := hz
  have hv' := hv
  obtain ⟨av, capv, rfl, hc⟩ := hv'
  obtain ⟨b, off, rfl, _⟩ := hc 0 l[0] (List.getElem?_eq_getElem (by omega))
  have hnews := (bytes_news hv).2 _ rfl
  obtain ⟨v', w', hr, h1, h2⟩ := run_append_arg_grows (P := Try.prog) w 37 o.type 5 i (.int .u8 0) 1 1 Try.underlying37 hi z1 z2 z3 rfl (by omega) ⟨g0, 0, none⟩ 0 0 [] rfl (by simp) ⟨b, off, none⟩ l.length capv (l.map fun c => Value.int .u8 c.toNat) (by simp) hnews (by omega) (by unfold maxLen; omega) (by omega)
  have hrow : ∃ g cap, v' = .slice (some ⟨g, 0, none⟩) 512 cap ∧ RowB w' F v' l := by
    rcases h1.2 with ⟨_, e⟩ | ⟨g, cap, cur, rfl, hb, hg, k1, k2, k3, k4⟩
    · omega
    · refine ⟨g, cap, by rw [Nat.zero_add, hl], g, cap, cur, by rw [Nat.zero_add, hl], ⟨by omega, k2⟩, fun hm => by have := hF g hm; omega, hl, hg, fun j c hj => ?_⟩
      have hlt := (List.getElem?_eq_some_iff.1 hj).1
      rw [take_get k4 (by omega), List.nil_append, List.getElem?_map, hj]
      rfl
  obtain ⟨g, cap, rfl, hrow⟩ := hrow
  unfold Oper.wp execOp
  simp only [ho, resolve, invoke, builtin, Sem.run_bind, Sem.run_pure, Result.andThen_ok, List.map_toArray, List.map_cons, List.map_nil, hs, hx, hr]
  exact h g cap w' hrow (Only.of_grown h2)
end

def Ref.write (R : Ref) (i : Nat) (l : Sec) : Ref := (R.tick.putN i l).putC i true

section
variable {w : World} {F : List Nat} {b : RA} {R : Ref}
theorem Write_ref_range (at_ : Int) (v : Value) (h : RDev w F b R) (hi : (decide (0 ≤ at_) && decide (at_ < (R.n : Int))) = false) :
    Calls Try.prog 33 #[.pointer (some ⟨b.p, 0, none⟩), .int .i64 at_, v] w fun e w' => e = .returned (.int .i64 1) ∧ w = w' := by
  go_enter Try.func33, Try.ntmps33
  go_wp2_with fail
  refine (in_ref at_ h).mono ?_
  rintro e w' ⟨rfl, rfl⟩
  rw [hi]
  go_wp2_with fail
  go_ret
  exact ⟨rfl, rfl⟩
theorem Write_ref_form (at_ : Int) (v : Value) (l : Sec) (h : RDev w F b R) (hi : (decide (0 ≤ at_) && decide (at_ < (R.n : Int))) = true) (hv : Bytes w v l) (hl : l.length ≠ 512) :
    Calls Try.prog 33 #[.pointer (some ⟨b.p, 0, none⟩), .int .i64 at_, v] w fun e w' => e = .returned (.int .i64 2) ∧ w = w' := by
  obtain ⟨a, cap, rfl, _⟩ := hv
  have hne : ((l.length : Int) != 512) = true := by simp; omega
  go_enter Try.func33, Try.ntmps33
  go_wp2_with fail
  refine (in_ref at_ h).mono ?_
  rintro e w' ⟨rfl, rfl⟩
  rw [hi]
  go_wp2_with fail
  go_ret
  exact ⟨rfl, rfl⟩
theorem Write_ref_off (at_ : Int) (v : Value) (l : Sec) (h : RDev w F b R) (hi : (decide (0 ≤ at_) && decide (at_ < (R.n : Int))) = true) (hv : Bytes w v l) (hl : l.length = 512) (hd : R.off = true) :
    Calls Try.prog 33 #[.pointer (some ⟨b.p, 0, none⟩), .int .i64 at_, v] w fun e w' => e = .returned (.int .i64 3) ∧ RDev w' F b R.fall ∧ Only b.bl w w' := by
  obtain ⟨a, cap, rfl, _⟩ := hv
  rw [hl]
  go_enter Try.func33, Try.ntmps33
  go_wp2_with fail
  refine (in_ref at_ h).mono ?_
  rintro e w' ⟨rfl, rfl⟩
  rw [hi]
  go_wp2_with fail
  refine (step_ref_off h hd).mono ?_
  rintro e w' ⟨rfl, hr, ho⟩
  go_wp2_with fail
  go_ret
  exact ⟨rfl, hr, ho.mono (by simp [RA.bl])⟩

set_option maxRecDepth 100000 in
theorem Write_ref_on (k : Nat) (v : Value) (l : Sec) (h : RDev w F b R) (hi : k < R.n) (hv : Bytes w v l) (hsep : Off v [b.p]) (hl : l.length = 512) (hd : R.off = false) (hF : ∀ k ∈ F, k < w.heap.size) :
    Calls Try.prog 33 #[.pointer (some ⟨b.p, 0, none⟩), .int .i64 k, v] w fun e w' => e = .returned (.int .i64 0) ∧ RDev w' F b (R.write k l) ∧ Only b.bl w w' := by
  have hir : (decide (0 ≤ (k : Int)) && decide ((k : Int) < (R.n : Int))) = true := by simp; omega
  have k0 : (0 : Int) ≤ (k : Int) := by omega
  have k1 : (k : Int) < (R.n : Int) := by omega
  have HV := Lib.hid hv
  have HS := Lib.hid hsep
  have HF := Lib.hid hF
  obtain ⟨a, cap, rfl, _⟩ := hv
  have e512 : (l.length : Int) = 512 := by omega
  have HL := Lib.hid hl
  clear hsep hF hl
  go_enter Try.func33, Try.ntmps33
  go_wp2_with fail
  refine (in_ref _ h).mono ?_
  rintro e w' ⟨rfl, rfl⟩
  rw [hir]
  go_wp2_with fail
  refine (step_ref_on h hd).mono ?_
  rintro e w1 ⟨rfl, hr, ho⟩
  have c0 : w1.drew.cell? ⟨b.p, 0, none⟩ = some (.slice (some ⟨b.gN, 0, none⟩) R.n b.cN) := hr.c0
  have hv1 := (HV.out.keptOff ho HS.out)
  have HR := Lib.hid hr
  have HO := Lib.hid ho
  have hz := ho.size
  clear hr ho h hir
  go_wp2_with fail
  refine wp_region_held_drew (S := fun w' => w'.cell? ⟨b.p, 0, none⟩ = some (.slice (some ⟨b.gN, 0, none⟩) R.n b.cN)) (by kernel_rfl) c0 (fun hH => ?_)
  refine take_list (i := 0) (v := ?_) rfl (by kernel_rfl) (by kernel_rfl) (by kernel_rfl) (fun _ _ _ h => h) (Or.inl ⟨by rfl, ?_⟩) hH ?_
  rotate_left
  · ((intro w hSw; (try dsimp only at hSw); go_simp); try with_reducible rfl)
  simp only [Act.put, List.setIfInBounds_toArray, List.set_cons_zero, List.set_cons_succ]
  refine take_list (i := 1) (v := ?_) rfl (by kernel_rfl) (by kernel_rfl) (by kernel_rfl) (fun _ _ _ h => h) (Or.inl ⟨by rfl, ?_⟩) hH ?_
  rotate_left
  · ((intro w hSw; (try dsimp only at hSw); go_simp); try with_reducible rfl)
  simp only [Act.put, List.setIfInBounds_toArray, List.set_cons_zero, List.set_cons_succ]
  refine take_list (i := 2) (v := ?_) rfl (by kernel_rfl) (by kernel_rfl) (by kernel_rfl) (fun _ _ _ h => h) (Or.inl ⟨by rfl, ?_⟩) hH ?_
  rotate_left
  · ((intro w hSw; (try dsimp only at hSw); go_simp); try with_reducible rfl)
  simp only [Act.put, List.setIfInBounds_toArray, List.set_cons_zero, List.set_cons_succ]
  refine take_list (i := 3) (v := ?_) rfl (by kernel_rfl) (by kernel_rfl) (by kernel_rfl) (fun _ _ _ h => h) (Or.inl ⟨by rfl, ?_⟩) hH ?_
  rotate_left
  · ((intro w hSw; (try dsimp only at hSw); go_simp); try with_reducible rfl)
  simp only [Act.put, List.setIfInBounds_toArray, List.set_cons_zero, List.set_cons_succ]
  refine take_list (i := 4) (v := ?_) rfl (by kernel_rfl) (by kernel_rfl) (by kernel_rfl) (fun _ _ _ h => h) (Or.inl ⟨by rfl, ?_⟩) hH ?_
  rotate_left
  · ((intro w hSw; (try dsimp only at hSw); go_simp); try with_reducible rfl)
  simp only [Act.put, List.setIfInBounds_toArray, List.set_cons_zero, List.set_cons_succ]
  refine take_list (i := 6) (v := ?_) rfl (by kernel_rfl) (by kernel_rfl) (by kernel_rfl) (fun _ _ _ h => h) (Or.inl ⟨by rfl, ?_⟩) hH ?_
  rotate_left
  · ((intro w hSw; (try dsimp only at hSw); go_simp); try with_reducible rfl)
  simp only [Act.put, List.setIfInBounds_toArray, List.set_cons_zero, List.set_cons_succ]
  refine wpAnyH_ready (rs := [5]) (by kernel_rfl) (by simp) ?_
  refine ready_list rfl (fun K hK => ?_)
  go_simp
  have q2 : Only [] w1 (w1.alloc (.cells #[] 5)).drew := ((Only.refl [] w1).alloc _).drew
  refine hK.out _ _ ((HR.out.quiet q2).c0) (fun hH => ?_)
  clear hK K
  have hv2 := hv1.kept q2 (clean_nil _)
  have hF2 : ∀ k ∈ F, k < (w1.alloc (.cells #[] 5)).drew.heap.size := fun k hk => by have := HF.out k hk; have := q2.size; omega
  have HV2 := Lib.hid hv2
  have HF2 := Lib.hid hF2
  clear hv1 hv2 hF2
  refine wpAnyH_ready (rs := [7]) (by kernel_rfl) (by simp) ?_
  refine ready_list rfl (fun K hK => ?_)
  refine step_append_copy (F := F) rfl (.tmp 24) (.tmp 25) rfl w1.heap.size (by rfl) _ (by rfl) l HV2.out HL.out HF2.out (fun g cap2 w3 hrow o3 => ?_)
  have r3 : RDev w3 F b R.tick := (HR.out.quiet q2).quiet o3
  have fN := r3.freeN k
  obtain ⟨u, hu, _⟩ := r3.row (i := k) hi
  have r4 := r3.setN (k := k) hrow
  have R3 := Lib.hid r3
  have O3 := Lib.hid (((HO.out.trans q2 (by simp)).trans o3 (by simp)))
  refine hK.out _ _ r3.c0 (fun hH => ?_)
  clear hK K r3 hrow HV2 HF2 o3
  have c0' := r4.c0
  have c2' : (w3.setCell ⟨b.gN, k, none⟩ (.slice (some ⟨g, 0, none⟩) 512 cap2)).cell? ⟨b.p, 2, none⟩ = some (.slice (some ⟨b.gC, 0, none⟩) R.n b.cC) := r4.c2
  have cC : (w3.setCell ⟨b.gN, k, none⟩ (.slice (some ⟨g, 0, none⟩) 512 cap2)).cell? ⟨b.gC, k, none⟩ = some (.bool (R.chg k)) := r4.bit (i := k) hi
  have fC := r4.freeC k
  have r5 : RDev ((w3.setCell ⟨b.gN, k, none⟩ (.slice (some ⟨g, 0, none⟩) 512 cap2)).setCell ⟨b.gC, k, none⟩ (.bool true)) F b (R.write k l) := r4.setC
  have o5 : Only b.bl w ((w3.setCell ⟨b.gN, k, none⟩ (.slice (some ⟨g, 0, none⟩) 512 cap2)).setCell ⟨b.gC, k, none⟩ (.bool true)) := ((O3.out.mono (by simp [RA.bl])).setCell (p := ⟨b.gN, k, none⟩) (.inl (by simp [RA.bl])) _).setCell (p := ⟨b.gC, k, none⟩) (.inl (by simp [RA.bl])) _
  have R5 := Lib.hid r5
  have O5 := Lib.hid o5
  clear r4 r5 o5
  refine take_list (i := 8) (v := ?_) rfl (by kernel_rfl) (by kernel_rfl) (by kernel_rfl) (fun _ _ _ h => h) (Or.inl ⟨by rfl, ?_⟩) hH ?_
  rotate_left
  · ((intro w hSw; (try dsimp only at hSw); go_simp); try with_reducible rfl)
  simp only [Act.put, List.setIfInBounds_toArray, List.set_cons_zero, List.set_cons_succ]
  refine wpAnyH_ready (rs := [9]) (by kernel_rfl) (by simp) ?_
  refine ready_list rfl (fun K hK => ?_)
  go_simp
  refine hK.out _ _ c0' (fun hH => ?_)
  clear hK K
  refine wpAnyH_done (by kernel_rfl) ?_ _
  clear hH c0 hu fN c0'
  go_wp2_with fail
  go_ret
  exact ⟨rfl, R5.out, O5.out⟩
end

theorem pick_rising {P : Nat → Bool} (n : Nat) : ((List.range n).filter P |>.map fun i : Nat => (i : Int)).Pairwise (· < ·) := by
  rw [List.pairwise_map]
  refine (List.Pairwise.filter P (List.pairwise_lt_range (n := n))).imp (fun {a b} h => by omega)
def Ref.list (R : Ref) (k : Nat) : List Int := ((List.range k).filter R.chg).map fun i : Nat => (i : Int)
theorem Ref.list_succ (R : Ref) (k : Nat) : R.list (k + 1) = R.list k ++ if R.chg k then [(k : Int)] else [] := by
  unfold Ref.list
  rw [List.range_succ, List.filter_append, List.map_append]
  congr 1
  by_cases h : R.chg k <;> simp [h]
theorem Ref.list_mem (R : Ref) (k : Nat) (x : Int) : x ∈ R.list k ↔ ∃ i : Nat, i < k ∧ R.chg i = true ∧ x = (i : Int) := by
  unfold Ref.list
  simp only [List.mem_map, List.mem_filter, List.mem_range]
  constructor
  · rintro ⟨i, ⟨h1, h2⟩, rfl⟩
    exact ⟨i, h1, h2, rfl⟩
  · rintro ⟨i, h1, h2, rfl⟩
    exact ⟨i, ⟨h1, h2⟩, rfl⟩
theorem Ref.list_len (R : Ref) (k : Nat) : (R.list k).length ≤ k := by
  unfold Ref.list
  rw [List.length_map]
  exact Nat.le_trans (List.length_filter_le _ _) (by simp)

end Go.Proofs.Ytdmkmjlkogkmgaa

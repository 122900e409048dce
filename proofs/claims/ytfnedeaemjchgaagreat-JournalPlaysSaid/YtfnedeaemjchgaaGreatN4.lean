/- Numbers of one's own; wire: Takes. -/
import Derived.Test.YtfnedeaemjchgaaGreatN3
namespace Go.Proofs.YtfnedeaemjchgaaGreat
open Go.RowKit Go.Maps
set_option linter.unusedSimpArgs false
set_option linter.unusedVariables false

def OwnI (w : World) (base : Nat) (v : Value) (ns : List Int) : Prop := w.ownsRow base 3 1 v ns.length (iv ns) ∧ ∀ x ∈ ns, (Lit.int .i64 x).wf = true
theorem OwnI.ints {w : World} {base : Nat} {v : Value} {ns : List Int} (h : OwnI w base v ns) : IntsV w v ns := owns_ints h.1 h.2
theorem OwnI.quiet {w w' : World} {base : Nat} {v : Value} {ns : List Int} (h : OwnI w base v ns) (ho : Only [] w w') : OwnI w' base v ns := ⟨owns_kept h.1 ho (by simp), h.2⟩
theorem OwnI.nil (w : World) (base : Nat) : OwnI w base (.slice none 0 0) [] := ⟨World.ownsRow_nil _ _ _ _, by simp⟩
theorem OwnI.shape {w : World} {base : Nat} {v : Value} {ns : List Int} (h : OwnI w base v ns) : ∃ a cap, v = .slice a ns.length cap := by
  rcases h.1.2 with ⟨rfl, e⟩ | ⟨g, cap, cur, rfl, _⟩
  · exact ⟨none, 0, by rw [e]⟩
  · exact ⟨_, _, rfl⟩
theorem cut_only {w0 w w' : World} {base : Nat} {v : Value} {ns : List Int} (h : OwnI w base v ns) (h0 : Only [] w0 w) (hb : w0.heap.size ≤ base) (ho : Only v.ownBlock.toList w w') : Only [] w0 w' :=
  h0.trans ho (fun g hg => .inr (by have := (World.ownsRow.lt h.1 g (by simpa using hg)).1; omega))

def TakesPost (w : World) (c : Nat) (l : Sec) (e : Ending) (w' : World) : Prop :=
  (takesN c l = none → e = .returned (.tuple #[.slice none 0 0, .slice none 0 0, err 4])) ∧
  (∀ ns rest, takesN c l = some (ns, rest) → ∃ a1 c1 a2 c2, e = .returned (.tuple #[.slice a1 ns.length c1, .slice a2 rest.length c2, .nilIface]) ∧ OwnI w' w.heap.size (.slice a1 ns.length c1) ns ∧ Own w' w.heap.size (.slice a2 rest.length c2) rest) ∧
  Only [] w w'

set_option maxRecDepth 100000 in
theorem Takes_bad (v : Value) (c : Int) (w : World) (h : c < 0 ∨ 4096 < c) :
    Calls Tryz.prog 58 #[v, .int .i64 c] w fun e w' => e = .returned (.tuple #[.slice none 0 0, .slice none 0 0, err 1]) ∧ w = w' := by
  by_cases h0 : c < 0
  · clear h
    go_enter Tryz.func58, Tryz.ntmps58
    go_wp2_with fail
    go_ret3
    exact ⟨rfl, rfl⟩
  · have h1 : 4096 < c := by omega
    clear h
    go_enter Tryz.func58, Tryz.ntmps58
    go_wp2_with fail
    go_ret3
    exact ⟨rfl, rfl⟩

theorem takesN_zero (l : Sec) : takesN 0 l = some ([], l) := rfl
theorem takesN_none {c : Nat} {l : Sec} (h : takeN l = none) : takesN (c + 1) l = none := by rw [takesN, h]
theorem takesN_some {c : Nat} {l : Sec} {n : Int} {k : Nat} (h : takeN l = some (n, k)) : takesN (c + 1) l = (takesN c (l.drop k)).map fun p => (n :: p.1, p.2) := by rw [takesN, h]
/-- So many numbers have been taken. -/
def Took (c : Nat) (l : Sec) (k : Nat) (ns : List Int) (rest : Sec) : Prop := takesN c l = (takesN (c - k) rest).map fun p => (ns ++ p.1, p.2)
theorem Took.start (c : Nat) (l : Sec) : Took c l 0 [] l := by
  unfold Took
  cases takesN c l <;> simp [*]
theorem Took.next {c k : Nat} {l rest : Sec} {ns : List Int} (h : Took c l k ns rest) (hk : k < c) {n : Int} {j : Nat} (hn : takeN rest = some (n, j)) : Took c l (k + 1) (ns ++ [n]) (rest.drop j) := by
  unfold Took at h ⊢
  rw [h, show c - k = (c - (k + 1)) + 1 by omega, takesN_some hn]
  cases takesN (c - (k + 1)) (rest.drop j) <;> simp
theorem Took.none {c k : Nat} {l rest : Sec} {ns : List Int} (h : Took c l k ns rest) (hk : k < c) (hn : takeN rest = none) : takesN c l = none := by
  unfold Took at h
  rw [h, show c - k = (c - (k + 1)) + 1 by omega, takesN_none hn]
  rfl
theorem Took.done {c : Nat} {l rest : Sec} {ns : List Int} (h : Took c l c ns rest) : takesN c l = some (ns, rest) := by
  unfold Took at h
  rw [h, Nat.sub_self, takesN_zero]
  simp
theorem Only.refill {w w' : World} (h : Only [] w w') : Only [] w w' := ⟨h.os, h.tape, h.output, h.size, h.block⟩

set_option maxRecDepth 100000 in
set_option maxHeartbeats 1600000 in
theorem Takes_any (v : Value) (l : Sec) (c : Nat) (w : World) (hv : Bytes w v l) (hf : Fit v) (hl : l.length ≤ 17592186044416) (hc : c ≤ 4096) :
    Calls Tryz.prog 58 #[v, .int .i64 c] w (TakesPost w c l) := by
  have HV := Lib.hid hv
  obtain ⟨va, vc, rfl, -⟩ := id hv
  obtain ⟨hf1, hf2⟩ := hf _ _ _ rfl
  clear hv hf
  unfold maxLen at hf2
  have n0 : ¬ (c : Int) < 0 := by omega
  have n1 : ¬ (4096 : Int) < (c : Int) := by omega
  go_enter Tryz.func58, Tryz.ntmps58
  go_wp2_with fail
  clear n0 n1
  go_loopw [0, 7, 8, 9, 18] (fun b nv _ _ i wr => ∃ (k : Nat) (ns : List Int) (rest : Sec) (ba : Option Addr) (bc : Nat), k ≤ c ∧ i = .int .i64 k ∧ ns.length = k ∧ b = .slice ba rest.length bc ∧ rest.length ≤ bc ∧ bc ≤ 2 ^ 63 - 1 ∧ rest.length ≤ l.length ∧ Bytes w (.slice ba rest.length bc) rest ∧ OwnI wr w.heap.size nv ns ∧ Took c l k ns rest ∧ Only [] w wr) (fun _ _ _ _ i _ => c - (intOf i).toNat)
  case atStart => exact ⟨0, [], l, va, vc, by omega, rfl, rfl, rfl, hf1, hf2, Nat.le_refl _, HV.out, OwnI.nil _ _, Took.start c l, Only.refl _ _⟩
  case round =>
    clear HV hf1 hf2
    obtain ⟨k, ns, rest, ba, bc, hk, rfl, hnk, rfl, hb1, hb2, hrl, hb, hn, ht, ho⟩ := hrel
    obtain ⟨na, nc, rfl⟩ := hn.shape
    rw [hnk] at hn ⊢
    have HB := Lib.hid hb
    have HN := Lib.hid hn
    have HT := Lib.hid ht
    have HO := Lib.hid ho
    have HK := Lib.hid hnk
    clear hb hn ht ho hnk
    by_cases hlt : k < c
    · cases hr : takeN rest with
      | none =>
        have H := Lib.hid (takeN_none hr)
        have HR := Lib.hid (HT.out.none hlt hr)
        clear hr
        go_wp2_with fail
        refine (number_any _ rest wr (HB.out.kept HO.out (clean_nil _)) (by omega)).mono ?_
        rintro e w1 ⟨rfl, rfl⟩
        rw [H.out]
        go_wp2_with fail
        go_ret3
        exact ⟨fun _ => rfl, (fun ns rest h => by rw [HR.out] at h; cases h), HO.out⟩
      | some p =>
        obtain ⟨n, j⟩ := p
        have H := Lib.hid (takeN_some hr)
        have HR := Lib.hid (HT.out.next hlt hr)
        obtain ⟨_, hj, hj1, hn0, hn1⟩ := takeN_inv hr
        clear hr
        have j0 : ((j : Int) == 0) = false := by simp; omega
        obtain ⟨b', hs, hb'⟩ := slice_from HB.out hb1 j hj .i64
        have HB' := Lib.hid hb'
        clear hb'
        go_wp2_with fail
        refine (number_any _ rest wr (HB.out.kept HO.out (clean_nil _)) (by omega)).mono ?_
        rintro e w1 ⟨rfl, rfl⟩
        rw [H.out]
        go_wp2_with (
          refine wpList_append_int rfl (.tmp 28) (.tmp 30) rfl w.heap.size _ ns (by rfl) (HN.out.quiet ((Only.refl [] wr).alloc _)).1 wr.heap.size (by rfl) n (by simp) (by have := HK.out; omega) (by have := HO.out.size; simp; omega) ?_
          intro g cap w2 hw2 ho2)
        have hof := cut_only (HN.out.quiet ((Only.refl [] wr).alloc (.cells #[.int .i64 n] 3))) (HO.out.trans ((Only.refl [] wr).alloc _) (by simp)) (Nat.le_refl _) ho2
        have hwf : ∀ x ∈ ns ++ [n], (Lit.int .i64 x).wf = true := fun x hx => by
          rcases List.mem_append.1 hx with h | h
          · exact HN.out.2 x h
          · rw [List.mem_singleton.1 h]
            exact WalkArith.wf_i64 (by omega)
        exact ⟨⟨k + 1, ns ++ [n], rest.drop j, b', bc - j, by omega, by go_num, by simp [HK.out], by rw [List.length_drop], by simp; omega, by omega, by simp; omega, by rw [List.length_drop]; exact HB'.out, ⟨hw2, hwf⟩, HR.out, hof⟩, by simp [intOf]; omega⟩
    · obtain rfl : k = c := by omega
      have HD := Lib.hid HT.out.done
      go_wp2_with fail
      refine (clone_any _ rest wr (HB.out.kept HO.out (clean_nil _)) (by omega)).mono ?_
      rintro e w1 ⟨a2, c2, rfl, hw1, ho1⟩
      have HW := Lib.hid hw1
      clear hw1
      go_wp2_with fail
      go_ret3
      refine ⟨(fun h => by rw [HD.out] at h; cases h), (fun ns' rest' h => ?_), HO.out.trans ho1 (by simp)⟩
      rw [HD.out] at h
      cases h
      exact ⟨na, nc, a2, c2, by rw [HK.out]; rfl, by rw [HK.out]; exact HN.out.quiet ho1, HW.out.mono HO.out.size⟩
end Go.Proofs.YtfnedeaemjchgaaGreat

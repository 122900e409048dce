/- WirePuts, for every input: it returns true, and its arguments read behind the call as they did: which bytes numbers and rows have, behind any bytes; what is handed in is neither changed nor kept. No condition. -/
import Derived.Test.YtboemljofdanfaaLw
import Derived.Test.YtboemljofdanfaaN9
import Derived.Test.YtboemljofdanfaaAp3
namespace Go.Proofs.Ytboemljofdanfaa
open Go.ChangeShapes Go.WideShapes Go.ChangeAt Go.RowKit Go.Deep Go.Maps
set_option linter.unusedSimpArgs false
set_option linter.unusedVariables false

/-! ### numbers behind numbers of one's own -/
theorem info_int' : (Try.prog.info? 3).map (fun i => (i.zero, i.size, i.bytes)) = some (some (.int .i64 0), 1, 8) := by kernel_rfl
theorem ints_news {w : World} {a : Option Addr} {n cap : Nat} {l : List Int} (h : IntsV w (.slice a n cap) l) : n = l.length ∧ ∀ ad, a = some ad → ∀ (j : Nat) (u : Value), (iv l)[j]? = some u → w.cell? (ad.add j) = some u := by
  obtain ⟨a', cap', e, hc⟩ := h
  injection e with e1 e2 e3
  subst e1
  refine ⟨e2, fun ad had j u hu => ?_⟩
  unfold iv at hu
  rw [List.getElem?_map, Option.map_eq_some_iff] at hu
  obtain ⟨c, hc', rfl⟩ := hu
  obtain ⟨_, b, off, hb, hcell⟩ := hc j c hc'
  rw [had] at hb
  cases hb
  rw [Addr.add_lit]
  exact hcell
section
variable {w : World} {ops : Array Oper} {rest : List Oper} {o : Oper} {a : Act} {Q : Exit → Act → World → Prop}
/-- 'append' of any numbers behind own ones that have the room. -/
theorem wpList_append_ints (hg : o.guard = none) (s x : Operand) (hop : o.op = Op.call { callee := Callee.builtin Builtin.append, args := #[s, x], argTypes := #[23, 23] })
    (base g k cap : Nat) (xs : List Value) (hs : a.eval s = .slice (some ⟨g, 0, none⟩) k cap) (hown : w.ownsRow base 3 1 (.slice (some ⟨g, 0, none⟩) k cap) k xs) (v : Value) (l : List Int) (hx : a.eval x = v) (hv : IntsV w v l) (b1 : k + l.length ≤ cap)
    (hK : ∀ w', w'.ownsRow base 3 1 (.slice (some ⟨g, 0, none⟩) (k + l.length) cap) (k + l.length) (xs ++ iv l) → Only [g] w w' → wpList Try.prog ops Q rest (a.put o.dst (.slice (some ⟨g, 0, none⟩) (k + l.length) cap)) w') :
    wpList Try.prog ops Q (o :: rest) a w := by
  obtain ⟨i, hi, hz⟩ := Option.map_eq_some_iff.1 info_int'
  simp only [Prod.mk.injEq] at hz
  obtain ⟨z1, z2, z3⟩ := hz
  have hv' := hv
  obtain ⟨ao, capv, rfl, hc⟩ := hv'
  by_cases h0 : l.length = 0
  · obtain rfl : l = [] := List.eq_nil_of_length_eq_zero h0
    refine wpList_plain hg fun K' hK' => ?_
    have hrun := run_append_empty (P := Try.prog) base 23 o.type 3 i 1 Try.underlying23 hi _ k xs hown ao capv
    unfold Oper.wp
    simp [execOp, hop, resolve, invoke, builtin, hs, hx, hrun, Result.andThen]
    exact hK' _ _ (by simpa [iv] using hK w (by simpa [iv] using hown) (Only.refl _ _))
  · obtain ⟨_, b, off, rfl, _⟩ := hc 0 l[0] (List.getElem?_eq_getElem (by omega))
    exact wpList_append_fits w hg s x 23 hop base 3 i 1 Try.underlying23 hi z2 g k cap xs hs hown ⟨b, off, none⟩ l.length capv (iv l) hx (by simp [iv]) ((ints_news hv).2 _ rfl) (by simp [iv, Value.oneCell']) b1 (fun w' h1 h2 => hK w' h1 (Only.of_grown h2))
end
/-- Numbers with a mark behind them. -/
def CopyI (w : World) (g : Nat) (l : List Int) : Prop := ∃ cur : Array Value, w.heap[g]? = some (.cells cur 3 (0, 0)) ∧ cur.size = l.length + 1 ∧ cur.toList = iv l ++ [.int .i64 (-77)]
theorem CopyI.kept {w w' : World} {S : List Nat} {g : Nat} {l : List Int} (h : CopyI w g l) (ho : Only S w w') (hg : g ∉ S) : CopyI w' g l := by
  obtain ⟨cur, h1, r⟩ := h
  exact ⟨cur, ho.heap h1 hg, r⟩
theorem CopyI.ints {w : World} {g : Nat} {l : List Int} (h : CopyI w g l) (hw : ∀ x ∈ l, (Lit.int .i64 x).wf = true) : IntsV w (.slice (some ⟨g, 0, none⟩) l.length (l.length + 1)) l := by
  obtain ⟨cur, hg, hs, hl⟩ := h
  refine ⟨_, _, rfl, fun i c hi => ⟨hw c (List.mem_of_getElem? hi), g, 0, rfl, ?_⟩⟩
  have hlt := (List.getElem?_eq_some_iff.1 hi).1
  rw [Nat.zero_add, cell_at i hg, ← Array.getElem?_toList, hl, List.getElem?_append_left (by simpa [iv] using hlt)]
  simp [iv, hi]
theorem CopyI.mark {w : World} {g : Nat} {l : List Int} (h : CopyI w g l) : w.cell? ⟨g, l.length, none⟩ = some (.int .i64 (-77)) := by
  obtain ⟨cur, hg, hs, hl⟩ := h
  rw [cell_at _ hg, ← Array.getElem?_toList, hl, List.getElem?_append_right (by simp [iv])]
  simp [iv]

theorem alone_four {a b c d : Value} (h1 : Sep a b) (h2 : Sep a c) (h3 : Sep a d) (h4 : Sep b c) (h5 : Sep b d) (h6 : Sep c d) : Alone [a, b, c, d] := by
  intro i j r s g hi hj hr hs
  have hsep : ∀ (i j : Nat) (r s : Value), i < j → [a, b, c, d][i]? = some r → [a, b, c, d][j]? = some s → Sep r s := by
    intro i j r s hlt hi hj
    rcases i with _ | _ | _ | _ | i <;> rcases j with _ | _ | _ | _ | j <;> first | omega | (simp at hi hj; done) | (simp at hi hj; subst hi; subst hj; assumption)
  rcases Nat.lt_trichotomy i j with h | h | h
  · exact absurd hs (hsep i j r s h hi hj g hr)
  · exact h
  · exact absurd hr (hsep j i s r h hj hi g hs)
/-- Apart of four rows that were made since w0. -/
theorem apart_four {w : World} {a b c d : Value} {na nb nc nd base : Nat} (ha : Row w a na) (hb : Row w b nb) (hc : Row w c nc) (hd : Row w d nd) (hal : Alone [a, b, c, d]) (h1 : na ≤ 1099511627776) (h2 : nb ≤ 1099511627776) (h3 : nc ≤ 1099511627776) (h4 : nd ≤ 1099511627776)
    (hnew : ∀ r ∈ [a, b, c, d], ∀ g, Value.ownBlock r = some g → base ≤ g) (w0 : World) (h0 : Only [] w0 w) (hbase : w0.heap.size ≤ base) {v : Value} (hv : v = .slice (some ⟨w.heap.size, 0, none⟩) 4 4) :
    Calls Try.prog 18 #[v] (w.alloc (.cells #[a, b, c, d] 22)) fun e w' => e = .returned (.bool true) ∧ Only [] w0 w' := by
  subst hv
  have q : Only [] w (w.alloc (.cells #[a, b, c, d] 22)) := (Only.refl [] w).alloc _
  refine (apart_any w.heap.size 4 _ [a, b, c, d] (fun i => [na, nb, nc, nd].getD i 0) _ (heap_new w _) ?_ ?_ hal (by simp) ?_).mono ?_
  · intro i r hi
    rcases i with _ | _ | _ | _ | i <;> simp at hi <;> subst hi <;> rfl
  · intro i r hi
    rcases i with _ | _ | _ | _ | i <;> simp at hi <;> subst hi
    · exact ha.kept q (by simp)
    · exact hb.kept q (by simp)
    · exact hc.kept q (by simp)
    · exact hd.kept q (by simp)
  · intro i
    rcases i with _ | _ | _ | _ | i <;> simp <;> assumption
  · rintro e w' ⟨rfl, ho⟩
    refine ⟨rfl, (h0.trans q (by simp)).trans ho (fun k hk => .inr ?_)⟩
    obtain ⟨i, r, hi, hg⟩ := mem_owns.1 hk
    exact Nat.le_trans hbase (hnew r (List.mem_of_getElem? hi) k hg)

theorem sep_blocks {g g' n c n' c' : Nat} (h : g ≠ g') : Sep (.slice (some ⟨g, 0, none⟩) n c) (.slice (some ⟨g', 0, none⟩) n' c') := fun k h1 h2 => by
  simp only [Value.ownBlock, Option.some.injEq] at h1 h2
  omega
theorem sep_old {w : World} {base g n c : Nat} {v : Value} {l : Sec} (h : Own w base v l) (hg : g < base) : Sep v (.slice (some ⟨g, 0, none⟩) n c) := fun k h1 h2 => by
  simp only [Value.ownBlock, Option.some.injEq] at h2
  have := (h.lt h1).1
  omega

set_option maxRecDepth 100000 in
set_option maxHeartbeats 4000000 in
theorem puts_walk (ov nv rv : Value) (l : Sec) (ns : List Int) (r : Sec) (w : World) (ho : Bytes w ov l) (_ : Fit ov) (hol : l.length ≤ maxLen) (hn : IntsV w nv ns) (_ : Fit nv) (hnl : ns.length ≤ maxLen) (hr : Bytes w rv r) (_ : Fit rv) (hrl : r.length ≤ maxLen) :
    Calls Try.prog 3 #[ov, nv, rv] w fun e w' => e = .returned (.bool true) ∧ Only [] w w' := by
  have HL := Lib.hid ho
  have HN := Lib.hid hn
  have HR := Lib.hid hr
  obtain ⟨oa, oc, rfl, -⟩ := id ho
  obtain ⟨na, nc, rfl, -⟩ := id hn
  obtain ⟨ra, rc, rfl, -⟩ := id hr
  have hol' : l.length ≤ 9223372036854775807 := by unfold maxLen at hol; omega
  have hnl' : ns.length ≤ 9223372036854775807 := by unfold maxLen at hnl; omega
  have hrl' : r.length ≤ 9223372036854775807 := by unfold maxLen at hrl; omega
  clear ho hn hr hol hnl hrl
  go_enter Try.func3, Try.ntmps3
  go_wp2_with fail
  refine (alive_any _).mono ?_
  rintro e w1 ⟨rfl, o1⟩
  have HO1 := Lib.hid o1
  clear o1
  by_cases hbn : (5000 : Int) < ns.length
  · go_wp2
    go_ret
    exact ⟨rfl, HO1.out⟩
  · go_wp2_with fail
    have HP := parts_made2 (HL.out.kept HO1.out (clean_nil _)) (HR.out.kept HO1.out (clean_nil _)) rfl
    have q1 : Only [] w1 (w1.alloc (.cells #[.slice oa l.length oc, .slice ra r.length rc] 22)) := (Only.refl [] w1).alloc _
    have HO2 := Lib.hid (HO1.out.trans q1 (by simp))
    refine (large_any _ [l, r] _ HP (by simp) (by simp; omega)).mono ?_
    rintro e w2 ⟨rfl, rfl⟩
    clear HP q1
    generalize w1.alloc (.cells #[.slice oa l.length oc, .slice ra r.length rc] 22) = w2 at HO2 ⊢
    have ht : total [l, r] = l.length + r.length := by simp [total]
    rw [ht]
    clear ht
    by_cases hbig : 131072 < l.length + r.length
    · go_wp2
      go_ret
      exact ⟨rfl, HO2.out⟩
    · have hl1 : l.length ≤ 131072 := by omega
      have hr1 : r.length ≤ 131072 := by omega
      have hn1 : ns.length ≤ 5000 := by omega
      clear hol' hnl' hrl'
      go_wp2_with fail
      refine (Copy_any _ l w2 (HL.out.kept HO2.out (clean_nil _)) (by omega)).mono ?_
      rintro e w3 ⟨g3, rfl, hc3, hg3, o3⟩
      have HO3 := Lib.hid (HO2.out.trans o3 (by simp))
      have HC3 := Lib.hid hc3
      have hlt3 : g3 < w3.heap.size := by obtain ⟨cur, h, _⟩ := hc3; exact lt_of_heap h
      have hge3 : w.heap.size ≤ g3 := Nat.le_trans HO2.out.size hg3
      clear hc3 hg3 o3
      go_wp2_with fail
      refine (Copy_any _ r w3 (HR.out.kept HO3.out (clean_nil _)) (by omega)).mono ?_
      rintro e w4 ⟨g4, rfl, hc4, hg4, o4⟩
      have HO4 := Lib.hid (HO3.out.trans o4 (by simp))
      have HC4 := Lib.hid hc4
      have HD4 := Lib.hid (HC3.out.kept o4 (by simp))
      have hlt4 : g4 < w4.heap.size := by obtain ⟨cur, h, _⟩ := hc4; exact lt_of_heap h
      have hsz4 := o4.size
      clear hc4 o4 HC3
      obtain ⟨i, hi, hz⟩ := Option.map_eq_some_iff.1 info_int'
      simp only [Prod.mk.injEq] at hz
      obtain ⟨z1, z2, z3⟩ := hz
      have HI := Lib.hid hi
      have HZ1 := Lib.hid z1
      have HZ2 := Lib.hid z2
      have HZ3 := Lib.hid z3
      have tok1 : True := trivial
      clear hi z1 z2 z3
      go_wp2_with (first
        | (have _t := tok1
           refine wpList_make_own w4 rfl (.const (.int .i64 0)) (.tmp 30) 23 rfl w4.heap.size 3 i (.int .i64 0) 1 Try.underlying23 HI.out HZ1.out HZ2.out .i64 .i64 ((ns.length : Int) + 1) (ns.length + 1) (by rfl) (by rfl) (by omega) (by rw [HZ3.out]; omega) (by unfold maxLen; omega) (Nat.le_refl _) (fun w5 hown5 hgr5 => ?_)
           have HO5 := Lib.hid (Only.of_grown hgr5 : Only [] w4 w5)
           have HW5 := Lib.hid hown5
           clear hown5 hgr5 tok1 _t)
        | (refine wpList_append_ints rfl (.tmp 31) (.tmp 32) rfl w4.heap.size w4.heap.size 0 (ns.length + 1) [] (by rfl) HW5.out _ ns (by rfl) (HN.out.kept (HO4.out.trans HO5.out (by simp)) (fun _ _ _ _ _ => by simp)) (by omega) (fun w6 hown6 o6 => ?_)
           rw [Nat.zero_add] at hown6
           have HW6 := Lib.hid (own_kept hown6 ((Only.refl [] w6).alloc (.cells #[.int .i64 (-77)] 3)) (by simp))
           have HO6 := Lib.hid (show Only [] w4 (w6.alloc (.cells #[.int .i64 (-77)] 3)) from (HO5.out.trans o6 (fun k hk => .inr (by simp at hk; omega))).alloc _)
           clear hown6 o6 HW5 HO5)
        | (refine wpList_append_fits _ rfl (.tmp 33) (.tmp 34) 23 rfl w4.heap.size 3 i 1 Try.underlying23 HI.out HZ2.out w4.heap.size ns.length (ns.length + 1) _ (by rfl) HW6.out ⟨w6.heap.size, 0, none⟩ 1 1 [.int .i64 (-77)] (by rfl) rfl (World.news_of_block (heap_new w6 _)) (by simp [Value.oneCell']) (by omega) (fun w7 hown7 hgr7 => ?_)
           have HO7 := Lib.hid (HO6.out.trans (Only.of_grown hgr7) (fun k hk => .inr (by simp at hk; omega)))
           have HW7 := Lib.hid hown7
           clear hown7 hgr7 HW6 HO6))
      have hci : CopyI w7 w4.heap.size ns := by
        rcases HW7.out.2 with ⟨e, _⟩ | ⟨g, cap, cur, e, _, hg, _, _, h1, h2⟩
        · cases e
        · cases e
          refine ⟨cur, hg, by omega, ?_⟩
          rw [List.take_of_length_le (by simp; omega)] at h2
          simpa using h2
      have hall := ints_bounds HN.out
      have hwf : ∀ x ∈ ns, (Lit.int .i64 x).wf = true := fun x hx => by
        obtain ⟨k, hk⟩ := List.mem_iff_getElem?.1 hx
        exact (HN.out.at_ hk).1
      have hnums := nums_len ns hall
      have HI7 := Lib.hid hci
      have HC7 := Lib.hid (HC4.out.kept HO7.out (by simp))
      have HD7 := Lib.hid (HD4.out.kept HO7.out (by simp))
      have HWF := Lib.hid hwf
      have HP7 := Lib.hid (HO4.out.trans HO7.out (by simp))
      have hge4 : w.heap.size ≤ g4 := by have := HO3.out.size; omega
      have hsz7 := HO7.out.size
      have h5lt : w4.heap.size < w7.heap.size := by obtain ⟨cur, h, _⟩ := hci; exact lt_of_heap h
      have hge5 := HO4.out.size
      generalize w4.heap.size = g5 at *
      clear hci hall hwf HW7 HI HZ1 HZ2 HZ3 HC4 HD4 HO7
      refine (Put_any _ l _ ns w7 HD7.out.bytes (HI7.out.ints HWF.out) (by omega) (by omega)).mono ?_
      rintro e w8 ⟨a8, c8, rfl, hw8, o8⟩
      have HA8 := Lib.hid hw8
      have HP8 := Lib.hid (HP7.out.trans o8 (by simp))
      have HC8 := Lib.hid (HC7.out.kept o8 (by simp))
      have HD8 := Lib.hid (HD7.out.kept o8 (by simp))
      have HI8 := Lib.hid (HI7.out.kept o8 (by simp))
      have hsz8 := o8.size
      clear hw8 o8 HC7 HD7 HI7 HP7
      have hla : l.length + (nums ns).length ≤ 262144 := by omega
      generalize hna : l.length + (nums ns).length = ka at *
      have HNA := Lib.hid hna
      clear hna
      go_wp2_with fail
      refine (PutRow_any _ l _ r w8 HD8.out.bytes HC8.out.bytes (by omega) (by omega)).mono ?_
      have hrow := row_len r (by omega)
      have hrb : (rowB r).length = (num r.length).length + r.length := by simp [rowB]
      have hlb : l.length + (rowB r).length ≤ 262144 := by omega
      have hrb2 : (rowB r).length ≤ 262144 := by omega
      rintro e w9 ⟨a9, c9, rfl, hw9, o9⟩
      have hsep := sep_later HA8.out hw9 (Nat.le_refl _)
      have HB9 := Lib.hid hw9
      have HA9 := Lib.hid (HA8.out.quiet o9)
      have HP9 := Lib.hid (HP8.out.trans o9 (by simp))
      have HC9 := Lib.hid (HC8.out.kept o9 (by simp))
      have HD9 := Lib.hid (HD8.out.kept o9 (by simp))
      have HI9 := Lib.hid (HI8.out.kept o9 (by simp))
      have HSEP := Lib.hid hsep
      clear hw9 o9 HC8 HD8 HI8 HP8 HA8 hsep hrb hrow
      generalize hnb : l.length + (rowB r).length = kb at *
      have HNB := Lib.hid hnb
      clear hnb
      go_wp2_with (
        refine wpList_append_any rfl (.tmp 45) (.tmp 46) rfl w9.heap.size _ [] (by rfl) (Own.made w9 [] #[] rfl (Nat.le_refl _) (by simp)) _ l (by rfl) (HL.out.kept (HP9.out.trans ((Only.refl [] w9).alloc _) (by simp)) (clean_nil _)) l.length (by simp) l rfl (by omega) (by simp) ?_
        intro a10 c10 w10 hw10 e10
        have HW10 := Lib.hid hw10
        have ho10 := Ext.fresh ((Only.refl [] w9).alloc _) (Own.made w9 [] #[] rfl (Nat.le_refl _) (by simp)) (Nat.le_refl _) e10
        have hsz10 := ho10.size
        have HO10 := Lib.hid ho10
        clear hw10 e10 ho10)
      refine (RRow_any _ r w10 (HR.out.kept (HP9.out.trans HO10.out (by simp)) (clean_nil _)) (by omega)).mono ?_
      rintro e w11 ⟨a11, c11, rfl, hw11, o11⟩
      have HR11 := Lib.hid hw11
      have hsz11 := o11.size
      have HW11 := Lib.hid (HW10.out.quiet o11)
      have HO11 := Lib.hid (HO10.out.trans o11 (by simp))
      clear hw11 o11 HW10 HO10
      go_wp2_with (
        refine wpList_append_any rfl (.tmp 47) (.tmp 49) rfl w9.heap.size _ l (by rfl) HW11.out _ (rowB r) (by rfl) HR11.out.bytes kb HNB.out (l ++ rowB r) rfl (by omega) (by omega) ?_
        intro a12 c12 w12 hw12 e12
        have HW12 := Lib.hid hw12
        have HO12 := Lib.hid (Ext.fresh HO11.out HW11.out (Nat.le_refl _) e12)
        clear hw12 e12 HW11 HO11 HR11)
      have HP12 := Lib.hid (HP9.out.trans HO12.out (by simp))
      have HA12 := Lib.hid (HA9.out.quiet HO12.out)
      have HB12 := Lib.hid (HB9.out.quiet HO12.out)
      have HC12 := Lib.hid (HC9.out.kept HO12.out (by simp))
      have HD12 := Lib.hid (HD9.out.kept HO12.out (by simp))
      have HI12 := Lib.hid (HI9.out.kept HO12.out (by simp))
      clear HA9 HB9 HC9 HD9 HI9 HO12 HP9
      obtain ⟨S1, hS1⟩ : ∃ S, S = strOf (l ++ nums ns) := ⟨_, rfl⟩
      obtain ⟨S2, hS2⟩ : ∃ S, S = strOf (l ++ rowB r) := ⟨_, rfl⟩
      have H1 := Lib.hid hS1
      have H2 := Lib.hid hS2
      have qd : Only [] w12 w12.drew := (Only.refl [] w12).drew
      have s1 := str_bytes (HA12.out.quiet qd).bytes hS1
      have s2 := str_bytes (HB12.out.quiet qd).bytes hS2
      have s3 := str_bytes (HW12.out.quiet qd).bytes hS2
      clear hS1 hS2 qd
      refine wp_region_held_drew (S := fun w' => (convert 22 9 (.slice a8 ka c8)).run Try.prog w' = .ok (.string S1) w' ∧ (convert 22 9 (.slice a9 kb c9)).run Try.prog w' = .ok (.string S2) w' ∧ (convert 22 9 (.slice a12 kb c12)).run Try.prog w' = .ok (.string S2) w') (by kernel_rfl) ⟨s1, s2, s3⟩ (fun hH => ?_)
      refine take_list (i := 0) (v := ?_) rfl (by kernel_rfl) (by kernel_rfl) (by kernel_rfl) (fun _ _ _ h => h) (Or.inl ⟨by rfl, ?_⟩) hH ?_
      rotate_left
      · ((intro w hSw; (try dsimp only at hSw); go_simp); try with_reducible rfl)
      simp only [Act.put, List.setIfInBounds_toArray, List.set_cons_zero, List.set_cons_succ]
      refine take_list (i := 1) (v := ?_) rfl (by kernel_rfl) (by kernel_rfl) (by kernel_rfl) (fun _ _ _ h => h) (Or.inl ⟨by rfl, ?_⟩) hH ?_
      rotate_left
      · ((intro w hSw; (try dsimp only at hSw); go_simp); try with_reducible rfl)
      simp only [Act.put, List.setIfInBounds_toArray, List.set_cons_zero, List.set_cons_succ]
      refine take_list (i := 2) (v := ?_) rfl (by kernel_rfl) (by kernel_rfl) (by kernel_rfl) (fun _ _ _ h => h) (Or.inl ⟨by rfl, ?_⟩) hH ?_
      rotate_left
      · ((intro w hSw; (try dsimp only at hSw); go_simp); try with_reducible rfl)
      simp only [Act.put, List.setIfInBounds_toArray, List.set_cons_zero, List.set_cons_succ]
      refine take_list (i := 3) (v := ?_) rfl (by kernel_rfl) (by kernel_rfl) (by kernel_rfl) (fun _ _ _ h => h) (Or.inl ⟨by rfl, ?_⟩) hH ?_
      rotate_left
      · ((intro w hSw; (try dsimp only at hSw); go_simp); try with_reducible rfl)
      simp only [Act.put, List.setIfInBounds_toArray, List.set_cons_zero, List.set_cons_succ]
      refine wpAnyH_ready (rs := [4]) (by kernel_rfl) (by simp) ?_
      refine ready_list rfl (fun K hK => ?_)
      go_simp
      refine (RPut_any _ l _ ns _ (HL.out.kept (HP12.out.drew) (clean_nil _)) (HN.out.kept (HP12.out.drew) (fun _ _ _ _ _ => by simp)) (by omega) (by omega)).mono ?_
      rw [HNA.out]
      rintro e w13 ⟨a13, c13, rfl, hw13, o13⟩
      have q13 : Only [] w12 w13 := (Only.refl [] w12).drew.trans o13 (by simp)
      have t1 := str_bytes (HA12.out.quiet q13).bytes H1.out
      have t2 := str_bytes (HB12.out.quiet q13).bytes H2.out
      have t3 := str_bytes (HW12.out.quiet q13).bytes H2.out
      have t4 := str_bytes hw13.bytes H1.out
      have HP13 := Lib.hid (HP12.out.trans q13 (by simp))
      have HA13 := Lib.hid (HA12.out.quiet q13)
      have HB13 := Lib.hid (HB12.out.quiet q13)
      have HC13 := Lib.hid (HC12.out.kept q13 (by simp))
      have HD13 := Lib.hid (HD12.out.kept q13 (by simp))
      have HI13 := Lib.hid (HI12.out.kept q13 (by simp))
      clear HA12 HB12 HC12 HD12 HI12 HP12 hw13 o13 q13 s1 s2 s3
      refine hK.out _ _ ⟨t1, t2, t3⟩ (fun hH => ?_)
      clear hK K
      refine wpAnyH_ready (rs := [5]) (by kernel_rfl) (by simp) ?_
      refine ready_list rfl (fun K hK => ?_)
      go_simp
      refine hK.out _ _ hH (fun hH => ?_)
      clear hK K t4
      refine take_list (i := 6) (v := ?_) rfl (by kernel_rfl) (by kernel_rfl) (by kernel_rfl) (fun _ _ _ h => h) (Or.inl ⟨by rfl, ?_⟩) hH ?_
      rotate_left
      · ((intro w hSw; (try dsimp only at hSw); go_simp); try with_reducible rfl)
      simp only [Act.put, List.setIfInBounds_toArray, List.set_cons_zero, List.set_cons_succ]
      refine take_list (i := 7) (v := ?_) rfl (by kernel_rfl) (by kernel_rfl) (by kernel_rfl) (fun _ _ _ h => h) (Or.inl ⟨by rfl, ?_⟩) hH ?_
      rotate_left
      · ((intro w hSw; (try dsimp only at hSw); go_simp); try with_reducible rfl)
      simp only [Act.put, List.setIfInBounds_toArray, List.set_cons_zero, List.set_cons_succ]
      refine take_list (i := 8) (v := ?_) rfl (by kernel_rfl) (by kernel_rfl) (by kernel_rfl) (fun _ _ _ h => h) (Or.inl ⟨by rfl, ?_⟩) hH ?_
      rotate_left
      · ((intro w hSw; (try dsimp only at hSw); go_simp); try with_reducible rfl)
      simp only [Act.put, List.setIfInBounds_toArray, List.set_cons_zero, List.set_cons_succ]
      refine take_list (i := 9) (v := ?_) rfl (by kernel_rfl) (by kernel_rfl) (by kernel_rfl) (fun _ _ _ h => h) (Or.inl ⟨by rfl, ?_⟩) hH ?_
      rotate_left
      · ((intro w hSw; (try dsimp only at hSw); go_simp); try with_reducible rfl)
      simp only [Act.put, List.setIfInBounds_toArray, List.set_cons_zero, List.set_cons_succ]
      refine take_list (i := 10) (v := ?_) rfl (by kernel_rfl) (by kernel_rfl) (by kernel_rfl) (fun _ _ _ h => h) (Or.inl ⟨by rfl, ?_⟩) hH ?_
      rotate_left
      · ((intro w hSw; (try dsimp only at hSw); go_simp); try with_reducible rfl)
      simp only [Act.put, List.setIfInBounds_toArray, List.set_cons_zero, List.set_cons_succ]
      refine take_list (i := 11) (v := ?_) rfl (by kernel_rfl) (by kernel_rfl) (by kernel_rfl) (fun _ _ _ h => h) (Or.inl ⟨by rfl, ?_⟩) hH ?_
      rotate_left
      · ((intro w hSw; (try dsimp only at hSw); go_simp); try with_reducible rfl)
      simp only [Act.put, List.setIfInBounds_toArray, List.set_cons_zero, List.set_cons_succ]
      refine take_list (i := 12) (v := ?_) rfl (by kernel_rfl) (by kernel_rfl) (by kernel_rfl) (fun _ _ _ h => h) (Or.inl ⟨by rfl, ?_⟩) hH ?_
      rotate_left
      · ((intro w hSw; (try dsimp only at hSw); go_simp); try with_reducible rfl)
      simp only [Act.put, List.setIfInBounds_toArray, List.set_cons_zero, List.set_cons_succ]
      refine take_list (i := 13) (v := ?_) rfl (by kernel_rfl) (by kernel_rfl) (by kernel_rfl) (fun _ _ _ h => h) (Or.inl ⟨by rfl, ?_⟩) hH ?_
      rotate_left
      · ((intro w hSw; (try dsimp only at hSw); go_simp); try with_reducible rfl)
      simp only [Act.put, List.setIfInBounds_toArray, List.set_cons_zero, List.set_cons_succ]
      refine wpAnyH_done (by kernel_rfl) ?_ _
      clear t1 t2 t3 hH
      go_wp2_with fail
      refine (Kept_any g3 _ l w13 HD13.out (HL.out.kept HP13.out (clean_nil _)) (by omega)).mono ?_
      rintro e w14 ⟨rfl, o14⟩
      have HP14 := Lib.hid (HP13.out.trans o14 (by simp))
      have HA14 := Lib.hid (HA13.out.quiet o14)
      have HB14 := Lib.hid (HB13.out.quiet o14)
      have HC14 := Lib.hid (HC13.out.kept o14 (by simp))
      have HD14 := Lib.hid (HD13.out.kept o14 (by simp))
      have HI14 := Lib.hid (HI13.out.kept o14 (by simp))
      clear o14 HP13 HA13 HB13 HC13 HD13 HI13
      go_wp2_with fail
      refine (Kept_any g4 _ r w14 HC14.out (HR.out.kept HP14.out (clean_nil _)) (by omega)).mono ?_
      rintro e w15 ⟨rfl, o15⟩
      have HP15 := Lib.hid (HP14.out.trans o15 (by simp))
      have HA15 := Lib.hid (HA14.out.quiet o15)
      have HB15 := Lib.hid (HB14.out.quiet o15)
      have HC15 := Lib.hid (HC14.out.kept o15 (by simp))
      have HD15 := Lib.hid (HD14.out.kept o15 (by simp))
      have HI15 := Lib.hid (HI14.out.kept o15 (by simp))
      clear o15 HP14 HA14 HB14 HC14 HD14 HI14
      go_wp2_with fail
      refine (ints_same _ _ ns w15 (HI15.out.ints HWF.out) (HN.out.kept HP15.out (fun _ _ _ _ _ => by simp)) (by omega)).mono ?_
      rintro e w16 ⟨rfl, o16⟩
      have HP16 := Lib.hid (HP15.out.trans o16 (by simp))
      have ra16 := (HA15.out.quiet o16).row
      rw [List.length_append, HNA.out] at ra16
      have rb16 := (HB15.out.quiet o16).row
      rw [List.length_append, HNB.out] at rb16
      have rc16 := (HC15.out.kept o16 (by simp)).row (by unfold maxLen; omega)
      have rd16 := (HD15.out.kept o16 (by simp)).row (by unfold maxLen; omega)
      have hmark := (HI15.out.kept o16 (by simp)).mark
      have hal := alone_four HSEP.out (sep_old (n := l.length) (c := l.length + 2) HA15.out (show g3 < w7.heap.size by omega)) (sep_old (n := r.length) (c := r.length + 2) HA15.out (show g4 < w7.heap.size by omega)) (sep_old (n := l.length) (c := l.length + 2) HB15.out (show g3 < w8.heap.size by omega)) (sep_old (n := r.length) (c := r.length + 2) HB15.out (show g4 < w8.heap.size by omega)) (sep_blocks (n := l.length) (c := l.length + 2) (n' := r.length) (c' := r.length + 2) (show g3 ≠ g4 by omega))
      have hnew : ∀ x ∈ [Value.slice a8 ka c8, .slice a9 kb c9, .slice (some ⟨g3, 0, none⟩) l.length (l.length + 2), .slice (some ⟨g4, 0, none⟩) r.length (r.length + 2)], ∀ g, Value.ownBlock x = some g → w.heap.size ≤ g := by
        intro x hx g hg
        simp only [List.mem_cons, List.not_mem_nil, or_false] at hx
        rcases hx with rfl | rfl | rfl | rfl
        · have := (HA15.out.lt hg).1; omega
        · have := (HB15.out.lt hg).1; omega
        · simp only [Value.ownBlock, Option.some.injEq] at hg; omega
        · simp only [Value.ownBlock, Option.some.injEq] at hg; omega
      have HAP := Lib.hid (apart_four ra16 rb16 rd16 rc16 hal (by omega) (by omega) (by omega) (by omega) hnew w HP16.out (Nat.le_refl _) rfl)
      clear o16 HP15 HA15 HB15 HC15 HD15 HI15 ra16 rb16 rc16 rd16 hal hnew
      go_wp2_with fail
      refine HAP.out.mono ?_
      rintro e w17 ⟨rfl, o17⟩
      have HO17 := Lib.hid o17
      clear o17 hmark
      go_wp2
      go_ret
      exact ⟨rfl, HO17.out⟩

set_option maxRecDepth 100000 in
theorem puts_lifted (os : Os) (started : os.Started) (H : Type) (enc : TypeId × Value → H) :
    ReturnsInHanded {} Try.checked os 3 .any (Rows.wirePutsSpec.pre6 enc Try.prog Try.f3 Rows.wirePutsRow.domain false) (Rows.wirePutsSpec.post enc Try.prog Try.f3 false true false false) := by
  refine returnsInHanded_of_change (C := Try.checked) law_own started (by kernel_rfl) Try.func3
    (ChangeSpec.witness6 (enc := enc) (C := Try.checked) false ⟨#[], #[.slice none 0 0, .slice none 0 0, .slice none 0 0], []⟩ 8 (by kernel_rfl) (by kernel_rfl) (by kernel_rfl) (by kernel_rfl)) ?_
  intro W base args ds gs before hval0 hW hcnd _
  have hval : ∀ (j : Nat) t v, Try.f3.params[j]? = some t → args[j]? = some v → Value.okWide Try.prog W .any base t v := hval0
  have hW' := hW
  obtain ⟨p, q, hA0, hV, rfl, hfz, hnd⟩ := hW
  have hA : DataW.TrodAll enc Try.prog W 0 (fun _ => true) true Try.f3.params.toList args.toList ds p := hA0
  rw [Try.params3] at hA hval
  obtain ⟨v0, vs0, d0, ds0, p0, q0, hargs, rfl, rfl, h0, r0⟩ := trodAll_cons hA
  obtain ⟨v1, vs1, d1, ds1, p1, q1, rfl, rfl, rfl, h1, r1⟩ := trodAll_cons r0
  obtain ⟨v2, vs2, d2, ds2, p2, q2, rfl, rfl, rfl, h2, r2⟩ := trodAll_cons r1
  obtain ⟨rfl, rfl, rfl⟩ := trodAll_nil r2
  obtain rfl : args = #[v0, v1, v2] := by cases args; simp_all
  obtain ⟨rfl, rfl⟩ := trodVars_none hV
  have h0' := h0
  obtain ⟨sa0, sl0, sc0, rfl⟩ := okWide_slice Try.underlying22 (hval 0 22 v0 rfl rfl)
  obtain ⟨fuel0, hf0⟩ := h0
  obtain ⟨l0, hs0, hfit0, hl0⟩ := open_bytes (v := .slice sa0 sl0 sc0) hf0
  have hlt0 : ∀ x ∈ p0, x.block < W.heap.size := fun x hx => hW'.lt x (by simp [hx])
  have h1' := h1
  obtain ⟨sa1, sl1, sc1, rfl⟩ := okWide_slice Try.underlying23 (hval 1 23 v1 rfl rfl)
  obtain ⟨fuel1, hf1⟩ := h1
  obtain ⟨l1, hs1, hfit1, hl1⟩ := open_nums (v := .slice sa1 sl1 sc1) hf1
  have hlt1 : ∀ x ∈ p1, x.block < W.heap.size := fun x hx => hW'.lt x (by simp [hx])
  have h2' := h2
  obtain ⟨sa2, sl2, sc2, rfl⟩ := okWide_slice Try.underlying22 (hval 2 22 v2 rfl rfl)
  obtain ⟨fuel2, hf2⟩ := h2
  obtain ⟨l2, hs2, hfit2, hl2⟩ := open_bytes (v := .slice sa2 sl2 sc2) hf2
  have hlt2 : ∀ x ∈ p2, x.block < W.heap.size := fun x hx => hW'.lt x (by simp [hx])
  clear hA0 hval0
  refine (puts_walk _ _ _ l0 l1 l2 W hs0 hfit0 hl0 hs1 hfit1 hl1 hs2 hfit2 hl2).mono fun e W' ⟨he, hg⟩ => ?_
  subst he
  exact ⟨_, rfl, post_quiet (pa := (p0 ++ (p1 ++ (p2 ++ [])))) (pv := []) hW' hg (fun _ _ _ => (trodAll_cons_mk (shut_bool Try.underlying4 _) trodAll_mk0)) (fun sp hsp => (trodAll_cons_mk (arg_stays (by kernel_rfl) (of_decide_eq_true (by kernel_rfl)) h0' hg hlt0 (fun x hx => hsp x (by simp [hx]))) (trodAll_cons_mk (arg_stays (by kernel_rfl) (of_decide_eq_true (by kernel_rfl)) h1' hg hlt1 (fun x hx => hsp x (by simp [hx]))) (trodAll_cons_mk (arg_stays (by kernel_rfl) (of_decide_eq_true (by kernel_rfl)) h2' hg hlt2 (fun x hx => hsp x (by simp [hx]))) trodAll_mk0)))) (fun _ _ => rfl) (by simp) (ok_one (by kernel_rfl) rfl (okWide_bool_mk Try.underlying4 _))⟩

theorem puts_over : Rows.wirePutsRow.holds Try.pinned (OpenSpec.ofChange Rows.wirePutsSpec) :=
  OpenClaim.holds_of_wide 3 Try.f3 rfl rfl rfl rfl rfl rfl rfl ⟨rfl, rfl, rfl, rfl, rfl⟩ rfl rfl rfl rfl rfl (by kernel_rfl) Try.func3 (by kernel_rfl)
    (of_decide_eq_true (by kernel_rfl)) (by unfold Func.isWrapper; first | (rw [if_pos (by decide +kernel)]; kernel_rfl) | (rw [if_neg (by decide +kernel)]; exact ⟨rfl, rfl⟩))
    (fun os started H enc _ => puts_lifted os started H enc)

/-- The statement. -/
theorem puts_holds : Rows.WirePutsSaid :=
  puts_over
#print axioms puts_holds
end Go.Proofs.Ytboemljofdanfaa

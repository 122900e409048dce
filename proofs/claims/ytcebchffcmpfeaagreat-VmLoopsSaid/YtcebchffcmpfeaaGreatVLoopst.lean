/- VmLoops, for every input: it returns true, and its argument reads behind the call as it did: a loop of a code does its rounds, loops within loops the product of theirs, and what takes more than 65536 steps is refused. No condition. -/
import Derived.Test.YtcebchffcmpfeaaGreatVL1t
import Derived.Test.YtcebchffcmpfeaaGreatSat
import Derived.Test.YtcebchffcmpfeaaGreatZ14at
import Derived.ChangeMaps5
namespace Go.Proofs.YtcebchffcmpfeaaGreat
open Go.ChangeShapes Go.WideShapes Go.ChangeAt Go.RowKit Go.Maps
set_option linter.unusedVariables false
set_option linter.unusedSimpArgs false

def nnV (x : Int) : Nat := 1 + (x % 64).toNat
theorem nnV_mod (x : Int) : IntKind.i64.wrap ((IntKind.u64.wrap x).tmod 64) = (((x % 64).toNat : Nat) : Int) := by
  have h : 0 ≤ IntKind.u64.wrap x := by rw [IntKind.wrap_u64]; omega
  rw [Int.tmod_eq_emod_of_nonneg h, IntKind.wrap_u64, IntKind.wrap_i64]
  omega
/-- A code in memory that is being made. -/
structure CB (w : World) (base g n : Nat) (vi vl : Value) (ins : List Ins) (lps : List Lp) : Prop where
  row : w.heap[g]? = some (.cells #[.int .i64 0, .int .i64 (n : Int), vi, vl] 25 (0, 0))
  gb : base ≤ g
  ins : OIns w base vi ins
  lps : OLps w base vl lps
section
variable {w w1 w2 w' : World} {base g n : Nat} {vi vl v' : Value} {ins l' : List Ins} {lps m' : List Lp}
theorem CB.kept (h : CB w base g n vi vl ins lps) {S : List Nat} (ho : Only S w w') (hg : g ∉ S) (hv : ∀ k ∈ S, vi.ownBlock ≠ some k) (hu : ∀ k ∈ S, vl.ownBlock ≠ some k) : CB w' base g n vi vl ins lps :=
  ⟨ho.heap h.row hg, h.gb, h.ins.kept ho hv, h.lps.kept ho hu⟩
theorem CB.quiet (h : CB w base g n vi vl ins lps) (ho : Only [] w w') : CB w' base g n vi vl ins lps := h.kept ho (by simp) (by simp) (by simp)
theorem CB.vg (h : CB w base g n vi vl ins lps) : vi.ownBlock ≠ some g := fun e => absurd (h.ins.ty e h.row) (by decide)
theorem CB.ug (h : CB w base g n vi vl ins lps) : vl.ownBlock ≠ some g := fun e => absurd (h.lps.ty e h.row) (by decide)
theorem CB.vu (h : CB w base g n vi vl ins lps) {k : Nat} (hv : vi.ownBlock = some k) : vl.ownBlock ≠ some k := fun e => by
  obtain ⟨c, hc⟩ := h.ins.block hv
  exact absurd (h.lps.ty e hc) (by decide)
theorem CB.c2 (h : CB w base g n vi vl ins lps) : w.cell? ⟨g, 2, none⟩ = some vi := ab 2 h.row
theorem CB.c3 (h : CB w base g n vi vl ins lps) : w.cell? ⟨g, 3, none⟩ = some vl := ab 3 h.row
/-- The row of instructions has grown. -/
theorem CB.grown (h : CB w base g n vi vl ins lps) (o1 : Only [] w w1) (h2 : OIns w2 base v' l') (x2 : Ext w1 vi w2 v') :
    w2.heap[g]? = some (.cells #[.int .i64 0, .int .i64 (n : Int), vi, vl] 25 (0, 0)) ∧ CB (w2.setCell ⟨g, 2, none⟩ v') base g n v' vl l' lps ∧ ∀ {w0}, Only [] w0 w → w0.heap.size = base → Only [] w0 (w2.setCell ⟨g, 2, none⟩ v') := by
  have H1 := h.quiet o1
  have hS : ∀ k ∈ vi.ownBlock.toList, vi.ownBlock = some k := fun k hk => by simpa using hk
  have hrow : w2.heap[g]? = some (.cells #[.int .i64 0, .int .i64 (n : Int), vi, vl] 25 (0, 0)) := x2.only.heap H1.row (fun e => H1.vg (hS g e))
  have oG : Only [g] w2 (w2.setCell ⟨g, 2, none⟩ v') := oc
  have hvg : v'.ownBlock ≠ some g := fun e => absurd (h2.ty e hrow) (by decide)
  have hlps := H1.lps.kept x2.only (fun k hk e => H1.vu (hS k hk) e)
  refine ⟨hrow, ⟨?_, h.gb, h2.kept oG (fun k hk => by rw [List.mem_singleton.1 hk]; exact hvg), hlps.kept oG (fun k hk => by rw [List.mem_singleton.1 hk]; exact H1.ug)⟩, fun {w0} h0 hb => ?_⟩
  · have := af (i := 2) v' hrow
    simpa using this
  · refine ((h0.trans o1 (by simp)).trans x2.only (fun k hk => .inr ?_)).trans oG (fun k hk => .inr ?_)
    · rw [hb]; exact (H1.ins.lt (hS k hk)).1
    · rw [List.mem_singleton.1 hk, hb]; exact h.gb
/-- The row of loops has grown. -/
theorem CB.grownL (h : CB w base g n vi vl ins lps) (o1 : Only [] w w1) (h2 : OLps w2 base v' m') (x2 : Ext w1 vl w2 v') :
    w2.heap[g]? = some (.cells #[.int .i64 0, .int .i64 (n : Int), vi, vl] 25 (0, 0)) ∧ CB (w2.setCell ⟨g, 3, none⟩ v') base g n vi v' ins m' ∧ ∀ {w0}, Only [] w0 w → w0.heap.size = base → Only [] w0 (w2.setCell ⟨g, 3, none⟩ v') := by
  have H1 := h.quiet o1
  have hS : ∀ k ∈ vl.ownBlock.toList, vl.ownBlock = some k := fun k hk => by simpa using hk
  have hrow : w2.heap[g]? = some (.cells #[.int .i64 0, .int .i64 (n : Int), vi, vl] 25 (0, 0)) := x2.only.heap H1.row (fun e => H1.ug (hS g e))
  have oG : Only [g] w2 (w2.setCell ⟨g, 3, none⟩ v') := oc
  have hvg : v'.ownBlock ≠ some g := fun e => absurd (h2.ty e hrow) (by decide)
  have hins := H1.ins.kept x2.only (fun k hk e => H1.vu e (hS k hk))
  refine ⟨hrow, ⟨?_, h.gb, hins.kept oG (fun k hk => by rw [List.mem_singleton.1 hk]; exact H1.vg), h2.kept oG (fun k hk => by rw [List.mem_singleton.1 hk]; exact hvg)⟩, fun {w0} h0 hb => ?_⟩
  · have := af (i := 3) v' hrow
    simpa using this
  · refine ((h0.trans o1 (by simp)).trans x2.only (fun k hk => .inr ?_)).trans oG (fun k hk => .inr ?_)
    · rw [hb]; exact (H1.lps.lt (hS k hk)).1
    · rw [List.mem_singleton.1 hk, hb]; exact h.gb
/-- A loop's end is laid. -/
theorem CB.laid {gl L cap : Nat} (h : CB w base g n vi (.slice (some ⟨gl, 0, none⟩) L cap) ins lps) {i : Nat} {l : Lp} (hi : lps[i]? = some l) (z : Int) :
    CB (w.setCell ⟨gl, i * 4 + 3, none⟩ (.int .i64 z)) base g n vi (.slice (some ⟨gl, 0, none⟩) L cap) ins (lps.set i { l with lst := z }) ∧ ∀ {w0}, Only [] w0 w → w0.heap.size = base → Only [] w0 (w.setCell ⟨gl, i * 4 + 3, none⟩ (.int .i64 z)) := by
  have oG : Only [gl] w (w.setCell ⟨gl, i * 4 + 3, none⟩ (.int .i64 z)) := oc
  have hb : (Value.slice (some ⟨gl, 0, none⟩) L cap).ownBlock = some gl := rfl
  refine ⟨⟨oG.heap h.row (fun e => h.ug (by rw [List.mem_singleton.1 e]; exact hb)), h.gb, h.ins.kept oG (fun k hk e => ?_), ?_⟩, fun {w0} h0 hs => h0.trans oG (fun k hk => .inr ?_)⟩
  · rw [List.mem_singleton.1 hk] at e
    exact h.vu e hb
  · exact OR.set (R := rL) h.lps (i := i) (x := l) (y := { l with lst := z }) (j := 3) hi (by decide) rfl
  · rw [List.mem_singleton.1 hk, hs]; exact (h.lps.lt hb).1
end
theorem prV_drop_le {ns : List Nat} (h : ∀ n ∈ ns, n ≤ 64) (h5 : ns.length ≤ 5) (k : Nat) : prV (ns.take k) ≤ 1073741824 :=
  prV_few (fun n hn => h n (List.mem_of_mem_take hn)) (by rw [List.length_take]; omega)
theorem totA_le {ns : List Nat} (h : ∀ n ∈ ns, n ≤ 64) (h5 : ns.length ≤ 5) : ∀ k, totA ns k ≤ k * 2147483648
  | 0 => Nat.zero_le _
  | k + 1 => by
    have := totA_le h h5 k
    have := prV_drop_le h h5 k
    show totA ns k + prV (ns.take k) * 2 ≤ _
    omega
theorem totB_le {ns : List Nat} (h : ∀ n ∈ ns, n ≤ 64) (h5 : ns.length ≤ 5) : ∀ k, totB ns k ≤ 20000000000 + k * 2147483648
  | 0 => by
    have := totA_le h h5 ns.length
    have := prV_few h h5
    show totA ns ns.length + prV ns * 3 ≤ _
    omega
  | k + 1 => by
    have := totB_le h h5 k
    have := prV_drop_le h h5 (ns.length - k)
    show totB ns k + prV (ns.take (ns.length - k)) ≤ _
    omega
theorem lpsV_len (ns : List Nat) (r k : Nat) : (lpsV ns r k).length = k := by simp [lpsV]
theorem lpsV_snoc (ns : List Nat) (r k : Nat) : lpsV ns r (k + 1) = lpsV ns r k ++ [lpV ns r k] := by
  unfold lpsV
  rw [List.range_succ, List.map_append]
  rfl
theorem lpsV_set {ns : List Nat} {r : Nat} (h : r < ns.length) : (lpsV ns r ns.length).set (ns.length - 1 - r) { lpV ns r (ns.length - 1 - r) with lst := ((2 * ns.length + 3 + r : Nat) : Int) } = lpsV ns (r + 1) ns.length := by
  refine List.ext_getElem (by simp [lpsV]) fun i h1 h2 => ?_
  have hi : i < ns.length := by simpa [lpsV] using h2
  rw [List.getElem_set]
  by_cases e : ns.length - 1 - r = i
  · subst e
    rw [if_pos rfl]
    simp only [lpsV, List.getElem_map, List.getElem_range, lpV]
    rw [if_pos (by omega), show ns.length - 1 - (ns.length - 1 - r) = r by omega]
  · rw [if_neg e]
    simp only [lpsV, List.getElem_map, List.getElem_range, lpV]
    by_cases h3 : ns.length ≤ i + r
    · rw [if_pos h3, if_pos (by omega)]
    · rw [if_neg h3, if_neg (by omega)]
theorem hdI_in : ∀ k, k ≤ 5 → ∀ x ∈ hdI k, n64 x.2
  | 0, _, x, hx => by cases hx
  | k + 1, h, x, hx => by
    rcases List.mem_append.1 hx with hx | hx
    · exact hdI_in k (by omega) x hx
    · simp at hx
      unfold n64
      rcases hx with rfl | rfl <;> simp <;> omega
theorem tlI_in {m : Nat} (hm : m ≤ 5) : ∀ r, ∀ x ∈ tlI m r, n64 x.2
  | 0, x, hx => by cases hx
  | r + 1, x, hx => by
    rcases List.mem_append.1 hx with hx | hx
    · exact tlI_in hm r x hx
    · simp at hx
      unfold n64
      subst hx
      simp
      omega
theorem cdV_in {ns : List Nat} (h : ns.length ≤ 5) : ∀ x ∈ (cdV ns).ins, n64 x.2 := by
  intro x hx
  rcases List.mem_append.1 hx with hx | hx
  · rcases List.mem_append.1 hx with hx | hx
    · exact hdI_in _ h x hx
    · unfold bdI at hx
      simp at hx
      unfold n64
      rcases hx with rfl | rfl | rfl <;> simp
  · exact tlI_in h _ x hx
set_option maxRecDepth 100000 in
set_option maxHeartbeats 4000000 in
theorem vloops_walk (v : Value) (m : List Int) (w : World) (hv : IntsV w v m) (hl : m.length ≤ maxLen) : Calls Tryz.prog 6 #[v] w fun e w' => e = .returned (.bool true) ∧ Only [] w w' := by
  obtain ⟨a, cap, rfl, hix⟩ := id hv
  have HIX := Hd hix
  clear hix
  obtain ⟨n0, hn0⟩ : ∃ n, n = m.length := ⟨_, rfl⟩
  obtain ⟨ns, hns⟩ : ∃ ns, ns = m.map nnV := ⟨_, rfl⟩
  have hlen : ns.length = n0 := by rw [hns, List.length_map, hn0]
  have hin : ∀ n ∈ ns, 1 ≤ n ∧ n ≤ 64 := by
    intro n hn
    rw [hns] at hn
    obtain ⟨x, -, rfl⟩ := List.mem_map.1 hn
    unfold nnV
    omega
  rw [← hn0]
  have HV := Hd hv
  have HN := Hd (And.intro hns (And.intro hn0 (And.intro hlen hin)))
  clear hv hns hlen hin
  go_enter Tryz.func6, Tryz.ntmps6
  go_wp2_with fail
  refine (qC w).mono ?_
  rintro e w2 ⟨rfl, o2⟩
  have HO := Hd o2
  clear o2
  by_cases h5 : (5 : Int) < n0
  · go_wp2_with fail
    go_ret
    exact ⟨rfl, HO.out⟩
  have h5' : n0 ≤ 5 := by omega
  clear h5 hl hn0
  go_upto_region 6 with (fail)
  obtain ⟨w3, q9, o3, hB, -⟩ := nb w2 (.cells #[.int .i64 0, .int .i64 (n0 : Int), .slice none 0 0, .slice none 0 0] 25)
  rw [← q9]
  clear q9
  obtain ⟨gC, hgC⟩ : ∃ g, g = w2.heap.size := ⟨_, rfl⟩
  rw [← hgC] at hB ⊢
  have HC := Hd (show CB w3 w.heap.size gC n0 (.slice none 0 0) (.slice none 0 0) (hdI 0) (lpsV ns 0 0) from ⟨hB, by rw [hgC]; exact HO.out.size, OR.nil _ _, OR.nil _ _⟩)
  replace HO := Hd (HO.out.trans o3 (by simp))
  clear hB o3 hgC
  go_wp2_with fail
  go_loopw [4, 5, 6, 7, 27] (fun a4 a5 _ _ i wr => ∃ (k : Nat) (vi vl : Value), k ≤ n0 ∧ i = .int .i64 (k : Int) ∧ a4 = .int .i64 ((prV (ns.take k) : Nat) : Int) ∧ a5 = .int .i64 ((totA ns k : Nat) : Int) ∧ Hid (CB wr w.heap.size gC n0 vi vl (hdI k) (lpsV ns 0 k)) ∧ Hid (Only [] w wr)) (fun _ _ _ _ i _ => n0 - (intOf i).toNat)
  case atStart => exact ⟨0, _, _, Nat.zero_le _, rfl, rfl, rfl, HC, HO⟩
  case round =>
    obtain ⟨k, vi, vl, hk, rfl, rfl, rfl, HCk, HOk⟩ := hrel
    clear HC HO
    by_cases hlt : k < n0
    · have hlt' : (k : Int) < (n0 : Int) := by omega
      have hk0 : (0 : Int) ≤ (k : Int) := by omega
      have hkm : k < m.length := by have := HN.out.2.1; omega
      obtain ⟨-, g0, o0, ha, hcell⟩ := HIX.out k _ (List.getElem?_eq_getElem hkm)
      subst ha
      have hmod := nnV_mod m[k]
      have hq : ns.getD k 0 = 1 + (m[k] % 64).toNat := by
        rw [HN.out.1]
        simp [List.getD, hkm, nnV]
      have hr : (m[k] % 64).toNat < 64 := by omega
      have hc0 : wr.cell? ⟨g0, o0 + k, none⟩ = some (.int .i64 m[k]) := ac HOk.out hcell (by simp)
      generalize m[k] = x at hmod hq hr hc0 hcell
      generalize (x % 64).toNat = r at hmod hq hr
      obtain ⟨ai, ci, rfl⟩ := HCk.out.ins.shape
      obtain ⟨al, cl, rfl⟩ := HCk.out.lps.shape
      obtain ⟨L1, hL1⟩ : ∃ n, n = (hdI k).length := ⟨_, rfl⟩
      obtain ⟨L2, hL2⟩ : ∃ n, n = L1 + 2 := ⟨_, rfl⟩
      rw [← hL1, lpsV_len] at HCk
      have hL3 : L1 = 2 * k := by rw [hL1, hdI_len]
      have hp1 := prV_take (ns := ns) (k := k) (by rw [HN.out.2.2.1]; exact hlt)
      rw [hq] at hp1
      have hp2 := prV_drop_le (fun n hn => (HN.out.2.2.2 n hn).2) (by rw [HN.out.2.2.1]; exact h5') (k + 1)
      have hp3 := prV_drop_le (fun n hn => (HN.out.2.2.2 n hn).2) (by rw [HN.out.2.2.1]; exact h5') k
      have ht1 := totA_le (fun n hn => (HN.out.2.2.2 n hn).2) (by rw [HN.out.2.2.1]; exact h5') k
      have ht2 : totA ns (k + 1) = totA ns k + prV (ns.take k) * 2 := rfl
      have hlp : lpV ns 0 k = ⟨(k : Int), 1 + (r : Int), (L2 : Int), 0⟩ := by
        unfold lpV
        rw [hq, if_neg (by rw [HN.out.2.2.1]; omega)]
        rw [show (((1 + r : Nat)) : Int) = 1 + (r : Int) by omega, show (2 * (k + 1) : Nat) = L2 by omega]
      generalize prV (ns.take k) = p at hp1 hp3 ht2 ⊢
      generalize hpe : prV (ns.take (k + 1)) = p' at hp1 hp2
      generalize totA ns k = t at ht1 ht2 ⊢
      generalize hte : totA ns (k + 1) = t' at ht2
      have HPE := Hd (And.intro hpe hte)
      clear hpe hte
      have HLP := Hd hlp
      have HL1 := Hd hL1
      have hb0 : (0 : Int) ≤ (p : Int) * (1 + (r : Int)) := Int.mul_nonneg (by omega) (by omega)
      have hpp : (p : Int) * (1 + (r : Int)) = (p' : Int) := by
        rw [hp1, Int.natCast_mul]
        congr 1
      have HQ := Hd (And.intro hp1 (And.intro hp2 (And.intro ht1 ht2)))
      have c2 := HCk.out.c2
      have c3 := HCk.out.c3
      have HLL := Hd (And.intro hL2 hL3)
      clear hcell hlp hL1 hq hp1 hL2 hL3
      go_upto_region 11 with (fail)
      clear hc0 hmod
      go_upto_region 12 with (
        have oB : Only [] wr (wr.alloc (.cells #[.int .i64 1, .int .i64 0, .int .i64 3, .int .i64 (k : Int)] 52)) := (Only.refl _ _).alloc _
        have hB := ag wr (.cells #[.int .i64 1, .int .i64 0, .int .i64 3, .int .i64 (k : Int)] 52)
        refine az (R := rI) rfl (.tmp 38) (.tmp 42) rfl w.heap.size _ (hdI k) (by rfl) (HCk.out.ins.quiet oB) (.slice (some ⟨wr.heap.size, 0, none⟩) 2 2) [(1, 0), (3, (k : Int))] (by rfl) (rv_blk (R := rI) [(1, 0), (3, (k : Int))] 2 hB) L2 (by rw [← HL1.out, HLL.out.1]; rfl) (hdI (k + 1)) rfl (by have := HLL.out; omega) (Nat.le_trans HOk.out.size oB.size) ?_
        intro a2 cp2 w4 h4 x4
        obtain ⟨r1, r2, r3⟩ := HCk.out.grown oB h4 x4
        have R2 := Hd r2
        have R3 := Hd (r3 HOk.out rfl)
        have f2 := ae 2 r1
        have d2 : w4.cell? ⟨gC, 2, none⟩ = some (.slice ai L1 ci) := ab 2 r1
        clear r1 r2 r3 h4 x4 oB hB c2 c3)
      generalize w4.setCell ⟨gC, 2, none⟩ (.slice a2 L2 cp2) = w5 at R2 R3 ⊢
      have c2 := R2.out.c2
      have c3 := R2.out.c3
      go_upto_region 13 with (
        have oB : Only [] w5 (w5.alloc (.cells #[.int .i64 (k : Int), .int .i64 (1 + (r : Int)), .int .i64 (L2 : Int), .int .i64 0] 54)) := (Only.refl _ _).alloc _
        have hB := ag w5 (.cells #[.int .i64 (k : Int), .int .i64 (1 + (r : Int)), .int .i64 (L2 : Int), .int .i64 0] 54)
        refine az (R := rL) rfl (.tmp 46) (.tmp 53) rfl w.heap.size _ (lpsV ns 0 k) (by rfl) (R2.out.lps.quiet oB) (.slice (some ⟨w5.heap.size, 0, none⟩) 1 1) [lpV ns 0 k] (by rfl) (dz (R := rL) _ _ _ (fun j u hj => by rw [HLP.out] at hj; exact (ab j hB).trans (by simpa [rL] using hj))) (k + 1) (by rw [lpsV_len]; rfl) (lpsV ns 0 (k + 1)) (lpsV_snoc ns 0 k).symm (by omega) (Nat.le_trans R3.out.size oB.size) ?_
        intro a3 cp3 w6 h6 x6
        obtain ⟨r1, r2, r3⟩ := R2.out.grownL oB h6 x6
        have R4 := Hd r2
        have R5 := Hd (r3 R3.out rfl)
        have f3 := ae 3 r1
        have d3 : w6.cell? ⟨gC, 3, none⟩ = some (.slice al k cl) := ab 3 r1
        clear r1 r2 r3 h6 x6 oB hB c2 c3)
      generalize w6.setCell ⟨gC, 3, none⟩ (.slice a3 (k + 1) cp3) = w7 at R4 R5 ⊢
      go_wp2_with fail
      go_roundw
      case measure => simp [intOf]; omega
      case rel => exact ⟨k + 1, _, _, by omega, by go_num, by rw [HPE.out.1], by rw [HPE.out.2, HQ.out.2.2.2]; congr 1; omega, R4, R5⟩
    · obtain rfl : k = n0 := by omega
      clear hlt hk
      obtain ⟨ai, ci, rfl⟩ := HCk.out.ins.shape
      obtain ⟨al, cl, rfl⟩ := HCk.out.lps.shape
      obtain ⟨L1, hL1⟩ : ∃ n, n = (hdI k).length := ⟨_, rfl⟩
      obtain ⟨L2, hL2⟩ : ∃ n, n = L1 + 3 := ⟨_, rfl⟩
      rw [← hL1, lpsV_len] at HCk
      have hL3 : L1 = 2 * k := by rw [hL1, hdI_len]
      have htk : ns.take k = ns := by rw [← HN.out.2.2.1, List.take_length]
      have hp3 := prV_few (fun n hn => (HN.out.2.2.2 n hn).2) (by rw [HN.out.2.2.1]; exact h5')
      have ht1 := totA_le (fun n hn => (HN.out.2.2.2 n hn).2) (by rw [HN.out.2.2.1]; exact h5') k
      have ht2 : totB ns 0 = totA ns k + prV ns * 3 := by rw [← HN.out.2.2.1]; rfl
      rw [htk]
      generalize hpe : prV ns = p at hp3 ht2 ⊢
      generalize totA ns k = t at ht1 ht2 ⊢
      have HL1 := Hd hL1
      have HLL := Hd (And.intro hL2 hL3)
      have c2 := HCk.out.c2
      have HTK := Hd (And.intro htk hpe)
      clear htk hL1 hL2 hL3 hpe
      have HT2 := Hd ht2
      clear ht2
      go_upto_region 17 with (
        have oB : Only [] wr (wr.alloc (.cells #[.int .i64 1, .int .i64 3, .int .i64 1, .int .i64 1, .int .i64 6, .int .i64 0] 52)) := (Only.refl _ _).alloc _
        have hB := ag wr (.cells #[.int .i64 1, .int .i64 3, .int .i64 1, .int .i64 1, .int .i64 6, .int .i64 0] 52)
        refine az (R := rI) rfl (.tmp 65) (.tmp 69) rfl w.heap.size _ (hdI k) (by rfl) (HCk.out.ins.quiet oB) (.slice (some ⟨wr.heap.size, 0, none⟩) 3 3) bdI (by rfl) (rv_blk (R := rI) bdI 3 hB) L2 (by rw [← HL1.out, HLL.out.1]; rfl) (hdI k ++ bdI) rfl (by have := HLL.out; omega) (Nat.le_trans HOk.out.size oB.size) ?_
        intro a2 cp2 w4 h4 x4
        obtain ⟨r1, r2, r3⟩ := HCk.out.grown oB h4 x4
        have R2 := Hd r2
        have R3 := Hd (r3 HOk.out rfl)
        have f2 := ae 2 r1
        have d2 : w4.cell? ⟨gC, 2, none⟩ = some (.slice ai L1 ci) := ab 2 r1
        clear r1 r2 r3 h4 x4 oB hB c2)
      generalize w4.setCell ⟨gC, 2, none⟩ (.slice a2 L2 cp2) = w5 at R2 R3 ⊢
      clear HCk HOk
      replace R2 := Hd (show CB w5 w.heap.size gC k (.slice a2 L2 cp2) (.slice al k cl) (hdI k ++ bdI ++ tlI k 0) (lpsV ns 0 k) from by
        have e : hdI k ++ bdI ++ tlI k 0 = hdI k ++ bdI := List.append_nil _
        rw [e]
        exact R2.out)
      clear HL1 HLL
      go_wp2_with fail
      go_loopw [4, 5, 8] (fun a4 a5 i wq => ∃ (r : Nat) (vi vl : Value), r ≤ k ∧ i = .int .i64 ((k : Int) - 1 - (r : Int)) ∧ a4 = .int .i64 ((prV (ns.take (k - r)) : Nat) : Int) ∧ a5 = .int .i64 ((totB ns r : Nat) : Int) ∧ Hid (CB wq w.heap.size gC k vi vl (hdI k ++ bdI ++ tlI k r) (lpsV ns r k)) ∧ Hid (Only [] w wq)) (fun _ _ i _ => (intOf i + 1).toNat)
      case atStart => exact ⟨0, _, _, Nat.zero_le _, by simp, by rw [Nat.sub_zero, HTK.out.1, HTK.out.2], by rw [HT2.out]; congr 1; omega, R2, R3⟩
      case round =>
        obtain ⟨r, vi, vl, hr, rfl, rfl, rfl, HCr, HOr⟩ := hrel
        clear R2 R3
        by_cases hlt : r < k
        · obtain ⟨j, hj⟩ : ∃ j, j = k - 1 - r := ⟨_, rfl⟩
          rw [show (k : Int) - 1 - (r : Int) = (j : Int) by omega]
          have hj0 : (0 : Int) ≤ (j : Int) := by omega
          have hjk : (j : Int) < (k : Int) := by omega
          have hjn : j < ns.length := by rw [HN.out.2.2.1]; omega
          have hq1 := HN.out.2.2.2 ns[j] (List.getElem_mem hjn)
          have hqe : ns.getD j 0 = ns[j] := by simp [List.getD, hjn]
          have hpt := prV_take hjn
          have hkr : k - r = j + 1 := by omega
          have hp4 := prV_drop_le (fun n hn => (HN.out.2.2.2 n hn).2) (by rw [HN.out.2.2.1]; exact h5') (k - r)
          have ht4 := totB_le (fun n hn => (HN.out.2.2.2 n hn).2) (by rw [HN.out.2.2.1]; exact h5') r
          have ht5 : totB ns (r + 1) = totB ns r + prV (ns.take (k - r)) := by rw [← HN.out.2.2.1]; rfl
          have hpj : k - (r + 1) = j := by omega
          rw [← hqe] at hq1
          obtain ⟨ai, ci, rfl⟩ := HCr.out.ins.shape
          have hil : (hdI k ++ bdI ++ tlI k r).length = 2 * k + 3 + r := by
            rw [List.length_append, List.length_append, hdI_len, tlI_len]
            rfl
          obtain ⟨L1, hL1⟩ : ∃ n, n = (hdI k ++ bdI ++ tlI k r).length := ⟨_, rfl⟩
          have hlj : (lpsV ns r k)[j]? = some (lpV ns r j) := by
            unfold lpsV
            rw [List.getElem?_map, List.getElem?_range (by omega)]
            rfl
          obtain ⟨gl, cl, rfl, -, -, hcell, hfree⟩ := HCr.out.lps.at_ hlj
          rw [← hL1, lpsV_len] at HCr
          rw [hkr] at hp4 ht5 ⊢
          have z1 : wr.cell? ⟨gl, j * 4 + 3, none⟩ = some (.int .i64 (lpV ns r j).lst) := hcell 3 _ rfl
          have z2 : wr.cell? ⟨gl, j * 4 + 1, none⟩ = some (.int .i64 (ns.getD j 0 : Nat)) := hcell 1 _ rfl
          have f1 := hfree (j * 4 + 3)
          generalize hq : ns.getD j 0 = q at hpt hq1 hqe z2
          have htd : ((prV (ns.take (j + 1)) : Nat) : Int).tdiv (q : Int) = ((prV (ns.take j) : Nat) : Int) := by
            rw [hpt, Int.natCast_mul]
            exact Int.mul_tdiv_cancel _ (by omega)
          have hp5 := prV_drop_le (fun n hn => (HN.out.2.2.2 n hn).2) (by rw [HN.out.2.2.1]; exact h5') j
          have hqn : ¬ ((q : Int) = 0) := by omega
          have HLL := Hd (And.intro hil (And.intro hL1 (And.intro hj (And.intro hq hpj))))
          replace ht4 : totB ns r ≤ 40000000000 := by omega
          generalize totB ns r = t4 at ht4 ht5 ⊢
          have HT5 := Hd ht5
          have HLJ := Hd hlj
          have HHC := Hd hcell
          have c2 := HCr.out.c2
          have c3 := HCr.out.c3
          clear hil hL1 hj hq hpj ht5 hlj hcell hfree hpt hqe hkr hjn
          obtain ⟨p1, hp1⟩ : ∃ p, p = prV (ns.take (j + 1)) := ⟨_, rfl⟩
          obtain ⟨p0, hp0⟩ : ∃ p, p = prV (ns.take j) := ⟨_, rfl⟩
          rw [← hp1] at hp4 htd ⊢
          rw [← hp0] at hp5 htd
          have HPP := Hd (And.intro hp1 hp0)
          clear hp1 hp0
          go_upto_region 22 with (fail)
          obtain ⟨r6, r7⟩ := HCr.out.laid HLJ.out (L1 : Int)
          have hls : (lpsV ns r k).set j { lpV ns r j with lst := (L1 : Int) } = lpsV ns (r + 1) k := by
            have h := lpsV_set (ns := ns) (r := r) (by rw [HN.out.2.2.1]; exact hlt)
            rw [HN.out.2.2.1] at h
            rw [HLL.out.2.1, HLL.out.1, HLL.out.2.2.1]
            exact h
          rw [hls] at r6
          have R6 := Hd r6
          have R7 := Hd (r7 HOr.out rfl)
          clear r6 r7 hls z1 z2 f1 c2 c3 HLJ HHC
          generalize wr.setCell ⟨gl, j * 4 + 3, none⟩ (.int .i64 (L1 : Int)) = w5 at R6 R7 ⊢
          obtain ⟨L2, hL2⟩ : ∃ n, n = L1 + 1 := ⟨_, rfl⟩
          have HL2 := Hd hL2
          clear hL2
          have c2 := R6.out.c2
          go_upto_region 23 with (
            have oB : Only [] w5 (w5.alloc (.cells #[.int .i64 14, .int .i64 (j : Int)] 52)) := (Only.refl _ _).alloc _
            have hB := ag w5 (.cells #[.int .i64 14, .int .i64 (j : Int)] 52)
            refine az (R := rI) rfl (.tmp 92) (.tmp 95) rfl w.heap.size _ (hdI k ++ bdI ++ tlI k r) (by rfl) (R6.out.ins.quiet oB) (.slice (some ⟨w5.heap.size, 0, none⟩) 1 1) [(14, (j : Int))] (by rfl) (dz (R := rI) _ _ _ (fun i u hu => (ab i hB).trans (by simpa [rI] using hu))) L2 (by rw [← HLL.out.2.1, HL2.out]; rfl) (hdI k ++ bdI ++ tlI k (r + 1)) (by rw [HLL.out.2.2.1]; exact List.append_assoc _ _ _) (by have := HLL.out.1; have := HLL.out.2.1; have := HL2.out; omega) (Nat.le_trans R7.out.size oB.size) ?_
            intro a2 cp2 w6 h6 x6
            obtain ⟨r1, r2, r3⟩ := R6.out.grown oB h6 x6
            have R8 := Hd r2
            have R9 := Hd (r3 R7.out rfl)
            have f2 := ae 2 r1
            have d2 : w6.cell? ⟨gC, 2, none⟩ = some (.slice ai L1 ci) := ab 2 r1
            clear r1 r2 r3 h6 x6 oB hB c2)
          generalize w6.setCell ⟨gC, 2, none⟩ (.slice a2 L2 cp2) = w7 at R8 R9 ⊢
          have hlj : (lpsV ns (r + 1) k)[j]? = some (lpV ns (r + 1) j) := by
            unfold lpsV
            rw [List.getElem?_map, List.getElem?_range (by omega)]
            rfl
          obtain ⟨gl2, cl2, e2, -, -, hcell, -⟩ := R8.out.lps.at_ hlj
          obtain rfl : gl = gl2 := by
            injection e2 with e2 _ _
            injection e2 with e2
            injection e2
          clear e2
          have z2 : w7.cell? ⟨gl, j * 4 + 1, none⟩ = some (.int .i64 (q : Nat)) := by
            have h := hcell 1 _ rfl
            rw [← HLL.out.2.2.2.1]
            exact h
          have c3 := R8.out.c3
          clear hcell hlj HCr HOr R6 R7
          go_wp2_with fail
          go_roundw
          case measure => simp [intOf] <;> omega
          case rel => exact ⟨r + 1, _, _, by omega, by congr 1; have := HLL.out.2.2.1; omega, by rw [HLL.out.2.2.2.2, ← HPP.out.2], by rw [HT5.out, ← HPP.out.1]; rfl, R8, R9⟩
        · obtain rfl : r = k := by omega
          clear hlt hr
          have hrr : r - r = 0 := by omega
          obtain ⟨ai, ci, rfl⟩ := HCr.out.ins.shape
          obtain ⟨al, cl, rfl⟩ := HCr.out.lps.shape
          obtain ⟨L1, hL1⟩ : ∃ n, n = (hdI r ++ bdI ++ tlI r r).length := ⟨_, rfl⟩
          rw [← hL1, lpsV_len] at HCr
          have c3 := HCr.out.c3
          have HL1 := Hd hL1
          clear hL1 hrr
          have ht4 := totB_le (fun n hn => (HN.out.2.2.2 n hn).2) (by rw [HN.out.2.2.1]; exact h5') r
          replace ht4 : totB ns r ≤ 40000000000 := by omega
          have htt : totB ns r = cstV ns := by rw [← HN.out.2.2.1]; exact totB_all ns (by rw [HN.out.2.2.1]; exact h5')
          rw [htt] at ht4 ⊢
          clear htt HT2 HTK ht1 hp3
          go_wp2_with fail
          go_loopw [9, 11, 112] (fun a9 _ i wq => ∃ (j : Nat), j ≤ r ∧ i = .int .i64 (j : Int) ∧ a9 = .int .i64 ((prV (ns.take j) : Nat) : Int) ∧ Hid (CB wq w.heap.size gC r (.slice ai L1 ci) (.slice al r cl) (hdI r ++ bdI ++ tlI r r) (lpsV ns r r)) ∧ Hid (Only [] w wq)) (fun _ _ i _ => r - (intOf i).toNat)
          case atStart => exact ⟨0, Nat.zero_le _, rfl, rfl, HCr, HOr⟩
          case round =>
            obtain ⟨j, hj, rfl, rfl, HCq, HOq⟩ := hrel
            clear HCr HOr c3
            by_cases hlt : j < r
            · have hj0 : (0 : Int) ≤ (j : Int) := by omega
              have hjk : (j : Int) < (r : Int) := by omega
              have hjn : j < ns.length := by rw [HN.out.2.2.1]; exact hlt
              have hpt := prV_take hjn
              have hp4 := prV_drop_le (fun n hn => (HN.out.2.2.2 n hn).2) (by rw [HN.out.2.2.1]; exact h5') (j + 1)
              have hp5 := prV_drop_le (fun n hn => (HN.out.2.2.2 n hn).2) (by rw [HN.out.2.2.1]; exact h5') j
              have hlj : (lpsV ns r r)[j]? = some (lpV ns r j) := by
                unfold lpsV
                rw [List.getElem?_map, List.getElem?_range hlt]
                rfl
              obtain ⟨gl, cl', e2, -, -, hcell, -⟩ := HCq.out.lps.at_ hlj
              obtain rfl : al = some ⟨gl, 0, none⟩ := by injection e2
              clear e2
              have z0 : wr.cell? ⟨gl, j * 4, none⟩ = some (.int .i64 (lpV ns r j).loc) := hcell 0 _ rfl
              have z1 : wr.cell? ⟨gl, j * 4 + 1, none⟩ = some (.int .i64 (ns.getD j 0 : Nat)) := hcell 1 _ rfl
              have z2 : wr.cell? ⟨gl, j * 4 + 2, none⟩ = some (.int .i64 (lpV ns r j).fr) := hcell 2 _ rfl
              have z3 : wr.cell? ⟨gl, j * 4 + 3, none⟩ = some (.int .i64 (lpV ns r j).lst) := hcell 3 _ rfl
              clear hcell hlj
              generalize (lpV ns r j).loc = y0 at z0
              generalize (lpV ns r j).fr = y2 at z2
              generalize (lpV ns r j).lst = y3 at z3
              generalize ns.getD j 0 = q at hpt z1
              obtain ⟨p1, hp1⟩ : ∃ p, p = prV (ns.take (j + 1)) := ⟨_, rfl⟩
              obtain ⟨p0, hp0⟩ : ∃ p, p = prV (ns.take j) := ⟨_, rfl⟩
              rw [← hp1, ← hp0] at hpt
              rw [← hp1] at hp4
              rw [← hp0] at hp5
              rw [← hp0]
              have hpp : (p0 : Int) * (q : Int) = (p1 : Int) := by rw [hpt, Int.natCast_mul]
              have HP1 := Hd hp1
              clear hp1 hp0 hpt
              go_upto_region 29 with (fail)
              obtain ⟨w8, q9, o8, hB, -⟩ := nb wr (.cells #[.int .i64 y0, .int .i64 (q : Int), .int .i64 y2, .int .i64 y3] 54)
              rw [← q9]
              clear q9
              replace HCq := Hd (HCq.out.quiet o8)
              replace HOq := Hd (HOq.out.trans o8 (by simp))
              have z1 : w8.cell? ⟨wr.heap.size, 1, none⟩ = some (.int .i64 (q : Int)) := ab 1 hB
              clear hB o8
              go_wp2_with fail
              go_roundw
              case measure => simp [intOf]; omega
              case rel => exact ⟨j + 1, by omega, by go_num, by rw [HP1.out], HCq, HOq⟩
            · obtain rfl : j = r := by omega
              clear hlt hj
              have htk : ns.take j = ns := by rw [← HN.out.2.2.1, List.take_length]
              rw [htk]
              clear htk
              go_upto_region 31 with (fail)
              have hlen := HN.out.2.2.1
              have hns5 : ns.length ≤ 5 := by rw [hlen]; exact h5'
              have hL3 : L1 = 3 * j + 3 := by
                have e : (hdI j ++ bdI ++ tlI j j).length = 2 * j + 3 + j := by
                  rw [List.length_append, List.length_append, hdI_len, tlI_len]
                  rfl
                rw [HL1.out, e]
                omega
              have HCV := Hd (show CV wr (cdV ns) ai L1 ci al j cl from ⟨by
                show RV rI wr _ (hdI ns.length ++ bdI ++ tlI ns.length ns.length)
                rw [hlen]
                exact HCq.out.ins.rv, by
                show RV rL wr _ (lpsV ns ns.length ns.length)
                rw [hlen]
                exact HCq.out.lps.rv, by
                show L1 = (hdI ns.length ++ bdI ++ tlI ns.length ns.length).length
                rw [hlen]
                exact HL1.out, by
                show j = (lpsV ns ns.length ns.length).length
                rw [lpsV_len, hlen], by omega, by omega, OR.cap HCq.out.ins, OR.cap HCq.out.lps⟩)
              have HB := Hd HCq.out.row
              have KV := fun (W : World) (o : Only [] wr W) => rJ (q := 0) (pg := blankP) (args := []) (aa := none) (La := 0) (ca := 0) (HCV.out.quiet o) (cdV_in hns5) gN ⟨none, 0, rfl, .inl rfl⟩ (by simp) (by decide)
              have KS := fun (W : World) (o : Only [] wr W) => vsteps_any (q := 0) (pg := blankP) (args := []) (aa := none) (La := 0) (ca := 0) (HCV.out.quiet o) (cdV_in hns5) gN ⟨none, 0, rfl, .inl rfl⟩ (by simp) (by decide)
              have hgo := go_v HN.out.2.2.2 hns5
              have hloc : (cdV ns).locals = (j : Int) := by rw [← hlen]; rfl
              rw [show (cdV ns).params = 0 from rfl, hloc] at KV KS
              have hP := prV_few (fun n hn => (HN.out.2.2.2 n hn).2) hns5
              have HX := Hd (Only.refl [] wr)
              clear hL3 HL1 hlen hns5 hloc HCq HN HIX HV
              have e1 := rN
              have e2 := rO
              have k0 : wr.cell? ⟨gC, 0, none⟩ = some (.int .i64 0) := ab 0 HB.out
              have k1 : wr.cell? ⟨gC, 1, none⟩ = some (.int .i64 (j : Int)) := ab 1 HB.out
              have k2 : wr.cell? ⟨gC, 2, none⟩ = some (.slice ai L1 ci) := ab 2 HB.out
              have k3 : wr.cell? ⟨gC, 3, none⟩ = some (.slice al j cl) := ab 3 HB.out
              by_cases hbig : cstV ns ≤ 65536
              · obtain ⟨hr1, hr2⟩ := hgo.1 hbig
                rw [hr1] at KV
                rw [hr2] at KS
                generalize cstV ns = T at *
                generalize prV ns = P at *
                clear hgo hr1 hr2
                go_wp2_with (refine cr rfl [] rfl (0 :: blankP) cf ?_)
                refine (KV wr (Only.refl _ _)).mono ?_
                rintro e w6 ⟨rfl, o6⟩
                replace HX := Hd (HX.out.trans o6 (by simp))
                replace HOq := Hd (HOq.out.trans o6 (by simp))
                clear o6 k0 k1 k2 k3 KV
                have T1 := trivial
                go_upto_region 32 with (first
                  | (clear T1
                     refine aJ rfl rfl ?_; intro w7 g4 hb3 hg3 ho3; have HB3 := Hd hb3; have HG3 := Hd (Nat.le_trans HX.out.size hg3); have HG4 := Hd (Nat.le_trans HOq.out.size hg3); replace HX := Hd (HX.out.trans ho3 (by simp)); replace HOq := Hd (HOq.out.trans ho3 (by simp)); clear hb3 hg3 ho3)
                  | (refine aw rfl _ _ rfl g4 (0 :: blankP.set 3 (P : Int)) (by rfl) (by rfl) (by simp [blankP]) _ HB3.out (by rfl) ?_; intro w8 hb ho; have HB8 := Hd hb; replace HX := Hd (HX.out.trans ho (by simp; exact HG3.out)); replace HOq := Hd (HOq.out.trans ho (by simp; exact HG4.out)); clear hb ho HB3))
                have hB := HX.out.heap HB.out (by simp)
                have k0 : w8.cell? ⟨gC, 0, none⟩ = some (.int .i64 0) := ab 0 hB
                have k1 : w8.cell? ⟨gC, 1, none⟩ = some (.int .i64 (j : Int)) := ab 1 hB
                have k2 : w8.cell? ⟨gC, 2, none⟩ = some (.slice ai L1 ci) := ab 2 hB
                have k3 : w8.cell? ⟨gC, 3, none⟩ = some (.slice al j cl) := ab 3 hB
                clear hB
                go_wp2_with (refine cr rfl [] rfl (0 :: blankP) cf ?_)
                refine (KS w8 HX.out).mono ?_
                rintro e w9 ⟨rfl, o9⟩
                replace HB8 := Hd (HB8.out.kept o9 (by simp))
                replace HOq := Hd (HOq.out.trans o9 (by simp))
                clear o9 k0 k1 k2 k3 KS HB HX
                have k7 : w9.cell? ⟨g4, 4, none⟩ = some (.int .i64 (P : Int)) := HB8.out.cell (by rfl)
                have hT : ¬ ((65536 : Int) < (T : Int)) := by omega
                go_wp2_with fail
                go_ret
                exact ⟨rfl, HOq.out⟩
              · obtain ⟨hr1, hr2⟩ := hgo.2 (by omega)
                rw [hr1] at KV
                rw [hr2] at KS
                generalize cstV ns = T at *
                generalize prV ns = P at *
                clear hgo hr1 hr2
                go_wp2_with (refine cr rfl [] rfl (0 :: blankP) cf ?_)
                refine (KV wr (Only.refl _ _)).mono ?_
                rintro e w6 ⟨rfl, o6⟩
                replace HX := Hd (HX.out.trans o6 (by simp))
                replace HOq := Hd (HOq.out.trans o6 (by simp))
                clear o6 k0 k1 k2 k3 KV
                have T1 := trivial
                go_upto_region 32 with (first
                  | (clear T1
                     refine aJ rfl rfl ?_; intro w7 g4 hb3 hg3 ho3; have HB3 := Hd hb3; have HG3 := Hd (Nat.le_trans HX.out.size hg3); have HG4 := Hd (Nat.le_trans HOq.out.size hg3); replace HX := Hd (HX.out.trans ho3 (by simp)); replace HOq := Hd (HOq.out.trans ho3 (by simp)); clear hb3 hg3 ho3)
                  | (refine aw rfl _ _ rfl g4 (0 :: blankP) (by rfl) (by rfl) (by simp [blankP]) _ HB3.out (by rfl) ?_; intro w8 hb ho; have HB8 := Hd hb; replace HX := Hd (HX.out.trans ho (by simp; exact HG3.out)); replace HOq := Hd (HOq.out.trans ho (by simp; exact HG4.out)); clear hb ho HB3))
                have hB := HX.out.heap HB.out (by simp)
                have k0 : w8.cell? ⟨gC, 0, none⟩ = some (.int .i64 0) := ab 0 hB
                have k1 : w8.cell? ⟨gC, 1, none⟩ = some (.int .i64 (j : Int)) := ab 1 hB
                have k2 : w8.cell? ⟨gC, 2, none⟩ = some (.slice ai L1 ci) := ab 2 hB
                have k3 : w8.cell? ⟨gC, 3, none⟩ = some (.slice al j cl) := ab 3 hB
                clear hB
                go_wp2_with (refine cr rfl [] rfl (0 :: blankP) cf ?_)
                refine (KS w8 HX.out).mono ?_
                rintro e w9 ⟨rfl, o9⟩
                replace HB8 := Hd (HB8.out.kept o9 (by simp))
                replace HOq := Hd (HOq.out.trans o9 (by simp))
                clear o9 k0 k1 k2 k3 KS HB HX
                have hT : (65536 : Int) < (T : Int) := by omega
                go_wp2_with fail
                go_ret
                exact ⟨rfl, HOq.out⟩

set_option maxRecDepth 100000 in
theorem vloops_lifted (os : Os) (started : os.Started) (H : Type) (enc : TypeId × Value → H) :
    ReturnsInHanded {} Tryz.checked os 6 .any (Rows.vmLoopsSpec.pre6 enc Tryz.prog Tryz.f6 Rows.vmLoopsRow.domain false) (Rows.vmLoopsSpec.post enc Tryz.prog Tryz.f6 false true false false) := by
  refine returnsInHanded_of_change (C := Tryz.checked) law_own started (by kernel_rfl) Tryz.func6
    (ChangeSpec.witness6 (enc := enc) (C := Tryz.checked) false ⟨#[], #[.slice none 0 0], []⟩ 8 (by kernel_rfl) (by kernel_rfl) (by kernel_rfl) (by kernel_rfl)) ?_
  intro W base args ds gs before hval0 hW hcnd _
  have hval : ∀ (j : Nat) t v, Tryz.f6.params[j]? = some t → args[j]? = some v → Value.okWide Tryz.prog W .any base t v := hval0
  have hW' := hW
  obtain ⟨p, q, hA0, hV, rfl, hfz, hnd⟩ := hW
  have hA : DataW.TrodAll enc Tryz.prog W 0 (fun _ => true) true Tryz.f6.params.toList args.toList ds p := hA0
  rw [Tryz.params6] at hA hval
  obtain ⟨v0, vs0, d0, ds0, p0, q0, hargs, rfl, rfl, h0, r0⟩ := trodAll_cons hA
  obtain ⟨rfl, rfl, rfl⟩ := trodAll_nil r0
  obtain rfl : args = #[v0] := by cases args; simp_all
  obtain ⟨rfl, rfl⟩ := trodVars_none hV
  have h0' := h0
  obtain ⟨sa0, sl0, sc0, rfl⟩ := okWide_slice Tryz.underlying26 (hval 0 26 v0 rfl rfl)
  obtain ⟨fuel0, hf0⟩ := h0
  obtain ⟨l0, hs0, _, hl0⟩ := open_nums (v := .slice sa0 sl0 sc0) hf0
  have hlt0 : ∀ x ∈ p0, x.block < W.heap.size := fun x hx => hW'.lt x (by simp [hx])
  clear hA0 hval0
  refine (vloops_walk _ l0 W hs0 hl0).mono fun e W' ⟨he, hg⟩ => ?_
  subst he
  exact ⟨_, rfl, rV (pa := (p0 ++ [])) (pv := []) hW' hg (fun _ _ _ => (trodAll_cons_mk (shut_bool Tryz.underlying4 _) trodAll_mk0)) (fun sp hsp => (trodAll_cons_mk (ud (by kernel_rfl) (of_decide_eq_true (by kernel_rfl)) h0' hg hlt0 (fun x hx => hsp x (by simp [hx]))) trodAll_mk0)) (fun _ _ => rfl) (by simp) (ok_one (by kernel_rfl) rfl (okWide_bool_mk Tryz.underlying4 _))⟩

theorem vloops_over : Rows.vmLoopsRow.holds Tryz.pinned (OpenSpec.ofChange Rows.vmLoopsSpec) :=
  OpenClaim.holds_of_wide 6 Tryz.f6 rfl rfl rfl rfl rfl rfl rfl ⟨rfl, rfl, rfl, rfl, rfl⟩ rfl rfl rfl rfl rfl (by kernel_rfl) Tryz.func6 (by kernel_rfl)
    (of_decide_eq_true (by kernel_rfl)) (by unfold Func.isWrapper; first | (rw [if_pos (by decide +kernel)]; kernel_rfl) | (rw [if_neg (by decide +kernel)]; exact ⟨rfl, rfl⟩))
    (fun os started H enc _ => vloops_lifted os started H enc)

/-- The statement. -/
theorem vloops_holds : Rows.VmLoopsSaid :=
  vloops_over
#print axioms vloops_holds
end Go.Proofs.YtcebchffcmpfeaaGreat

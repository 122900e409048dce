/- A call of the model's play: what stands around each kind; Append and Spend. -/
import Derived.Test.YtfnedeaemjchgaaGreatJg
import Derived.Test.YtfnedeaemjchgaaGreatJS
import Derived.Test.YtfnedeaemjchgaaGreatNum
import Derived.Test.YtfnedeaemjchgaaGreatOver
namespace Go.Proofs.YtfnedeaemjchgaaGreat
open Go.RowKit Go.Maps
set_option linter.unusedSimpArgs false
set_option linter.unusedVariables false

def op4 (kind n : Int) (rv kv : Value) : Array Value := #[.int .i64 kind, rv, .int .i64 n, kv]
/-- A call went as it may. -/
def PQ (w0 : World) (F : List (Nat × Obj)) (m : Nat) (a : DA) (n c : Nat) (e : Ending) (w' : World) : Prop := e = .returned (.bool true) ∧ GS w0 w' F m a n (c + 1)
/-- Bytes that read alike as long as what was there, and F, are left alone. -/
def BytesF (w0 : World) (F : List (Nat × Obj)) (v : Value) (l : Sec) : Prop := ∀ w', Only [] w0 w' → (∀ x ∈ F, w'.heap[x.1]? = some x.2) → Bytes w' v l
/-- Midway: the model beside its journal, the argument's block, a copy of the argument's bytes. -/
structure PM (w0 w : World) (F : List (Nat × Obj)) (m p q : Nat) (a : DA) (d : Disk) (j : JL) (s : SL) (vr vt vm : Value) (gs : List Value) (M : ML) (g5 gc : Nat) (op : Array Value) (cur : Array Value) (l : Sec) : Prop where
  ms : MS w0 w ((gc, .cells cur 5) :: (g5, .cells op 30) :: F) m p q a d j s vr vt vm gs M
  size : cur.size = l.length + 2
  bytes : cur.toList = (l.map fun c => Value.int .u8 c.toNat) ++ [.int .u8 165, .int .u8 90]
  newc : w0.heap.size ≤ gc
  far : ∀ x ∈ F, x.1 ≠ gc
section
variable {w0 w w1 : World} {F : List (Nat × Obj)} {m p q c g5 gc : Nat} {a : DA} {d d' : Disk} {j j' : JL} {s s' : SL} {vr vt vm vr' vt' vm' rv kv : Value} {gs gs' : List Value} {M M' : ML} {N : Int} {op cur : Array Value} {l : Sec}
theorem PM.copy (h : PM w0 w F m p q a d j s vr vt vm gs M g5 gc op cur l) : CopyB w gc l := ⟨cur, h.ms.keep (gc, .cells cur 5) (by simp), h.size, h.bytes⟩
theorem PM.arg (h : PM w0 w F m p q a d j s vr vt vm gs M g5 gc op cur l) (i : Nat) : w.cell? ⟨g5, i, none⟩ = op[i]? := cell_at i (h.ms.keep (g5, .cells op 30) (by simp))
theorem PM.quiet (h : PM w0 w F m p q a d j s vr vt vm gs M g5 gc op cur l) (ho : Only [] w w1) : PM w0 w1 F m p q a d j s vr vt vm gs M g5 gc op cur l := ⟨h.ms.quiet ho, h.size, h.bytes, h.newc, h.far⟩
theorem PM.to {p' q' : Nat} (h : PM w0 w F m p q a d j s vr vt vm gs M g5 gc op cur l) (hm : MS w0 w1 ((gc, .cells cur 5) :: (g5, .cells op 30) :: F) m p' q' a d' j' s' vr' vt' vm' gs' M') : PM w0 w1 F m p' q' a d' j' s' vr' vt' vm' gs' M' g5 gc op cur l := ⟨hm, h.size, h.bytes, h.newc, h.far⟩
theorem PM.bytesF (h : PM w0 w F m p q a d j s vr vt vm gs M g5 gc op cur l) (hb : BytesF w0 F rv l) : Bytes w rv l := hb w h.ms.only (fun x hx => h.ms.keep x (by simp [hx]))
theorem PM.inF (h : PM w0 w F m p q a d j s vr vt vm gs M g5 gc op cur l) (n cc : Nat) : InF ((gc, .cells cur 5) :: (g5, .cells op 30) :: F) (.slice (some ⟨gc, 0, none⟩) n cc) := fun ad n c e => by
  cases e
  exact ⟨_, List.mem_cons_self ..⟩
/-- The copy was written over: it is left. -/
theorem PM.done (h : PM w0 w F m p q a d j s vr vt vm gs M g5 gc op cur l) (ho : Only [gc] w w1) : MS w0 w1 F m p q a d j s vr vt vm gs M :=
  h.ms.over ho (fun k hk => by rw [List.mem_singleton.1 hk]; exact ⟨h.newc, _, List.mem_cons_self ..⟩) (fun x hx => ⟨by simp [hx], by simpa using h.far x hx⟩)
end
theorem num_code (c : Int) (w : World) : Calls Tryz.prog 25 #[errV c] w fun e w' => e = .returned (.int .i64 c) ∧ w = w' := by
  by_cases h : c = 0
  · subst h
    exact num_nil w
  · rw [errV_nz h]
    exact num_err c w h
theorem acode_2 {j : JL} {r : Sec} {room : Int} (hd : j.dead = false) (h : r.length < 1 ∨ 4096 < r.length) : j.acode r room = 2 := by
  unfold JL.acode
  rw [if_neg (by rw [hd]; decide), if_pos h]
theorem acode_3 {j : JL} {r : Sec} {room : Int} (hd : j.dead = true) : j.acode r room = 3 := if_pos hd
section
variable {w0 w : World} {F : List (Nat × Obj)} {m p q c : Nat} {a : DA} {d : Disk} {j : JL} {s : SL} {vr vt vm rv : Value} {gs : List Value} {M : ML} {N : Int} {l : Sec}
/-- What a model says to a record that its journal was given. -/
theorem mput_all (o : Int) (h : MS w0 w F m p q a d (j.added l (j.free - o)) s vr vt vm gs M) (r : MR N d s j M) (hj : JOk j) (hc : MB c M) (hc1 : c + 1 ≤ 100000) (hb : Bytes w rv l) (ho : 0 ≤ o ∧ o ≤ 1152921504606846976) :
    Calls Tryz.prog 24 #[.pointer (some ⟨m, 0, none⟩), rv, .int .i64 o] w fun e w' => e = .returned (.tuple #[.int .i64 (j.anum l (j.free - o)), .int .i64 (j.acode l (j.free - o))]) ∧
      ∃ vr' vt' gs' M', MS w0 w' F m p q a d (j.added l (j.free - o)) s vr' vt' vm gs' M' ∧ MR N d s (j.added l (j.free - o)) M' ∧ MB (c + 1) M' ∧ M'.n = M.n := by
  cases hd : M.dead
  · have hd' : j.dead = false := by rw [r.dead, hd]
    by_cases hl : l.length < 1 ∨ 4096 < l.length
    · have e2 := acode_2 (room := j.free - o) hd' hl
      obtain ⟨a1, a2⟩ := added_n (j := j) (r := l) (room := j.free - o) (by rw [e2]; decide)
      rw [a1] at h ⊢
      rw [a2, e2]
      exact (mput_form h.mm hd hb o hl).mono fun e w' ⟨h1, h2⟩ => ⟨h1, _, _, _, _, h2 ▸ h, r, hc.next hc1, rfl⟩
    · have l1 : 1 ≤ l.length := by omega
      have l2 : l.length ≤ 4096 := by omega
      by_cases hr : (2 : Int) + l.length ≤ j.free - o
      · have e0 := acode_0 hd' l1 l2 hr
        obtain ⟨a1, a2⟩ := added_0 e0
        rw [a1] at h ⊢
        rw [a2, e0]
        have en : ((j.next : Nat) : Int) = ((M.recs.length + 1 : Nat) : Int) := by rw [r.next]; rfl
        rw [en]
        refine (mput_yes h.mm hd (r.fit hj hc.b2) hb o ho l1 l2 (by rw [← r.free hj]; omega) (by rw [h.mm.hlen]; exact hc.b1)).mono ?_
        rintro e w' ⟨vr', vt', g, rfl, mm, ot, s1, s2, s3⟩
        have hS : ∀ k ∈ m :: vr.ownBlock.toList ++ vt.ownBlock.toList, k ∈ mbl m vr vt vm gs := fun k hk => by
          rcases List.mem_append.1 hk with hk | hk
          · rcases List.mem_cons.1 hk with rfl | hk
            · exact mem_mbl.2 (.inl rfl)
            · exact mem_mbl.2 (.inr (.inl (by simpa using hk)))
          · exact mem_mbl.2 (.inr (.inr (.inl (by simpa using hk))))
        refine ⟨rfl, _, _, _, _, h.mto ot hS mm (h.my.kept ot (fun k hk e => ?_)) (fun k hk => ?_), r.put hj hd l, hc.put hc1 l l2, rfl⟩
        · obtain ⟨cv, hv⟩ := h.my.blk e
          rcases List.mem_append.1 hk with hk | hk
          · rcases List.mem_cons.1 hk with rfl | hk
            · exact absurd (h.my.ty e h.mm.blk) (by decide)
            · exact absurd (owns_ty h.mm.recs (by simpa using hk) hv) (by decide)
          · exact absurd (owns_ty h.mm.starts.1 (by simpa using hk) hv) (by decide)
        · rcases mem_mbl.1 hk with e | e | e | e | ⟨g', hg', e⟩
          · exact .inl (mem_mbl.2 (.inl e))
          · exact (s1 k e).imp (fun e => mem_mbl.2 (.inr (.inl e))) id
          · exact (s2 k e).imp (fun e => mem_mbl.2 (.inr (.inr (.inl e)))) id
          · exact .inl (mem_mbl.2 (.inr (.inr (.inr (.inl e)))))
          · rcases List.mem_append.1 hg' with hg' | hg'
            · exact .inl (mem_mbl.2 (.inr (.inr (.inr (.inr ⟨g', hg', e⟩)))))
            · rw [List.mem_singleton.1 hg'] at e
              exact .inr (s3 k e)
      · have e5 := acode_5 hd' l1 l2 hr
        obtain ⟨a1, a2⟩ := added_n (j := j) (r := l) (room := j.free - o) (by rw [e5]; decide)
        rw [a1] at h ⊢
        rw [a2, e5]
        exact (mput_room h.mm hd (r.fit hj hc.b2) hb o ho l1 l2 (by rw [← r.free hj]; omega)).mono fun e w' ⟨h1, h2⟩ => ⟨h1, _, _, _, _, h.quiet h2, r, hc.next hc1, rfl⟩
  · have e3 := acode_3 (j := j) (r := l) (room := j.free - o) (by rw [r.dead, hd])
    obtain ⟨a1, a2⟩ := added_n (j := j) (r := l) (room := j.free - o) (by rw [e3]; decide)
    rw [a1] at h ⊢
    rw [a2, e3]
    exact (mput_dead h.mm hd hb o).mono fun e w' ⟨h1, h2⟩ => ⟨h1, _, _, _, _, h2 ▸ h, r, hc.next hc1, rfl⟩
end
section
variable {w0 w : World} {F : List (Nat × Obj)} {m p q c n : Nat} {a : DA} {d : Disk} {j : JL} {s : SL} {vr vt vm rv kv : Value} {gs : List Value} {M : ML} {l : Sec} {kind nn : Int}
set_option maxRecDepth 100000 in
set_option maxHeartbeats 2000000 in
theorem play_append (h : MS w0 w F m p q a d j s vr vt vm gs M) (r : MR (1 + 2 * (c : Int)) d s j M) (hc : MB c M) (hn : M.n = n) (hc1 : c + 1 ≤ 100000) (hb : BytesF w0 F rv l) (hl : l.length ≤ 1048576) (hnn1 : -9223372036854775808 ≤ nn) (hnn2 : nn ≤ 9223372036854775807) :
    Calls Tryz.prog 8 #[.pointer (some ⟨m, 0, none⟩), .agg (op4 0 nn rv kv)] w (PQ w0 F m a n c) := by
  have R := Lib.hid r
  have C := Lib.hid hc
  have HB := Lib.hid hb
  have o1 : Only [] w (w.alloc (.cells (op4 0 nn rv kv) 30)) := (Only.refl [] w).alloc _
  have H1 := Lib.hid (h.add o1 (g := w.heap.size) (Nat.le_refl _) (heap_new w _))
  obtain ⟨ra, rc, rfl, -⟩ := id (hb w h.only h.keep)
  have HFAR := Lib.hid (show ∀ x ∈ F, x.1 < w.heap.size from fun x hx => (Array.getElem?_eq_some_iff.1 (h.keep x hx)).1)
  have hg5 : w0.heap.size ≤ w.heap.size := h.only.size
  obtain ⟨g5, hg5e⟩ : ∃ g5, w.heap.size = g5 := ⟨_, rfl⟩
  rw [hg5e] at H1 HFAR hg5
  have k1 : (w.alloc (.cells (op4 0 nn (.slice ra l.length rc) kv) 30)).cell? ⟨g5, 1, none⟩ = some (.slice ra l.length rc) := cell_at 1 (H1.out.keep (g5, .cells (op4 0 nn (.slice ra l.length rc) kv) 30) (by simp))
  have z1 : (w.alloc (.cells (op4 0 nn (.slice ra l.length rc) kv) 30)).heap.size = g5 + 1 := by rw [← hg5e]; exact Array.size_push _
  clear h r hc hb o1
  go_enter Tryz.func8, Tryz.ntmps8
  go_wp2_with fail
  generalize w.alloc _ = w1 at H1 k1 z1 ⊢
  refine (Copy_any _ l w1 (HB.out w1 H1.out.only (fun x hx => H1.out.keep x (by simp [hx]))) (by omega)).mono ?_
  rintro e w2 ⟨gc, rfl, ⟨cur, hcc, hcs, hcl⟩, hg, o2⟩
  have P2 := Lib.hid (show PM w0 w2 F m p q a d j s vr vt vm gs M g5 gc _ cur l from ⟨H1.out.add o2 hg hcc, hcs, hcl, by omega, fun x hx => by have := HFAR.out x hx; omega⟩)
  clear H1 k1 z1 hcc hcs hcl hg o2 HFAR hg5 hg5e
  go_wp2_with fail
  have oD : Only [] w2 w2.drew := (Only.refl [] w2).drew
  have P3 := Lib.hid (P2.out.quiet oD)
  obtain ⟨qa, qc, hvr⟩ := P3.out.ms.mm.shapeR
  obtain ⟨L, hL⟩ : ∃ L, L = gs.length := ⟨_, rfl⟩
  obtain ⟨fi, hfi⟩ : ∃ fi, fi = M.first := ⟨_, rfl⟩
  have c3 : w2.drew.cell? ⟨m, 3, none⟩ = some (.slice qa L qc) := by rw [hL, ← hvr]; exact cell_at 3 P3.out.ms.mm.blk
  have c5 : w2.drew.cell? ⟨m, 5, none⟩ = some (.int .i64 fi) := by rw [hfi]; exact cell_at 5 P3.out.ms.mm.blk
  have a2 : w2.drew.cell? ⟨g5, 2, none⟩ = some (.int .i64 nn) := P3.out.arg 2
  have hLb : L ≤ 1048576 := by rw [hL, P3.out.ms.mm.hlen]; have := C.out.b1; omega
  have hfb : fi ≤ 1048576 := by rw [hfi]; have := R.out.fle; have := C.out.b1; omega
  refine wp_region_held_drew (S := fun w' => w'.cell? ⟨m, 3, none⟩ = some (.slice qa L qc) ∧ w'.cell? ⟨m, 5, none⟩ = some (.int .i64 fi) ∧ w'.cell? ⟨g5, 2, none⟩ = some (.int .i64 nn)) (by kernel_rfl) ⟨c3, c5, a2⟩ (fun hH => ?_)
  have HFI := Lib.hid hfi
  clear oD P2 hvr hL hfi c3 c5 a2
  generalize w2.drew = w3 at P3 hH ⊢
  refine take_list (i := 0) (v := ?_) rfl (by kernel_rfl) (by kernel_rfl) (by kernel_rfl) (fun _ _ _ h => h) (Or.inl ⟨by rfl, ?_⟩) hH ?_
  rotate_left
  · ((intro w hSw; (try dsimp only at hSw); go_simp); try with_reducible rfl)
  simp only [Act.put, List.setIfInBounds_toArray, List.set_cons_zero, List.set_cons_succ]
  refine take_list (i := 1) (v := ?_) rfl (by kernel_rfl) (by kernel_rfl) (by kernel_rfl) (fun _ _ _ h => h) (Or.inl ⟨by rfl, ?_⟩) hH ?_
  rotate_left
  · ((intro w hSw; (try dsimp only at hSw); go_simp); try with_reducible rfl)
  simp only [Act.put, List.setIfInBounds_toArray, List.set_cons_zero, List.set_cons_succ]
  refine take_list (i := 2) (v := ?_) rfl (by kernel_rfl) (by kernel_rfl) (by kernel_rfl) (fun _ _ _ h => h) (Or.inl ⟨by rfl, ?_⟩) hH ?_
  rotate_left
  · ((intro w hSw; (try dsimp only at hSw); go_simp); try with_reducible rfl)
  simp only [Act.put, List.setIfInBounds_toArray, List.set_cons_zero, List.set_cons_succ]
  refine take_list (i := 3) (v := ?_) rfl (by kernel_rfl) (by kernel_rfl) (by kernel_rfl) (fun _ _ _ h => h) (Or.inl ⟨by rfl, ?_⟩) hH ?_
  rotate_left
  · ((intro w hSw; (try dsimp only at hSw); go_simp); try with_reducible rfl)
  simp only [Act.put, List.setIfInBounds_toArray, List.set_cons_zero, List.set_cons_succ]
  refine take_list (i := 4) (v := ?_) rfl (by kernel_rfl) (by kernel_rfl) (by kernel_rfl) (fun _ _ _ h => h) (Or.inl ⟨by rfl, ?_⟩) hH ?_
  rotate_left
  · ((intro w hSw; (try dsimp only at hSw); go_simp); try with_reducible rfl)
  simp only [Act.put, List.setIfInBounds_toArray, List.set_cons_zero, List.set_cons_succ]
  refine take_list (i := 5) (v := ?_) rfl (by kernel_rfl) (by kernel_rfl) (by kernel_rfl) (fun _ _ _ h => h) (Or.inl ⟨by rfl, ?_⟩) hH ?_
  rotate_left
  · ((intro w hSw; (try dsimp only at hSw); go_simp); try with_reducible rfl)
  simp only [Act.put, List.setIfInBounds_toArray, List.set_cons_zero, List.set_cons_succ]
  refine take_list (i := 6) (v := ?_) rfl (by kernel_rfl) (by kernel_rfl) (by kernel_rfl) (fun _ _ _ h => h) (Or.inl ⟨by rfl, ?_⟩) hH ?_
  rotate_left
  · ((intro w hSw; (try dsimp only at hSw); go_simp); try with_reducible rfl)
  simp only [Act.put, List.setIfInBounds_toArray, List.set_cons_zero, List.set_cons_succ]
  refine take_list (i := 7) (v := ?_) rfl (by kernel_rfl) (by kernel_rfl) (by kernel_rfl) (fun _ _ _ h => h) (Or.inl ⟨by rfl, ?_⟩) hH ?_
  rotate_left
  · ((intro w hSw; (try dsimp only at hSw); go_simp); try with_reducible rfl)
  simp only [Act.put, List.setIfInBounds_toArray, List.set_cons_zero, List.set_cons_succ]
  obtain ⟨y0, hy0⟩ : ∃ y0 : Int, (if nn < -3 then -3 else nn) = y0 := ⟨_, rfl⟩
  have hy0b : -3 ≤ y0 := by
    rw [← hy0]
    split <;> omega
  rw [hy0]
  clear hy0
  refine take_list (i := 8) (v := ?_) rfl (by kernel_rfl) (by kernel_rfl) (by kernel_rfl) (fun _ _ _ h => h) (Or.inl ⟨by rfl, ?_⟩) hH ?_
  rotate_left
  · ((intro w hSw; (try dsimp only at hSw); go_simp); try with_reducible rfl)
  simp only [Act.put, List.setIfInBounds_toArray, List.set_cons_zero, List.set_cons_succ]
  refine take_list (i := 9) (v := ?_) rfl (by kernel_rfl) (by kernel_rfl) (by kernel_rfl) (fun _ _ _ h => h) (Or.inl ⟨by rfl, ?_⟩) hH ?_
  rotate_left
  · ((intro w hSw; (try dsimp only at hSw); go_simp); try with_reducible rfl)
  simp only [Act.put, List.setIfInBounds_toArray, List.set_cons_zero, List.set_cons_succ]
  refine take_list (i := 10) (v := ?_) rfl (by kernel_rfl) (by kernel_rfl) (by kernel_rfl) (fun _ _ _ h => h) (Or.inl ⟨by rfl, ?_⟩) hH ?_
  rotate_left
  · ((intro w hSw; (try dsimp only at hSw); go_simp); try with_reducible rfl)
  simp only [Act.put, List.setIfInBounds_toArray, List.set_cons_zero, List.set_cons_succ]
  refine take_list (i := 11) (v := ?_) rfl (by kernel_rfl) (by kernel_rfl) (by kernel_rfl) (fun _ _ _ h => h) (Or.inl ⟨by rfl, ?_⟩) hH ?_
  rotate_left
  · ((intro w hSw; (try dsimp only at hSw); go_simp); try with_reducible rfl)
  simp only [Act.put, List.setIfInBounds_toArray, List.set_cons_zero, List.set_cons_succ]
  refine take_list (i := 12) (v := ?_) rfl (by kernel_rfl) (by kernel_rfl) (by kernel_rfl) (fun _ _ _ h => h) (Or.inl ⟨by rfl, ?_⟩) hH ?_
  rotate_left
  · ((intro w hSw; (try dsimp only at hSw); go_simp); try with_reducible rfl)
  simp only [Act.put, List.setIfInBounds_toArray, List.set_cons_zero, List.set_cons_succ]
  refine take_list (i := 13) (v := ?_) rfl (by kernel_rfl) (by kernel_rfl) (by kernel_rfl) (fun _ _ _ h => h) (Or.inl ⟨by rfl, ?_⟩) hH ?_
  rotate_left
  · ((intro w hSw; (try dsimp only at hSw); go_simp); try with_reducible rfl)
  simp only [Act.put, List.setIfInBounds_toArray, List.set_cons_zero, List.set_cons_succ]
  refine take_list (i := 14) (v := ?_) rfl (by kernel_rfl) (by kernel_rfl) (by kernel_rfl) (fun _ _ _ h => h) (Or.inl ⟨by rfl, ?_⟩) hH ?_
  rotate_left
  · ((intro w hSw; (try dsimp only at hSw); go_simp); try with_reducible rfl)
  simp only [Act.put, List.setIfInBounds_toArray, List.set_cons_zero, List.set_cons_succ]
  obtain ⟨y, hy⟩ : ∃ y : Int, (if IntKind.i64.wrap ((L : Int) + 3) < y0 then IntKind.i64.wrap ((L : Int) + 3) else y0) = y := ⟨_, rfl⟩
  have hyb : -3 ≤ y ∧ y ≤ (L : Int) + 3 := by
    have hw : IntKind.i64.wrap ((L : Int) + 3) = (L : Int) + 3 := by rw [IntKind.wrap_i64]; omega
    rw [hw] at hy
    split at hy <;> omega
  rw [hy]
  clear hy hy0b
  obtain ⟨hy1, hy2⟩ := hyb
  obtain ⟨x, hx⟩ : ∃ x : Int, x = (fi : Int) + y := ⟨_, rfl⟩
  have wx : IntKind.i64.wrap ((fi : Int) + y) = x := by rw [hx, IntKind.wrap_i64]; omega
  have hx1 : -10 ≤ x := by omega
  have hx2 : x ≤ 4000000 := by omega
  clear hx
  refine take_list (i := 15) (v := ?_) rfl (by kernel_rfl) (by kernel_rfl) (by kernel_rfl) (fun _ _ _ h => h) (Or.inl ⟨by rfl, ?_⟩) hH ?_
  rotate_left
  · ((intro w hSw; (try dsimp only at hSw); go_simp); try with_reducible rfl)
  simp only [Act.put, List.setIfInBounds_toArray, List.set_cons_zero, List.set_cons_succ]
  refine take_list (i := 16) (v := ?_) rfl (by kernel_rfl) (by kernel_rfl) (by kernel_rfl) (fun _ _ _ h => h) (Or.inl ⟨by rfl, ?_⟩) hH ?_
  rotate_left
  · ((intro w hSw; (try dsimp only at hSw); go_simp); try with_reducible rfl)
  simp only [Act.put, List.setIfInBounds_toArray, List.set_cons_zero, List.set_cons_succ]
  refine wpAnyH_done (by kernel_rfl) ?_ _
  clear hH wx hy1 hy2 hLb hfb HFI
  have c2 : w3.cell? ⟨m, 2, none⟩ = some (.pointer (some ⟨p, 0, none⟩)) := cell_at 2 P3.out.ms.mm.blk
  have a0 : w3.cell? ⟨g5, 0, none⟩ = some (.int .i64 0) := P3.out.arg 0
  go_wp2_with fail
  have KA := append_F P3.out.ms (R.out.big C.out.b1 C.out.b2) _ l P3.out.copy.bytes (P3.out.inF _ _) (by omega)
  rw [R.out.booked] at KA
  refine KA.mono ?_
  rintro e w4 ⟨rfl, m4⟩
  have Q4 := Lib.hid (P3.out.to m4)
  have HOK := Lib.hid P3.out.ms.ok
  have hbk : (M.booked : Int) ≤ 962560 := by have := HOK.out.booked; have := HOK.out.nm; rw [R.out.booked] at *; omega
  clear m4 KA P3 c2 a0
  have a1 : w4.cell? ⟨g5, 1, none⟩ = some (.slice ra l.length rc) := Q4.out.arg 1
  have c8 : w4.cell? ⟨m, 8, none⟩ = some (.int .i64 M.booked) := cell_at 8 Q4.out.ms.mm.blk
  have KP := mput_all (M.booked : Int) Q4.out.ms R.out HOK.out C.out hc1 (Q4.out.bytesF HB.out) ⟨by omega, by omega⟩
  generalize j.anum l (j.free - (M.booked : Int)) = num at KP ⊢
  generalize j.acode l (j.free - (M.booked : Int)) = code at KP ⊢
  go_wp2_with fail
  refine KP.mono ?_
  rintro e w5 ⟨rfl, vr5, vt5, gs5, M5, m5, r5, b5, n5⟩
  have Q5 := Lib.hid (Q4.out.to m5)
  have NX := Lib.hid (And.intro (r5.mono (show (1 + 2 * (c : Int)) ≤ 1 + 2 * ((c + 1 : Nat) : Int) by omega)) (And.intro b5 (n5.trans hn)))
  clear m5 r5 b5 n5 KP Q4 a1 c8
  go_wp2_with fail
  refine (num_code code _).mono ?_
  rintro e w6 ⟨rfl, rfl⟩
  have a1 : w5.cell? ⟨g5, 1, none⟩ = some (.slice ra l.length rc) := Q5.out.arg 1
  go_wp2_with fail
  refine (Kept_any gc _ l _ Q5.out.copy (Q5.out.bytesF HB.out) (by omega)).mono ?_
  rintro e wt7 ⟨rfl, o7⟩
  have Qt7 := Lib.hid (Q5.out.quiet o7)
  clear o7 Q5 a1
  go_wp2_with fail
  refine (over_any _ l.length _ (Qt7.out.copy.row (by unfold maxLen; omega)) (by omega)).mono ?_
  rintro e wt8 ⟨rfl, _, o8⟩
  have m8 := Qt7.out.done (o8.mono (fun k hk => by simpa [Value.ownBlock, eq_comm] using hk))
  have M8 := Lib.hid m8
  clear o8 m8 Qt7
  go_wp2_with fail
  go_ret
  exact ⟨rfl, _, _, _, _, _, _, _, _, _, _, M8.out, NX.out.1, NX.out.2.1, NX.out.2.2⟩
set_option maxRecDepth 100000 in
set_option maxHeartbeats 2000000 in
theorem play_spend (h : MS w0 w F m p q a d j s vr vt vm gs M) (r : MR (1 + 2 * (c : Int)) d s j M) (hc : MB c M) (hn : M.n = n) (hc1 : c + 1 ≤ 100000) (hb : BytesF w0 F rv l) (hl : l.length ≤ 1048576) (hnn1 : -9223372036854775808 ≤ nn) (hnn2 : nn ≤ 9223372036854775807) :
    Calls Tryz.prog 8 #[.pointer (some ⟨m, 0, none⟩), .agg (op4 1 nn rv kv)] w (PQ w0 F m a n c) := by
  have R := Lib.hid r
  have C := Lib.hid hc
  have HB := Lib.hid hb
  have o1 : Only [] w (w.alloc (.cells (op4 1 nn rv kv) 30)) := (Only.refl [] w).alloc _
  have H1 := Lib.hid (h.add o1 (g := w.heap.size) (Nat.le_refl _) (heap_new w _))
  obtain ⟨ra, rc, rfl, -⟩ := id (hb w h.only h.keep)
  have HFAR := Lib.hid (show ∀ x ∈ F, x.1 < w.heap.size from fun x hx => (Array.getElem?_eq_some_iff.1 (h.keep x hx)).1)
  have hg5 : w0.heap.size ≤ w.heap.size := h.only.size
  obtain ⟨g5, hg5e⟩ : ∃ g5, w.heap.size = g5 := ⟨_, rfl⟩
  rw [hg5e] at H1 HFAR hg5
  have k1 : (w.alloc (.cells (op4 1 nn (.slice ra l.length rc) kv) 30)).cell? ⟨g5, 1, none⟩ = some (.slice ra l.length rc) := cell_at 1 (H1.out.keep (g5, .cells (op4 1 nn (.slice ra l.length rc) kv) 30) (by simp))
  have z1 : (w.alloc (.cells (op4 1 nn (.slice ra l.length rc) kv) 30)).heap.size = g5 + 1 := by rw [← hg5e]; exact Array.size_push _
  clear h r hc hb o1
  go_enter Tryz.func8, Tryz.ntmps8
  go_wp2_with fail
  generalize w.alloc _ = w1 at H1 k1 z1 ⊢
  refine (Copy_any _ l w1 (HB.out w1 H1.out.only (fun x hx => H1.out.keep x (by simp [hx]))) (by omega)).mono ?_
  rintro e w2 ⟨gc, rfl, ⟨cur, hcc, hcs, hcl⟩, hg, o2⟩
  have P2 := Lib.hid (show PM w0 w2 F m p q a d j s vr vt vm gs M g5 gc _ cur l from ⟨H1.out.add o2 hg hcc, hcs, hcl, by omega, fun x hx => by have := HFAR.out x hx; omega⟩)
  clear H1 k1 z1 hcc hcs hcl hg o2 HFAR hg5 hg5e
  go_wp2_with fail
  have oD : Only [] w2 w2.drew := (Only.refl [] w2).drew
  have P3 := Lib.hid (P2.out.quiet oD)
  obtain ⟨qa, qc, hvr⟩ := P3.out.ms.mm.shapeR
  obtain ⟨L, hL⟩ : ∃ L, L = gs.length := ⟨_, rfl⟩
  obtain ⟨fi, hfi⟩ : ∃ fi, fi = M.first := ⟨_, rfl⟩
  have c3 : w2.drew.cell? ⟨m, 3, none⟩ = some (.slice qa L qc) := by rw [hL, ← hvr]; exact cell_at 3 P3.out.ms.mm.blk
  have c5 : w2.drew.cell? ⟨m, 5, none⟩ = some (.int .i64 fi) := by rw [hfi]; exact cell_at 5 P3.out.ms.mm.blk
  have a2 : w2.drew.cell? ⟨g5, 2, none⟩ = some (.int .i64 nn) := P3.out.arg 2
  have hLb : L ≤ 1048576 := by rw [hL, P3.out.ms.mm.hlen]; have := C.out.b1; omega
  have hfb : fi ≤ 1048576 := by rw [hfi]; have := R.out.fle; have := C.out.b1; omega
  refine wp_region_held_drew (S := fun w' => w'.cell? ⟨m, 3, none⟩ = some (.slice qa L qc) ∧ w'.cell? ⟨m, 5, none⟩ = some (.int .i64 fi) ∧ w'.cell? ⟨g5, 2, none⟩ = some (.int .i64 nn)) (by kernel_rfl) ⟨c3, c5, a2⟩ (fun hH => ?_)
  have HFI := Lib.hid hfi
  clear oD P2 hvr hL hfi c3 c5 a2
  generalize w2.drew = w3 at P3 hH ⊢
  refine take_list (i := 0) (v := ?_) rfl (by kernel_rfl) (by kernel_rfl) (by kernel_rfl) (fun _ _ _ h => h) (Or.inl ⟨by rfl, ?_⟩) hH ?_
  rotate_left
  · ((intro w hSw; (try dsimp only at hSw); go_simp); try with_reducible rfl)
  simp only [Act.put, List.setIfInBounds_toArray, List.set_cons_zero, List.set_cons_succ]
  refine take_list (i := 1) (v := ?_) rfl (by kernel_rfl) (by kernel_rfl) (by kernel_rfl) (fun _ _ _ h => h) (Or.inl ⟨by rfl, ?_⟩) hH ?_
  rotate_left
  · ((intro w hSw; (try dsimp only at hSw); go_simp); try with_reducible rfl)
  simp only [Act.put, List.setIfInBounds_toArray, List.set_cons_zero, List.set_cons_succ]
  refine take_list (i := 2) (v := ?_) rfl (by kernel_rfl) (by kernel_rfl) (by kernel_rfl) (fun _ _ _ h => h) (Or.inl ⟨by rfl, ?_⟩) hH ?_
  rotate_left
  · ((intro w hSw; (try dsimp only at hSw); go_simp); try with_reducible rfl)
  simp only [Act.put, List.setIfInBounds_toArray, List.set_cons_zero, List.set_cons_succ]
  refine take_list (i := 3) (v := ?_) rfl (by kernel_rfl) (by kernel_rfl) (by kernel_rfl) (fun _ _ _ h => h) (Or.inl ⟨by rfl, ?_⟩) hH ?_
  rotate_left
  · ((intro w hSw; (try dsimp only at hSw); go_simp); try with_reducible rfl)
  simp only [Act.put, List.setIfInBounds_toArray, List.set_cons_zero, List.set_cons_succ]
  refine take_list (i := 4) (v := ?_) rfl (by kernel_rfl) (by kernel_rfl) (by kernel_rfl) (fun _ _ _ h => h) (Or.inl ⟨by rfl, ?_⟩) hH ?_
  rotate_left
  · ((intro w hSw; (try dsimp only at hSw); go_simp); try with_reducible rfl)
  simp only [Act.put, List.setIfInBounds_toArray, List.set_cons_zero, List.set_cons_succ]
  refine take_list (i := 5) (v := ?_) rfl (by kernel_rfl) (by kernel_rfl) (by kernel_rfl) (fun _ _ _ h => h) (Or.inl ⟨by rfl, ?_⟩) hH ?_
  rotate_left
  · ((intro w hSw; (try dsimp only at hSw); go_simp); try with_reducible rfl)
  simp only [Act.put, List.setIfInBounds_toArray, List.set_cons_zero, List.set_cons_succ]
  refine take_list (i := 6) (v := ?_) rfl (by kernel_rfl) (by kernel_rfl) (by kernel_rfl) (fun _ _ _ h => h) (Or.inl ⟨by rfl, ?_⟩) hH ?_
  rotate_left
  · ((intro w hSw; (try dsimp only at hSw); go_simp); try with_reducible rfl)
  simp only [Act.put, List.setIfInBounds_toArray, List.set_cons_zero, List.set_cons_succ]
  refine take_list (i := 7) (v := ?_) rfl (by kernel_rfl) (by kernel_rfl) (by kernel_rfl) (fun _ _ _ h => h) (Or.inl ⟨by rfl, ?_⟩) hH ?_
  rotate_left
  · ((intro w hSw; (try dsimp only at hSw); go_simp); try with_reducible rfl)
  simp only [Act.put, List.setIfInBounds_toArray, List.set_cons_zero, List.set_cons_succ]
  obtain ⟨y0, hy0⟩ : ∃ y0 : Int, (if nn < -3 then -3 else nn) = y0 := ⟨_, rfl⟩
  have hy0b : -3 ≤ y0 := by
    rw [← hy0]
    split <;> omega
  rw [hy0]
  clear hy0
  refine take_list (i := 8) (v := ?_) rfl (by kernel_rfl) (by kernel_rfl) (by kernel_rfl) (fun _ _ _ h => h) (Or.inl ⟨by rfl, ?_⟩) hH ?_
  rotate_left
  · ((intro w hSw; (try dsimp only at hSw); go_simp); try with_reducible rfl)
  simp only [Act.put, List.setIfInBounds_toArray, List.set_cons_zero, List.set_cons_succ]
  refine take_list (i := 9) (v := ?_) rfl (by kernel_rfl) (by kernel_rfl) (by kernel_rfl) (fun _ _ _ h => h) (Or.inl ⟨by rfl, ?_⟩) hH ?_
  rotate_left
  · ((intro w hSw; (try dsimp only at hSw); go_simp); try with_reducible rfl)
  simp only [Act.put, List.setIfInBounds_toArray, List.set_cons_zero, List.set_cons_succ]
  refine take_list (i := 10) (v := ?_) rfl (by kernel_rfl) (by kernel_rfl) (by kernel_rfl) (fun _ _ _ h => h) (Or.inl ⟨by rfl, ?_⟩) hH ?_
  rotate_left
  · ((intro w hSw; (try dsimp only at hSw); go_simp); try with_reducible rfl)
  simp only [Act.put, List.setIfInBounds_toArray, List.set_cons_zero, List.set_cons_succ]
  refine take_list (i := 11) (v := ?_) rfl (by kernel_rfl) (by kernel_rfl) (by kernel_rfl) (fun _ _ _ h => h) (Or.inl ⟨by rfl, ?_⟩) hH ?_
  rotate_left
  · ((intro w hSw; (try dsimp only at hSw); go_simp); try with_reducible rfl)
  simp only [Act.put, List.setIfInBounds_toArray, List.set_cons_zero, List.set_cons_succ]
  refine take_list (i := 12) (v := ?_) rfl (by kernel_rfl) (by kernel_rfl) (by kernel_rfl) (fun _ _ _ h => h) (Or.inl ⟨by rfl, ?_⟩) hH ?_
  rotate_left
  · ((intro w hSw; (try dsimp only at hSw); go_simp); try with_reducible rfl)
  simp only [Act.put, List.setIfInBounds_toArray, List.set_cons_zero, List.set_cons_succ]
  refine take_list (i := 13) (v := ?_) rfl (by kernel_rfl) (by kernel_rfl) (by kernel_rfl) (fun _ _ _ h => h) (Or.inl ⟨by rfl, ?_⟩) hH ?_
  rotate_left
  · ((intro w hSw; (try dsimp only at hSw); go_simp); try with_reducible rfl)
  simp only [Act.put, List.setIfInBounds_toArray, List.set_cons_zero, List.set_cons_succ]
  refine take_list (i := 14) (v := ?_) rfl (by kernel_rfl) (by kernel_rfl) (by kernel_rfl) (fun _ _ _ h => h) (Or.inl ⟨by rfl, ?_⟩) hH ?_
  rotate_left
  · ((intro w hSw; (try dsimp only at hSw); go_simp); try with_reducible rfl)
  simp only [Act.put, List.setIfInBounds_toArray, List.set_cons_zero, List.set_cons_succ]
  obtain ⟨y, hy⟩ : ∃ y : Int, (if IntKind.i64.wrap ((L : Int) + 3) < y0 then IntKind.i64.wrap ((L : Int) + 3) else y0) = y := ⟨_, rfl⟩
  have hyb : -3 ≤ y ∧ y ≤ (L : Int) + 3 := by
    have hw : IntKind.i64.wrap ((L : Int) + 3) = (L : Int) + 3 := by rw [IntKind.wrap_i64]; omega
    rw [hw] at hy
    split at hy <;> omega
  rw [hy]
  clear hy hy0b
  obtain ⟨hy1, hy2⟩ := hyb
  obtain ⟨x, hx⟩ : ∃ x : Int, x = (fi : Int) + y := ⟨_, rfl⟩
  have wx : IntKind.i64.wrap ((fi : Int) + y) = x := by rw [hx, IntKind.wrap_i64]; omega
  have hx1 : -10 ≤ x := by omega
  have hx2 : x ≤ 4000000 := by omega
  clear hx
  refine take_list (i := 15) (v := ?_) rfl (by kernel_rfl) (by kernel_rfl) (by kernel_rfl) (fun _ _ _ h => h) (Or.inl ⟨by rfl, ?_⟩) hH ?_
  rotate_left
  · ((intro w hSw; (try dsimp only at hSw); go_simp); try with_reducible rfl)
  simp only [Act.put, List.setIfInBounds_toArray, List.set_cons_zero, List.set_cons_succ]
  refine take_list (i := 16) (v := ?_) rfl (by kernel_rfl) (by kernel_rfl) (by kernel_rfl) (fun _ _ _ h => h) (Or.inl ⟨by rfl, ?_⟩) hH ?_
  rotate_left
  · ((intro w hSw; (try dsimp only at hSw); go_simp); try with_reducible rfl)
  simp only [Act.put, List.setIfInBounds_toArray, List.set_cons_zero, List.set_cons_succ]
  refine wpAnyH_done (by kernel_rfl) ?_ _
  clear hH wx hy1 hy2 hLb hfb HFI
  have c2 : w3.cell? ⟨m, 2, none⟩ = some (.pointer (some ⟨p, 0, none⟩)) := cell_at 2 P3.out.ms.mm.blk
  have a0 : w3.cell? ⟨g5, 0, none⟩ = some (.int .i64 1) := P3.out.arg 0
  go_wp2_with fail
  have KA := spend_F P3.out.ms (R.out.big C.out.b1 C.out.b2) _ l P3.out.copy.bytes (P3.out.inF _ _) (by omega)
  refine KA.mono ?_
  rintro e w4 ⟨rfl, m4⟩
  have Q4 := Lib.hid (P3.out.to m4)
  have HOK := Lib.hid P3.out.ms.ok
  clear m4 KA P3 c2 a0
  have a1 : w4.cell? ⟨g5, 1, none⟩ = some (.slice ra l.length rc) := Q4.out.arg 1
  have KP := mput_all 0 (by rw [Int.sub_zero]; exact Q4.out.ms) R.out HOK.out C.out hc1 (Q4.out.bytesF HB.out) ⟨by decide, by decide⟩
  rw [Int.sub_zero] at KP
  generalize j.anum l j.free = num at KP ⊢
  generalize j.acode l j.free = code at KP ⊢
  go_wp2_with fail
  refine KP.mono ?_
  rintro e w5 ⟨rfl, vr5, vt5, gs5, M5, m5, r5, b5, n5⟩
  have Q5 := Lib.hid (Q4.out.to m5)
  have NX := Lib.hid (And.intro (r5.mono (show (1 + 2 * (c : Int)) ≤ 1 + 2 * ((c + 1 : Nat) : Int) by omega)) (And.intro b5 (n5.trans hn)))
  clear m5 r5 b5 n5 KP Q4 a1
  go_wp2_with fail
  refine (num_code code _).mono ?_
  rintro e w6 ⟨rfl, rfl⟩
  have a1 : w5.cell? ⟨g5, 1, none⟩ = some (.slice ra l.length rc) := Q5.out.arg 1
  go_wp2_with fail
  refine (Kept_any gc _ l _ Q5.out.copy (Q5.out.bytesF HB.out) (by omega)).mono ?_
  rintro e wt7 ⟨rfl, o7⟩
  have Qt7 := Lib.hid (Q5.out.quiet o7)
  clear o7 Q5 a1
  go_wp2_with fail
  refine (over_any _ l.length _ (Qt7.out.copy.row (by unfold maxLen; omega)) (by omega)).mono ?_
  rintro e wt8 ⟨rfl, _, o8⟩
  have m8 := Qt7.out.done (o8.mono (fun k hk => by simpa [Value.ownBlock, eq_comm] using hk))
  have M8 := Lib.hid m8
  clear o8 m8 Qt7
  go_wp2_with fail
  go_ret
  exact ⟨rfl, _, _, _, _, _, _, _, _, _, _, M8.out, NX.out.1, NX.out.2.1, NX.out.2.2⟩
end
end Go.Proofs.YtfnedeaemjchgaaGreat
/- What a model makes of a Flush, a Trim, a crash, each as a whole. -/
namespace Go.Proofs.YtfnedeaemjchgaaGreat
open Go.RowKit Go.Maps
set_option linter.unusedSimpArgs false
set_option linter.unusedVariables false

section
variable {w0 w w1 : World} {F : List (Nat × Obj)} {m p q c : Nat} {a : DA} {d : Disk} {j : JL} {s : SL} {vr vt vm rv kv : Value} {gs : List Value} {M M' : ML} {l : Sec}
theorem MS.mmto (h : MS w0 w F m p q a d j s vr vt vm gs M) (ho : Only [m] w w1) (hm : MM w1 m a p vr vt vm gs M') (hy : M'.may = M.may) : MS w0 w1 F m p q a d j s vr vt vm gs M' := by
  refine h.mto ho (fun k hk => by rw [List.mem_singleton.1 hk]; exact mem_mbl.2 (.inl rfl)) hm ?_ (fun k hk => .inl hk)
  rw [hy]
  refine h.my.kept ho (fun k hk e => ?_)
  rw [List.mem_singleton.1 hk] at e
  exact absurd (h.my.ty e h.mm.blk) (by decide)
theorem MS.own (h : MS w0 w F m p q a d j s vr vt vm gs M) (ho : Only [m] w w1) (hr : M'.recs = M.recs) (hy : M'.may = M.may)
    (hb : w1.heap[m]? = some (.cells #[.pointer (some ⟨a.p, 0, none⟩), .int .i64 M'.n, .pointer (some ⟨p, 0, none⟩), vr, vt, .int .i64 M'.first, .string (strOf M'.note), .int .i64 M'.sure, .int .i64 M'.booked, .bool M'.dead, vm] 44 (0, 0))) : MS w0 w1 F m p q a d j s vr vt vm gs M' :=
  h.mmto ho (h.mm.turn ho hr hb) hy
/-- A Flush's answer. -/
theorem mflush_all (h : MS w0 w F m p q a (j.flushR d s).d (j.flushR d s).j (j.flushR d s).s vr vt vm gs M) (r : MR (1 + 2 * (c : Int)) d s j M) (hj : JOk j) (hc : MB c M) (hc1 : c + 1 ≤ 100000) :
    Calls Tryz.prog 11 #[.pointer (some ⟨m, 0, none⟩), errV (j.flushR d s).c] w fun e w' => e = .returned (.bool true) ∧
      ∃ M', MS w0 w' F m p q a (j.flushR d s).d (j.flushR d s).j (j.flushR d s).s vr vt vm gs M' ∧ MR (1 + 2 * ((c + 1 : Nat) : Int)) (j.flushR d s).d (j.flushR d s).s (j.flushR d s).j M' ∧ MB (c + 1) M' ∧ M'.n = M.n := by
  have hb1 := hc.b1
  cases hd : M.dead
  · rcases r.flush hj (r.big hc.b1 hc.b2) hd (by omega) with ⟨c0, r', dn⟩ | ⟨c3, r', dn⟩
    · rw [c0, errV_z rfl]
      exact (mflush_yes h.mm hd h.dev dn (by omega)).mono fun e w' ⟨h1, h2, h3⟩ => ⟨h1, _, h.mmto h3 h2 rfl, r'.mono (by omega), (hc.next hc1).same rfl rfl, rfl⟩
    · rw [c3, errV_nz (by decide)]
      exact (mflush_no h.mm hd h.dev dn).mono fun e w' ⟨h1, h2, h3⟩ => ⟨h1, _, h.mmto h3 h2 rfl, r'.mono (by omega), (hc.next hc1).same rfl rfl, rfl⟩
  · have e := flushR_dead (j := j) (d := d) (s := s) (r.dead.trans hd)
    rw [e] at h ⊢
    rw [show errV (JR.mk 3 d j s).c = err 3 from errV_nz (show (3 : Int) ≠ 0 by decide)]
    exact (mflush_dead h.mm hd).mono fun e w' ⟨h1, h2⟩ => ⟨h1, M, h2 ▸ h, r.mono (by omega), hc.next hc1, rfl⟩
/-- A Trim's answer. -/
theorem mtrim_all (x : Int) (h : MS w0 w F m p q a (j.trimR d s x l).d (j.trimR d s x l).j (j.trimR d s x l).s vr vt vm gs M) (r : MR (1 + 2 * (c : Int)) d s j M) (hj : JOk j) (hc : MB c M) (hc1 : c + 1 ≤ 100000) (hb : Bytes w rv l) :
    Calls Tryz.prog 29 #[.pointer (some ⟨m, 0, none⟩), .int .i64 x, rv, errV (j.trimR d s x l).c] w fun e w' => e = .returned (.bool true) ∧
      ∃ vm' M', MS w0 w' F m p q a (j.trimR d s x l).d (j.trimR d s x l).j (j.trimR d s x l).s vr vt vm' gs M' ∧ MR (1 + 2 * ((c + 1 : Nat) : Int)) (j.trimR d s x l).d (j.trimR d s x l).s (j.trimR d s x l).j M' ∧ MB (c + 1) M' ∧ M'.n = M.n := by
  have hb1 := hc.b1
  cases hd : M.dead
  · have hd' : j.dead = false := r.dead.trans hd
    by_cases hr : x < j.first ∨ (j.next : Int) < x
    · have e := trimR_range (d := d) (s := s) (note := l) hd' hr
      rw [e] at h ⊢
      rw [show errV (JR.mk 1 d j s).c = err 1 from errV_nz (show (1 : Int) ≠ 0 by decide)]
      exact (mtrim_range h.mm hd x hb (by omega) (by rw [← r.first, ← r.next]; exact hr)).mono fun e w' ⟨h1, h2⟩ => ⟨h1, _, M, h.quiet h2, r.mono (by omega), hc.next hc1, rfl⟩
    · by_cases hl : 400 < l.length
      · have e := trimR_form (d := d) (s := s) hd' hr hl
        rw [e] at h ⊢
        rw [show errV (JR.mk 2 d j s).c = err 2 from errV_nz (show (2 : Int) ≠ 0 by decide)]
        exact (mtrim_form h.mm hd x hb (by omega) (by rw [← r.first, ← r.next]; exact hr) hl).mono fun e w' ⟨h1, h2⟩ => ⟨h1, _, M, h.quiet h2, r.mono (by omega), hc.next hc1, rfl⟩
      · have hjn : j.next = j.first + j.recs.length := rfl
        have hfi := r.first
        have hnx := r.next
        obtain ⟨k, hk⟩ : ∃ k : Nat, k = (x - M.first).toNat := ⟨_, rfl⟩
        have hx : x = ((M.first + k : Nat) : Int) := by omega
        have hL : M.first ≤ M.first + k ∧ M.first + k ≤ M.next := ⟨by omega, by omega⟩
        rcases r.trim hj (r.big hc.b1 hc.b2) hd (by omega) k (by omega) x (by omega) (note := l) (by omega) with ⟨c0, r', dn⟩ | ⟨c3, r', dn⟩
        · rw [c0, errV_z rfl]
          have K := mtrim_yes h.mm hd (M.first + k) hb (by omega) hL (by omega) h.dev dn
          rw [← hx] at K
          exact K.mono fun e w' ⟨h1, h2, h3⟩ => ⟨h1, _, _, h.mmto h3 h2 rfl, r'.mono (by omega), (hc.next hc1).same rfl rfl, rfl⟩
        · rw [c3, errV_nz (by decide)]
          have K := mtrim_no h.mm h.my (by have := hc.b3; omega) hd (M.first + k) hb (by omega) hL (by omega) h.dev dn
          rw [← hx] at K
          refine K.mono ?_
          rintro e w' ⟨h1, vm', h2, h3, h4, h5⟩
          refine ⟨h1, vm', _, h.mto h4 (fun k hk => ?_) h2 h3 (fun k hk => ?_), r'.mono (by omega), hc.mark hc1 rfl _ rfl, rfl⟩
          · rcases List.mem_cons.1 hk with rfl | hk
            · exact mem_mbl.2 (.inl rfl)
            · exact mem_mbl.2 (.inr (.inr (.inr (.inl (by simpa using hk)))))
          · rcases mem_mbl.1 hk with e | e | e | e | e
            · exact .inl (mem_mbl.2 (.inl e))
            · exact .inl (mem_mbl.2 (.inr (.inl e)))
            · exact .inl (mem_mbl.2 (.inr (.inr (.inl e))))
            · exact (h5 k e).imp (fun e => mem_mbl.2 (.inr (.inr (.inr (.inl e))))) id
            · exact .inl (mem_mbl.2 (.inr (.inr (.inr (.inr e)))))
  · have e := trimR_dead (j := j) (d := d) (s := s) (x := x) (note := l) (r.dead.trans hd)
    rw [e] at h ⊢
    rw [show errV (JR.mk 3 d j s).c = err 3 from errV_nz (show (3 : Int) ≠ 0 by decide)]
    exact (mtrim_dead h.mm hd x hb).mono fun e w' ⟨h1, h2⟩ => ⟨h1, _, M, h.quiet h2, r.mono (by omega), hc.next hc1, rfl⟩
/-- A crash. -/
theorem mcrash_all (h : MS w0 w F m p q a d j s vr vt vm gs M) (r : MR (1 + 2 * (c : Int)) d s j M) (hc : MB c M) {ks : List Int} (hk : IntsV w kv ks) (hkl : ks.length ≤ 1099511627776) :
    Calls Tryz.prog 13 #[.pointer (some ⟨m, 0, none⟩), kv] w fun e w' => e = .returned (.bool true) ∧ ∃ p2 q2 j2 s2 vr' vt' gs' M', MS w0 w' F m p2 q2 a (d.crash ks) j2 s2 vr' vt' (.slice none 0 0) gs' M' ∧ MR (1 + 2 * (c : Int)) (d.crash ks) s2 j2 M' ∧ MB c M' ∧ M'.n = M.n := by
  refine (mcrash_any h r hc.b1 hc.b2 hc.b3 hk hkl).mono ?_
  rintro e w' ⟨h1, p2, q2, j2, s2, vr', vt', gs', M', h2, h3, h4, ⟨k, hk1, hk2⟩, _, _, h5⟩
  exact ⟨h1, p2, q2, j2, s2, vr', vt', gs', M', h2, h3, hc.cut k hk1 hk2 h5, h4⟩
end
end Go.Proofs.YtfnedeaemjchgaaGreat
/- The model's play: Book, Unbook, Flush, Arm. -/
namespace Go.Proofs.YtfnedeaemjchgaaGreat
open Go.RowKit Go.Maps
set_option linter.unusedSimpArgs false
set_option linter.unusedVariables false

theorem err55 (w : World) : (binOp .eql 36 (err 5) (err 5)).run Tryz.prog w = .ok (.bool true) w := by kernel_rfl
section
variable {w0 w : World} {F : List (Nat × Obj)} {m p q c n : Nat} {a : DA} {d : Disk} {j : JL} {s : SL} {vr vt vm rv kv : Value} {gs : List Value} {M : ML} {l : Sec} {kind nn : Int}
set_option maxRecDepth 100000 in
set_option maxHeartbeats 2000000 in
theorem play_book (h : MS w0 w F m p q a d j s vr vt vm gs M) (r : MR (1 + 2 * (c : Int)) d s j M) (hc : MB c M) (hn : M.n = n) (hc1 : c + 1 ≤ 100000) (hb : BytesF w0 F rv l) (hl : l.length ≤ 1048576) (hnn1 : -9223372036854775808 ≤ nn) (hnn2 : nn ≤ 9223372036854775807) :
    Calls Tryz.prog 8 #[.pointer (some ⟨m, 0, none⟩), .agg (op4 2 nn rv kv)] w (PQ w0 F m a n c) := by
  have q1 := err_11
  have q5 := err55
  have q0 := iface_nil
  have R := Lib.hid r
  have C := Lib.hid hc
  have HB := Lib.hid hb
  have o1 : Only [] w (w.alloc (.cells (op4 2 nn rv kv) 30)) := (Only.refl [] w).alloc _
  have H1 := Lib.hid (h.add o1 (g := w.heap.size) (Nat.le_refl _) (heap_new w _))
  obtain ⟨ra, rc, rfl, -⟩ := id (hb w h.only h.keep)
  have HFAR := Lib.hid (show ∀ x ∈ F, x.1 < w.heap.size from fun x hx => (Array.getElem?_eq_some_iff.1 (h.keep x hx)).1)
  have hg5 : w0.heap.size ≤ w.heap.size := h.only.size
  obtain ⟨g5, hg5e⟩ : ∃ g5, w.heap.size = g5 := ⟨_, rfl⟩
  rw [hg5e] at H1 HFAR hg5
  have k1 : (w.alloc (.cells (op4 2 nn (.slice ra l.length rc) kv) 30)).cell? ⟨g5, 1, none⟩ = some (.slice ra l.length rc) := cell_at 1 (H1.out.keep (g5, .cells (op4 2 nn (.slice ra l.length rc) kv) 30) (by simp))
  have z1 : (w.alloc (.cells (op4 2 nn (.slice ra l.length rc) kv) 30)).heap.size = g5 + 1 := by rw [← hg5e]; exact Array.size_push _
  clear h r hc hb o1
  go_enter Tryz.func8, Tryz.ntmps8
  go_wp2_with fail
  generalize w.alloc _ = w1 at H1 k1 z1 ⊢
  refine (Copy_any _ l w1 (HB.out w1 H1.out.only (fun x hx => H1.out.keep x (by simp [hx]))) (by omega)).mono ?_
  rintro e w2 ⟨gc, rfl, ⟨cur, hcc, hcs, hcl⟩, hg, o2⟩
  have P2 := Lib.hid (show PM w0 w2 F m p q a d j s vr vt vm gs M g5 gc _ cur l from ⟨H1.out.add o2 hg hcc, hcs, hcl, by omega, fun x hx => by have := HFAR.out x hx; omega⟩)
  clear H1 k1 z1 hcc hcs hcl hg o2 HFAR hg5 hg5e
  go_wp2_with fail
  have oD : Only [] w2 w2.drew := (Only.refl [] w2).drew
  have P3 := Lib.hid (P2.out.quiet oD)
  obtain ⟨qa, qc, hvr⟩ := P3.out.ms.mm.shapeR
  obtain ⟨L, hL⟩ : ∃ L, L = gs.length := ⟨_, rfl⟩
  obtain ⟨fi, hfi⟩ : ∃ fi, fi = M.first := ⟨_, rfl⟩
  have c3 : w2.drew.cell? ⟨m, 3, none⟩ = some (.slice qa L qc) := by rw [hL, ← hvr]; exact cell_at 3 P3.out.ms.mm.blk
  have c5 : w2.drew.cell? ⟨m, 5, none⟩ = some (.int .i64 fi) := by rw [hfi]; exact cell_at 5 P3.out.ms.mm.blk
  have a2 : w2.drew.cell? ⟨g5, 2, none⟩ = some (.int .i64 nn) := P3.out.arg 2
  have hLb : L ≤ 1048576 := by rw [hL, P3.out.ms.mm.hlen]; have := C.out.b1; omega
  have hfb : fi ≤ 1048576 := by rw [hfi]; have := R.out.fle; have := C.out.b1; omega
  refine wp_region_held_drew (S := fun w' => w'.cell? ⟨m, 3, none⟩ = some (.slice qa L qc) ∧ w'.cell? ⟨m, 5, none⟩ = some (.int .i64 fi) ∧ w'.cell? ⟨g5, 2, none⟩ = some (.int .i64 nn)) (by kernel_rfl) ⟨c3, c5, a2⟩ (fun hH => ?_)
  have HFI := Lib.hid hfi
  clear oD P2 hvr hL hfi c3 c5 a2
  generalize w2.drew = w3 at P3 hH ⊢
  refine take_list (i := 0) (v := ?_) rfl (by kernel_rfl) (by kernel_rfl) (by kernel_rfl) (fun _ _ _ h => h) (Or.inl ⟨by rfl, ?_⟩) hH ?_
  rotate_left
  · ((intro w hSw; (try dsimp only at hSw); go_simp); try with_reducible rfl)
  simp only [Act.put, List.setIfInBounds_toArray, List.set_cons_zero, List.set_cons_succ]
  refine take_list (i := 1) (v := ?_) rfl (by kernel_rfl) (by kernel_rfl) (by kernel_rfl) (fun _ _ _ h => h) (Or.inl ⟨by rfl, ?_⟩) hH ?_
  rotate_left
  · ((intro w hSw; (try dsimp only at hSw); go_simp); try with_reducible rfl)
  simp only [Act.put, List.setIfInBounds_toArray, List.set_cons_zero, List.set_cons_succ]
  refine take_list (i := 2) (v := ?_) rfl (by kernel_rfl) (by kernel_rfl) (by kernel_rfl) (fun _ _ _ h => h) (Or.inl ⟨by rfl, ?_⟩) hH ?_
  rotate_left
  · ((intro w hSw; (try dsimp only at hSw); go_simp); try with_reducible rfl)
  simp only [Act.put, List.setIfInBounds_toArray, List.set_cons_zero, List.set_cons_succ]
  refine take_list (i := 3) (v := ?_) rfl (by kernel_rfl) (by kernel_rfl) (by kernel_rfl) (fun _ _ _ h => h) (Or.inl ⟨by rfl, ?_⟩) hH ?_
  rotate_left
  · ((intro w hSw; (try dsimp only at hSw); go_simp); try with_reducible rfl)
  simp only [Act.put, List.setIfInBounds_toArray, List.set_cons_zero, List.set_cons_succ]
  refine take_list (i := 4) (v := ?_) rfl (by kernel_rfl) (by kernel_rfl) (by kernel_rfl) (fun _ _ _ h => h) (Or.inl ⟨by rfl, ?_⟩) hH ?_
  rotate_left
  · ((intro w hSw; (try dsimp only at hSw); go_simp); try with_reducible rfl)
  simp only [Act.put, List.setIfInBounds_toArray, List.set_cons_zero, List.set_cons_succ]
  refine take_list (i := 5) (v := ?_) rfl (by kernel_rfl) (by kernel_rfl) (by kernel_rfl) (fun _ _ _ h => h) (Or.inl ⟨by rfl, ?_⟩) hH ?_
  rotate_left
  · ((intro w hSw; (try dsimp only at hSw); go_simp); try with_reducible rfl)
  simp only [Act.put, List.setIfInBounds_toArray, List.set_cons_zero, List.set_cons_succ]
  refine take_list (i := 6) (v := ?_) rfl (by kernel_rfl) (by kernel_rfl) (by kernel_rfl) (fun _ _ _ h => h) (Or.inl ⟨by rfl, ?_⟩) hH ?_
  rotate_left
  · ((intro w hSw; (try dsimp only at hSw); go_simp); try with_reducible rfl)
  simp only [Act.put, List.setIfInBounds_toArray, List.set_cons_zero, List.set_cons_succ]
  refine take_list (i := 7) (v := ?_) rfl (by kernel_rfl) (by kernel_rfl) (by kernel_rfl) (fun _ _ _ h => h) (Or.inl ⟨by rfl, ?_⟩) hH ?_
  rotate_left
  · ((intro w hSw; (try dsimp only at hSw); go_simp); try with_reducible rfl)
  simp only [Act.put, List.setIfInBounds_toArray, List.set_cons_zero, List.set_cons_succ]
  obtain ⟨y0, hy0⟩ : ∃ y0 : Int, (if nn < -3 then -3 else nn) = y0 := ⟨_, rfl⟩
  have hy0b : -3 ≤ y0 := by
    rw [← hy0]
    split <;> omega
  rw [hy0]
  clear hy0
  refine take_list (i := 8) (v := ?_) rfl (by kernel_rfl) (by kernel_rfl) (by kernel_rfl) (fun _ _ _ h => h) (Or.inl ⟨by rfl, ?_⟩) hH ?_
  rotate_left
  · ((intro w hSw; (try dsimp only at hSw); go_simp); try with_reducible rfl)
  simp only [Act.put, List.setIfInBounds_toArray, List.set_cons_zero, List.set_cons_succ]
  refine take_list (i := 9) (v := ?_) rfl (by kernel_rfl) (by kernel_rfl) (by kernel_rfl) (fun _ _ _ h => h) (Or.inl ⟨by rfl, ?_⟩) hH ?_
  rotate_left
  · ((intro w hSw; (try dsimp only at hSw); go_simp); try with_reducible rfl)
  simp only [Act.put, List.setIfInBounds_toArray, List.set_cons_zero, List.set_cons_succ]
  refine take_list (i := 10) (v := ?_) rfl (by kernel_rfl) (by kernel_rfl) (by kernel_rfl) (fun _ _ _ h => h) (Or.inl ⟨by rfl, ?_⟩) hH ?_
  rotate_left
  · ((intro w hSw; (try dsimp only at hSw); go_simp); try with_reducible rfl)
  simp only [Act.put, List.setIfInBounds_toArray, List.set_cons_zero, List.set_cons_succ]
  refine take_list (i := 11) (v := ?_) rfl (by kernel_rfl) (by kernel_rfl) (by kernel_rfl) (fun _ _ _ h => h) (Or.inl ⟨by rfl, ?_⟩) hH ?_
  rotate_left
  · ((intro w hSw; (try dsimp only at hSw); go_simp); try with_reducible rfl)
  simp only [Act.put, List.setIfInBounds_toArray, List.set_cons_zero, List.set_cons_succ]
  refine take_list (i := 12) (v := ?_) rfl (by kernel_rfl) (by kernel_rfl) (by kernel_rfl) (fun _ _ _ h => h) (Or.inl ⟨by rfl, ?_⟩) hH ?_
  rotate_left
  · ((intro w hSw; (try dsimp only at hSw); go_simp); try with_reducible rfl)
  simp only [Act.put, List.setIfInBounds_toArray, List.set_cons_zero, List.set_cons_succ]
  refine take_list (i := 13) (v := ?_) rfl (by kernel_rfl) (by kernel_rfl) (by kernel_rfl) (fun _ _ _ h => h) (Or.inl ⟨by rfl, ?_⟩) hH ?_
  rotate_left
  · ((intro w hSw; (try dsimp only at hSw); go_simp); try with_reducible rfl)
  simp only [Act.put, List.setIfInBounds_toArray, List.set_cons_zero, List.set_cons_succ]
  refine take_list (i := 14) (v := ?_) rfl (by kernel_rfl) (by kernel_rfl) (by kernel_rfl) (fun _ _ _ h => h) (Or.inl ⟨by rfl, ?_⟩) hH ?_
  rotate_left
  · ((intro w hSw; (try dsimp only at hSw); go_simp); try with_reducible rfl)
  simp only [Act.put, List.setIfInBounds_toArray, List.set_cons_zero, List.set_cons_succ]
  obtain ⟨y, hy⟩ : ∃ y : Int, (if IntKind.i64.wrap ((L : Int) + 3) < y0 then IntKind.i64.wrap ((L : Int) + 3) else y0) = y := ⟨_, rfl⟩
  have hyb : -3 ≤ y ∧ y ≤ (L : Int) + 3 := by
    have hw : IntKind.i64.wrap ((L : Int) + 3) = (L : Int) + 3 := by rw [IntKind.wrap_i64]; omega
    rw [hw] at hy
    split at hy <;> omega
  rw [hy]
  clear hy hy0b
  obtain ⟨hy1, hy2⟩ := hyb
  obtain ⟨x, hx⟩ : ∃ x : Int, x = (fi : Int) + y := ⟨_, rfl⟩
  have wx : IntKind.i64.wrap ((fi : Int) + y) = x := by rw [hx, IntKind.wrap_i64]; omega
  have hx1 : -10 ≤ x := by omega
  have hx2 : x ≤ 4000000 := by omega
  clear hx
  refine take_list (i := 15) (v := ?_) rfl (by kernel_rfl) (by kernel_rfl) (by kernel_rfl) (fun _ _ _ h => h) (Or.inl ⟨by rfl, ?_⟩) hH ?_
  rotate_left
  · ((intro w hSw; (try dsimp only at hSw); go_simp); try with_reducible rfl)
  simp only [Act.put, List.setIfInBounds_toArray, List.set_cons_zero, List.set_cons_succ]
  refine take_list (i := 16) (v := ?_) rfl (by kernel_rfl) (by kernel_rfl) (by kernel_rfl) (fun _ _ _ h => h) (Or.inl ⟨by rfl, ?_⟩) hH ?_
  rotate_left
  · ((intro w hSw; (try dsimp only at hSw); go_simp); try with_reducible rfl)
  simp only [Act.put, List.setIfInBounds_toArray, List.set_cons_zero, List.set_cons_succ]
  refine wpAnyH_done (by kernel_rfl) ?_ _
  clear hH wx hy1 hy2 hLb hfb HFI
  have c2 : w3.cell? ⟨m, 2, none⟩ = some (.pointer (some ⟨p, 0, none⟩)) := cell_at 2 P3.out.ms.mm.blk
  have a0 : w3.cell? ⟨g5, 0, none⟩ = some (.int .i64 2) := P3.out.arg 0
  go_wp2_with fail
  have oE : Only [] w3 w3.drew := (Only.refl [] w3).drew
  have Q4 := Lib.hid (P3.out.quiet oE)
  have c2 : w3.drew.cell? ⟨m, 2, none⟩ = some (.pointer (some ⟨p, 0, none⟩)) := cell_at 2 Q4.out.ms.mm.blk
  have a2 : w3.drew.cell? ⟨g5, 2, none⟩ = some (.int .i64 nn) := Q4.out.arg 2
  refine wp_region_held_drew (S := fun w' => w'.cell? ⟨m, 2, none⟩ = some (.pointer (some ⟨p, 0, none⟩)) ∧ w'.cell? ⟨g5, 2, none⟩ = some (.int .i64 nn)) (by kernel_rfl) ⟨c2, a2⟩ (fun hH => ?_)
  clear c2 a2 oE P3 a0
  generalize w3.drew = w4 at Q4 hH ⊢
  refine take_list (i := 0) (v := ?_) rfl (by kernel_rfl) (by kernel_rfl) (by kernel_rfl) (fun _ _ _ h => h) (Or.inl ⟨by rfl, ?_⟩) hH ?_
  rotate_left
  · ((intro w hSw; (try dsimp only at hSw); go_simp); try with_reducible rfl)
  simp only [Act.put, List.setIfInBounds_toArray, List.set_cons_zero, List.set_cons_succ]
  refine take_list (i := 1) (v := ?_) rfl (by kernel_rfl) (by kernel_rfl) (by kernel_rfl) (fun _ _ _ h => h) (Or.inl ⟨by rfl, ?_⟩) hH ?_
  rotate_left
  · ((intro w hSw; (try dsimp only at hSw); go_simp); try with_reducible rfl)
  simp only [Act.put, List.setIfInBounds_toArray, List.set_cons_zero, List.set_cons_succ]
  refine take_list (i := 2) (v := ?_) rfl (by kernel_rfl) (by kernel_rfl) (by kernel_rfl) (fun _ _ _ h => h) (Or.inl ⟨by rfl, ?_⟩) hH ?_
  rotate_left
  · ((intro w hSw; (try dsimp only at hSw); go_simp); try with_reducible rfl)
  simp only [Act.put, List.setIfInBounds_toArray, List.set_cons_zero, List.set_cons_succ]
  refine take_list (i := 3) (v := ?_) rfl (by kernel_rfl) (by kernel_rfl) (by kernel_rfl) (fun _ _ _ h => h) (Or.inl ⟨by rfl, ?_⟩) hH ?_
  rotate_left
  · ((intro w hSw; (try dsimp only at hSw); go_simp); try with_reducible rfl)
  simp only [Act.put, List.setIfInBounds_toArray, List.set_cons_zero, List.set_cons_succ]
  refine take_list (i := 4) (v := ?_) rfl (by kernel_rfl) (by kernel_rfl) (by kernel_rfl) (fun _ _ _ h => h) (Or.inl ⟨by rfl, ?_⟩) hH ?_
  rotate_left
  · ((intro w hSw; (try dsimp only at hSw); go_simp); try with_reducible rfl)
  simp only [Act.put, List.setIfInBounds_toArray, List.set_cons_zero, List.set_cons_succ]
  refine take_list (i := 5) (v := ?_) rfl (by kernel_rfl) (by kernel_rfl) (by kernel_rfl) (fun _ _ _ h => h) (Or.inl ⟨by rfl, ?_⟩) hH ?_
  rotate_left
  · ((intro w hSw; (try dsimp only at hSw); go_simp); try with_reducible rfl)
  simp only [Act.put, List.setIfInBounds_toArray, List.set_cons_zero, List.set_cons_succ]
  refine wpAnyH_ready (rs := [6]) (by kernel_rfl) (by simp) ?_
  refine ready_list rfl (fun K hK => ?_)
  go_simp
  have HOK := Lib.hid Q4.out.ms.ok
  have hfree := R.out.free HOK.out
  refine (book_ms Q4.out.ms nn).mono ?_
  rintro e w5 ⟨rfl, m5⟩
  have Q5 := Lib.hid (Q4.out.to m5)
  have c2 : w5.cell? ⟨m, 2, none⟩ = some (.pointer (some ⟨p, 0, none⟩)) := cell_at 2 Q5.out.ms.mm.blk
  have a2 : w5.cell? ⟨g5, 2, none⟩ = some (.int .i64 nn) := Q5.out.arg 2
  refine hK.out _ _ ⟨c2, a2⟩ (fun hH => ?_)
  clear hK K m5 Q4 c2
  refine take_list (i := 7) (v := ?_) rfl (by kernel_rfl) (by kernel_rfl) (by kernel_rfl) (fun _ _ _ h => h) (Or.inl ⟨by rfl, ?_⟩) hH ?_
  rotate_left
  · ((intro w hSw; (try dsimp only at hSw); go_simp); try with_reducible rfl)
  simp only [Act.put, List.setIfInBounds_toArray, List.set_cons_zero, List.set_cons_succ]
  refine wpAnyH_done (by kernel_rfl) ?_ _
  clear hH
  have HX := Lib.hid hfree
  by_cases h0 : nn < 0
  · have e1 := bcode_1 (j := j) h0
    rw [book_no (by rw [e1]; decide)] at Q5
    rw [e1, errV_nz (by decide)]
    have NX := Lib.hid (And.intro (R.out.mono (show (1 + 2 * (c : Int)) ≤ 1 + 2 * ((c + 1 : Nat) : Int) by omega)) (And.intro (C.out.next hc1) hn))
    clear e1 hfree
    have a1 : w5.cell? ⟨g5, 1, none⟩ = some (.slice ra l.length rc) := Q5.out.arg 1
    go_wp2_with fail
    refine (Kept_any gc _ l _ Q5.out.copy (Q5.out.bytesF HB.out) (by omega)).mono ?_
    rintro e wt7 ⟨rfl, o7⟩
    have Qt7 := Lib.hid (Q5.out.quiet o7)
    clear o7 Q5 a1
    go_wp2_with fail
    refine (over_any _ l.length _ (Qt7.out.copy.row (by unfold maxLen; omega)) (by omega)).mono ?_
    rintro e wt8 ⟨rfl, _, o8⟩
    have m8 := Qt7.out.done (o8.mono (fun k hk => by simpa [Value.ownBlock, eq_comm] using hk))
    have M8 := Lib.hid m8
    clear o8 m8 Qt7
    go_wp2_with fail
    go_ret
    exact ⟨rfl, _, _, _, _, _, _, _, _, _, _, M8.out, NX.out.1, NX.out.2.1, NX.out.2.2⟩
  · obtain ⟨z, hz⟩ : ∃ z : Int, z = M.free := ⟨_, rfl⟩
    have hzb : z ≤ 962560 ∧ -1152921504606846976 ≤ z := by
      rw [hz]
      have := (R.out.fit HOK.out C.out.b2).free
      omega
    have hbk : (M.booked : Int) ≤ 962560 := by have := HOK.out.booked; have := HOK.out.nm; rw [R.out.booked] at *; omega
    have hcode : j.free - j.booked < nn ↔ z - (M.booked : Int) < nn := by rw [HX.out, R.out.booked, hz]
    have HZ := Lib.hid hz
    have HCD := Lib.hid hcode
    have h00 : 0 ≤ nn := by omega
    clear hfree hz hcode
    go_wp2_with fail
    have oF : Only [] w5 w5.drew := (Only.refl [] w5).drew
    have Q6 := Lib.hid (Q5.out.quiet oF)
    have c8 : w5.drew.cell? ⟨m, 8, none⟩ = some (.int .i64 M.booked) := cell_at 8 Q6.out.ms.mm.blk
    have a2 : w5.drew.cell? ⟨g5, 2, none⟩ = some (.int .i64 nn) := Q6.out.arg 2
    refine wp_region_held_drew (S := fun w' => w'.cell? ⟨m, 8, none⟩ = some (.int .i64 M.booked) ∧ w'.cell? ⟨g5, 2, none⟩ = some (.int .i64 nn)) (by kernel_rfl) ⟨c8, a2⟩ (fun hH => ?_)
    clear c8 a2 oF Q5
    generalize w5.drew = w6 at Q6 hH ⊢
    have wz : IntKind.i64.wrap (z - (M.booked : Int)) = z - (M.booked : Int) := by rw [IntKind.wrap_i64]; omega
    refine take_list (i := 0) (v := ?_) rfl (by kernel_rfl) (by kernel_rfl) (by kernel_rfl) (fun _ _ _ h => h) (Or.inl ⟨by rfl, ?_⟩) hH ?_
    rotate_left
    · ((intro w hSw; (try dsimp only at hSw); go_simp); try with_reducible rfl)
    simp only [Act.put, List.setIfInBounds_toArray, List.set_cons_zero, List.set_cons_succ]
    refine take_list (i := 2) (v := ?_) rfl (by kernel_rfl) (by kernel_rfl) (by kernel_rfl) (fun _ _ _ h => h) (Or.inl ⟨by rfl, ?_⟩) hH ?_
    rotate_left
    · ((intro w hSw; (try dsimp only at hSw); go_simp); try with_reducible rfl)
    simp only [Act.put, List.setIfInBounds_toArray, List.set_cons_zero, List.set_cons_succ]
    refine take_list (i := 3) (v := ?_) rfl (by kernel_rfl) (by kernel_rfl) (by kernel_rfl) (fun _ _ _ h => h) (Or.inl ⟨by rfl, ?_⟩) hH ?_
    rotate_left
    · ((intro w hSw; (try dsimp only at hSw); go_simp); try with_reducible rfl)
    simp only [Act.put, List.setIfInBounds_toArray, List.set_cons_zero, List.set_cons_succ]
    refine take_list (i := 4) (v := ?_) rfl (by kernel_rfl) (by kernel_rfl) (by kernel_rfl) (fun _ _ _ h => h) (Or.inl ⟨by rfl, ?_⟩) hH ?_
    rotate_left
    · ((intro w hSw; (try dsimp only at hSw); go_simp); try with_reducible rfl)
    simp only [Act.put, List.setIfInBounds_toArray, List.set_cons_zero, List.set_cons_succ]
    refine take_list (i := 5) (v := ?_) rfl (by kernel_rfl) (by kernel_rfl) (by kernel_rfl) (fun _ _ _ h => h) (Or.inl ⟨by rfl, ?_⟩) hH ?_
    rotate_left
    · ((intro w hSw; (try dsimp only at hSw); go_simp); try with_reducible rfl)
    simp only [Act.put, List.setIfInBounds_toArray, List.set_cons_zero, List.set_cons_succ]
    refine take_list (i := 7) (v := ?_) rfl (by kernel_rfl) (by kernel_rfl) (by kernel_rfl) (fun _ _ _ h => h) (Or.inl ⟨by rfl, ?_⟩) hH ?_
    rotate_left
    · ((intro w hSw; (try dsimp only at hSw); go_simp); try with_reducible rfl)
    simp only [Act.put, List.setIfInBounds_toArray, List.set_cons_zero, List.set_cons_succ]
    refine take_list (i := 8) (v := ?_) rfl (by kernel_rfl) (by kernel_rfl) (by kernel_rfl) (fun _ _ _ h => h) (Or.inl ⟨by rfl, ?_⟩) hH ?_
    rotate_left
    · ((intro w hSw; (try dsimp only at hSw); go_simp); try with_reducible rfl)
    simp only [Act.put, List.setIfInBounds_toArray, List.set_cons_zero, List.set_cons_succ]
    have KE := mfree_any Q6.out.ms.mm R.out.f1 R.out.fle (by have := C.out.b2; omega) (by rw [← R.out.n]; exact HOK.out.nm) z HZ.out.symm
    refine wpAnyH_ready (rs := [1]) (by kernel_rfl) (by simp) ?_
    refine ready_list rfl (fun K hK => ?_)
    go_simp
    refine KE.mono ?_
    rintro e w7 ⟨rfl, o7⟩
    have Q7 := Lib.hid (Q6.out.quiet o7)
    have hh := And.intro (cell_kept o7 hH.1 (by simp)) (cell_kept o7 hH.2 (by simp))
    refine hK.out _ _ hh (fun hH => ?_)
    clear hK K KE o7 hh Q6
    refine take_list (i := 6) (v := ?_) rfl (by kernel_rfl) (by kernel_rfl) (by kernel_rfl) (fun _ _ _ h => h) (Or.inl ⟨by rfl, ?_⟩) hH ?_
    rotate_left
    · ((intro w hSw; (try dsimp only at hSw); go_simp); try with_reducible rfl)
    simp only [Act.put, List.setIfInBounds_toArray, List.set_cons_zero, List.set_cons_succ]
    refine take_list (i := 9) (v := ?_) rfl (by kernel_rfl) (by kernel_rfl) (by kernel_rfl) (fun _ _ _ h => h) (Or.inl ⟨by rfl, ?_⟩) hH ?_
    rotate_left
    · ((intro w hSw; (try dsimp only at hSw); go_simp); try with_reducible rfl)
    simp only [Act.put, List.setIfInBounds_toArray, List.set_cons_zero, List.set_cons_succ]
    refine take_list (i := 10) (v := ?_) rfl (by kernel_rfl) (by kernel_rfl) (by kernel_rfl) (fun _ _ _ h => h) (Or.inl ⟨by rfl, ?_⟩) hH ?_
    rotate_left
    · ((intro w hSw; (try dsimp only at hSw); go_simp); try with_reducible rfl)
    simp only [Act.put, List.setIfInBounds_toArray, List.set_cons_zero, List.set_cons_succ]
    refine wpAnyH_done (by kernel_rfl) ?_ _
    clear hH wz
    by_cases h1 : z - (M.booked : Int) < nn
    · have e5 := bcode_5 (show ¬ nn < 0 by omega) (HCD.out.2 h1)
      rw [book_no (by rw [e5]; decide)] at Q7
      rw [e5, errV_nz (by decide)]
      have NX := Lib.hid (And.intro (R.out.mono (show (1 + 2 * (c : Int)) ≤ 1 + 2 * ((c + 1 : Nat) : Int) by omega)) (And.intro (C.out.next hc1) hn))
      clear e5
      have a1 : w7.cell? ⟨g5, 1, none⟩ = some (.slice ra l.length rc) := Q7.out.arg 1
      go_wp2_with fail
      refine (Kept_any gc _ l _ Q7.out.copy (Q7.out.bytesF HB.out) (by omega)).mono ?_
      rintro e wt7 ⟨rfl, o7⟩
      have Qt7 := Lib.hid (Q7.out.quiet o7)
      clear o7 Q7 a1
      go_wp2_with fail
      refine (over_any _ l.length _ (Qt7.out.copy.row (by unfold maxLen; omega)) (by omega)).mono ?_
      rintro e wt8 ⟨rfl, _, o8⟩
      have m8 := Qt7.out.done (o8.mono (fun k hk => by simpa [Value.ownBlock, eq_comm] using hk))
      have M8 := Lib.hid m8
      clear o8 m8 Qt7
      go_wp2_with fail
      go_ret
      exact ⟨rfl, _, _, _, _, _, _, _, _, _, _, M8.out, NX.out.1, NX.out.2.1, NX.out.2.2⟩
    · have e0 := bcode_0 (show ¬ nn < 0 by omega) (fun e => h1 (HCD.out.1 e))
      rw [e0, errV_z rfl]
      obtain ⟨bk, hbke⟩ : ∃ bk : Nat, bk = M.booked + nn.toNat := ⟨_, rfl⟩
      have ej : j.book nn = { j with booked := bk } := by
        rw [book_yes e0, R.out.booked, hbke]
      rw [ej] at Q7
      have wb : IntKind.i64.wrap ((M.booked : Int) + nn) = (bk : Int) := by rw [IntKind.wrap_i64]; omega
      have NX := Lib.hid (And.intro ((R.out.book bk).mono (show (1 + 2 * (c : Int)) ≤ 1 + 2 * ((c + 1 : Nat) : Int) by omega)) (And.intro ((C.out.next hc1).same (M' := { M with booked := bk }) rfl rfl) hn))
      clear e0 ej hbke
      go_wp2_with fail
      have oG : Only [] w7 w7.drew := (Only.refl [] w7).drew
      have Q8 := Lib.hid (Q7.out.quiet oG)
      have c8 : w7.drew.cell? ⟨m, 8, none⟩ = some (.int .i64 M.booked) := cell_at 8 Q8.out.ms.mm.blk
      have a2 : w7.drew.cell? ⟨g5, 2, none⟩ = some (.int .i64 nn) := Q8.out.arg 2
      refine wp_region_B (S := fun w' => w'.cell? ⟨m, 8, none⟩ = some (.int .i64 M.booked) ∧ w'.cell? ⟨g5, 2, none⟩ = some (.int .i64 nn)) [0, 1, 2, 3, 4, 5, 6, 7, 8] (by kernel_rfl) ⟨c8, a2⟩ (fun hH => ?_)
      clear c8 a2 oG Q7
      generalize w7.drew = w8 at Q8 hH ⊢
      refine takeB_list (i := 0) (v := ?_) rfl (by kernel_rfl) (by kernel_rfl) (by kernel_rfl) (by kernel_rfl) (fun _ _ _ h => h) (Or.inl ⟨by rfl, ?_⟩) hH ?_
      rotate_left
      · ((intro w hSw; (try dsimp only at hSw); go_simp); try with_reducible rfl)
      simp only [Act.put, List.setIfInBounds_toArray, List.set_cons_zero, List.set_cons_succ]
      refine takeB_list (i := 1) (v := ?_) rfl (by kernel_rfl) (by kernel_rfl) (by kernel_rfl) (by kernel_rfl) (fun _ _ _ h => h) (Or.inl ⟨by rfl, ?_⟩) hH ?_
      rotate_left
      · ((intro w hSw; (try dsimp only at hSw); go_simp); try with_reducible rfl)
      simp only [Act.put, List.setIfInBounds_toArray, List.set_cons_zero, List.set_cons_succ]
      refine takeB_list (i := 2) (v := ?_) rfl (by kernel_rfl) (by kernel_rfl) (by kernel_rfl) (by kernel_rfl) (fun _ _ _ h => h) (Or.inl ⟨by rfl, ?_⟩) hH ?_
      rotate_left
      · ((intro w hSw; (try dsimp only at hSw); go_simp); try with_reducible rfl)
      simp only [Act.put, List.setIfInBounds_toArray, List.set_cons_zero, List.set_cons_succ]
      refine takeB_list (i := 3) (v := ?_) rfl (by kernel_rfl) (by kernel_rfl) (by kernel_rfl) (by kernel_rfl) (fun _ _ _ h => h) (Or.inl ⟨by rfl, ?_⟩) hH ?_
      rotate_left
      · ((intro w hSw; (try dsimp only at hSw); go_simp); try with_reducible rfl)
      simp only [Act.put, List.setIfInBounds_toArray, List.set_cons_zero, List.set_cons_succ]
      refine takeB_list (i := 4) (v := ?_) rfl (by kernel_rfl) (by kernel_rfl) (by kernel_rfl) (by kernel_rfl) (fun _ _ _ h => h) (Or.inl ⟨by rfl, ?_⟩) hH ?_
      rotate_left
      · ((intro w hSw; (try dsimp only at hSw); go_simp); try with_reducible rfl)
      simp only [Act.put, List.setIfInBounds_toArray, List.set_cons_zero, List.set_cons_succ]
      refine takeB_list (i := 5) (v := ?_) rfl (by kernel_rfl) (by kernel_rfl) (by kernel_rfl) (by kernel_rfl) (fun _ _ _ h => h) (Or.inl ⟨by rfl, ?_⟩) hH ?_
      rotate_left
      · ((intro w hSw; (try dsimp only at hSw); go_simp); try with_reducible rfl)
      simp only [Act.put, List.setIfInBounds_toArray, List.set_cons_zero, List.set_cons_succ]
      refine takeB_list (i := 6) (v := ?_) rfl (by kernel_rfl) (by kernel_rfl) (by kernel_rfl) (by kernel_rfl) (fun _ _ _ h => h) (Or.inl ⟨by rfl, ?_⟩) hH ?_
      rotate_left
      · ((intro w hSw; (try dsimp only at hSw); go_simp); try with_reducible rfl)
      simp only [Act.put, List.setIfInBounds_toArray, List.set_cons_zero, List.set_cons_succ]
      refine takeB_list (i := 7) (v := ?_) rfl (by kernel_rfl) (by kernel_rfl) (by kernel_rfl) (by kernel_rfl) (fun _ _ _ h => h) (Or.inl ⟨by rfl, ?_⟩) hH ?_
      rotate_left
      · ((intro w hSw; (try dsimp only at hSw); go_simp); try with_reducible rfl)
      simp only [Act.put, List.setIfInBounds_toArray, List.set_cons_zero, List.set_cons_succ]
      refine takeB_list (i := 8) (v := ?_) rfl (by kernel_rfl) (by kernel_rfl) (by kernel_rfl) (by kernel_rfl) (fun _ _ _ h => h) (Or.inl ⟨by rfl, ?_⟩) hH ?_
      rotate_left
      · ((intro w hSw; (try dsimp only at hSw); go_simp); try with_reducible rfl)
      simp only [Act.put, List.setIfInBounds_toArray, List.set_cons_zero, List.set_cons_succ]
      have c8 : w8.cell? ⟨m, 8, none⟩ = some (.int .i64 M.booked) := cell_at 8 Q8.out.ms.mm.blk
      have f8 := free_at 8 Q8.out.ms.mm.blk
      refine readyB_out (i := 9) (by kernel_rfl) (by kernel_rfl) rfl (fun K hK => ?_)
      go_simp
      refine hK.out _ _ ?_
      clear hK K hH c8 f8 wb
      have o9 : Only [m] w8 (w8.setCell ⟨m, 8, none⟩ (.int .i64 (bk : Int))) := (Only.refl _ _).setCell (by simp) _
      have Q9 := Lib.hid (Q8.out.to (Q8.out.ms.own (M' := { M with booked := bk }) o9 rfl rfl (heap_cell (i := 8) (.int .i64 (bk : Int)) Q8.out.ms.mm.blk)))
      clear o9 Q8
      generalize w8.setCell ⟨m, 8, none⟩ (.int .i64 (bk : Int)) = w9 at Q9 ⊢
      refine wpAnyB_done (by kernel_rfl) ?_ _
      have a1 : w9.cell? ⟨g5, 1, none⟩ = some (.slice ra l.length rc) := Q9.out.arg 1
      go_wp2_with fail
      refine (Kept_any gc _ l _ Q9.out.copy (Q9.out.bytesF HB.out) (by omega)).mono ?_
      rintro e wt7 ⟨rfl, o7⟩
      have Qt7 := Lib.hid (Q9.out.quiet o7)
      clear o7 Q9 a1
      go_wp2_with fail
      refine (over_any _ l.length _ (Qt7.out.copy.row (by unfold maxLen; omega)) (by omega)).mono ?_
      rintro e wt8 ⟨rfl, _, o8⟩
      have m8 := Qt7.out.done (o8.mono (fun k hk => by simpa [Value.ownBlock, eq_comm] using hk))
      have M8 := Lib.hid m8
      clear o8 m8 Qt7
      go_wp2_with fail
      go_ret
      exact ⟨rfl, _, _, _, _, _, _, _, _, _, _, M8.out, NX.out.1, NX.out.2.1, NX.out.2.2⟩
set_option maxRecDepth 100000 in
set_option maxHeartbeats 2000000 in
theorem play_unbook (h : MS w0 w F m p q a d j s vr vt vm gs M) (r : MR (1 + 2 * (c : Int)) d s j M) (hc : MB c M) (hn : M.n = n) (hc1 : c + 1 ≤ 100000) (hb : BytesF w0 F rv l) (hl : l.length ≤ 1048576) (hnn1 : -9223372036854775808 ≤ nn) (hnn2 : nn ≤ 9223372036854775807) :
    Calls Tryz.prog 8 #[.pointer (some ⟨m, 0, none⟩), .agg (op4 3 nn rv kv)] w (PQ w0 F m a n c) := by
  have R := Lib.hid r
  have C := Lib.hid hc
  have HB := Lib.hid hb
  have o1 : Only [] w (w.alloc (.cells (op4 3 nn rv kv) 30)) := (Only.refl [] w).alloc _
  have H1 := Lib.hid (h.add o1 (g := w.heap.size) (Nat.le_refl _) (heap_new w _))
  obtain ⟨ra, rc, rfl, -⟩ := id (hb w h.only h.keep)
  have HFAR := Lib.hid (show ∀ x ∈ F, x.1 < w.heap.size from fun x hx => (Array.getElem?_eq_some_iff.1 (h.keep x hx)).1)
  have hg5 : w0.heap.size ≤ w.heap.size := h.only.size
  obtain ⟨g5, hg5e⟩ : ∃ g5, w.heap.size = g5 := ⟨_, rfl⟩
  rw [hg5e] at H1 HFAR hg5
  have k1 : (w.alloc (.cells (op4 3 nn (.slice ra l.length rc) kv) 30)).cell? ⟨g5, 1, none⟩ = some (.slice ra l.length rc) := cell_at 1 (H1.out.keep (g5, .cells (op4 3 nn (.slice ra l.length rc) kv) 30) (by simp))
  have z1 : (w.alloc (.cells (op4 3 nn (.slice ra l.length rc) kv) 30)).heap.size = g5 + 1 := by rw [← hg5e]; exact Array.size_push _
  clear h r hc hb o1
  go_enter Tryz.func8, Tryz.ntmps8
  go_wp2_with fail
  generalize w.alloc _ = w1 at H1 k1 z1 ⊢
  refine (Copy_any _ l w1 (HB.out w1 H1.out.only (fun x hx => H1.out.keep x (by simp [hx]))) (by omega)).mono ?_
  rintro e w2 ⟨gc, rfl, ⟨cur, hcc, hcs, hcl⟩, hg, o2⟩
  have P2 := Lib.hid (show PM w0 w2 F m p q a d j s vr vt vm gs M g5 gc _ cur l from ⟨H1.out.add o2 hg hcc, hcs, hcl, by omega, fun x hx => by have := HFAR.out x hx; omega⟩)
  clear H1 k1 z1 hcc hcs hcl hg o2 HFAR hg5 hg5e
  go_wp2_with fail
  have oD : Only [] w2 w2.drew := (Only.refl [] w2).drew
  have P3 := Lib.hid (P2.out.quiet oD)
  obtain ⟨qa, qc, hvr⟩ := P3.out.ms.mm.shapeR
  obtain ⟨L, hL⟩ : ∃ L, L = gs.length := ⟨_, rfl⟩
  obtain ⟨fi, hfi⟩ : ∃ fi, fi = M.first := ⟨_, rfl⟩
  have c3 : w2.drew.cell? ⟨m, 3, none⟩ = some (.slice qa L qc) := by rw [hL, ← hvr]; exact cell_at 3 P3.out.ms.mm.blk
  have c5 : w2.drew.cell? ⟨m, 5, none⟩ = some (.int .i64 fi) := by rw [hfi]; exact cell_at 5 P3.out.ms.mm.blk
  have a2 : w2.drew.cell? ⟨g5, 2, none⟩ = some (.int .i64 nn) := P3.out.arg 2
  have hLb : L ≤ 1048576 := by rw [hL, P3.out.ms.mm.hlen]; have := C.out.b1; omega
  have hfb : fi ≤ 1048576 := by rw [hfi]; have := R.out.fle; have := C.out.b1; omega
  refine wp_region_held_drew (S := fun w' => w'.cell? ⟨m, 3, none⟩ = some (.slice qa L qc) ∧ w'.cell? ⟨m, 5, none⟩ = some (.int .i64 fi) ∧ w'.cell? ⟨g5, 2, none⟩ = some (.int .i64 nn)) (by kernel_rfl) ⟨c3, c5, a2⟩ (fun hH => ?_)
  have HFI := Lib.hid hfi
  clear oD P2 hvr hL hfi c3 c5 a2
  generalize w2.drew = w3 at P3 hH ⊢
  refine take_list (i := 0) (v := ?_) rfl (by kernel_rfl) (by kernel_rfl) (by kernel_rfl) (fun _ _ _ h => h) (Or.inl ⟨by rfl, ?_⟩) hH ?_
  rotate_left
  · ((intro w hSw; (try dsimp only at hSw); go_simp); try with_reducible rfl)
  simp only [Act.put, List.setIfInBounds_toArray, List.set_cons_zero, List.set_cons_succ]
  refine take_list (i := 1) (v := ?_) rfl (by kernel_rfl) (by kernel_rfl) (by kernel_rfl) (fun _ _ _ h => h) (Or.inl ⟨by rfl, ?_⟩) hH ?_
  rotate_left
  · ((intro w hSw; (try dsimp only at hSw); go_simp); try with_reducible rfl)
  simp only [Act.put, List.setIfInBounds_toArray, List.set_cons_zero, List.set_cons_succ]
  refine take_list (i := 2) (v := ?_) rfl (by kernel_rfl) (by kernel_rfl) (by kernel_rfl) (fun _ _ _ h => h) (Or.inl ⟨by rfl, ?_⟩) hH ?_
  rotate_left
  · ((intro w hSw; (try dsimp only at hSw); go_simp); try with_reducible rfl)
  simp only [Act.put, List.setIfInBounds_toArray, List.set_cons_zero, List.set_cons_succ]
  refine take_list (i := 3) (v := ?_) rfl (by kernel_rfl) (by kernel_rfl) (by kernel_rfl) (fun _ _ _ h => h) (Or.inl ⟨by rfl, ?_⟩) hH ?_
  rotate_left
  · ((intro w hSw; (try dsimp only at hSw); go_simp); try with_reducible rfl)
  simp only [Act.put, List.setIfInBounds_toArray, List.set_cons_zero, List.set_cons_succ]
  refine take_list (i := 4) (v := ?_) rfl (by kernel_rfl) (by kernel_rfl) (by kernel_rfl) (fun _ _ _ h => h) (Or.inl ⟨by rfl, ?_⟩) hH ?_
  rotate_left
  · ((intro w hSw; (try dsimp only at hSw); go_simp); try with_reducible rfl)
  simp only [Act.put, List.setIfInBounds_toArray, List.set_cons_zero, List.set_cons_succ]
  refine take_list (i := 5) (v := ?_) rfl (by kernel_rfl) (by kernel_rfl) (by kernel_rfl) (fun _ _ _ h => h) (Or.inl ⟨by rfl, ?_⟩) hH ?_
  rotate_left
  · ((intro w hSw; (try dsimp only at hSw); go_simp); try with_reducible rfl)
  simp only [Act.put, List.setIfInBounds_toArray, List.set_cons_zero, List.set_cons_succ]
  refine take_list (i := 6) (v := ?_) rfl (by kernel_rfl) (by kernel_rfl) (by kernel_rfl) (fun _ _ _ h => h) (Or.inl ⟨by rfl, ?_⟩) hH ?_
  rotate_left
  · ((intro w hSw; (try dsimp only at hSw); go_simp); try with_reducible rfl)
  simp only [Act.put, List.setIfInBounds_toArray, List.set_cons_zero, List.set_cons_succ]
  refine take_list (i := 7) (v := ?_) rfl (by kernel_rfl) (by kernel_rfl) (by kernel_rfl) (fun _ _ _ h => h) (Or.inl ⟨by rfl, ?_⟩) hH ?_
  rotate_left
  · ((intro w hSw; (try dsimp only at hSw); go_simp); try with_reducible rfl)
  simp only [Act.put, List.setIfInBounds_toArray, List.set_cons_zero, List.set_cons_succ]
  obtain ⟨y0, hy0⟩ : ∃ y0 : Int, (if nn < -3 then -3 else nn) = y0 := ⟨_, rfl⟩
  have hy0b : -3 ≤ y0 := by
    rw [← hy0]
    split <;> omega
  rw [hy0]
  clear hy0
  refine take_list (i := 8) (v := ?_) rfl (by kernel_rfl) (by kernel_rfl) (by kernel_rfl) (fun _ _ _ h => h) (Or.inl ⟨by rfl, ?_⟩) hH ?_
  rotate_left
  · ((intro w hSw; (try dsimp only at hSw); go_simp); try with_reducible rfl)
  simp only [Act.put, List.setIfInBounds_toArray, List.set_cons_zero, List.set_cons_succ]
  refine take_list (i := 9) (v := ?_) rfl (by kernel_rfl) (by kernel_rfl) (by kernel_rfl) (fun _ _ _ h => h) (Or.inl ⟨by rfl, ?_⟩) hH ?_
  rotate_left
  · ((intro w hSw; (try dsimp only at hSw); go_simp); try with_reducible rfl)
  simp only [Act.put, List.setIfInBounds_toArray, List.set_cons_zero, List.set_cons_succ]
  refine take_list (i := 10) (v := ?_) rfl (by kernel_rfl) (by kernel_rfl) (by kernel_rfl) (fun _ _ _ h => h) (Or.inl ⟨by rfl, ?_⟩) hH ?_
  rotate_left
  · ((intro w hSw; (try dsimp only at hSw); go_simp); try with_reducible rfl)
  simp only [Act.put, List.setIfInBounds_toArray, List.set_cons_zero, List.set_cons_succ]
  refine take_list (i := 11) (v := ?_) rfl (by kernel_rfl) (by kernel_rfl) (by kernel_rfl) (fun _ _ _ h => h) (Or.inl ⟨by rfl, ?_⟩) hH ?_
  rotate_left
  · ((intro w hSw; (try dsimp only at hSw); go_simp); try with_reducible rfl)
  simp only [Act.put, List.setIfInBounds_toArray, List.set_cons_zero, List.set_cons_succ]
  refine take_list (i := 12) (v := ?_) rfl (by kernel_rfl) (by kernel_rfl) (by kernel_rfl) (fun _ _ _ h => h) (Or.inl ⟨by rfl, ?_⟩) hH ?_
  rotate_left
  · ((intro w hSw; (try dsimp only at hSw); go_simp); try with_reducible rfl)
  simp only [Act.put, List.setIfInBounds_toArray, List.set_cons_zero, List.set_cons_succ]
  refine take_list (i := 13) (v := ?_) rfl (by kernel_rfl) (by kernel_rfl) (by kernel_rfl) (fun _ _ _ h => h) (Or.inl ⟨by rfl, ?_⟩) hH ?_
  rotate_left
  · ((intro w hSw; (try dsimp only at hSw); go_simp); try with_reducible rfl)
  simp only [Act.put, List.setIfInBounds_toArray, List.set_cons_zero, List.set_cons_succ]
  refine take_list (i := 14) (v := ?_) rfl (by kernel_rfl) (by kernel_rfl) (by kernel_rfl) (fun _ _ _ h => h) (Or.inl ⟨by rfl, ?_⟩) hH ?_
  rotate_left
  · ((intro w hSw; (try dsimp only at hSw); go_simp); try with_reducible rfl)
  simp only [Act.put, List.setIfInBounds_toArray, List.set_cons_zero, List.set_cons_succ]
  obtain ⟨y, hy⟩ : ∃ y : Int, (if IntKind.i64.wrap ((L : Int) + 3) < y0 then IntKind.i64.wrap ((L : Int) + 3) else y0) = y := ⟨_, rfl⟩
  have hyb : -3 ≤ y ∧ y ≤ (L : Int) + 3 := by
    have hw : IntKind.i64.wrap ((L : Int) + 3) = (L : Int) + 3 := by rw [IntKind.wrap_i64]; omega
    rw [hw] at hy
    split at hy <;> omega
  rw [hy]
  clear hy hy0b
  obtain ⟨hy1, hy2⟩ := hyb
  obtain ⟨x, hx⟩ : ∃ x : Int, x = (fi : Int) + y := ⟨_, rfl⟩
  have wx : IntKind.i64.wrap ((fi : Int) + y) = x := by rw [hx, IntKind.wrap_i64]; omega
  have hx1 : -10 ≤ x := by omega
  have hx2 : x ≤ 4000000 := by omega
  clear hx
  refine take_list (i := 15) (v := ?_) rfl (by kernel_rfl) (by kernel_rfl) (by kernel_rfl) (fun _ _ _ h => h) (Or.inl ⟨by rfl, ?_⟩) hH ?_
  rotate_left
  · ((intro w hSw; (try dsimp only at hSw); go_simp); try with_reducible rfl)
  simp only [Act.put, List.setIfInBounds_toArray, List.set_cons_zero, List.set_cons_succ]
  refine take_list (i := 16) (v := ?_) rfl (by kernel_rfl) (by kernel_rfl) (by kernel_rfl) (fun _ _ _ h => h) (Or.inl ⟨by rfl, ?_⟩) hH ?_
  rotate_left
  · ((intro w hSw; (try dsimp only at hSw); go_simp); try with_reducible rfl)
  simp only [Act.put, List.setIfInBounds_toArray, List.set_cons_zero, List.set_cons_succ]
  refine wpAnyH_done (by kernel_rfl) ?_ _
  clear hH wx hy1 hy2 hLb hfb HFI
  have c2 : w3.cell? ⟨m, 2, none⟩ = some (.pointer (some ⟨p, 0, none⟩)) := cell_at 2 P3.out.ms.mm.blk
  have a0 : w3.cell? ⟨g5, 0, none⟩ = some (.int .i64 3) := P3.out.arg 0
  go_wp2_with fail
  have oE : Only [] w3 w3.drew := (Only.refl [] w3).drew
  have Q4 := Lib.hid (P3.out.quiet oE)
  have c2 : w3.drew.cell? ⟨m, 2, none⟩ = some (.pointer (some ⟨p, 0, none⟩)) := cell_at 2 Q4.out.ms.mm.blk
  have a2 : w3.drew.cell? ⟨g5, 2, none⟩ = some (.int .i64 nn) := Q4.out.arg 2
  refine wp_region_held_drew (S := fun w' => w'.cell? ⟨m, 2, none⟩ = some (.pointer (some ⟨p, 0, none⟩)) ∧ w'.cell? ⟨g5, 2, none⟩ = some (.int .i64 nn)) (by kernel_rfl) ⟨c2, a2⟩ (fun hH => ?_)
  clear c2 a2 oE P3 a0
  generalize w3.drew = w4 at Q4 hH ⊢
  refine take_list (i := 0) (v := ?_) rfl (by kernel_rfl) (by kernel_rfl) (by kernel_rfl) (fun _ _ _ h => h) (Or.inl ⟨by rfl, ?_⟩) hH ?_
  rotate_left
  · ((intro w hSw; (try dsimp only at hSw); go_simp); try with_reducible rfl)
  simp only [Act.put, List.setIfInBounds_toArray, List.set_cons_zero, List.set_cons_succ]
  refine take_list (i := 1) (v := ?_) rfl (by kernel_rfl) (by kernel_rfl) (by kernel_rfl) (fun _ _ _ h => h) (Or.inl ⟨by rfl, ?_⟩) hH ?_
  rotate_left
  · ((intro w hSw; (try dsimp only at hSw); go_simp); try with_reducible rfl)
  simp only [Act.put, List.setIfInBounds_toArray, List.set_cons_zero, List.set_cons_succ]
  refine take_list (i := 2) (v := ?_) rfl (by kernel_rfl) (by kernel_rfl) (by kernel_rfl) (fun _ _ _ h => h) (Or.inl ⟨by rfl, ?_⟩) hH ?_
  rotate_left
  · ((intro w hSw; (try dsimp only at hSw); go_simp); try with_reducible rfl)
  simp only [Act.put, List.setIfInBounds_toArray, List.set_cons_zero, List.set_cons_succ]
  refine take_list (i := 3) (v := ?_) rfl (by kernel_rfl) (by kernel_rfl) (by kernel_rfl) (fun _ _ _ h => h) (Or.inl ⟨by rfl, ?_⟩) hH ?_
  rotate_left
  · ((intro w hSw; (try dsimp only at hSw); go_simp); try with_reducible rfl)
  simp only [Act.put, List.setIfInBounds_toArray, List.set_cons_zero, List.set_cons_succ]
  refine take_list (i := 4) (v := ?_) rfl (by kernel_rfl) (by kernel_rfl) (by kernel_rfl) (fun _ _ _ h => h) (Or.inl ⟨by rfl, ?_⟩) hH ?_
  rotate_left
  · ((intro w hSw; (try dsimp only at hSw); go_simp); try with_reducible rfl)
  simp only [Act.put, List.setIfInBounds_toArray, List.set_cons_zero, List.set_cons_succ]
  refine take_list (i := 5) (v := ?_) rfl (by kernel_rfl) (by kernel_rfl) (by kernel_rfl) (fun _ _ _ h => h) (Or.inl ⟨by rfl, ?_⟩) hH ?_
  rotate_left
  · ((intro w hSw; (try dsimp only at hSw); go_simp); try with_reducible rfl)
  simp only [Act.put, List.setIfInBounds_toArray, List.set_cons_zero, List.set_cons_succ]
  refine wpAnyH_ready (rs := [6]) (by kernel_rfl) (by simp) ?_
  refine ready_list rfl (fun K hK => ?_)
  go_simp
  have HOK := Lib.hid Q4.out.ms.ok
  refine (unbook_ms Q4.out.ms nn hnn2).mono ?_
  rintro e w5 ⟨rfl, m5⟩
  have Q5 := Lib.hid (Q4.out.to m5)
  have c2 : w5.cell? ⟨m, 2, none⟩ = some (.pointer (some ⟨p, 0, none⟩)) := cell_at 2 Q5.out.ms.mm.blk
  have a2 : w5.cell? ⟨g5, 2, none⟩ = some (.int .i64 nn) := Q5.out.arg 2
  refine hK.out _ _ ⟨c2, a2⟩ (fun hH => ?_)
  clear hK K m5 Q4 c2
  refine wpAnyH_done (by kernel_rfl) ?_ _
  clear hH
  have hbk : (M.booked : Int) ≤ 962560 := by have := HOK.out.booked; have := HOK.out.nm; rw [R.out.booked] at *; omega
  by_cases h0 : 0 < nn
  · obtain ⟨bk, hbke⟩ : ∃ bk : Nat, bk = M.booked - nn.toNat := ⟨_, rfl⟩
    have ej : j.unbook nn = { j with booked := bk } := by
      unfold JL.unbook
      rw [if_neg (by omega), R.out.booked, hbke]
    rw [ej] at Q5
    have NX := Lib.hid (And.intro ((R.out.book bk).mono (show (1 + 2 * (c : Int)) ≤ 1 + 2 * ((c + 1 : Nat) : Int) by omega)) (And.intro ((C.out.next hc1).same (M' := { M with booked := bk }) rfl rfl) hn))
    have HBK := Lib.hid hbke
    clear ej hbke
    go_wp2_with fail
    have oG : Only [] w5 w5.drew := (Only.refl [] w5).drew
    have Q8 := Lib.hid (Q5.out.quiet oG)
    have c8 : w5.drew.cell? ⟨m, 8, none⟩ = some (.int .i64 M.booked) := cell_at 8 Q8.out.ms.mm.blk
    have a2 : w5.drew.cell? ⟨g5, 2, none⟩ = some (.int .i64 nn) := Q8.out.arg 2
    refine wp_region_B (S := fun w' => w'.cell? ⟨m, 8, none⟩ = some (.int .i64 M.booked) ∧ w'.cell? ⟨g5, 2, none⟩ = some (.int .i64 nn)) [0, 1, 2, 3, 4, 5, 6, 7, 8, 9, 10, 11, 12, 13, 14, 15] (by kernel_rfl) ⟨c8, a2⟩ (fun hH => ?_)
    clear c8 a2 oG Q5
    generalize w5.drew = w8 at Q8 hH ⊢
    refine takeB_list (i := 0) (v := ?_) rfl (by kernel_rfl) (by kernel_rfl) (by kernel_rfl) (by kernel_rfl) (fun _ _ _ h => h) (Or.inl ⟨by rfl, ?_⟩) hH ?_
    rotate_left
    · ((intro w hSw; (try dsimp only at hSw); go_simp); try with_reducible rfl)
    simp only [Act.put, List.setIfInBounds_toArray, List.set_cons_zero, List.set_cons_succ]
    refine takeB_list (i := 1) (v := ?_) rfl (by kernel_rfl) (by kernel_rfl) (by kernel_rfl) (by kernel_rfl) (fun _ _ _ h => h) (Or.inl ⟨by rfl, ?_⟩) hH ?_
    rotate_left
    · ((intro w hSw; (try dsimp only at hSw); go_simp); try with_reducible rfl)
    simp only [Act.put, List.setIfInBounds_toArray, List.set_cons_zero, List.set_cons_succ]
    refine takeB_list (i := 2) (v := ?_) rfl (by kernel_rfl) (by kernel_rfl) (by kernel_rfl) (by kernel_rfl) (fun _ _ _ h => h) (Or.inl ⟨by rfl, ?_⟩) hH ?_
    rotate_left
    · ((intro w hSw; (try dsimp only at hSw); go_simp); try with_reducible rfl)
    simp only [Act.put, List.setIfInBounds_toArray, List.set_cons_zero, List.set_cons_succ]
    refine takeB_list (i := 3) (v := ?_) rfl (by kernel_rfl) (by kernel_rfl) (by kernel_rfl) (by kernel_rfl) (fun _ _ _ h => h) (Or.inl ⟨by rfl, ?_⟩) hH ?_
    rotate_left
    · ((intro w hSw; (try dsimp only at hSw); go_simp); try with_reducible rfl)
    simp only [Act.put, List.setIfInBounds_toArray, List.set_cons_zero, List.set_cons_succ]
    refine takeB_list (i := 4) (v := ?_) rfl (by kernel_rfl) (by kernel_rfl) (by kernel_rfl) (by kernel_rfl) (fun _ _ _ h => h) (Or.inl ⟨by rfl, ?_⟩) hH ?_
    rotate_left
    · ((intro w hSw; (try dsimp only at hSw); go_simp); try with_reducible rfl)
    simp only [Act.put, List.setIfInBounds_toArray, List.set_cons_zero, List.set_cons_succ]
    refine takeB_list (i := 5) (v := ?_) rfl (by kernel_rfl) (by kernel_rfl) (by kernel_rfl) (by kernel_rfl) (fun _ _ _ h => h) (Or.inl ⟨by rfl, ?_⟩) hH ?_
    rotate_left
    · ((intro w hSw; (try dsimp only at hSw); go_simp); try with_reducible rfl)
    simp only [Act.put, List.setIfInBounds_toArray, List.set_cons_zero, List.set_cons_succ]
    refine takeB_list (i := 6) (v := ?_) rfl (by kernel_rfl) (by kernel_rfl) (by kernel_rfl) (by kernel_rfl) (fun _ _ _ h => h) (Or.inl ⟨by rfl, ?_⟩) hH ?_
    rotate_left
    · ((intro w hSw; (try dsimp only at hSw); go_simp); try with_reducible rfl)
    simp only [Act.put, List.setIfInBounds_toArray, List.set_cons_zero, List.set_cons_succ]
    refine takeB_list (i := 7) (v := ?_) rfl (by kernel_rfl) (by kernel_rfl) (by kernel_rfl) (by kernel_rfl) (fun _ _ _ h => h) (Or.inl ⟨by rfl, ?_⟩) hH ?_
    rotate_left
    · ((intro w hSw; (try dsimp only at hSw); go_simp); try with_reducible rfl)
    simp only [Act.put, List.setIfInBounds_toArray, List.set_cons_zero, List.set_cons_succ]
    refine takeB_list (i := 8) (v := ?_) rfl (by kernel_rfl) (by kernel_rfl) (by kernel_rfl) (by kernel_rfl) (fun _ _ _ h => h) (Or.inl ⟨by rfl, ?_⟩) hH ?_
    rotate_left
    · ((intro w hSw; (try dsimp only at hSw); go_simp); try with_reducible rfl)
    simp only [Act.put, List.setIfInBounds_toArray, List.set_cons_zero, List.set_cons_succ]
    refine takeB_list (i := 9) (v := ?_) rfl (by kernel_rfl) (by kernel_rfl) (by kernel_rfl) (by kernel_rfl) (fun _ _ _ h => h) (Or.inl ⟨by rfl, ?_⟩) hH ?_
    rotate_left
    · ((intro w hSw; (try dsimp only at hSw); go_simp); try with_reducible rfl)
    simp only [Act.put, List.setIfInBounds_toArray, List.set_cons_zero, List.set_cons_succ]
    refine takeB_list (i := 10) (v := ?_) rfl (by kernel_rfl) (by kernel_rfl) (by kernel_rfl) (by kernel_rfl) (fun _ _ _ h => h) (Or.inl ⟨by rfl, ?_⟩) hH ?_
    rotate_left
    · ((intro w hSw; (try dsimp only at hSw); go_simp); try with_reducible rfl)
    simp only [Act.put, List.setIfInBounds_toArray, List.set_cons_zero, List.set_cons_succ]
    refine takeB_list (i := 11) (v := ?_) rfl (by kernel_rfl) (by kernel_rfl) (by kernel_rfl) (by kernel_rfl) (fun _ _ _ h => h) (Or.inl ⟨by rfl, ?_⟩) hH ?_
    rotate_left
    · ((intro w hSw; (try dsimp only at hSw); go_simp); try with_reducible rfl)
    simp only [Act.put, List.setIfInBounds_toArray, List.set_cons_zero, List.set_cons_succ]
    obtain ⟨y, hy⟩ : ∃ y : Int, (if (M.booked : Int) < nn then (M.booked : Int) else nn) = y := ⟨_, rfl⟩
    have hyb : (M.booked : Int) - y = (bk : Int) ∧ 0 ≤ y := by
      have := HBK.out
      rw [← hy]
      split <;> omega
    rw [hy]
    clear hy
    have wy : IntKind.i64.wrap ((M.booked : Int) - y) = (bk : Int) := by rw [IntKind.wrap_i64]; omega
    clear hyb
    refine takeB_list (i := 12) (v := ?_) rfl (by kernel_rfl) (by kernel_rfl) (by kernel_rfl) (by kernel_rfl) (fun _ _ _ h => h) (Or.inl ⟨by rfl, ?_⟩) hH ?_
    rotate_left
    · ((intro w hSw; (try dsimp only at hSw); go_simp); try with_reducible rfl)
    simp only [Act.put, List.setIfInBounds_toArray, List.set_cons_zero, List.set_cons_succ]
    refine takeB_list (i := 13) (v := ?_) rfl (by kernel_rfl) (by kernel_rfl) (by kernel_rfl) (by kernel_rfl) (fun _ _ _ h => h) (Or.inl ⟨by rfl, ?_⟩) hH ?_
    rotate_left
    · ((intro w hSw; (try dsimp only at hSw); go_simp); try with_reducible rfl)
    simp only [Act.put, List.setIfInBounds_toArray, List.set_cons_zero, List.set_cons_succ]
    have hm : (if 0 < bk then (bk : Int) else 0) = (bk : Int) := by split <;> omega
    rw [hm]
    clear hm
    refine takeB_list (i := 14) (v := ?_) rfl (by kernel_rfl) (by kernel_rfl) (by kernel_rfl) (by kernel_rfl) (fun _ _ _ h => h) (Or.inl ⟨by rfl, ?_⟩) hH ?_
    rotate_left
    · ((intro w hSw; (try dsimp only at hSw); go_simp); try with_reducible rfl)
    simp only [Act.put, List.setIfInBounds_toArray, List.set_cons_zero, List.set_cons_succ]
    refine takeB_list (i := 15) (v := ?_) rfl (by kernel_rfl) (by kernel_rfl) (by kernel_rfl) (by kernel_rfl) (fun _ _ _ h => h) (Or.inl ⟨by rfl, ?_⟩) hH ?_
    rotate_left
    · ((intro w hSw; (try dsimp only at hSw); go_simp); try with_reducible rfl)
    simp only [Act.put, List.setIfInBounds_toArray, List.set_cons_zero, List.set_cons_succ]
    have c8 : w8.cell? ⟨m, 8, none⟩ = some (.int .i64 M.booked) := cell_at 8 Q8.out.ms.mm.blk
    have f8 := free_at 8 Q8.out.ms.mm.blk
    refine readyB_out (i := 16) (by kernel_rfl) (by kernel_rfl) rfl (fun K hK => ?_)
    go_simp
    refine hK.out _ _ ?_
    clear hK K hH c8 f8 wy
    have o9 : Only [m] w8 (w8.setCell ⟨m, 8, none⟩ (.int .i64 (bk : Int))) := (Only.refl _ _).setCell (by simp) _
    have Q9 := Lib.hid (Q8.out.to (Q8.out.ms.own (M' := { M with booked := bk }) o9 rfl rfl (heap_cell (i := 8) (.int .i64 (bk : Int)) Q8.out.ms.mm.blk)))
    clear o9 Q8
    generalize w8.setCell ⟨m, 8, none⟩ (.int .i64 (bk : Int)) = w9 at Q9 ⊢
    refine wpAnyB_done (by kernel_rfl) ?_ _
    have a1 : w9.cell? ⟨g5, 1, none⟩ = some (.slice ra l.length rc) := Q9.out.arg 1
    go_wp2_with fail
    refine (Kept_any gc _ l _ Q9.out.copy (Q9.out.bytesF HB.out) (by omega)).mono ?_
    rintro e wt7 ⟨rfl, o7⟩
    have Qt7 := Lib.hid (Q9.out.quiet o7)
    clear o7 Q9 a1
    go_wp2_with fail
    refine (over_any _ l.length _ (Qt7.out.copy.row (by unfold maxLen; omega)) (by omega)).mono ?_
    rintro e wt8 ⟨rfl, _, o8⟩
    have m8 := Qt7.out.done (o8.mono (fun k hk => by simpa [Value.ownBlock, eq_comm] using hk))
    have M8 := Lib.hid m8
    clear o8 m8 Qt7
    go_wp2_with fail
    go_ret
    exact ⟨rfl, _, _, _, _, _, _, _, _, _, _, M8.out, NX.out.1, NX.out.2.1, NX.out.2.2⟩
  · have ej : j.unbook nn = j := by
      unfold JL.unbook
      by_cases hz : nn < 0
      · rw [if_pos hz]
      · have : nn.toNat = 0 := by omega
        rw [if_neg hz, this]
        rfl
    rw [ej] at Q5
    have NX := Lib.hid (And.intro (R.out.mono (show (1 + 2 * (c : Int)) ≤ 1 + 2 * ((c + 1 : Nat) : Int) by omega)) (And.intro (C.out.next hc1) hn))
    clear ej
    have a1 : w5.cell? ⟨g5, 1, none⟩ = some (.slice ra l.length rc) := Q5.out.arg 1
    go_wp2_with fail
    refine (Kept_any gc _ l _ Q5.out.copy (Q5.out.bytesF HB.out) (by omega)).mono ?_
    rintro e wt7 ⟨rfl, o7⟩
    have Qt7 := Lib.hid (Q5.out.quiet o7)
    clear o7 Q5 a1
    go_wp2_with fail
    refine (over_any _ l.length _ (Qt7.out.copy.row (by unfold maxLen; omega)) (by omega)).mono ?_
    rintro e wt8 ⟨rfl, _, o8⟩
    have m8 := Qt7.out.done (o8.mono (fun k hk => by simpa [Value.ownBlock, eq_comm] using hk))
    have M8 := Lib.hid m8
    clear o8 m8 Qt7
    go_wp2_with fail
    go_ret
    exact ⟨rfl, _, _, _, _, _, _, _, _, _, _, M8.out, NX.out.1, NX.out.2.1, NX.out.2.2⟩
set_option maxRecDepth 100000 in
set_option maxHeartbeats 2000000 in
theorem play_flush (h : MS w0 w F m p q a d j s vr vt vm gs M) (r : MR (1 + 2 * (c : Int)) d s j M) (hc : MB c M) (hn : M.n = n) (hc1 : c + 1 ≤ 100000) (hb : BytesF w0 F rv l) (hl : l.length ≤ 1048576) (hnn1 : -9223372036854775808 ≤ nn) (hnn2 : nn ≤ 9223372036854775807) :
    Calls Tryz.prog 8 #[.pointer (some ⟨m, 0, none⟩), .agg (op4 4 nn rv kv)] w (PQ w0 F m a n c) := by
  have R := Lib.hid r
  have C := Lib.hid hc
  have HB := Lib.hid hb
  have o1 : Only [] w (w.alloc (.cells (op4 4 nn rv kv) 30)) := (Only.refl [] w).alloc _
  have H1 := Lib.hid (h.add o1 (g := w.heap.size) (Nat.le_refl _) (heap_new w _))
  obtain ⟨ra, rc, rfl, -⟩ := id (hb w h.only h.keep)
  have HFAR := Lib.hid (show ∀ x ∈ F, x.1 < w.heap.size from fun x hx => (Array.getElem?_eq_some_iff.1 (h.keep x hx)).1)
  have hg5 : w0.heap.size ≤ w.heap.size := h.only.size
  obtain ⟨g5, hg5e⟩ : ∃ g5, w.heap.size = g5 := ⟨_, rfl⟩
  rw [hg5e] at H1 HFAR hg5
  have k1 : (w.alloc (.cells (op4 4 nn (.slice ra l.length rc) kv) 30)).cell? ⟨g5, 1, none⟩ = some (.slice ra l.length rc) := cell_at 1 (H1.out.keep (g5, .cells (op4 4 nn (.slice ra l.length rc) kv) 30) (by simp))
  have z1 : (w.alloc (.cells (op4 4 nn (.slice ra l.length rc) kv) 30)).heap.size = g5 + 1 := by rw [← hg5e]; exact Array.size_push _
  clear h r hc hb o1
  go_enter Tryz.func8, Tryz.ntmps8
  go_wp2_with fail
  generalize w.alloc _ = w1 at H1 k1 z1 ⊢
  refine (Copy_any _ l w1 (HB.out w1 H1.out.only (fun x hx => H1.out.keep x (by simp [hx]))) (by omega)).mono ?_
  rintro e w2 ⟨gc, rfl, ⟨cur, hcc, hcs, hcl⟩, hg, o2⟩
  have P2 := Lib.hid (show PM w0 w2 F m p q a d j s vr vt vm gs M g5 gc _ cur l from ⟨H1.out.add o2 hg hcc, hcs, hcl, by omega, fun x hx => by have := HFAR.out x hx; omega⟩)
  clear H1 k1 z1 hcc hcs hcl hg o2 HFAR hg5 hg5e
  go_wp2_with fail
  have oD : Only [] w2 w2.drew := (Only.refl [] w2).drew
  have P3 := Lib.hid (P2.out.quiet oD)
  obtain ⟨qa, qc, hvr⟩ := P3.out.ms.mm.shapeR
  obtain ⟨L, hL⟩ : ∃ L, L = gs.length := ⟨_, rfl⟩
  obtain ⟨fi, hfi⟩ : ∃ fi, fi = M.first := ⟨_, rfl⟩
  have c3 : w2.drew.cell? ⟨m, 3, none⟩ = some (.slice qa L qc) := by rw [hL, ← hvr]; exact cell_at 3 P3.out.ms.mm.blk
  have c5 : w2.drew.cell? ⟨m, 5, none⟩ = some (.int .i64 fi) := by rw [hfi]; exact cell_at 5 P3.out.ms.mm.blk
  have a2 : w2.drew.cell? ⟨g5, 2, none⟩ = some (.int .i64 nn) := P3.out.arg 2
  have hLb : L ≤ 1048576 := by rw [hL, P3.out.ms.mm.hlen]; have := C.out.b1; omega
  have hfb : fi ≤ 1048576 := by rw [hfi]; have := R.out.fle; have := C.out.b1; omega
  refine wp_region_held_drew (S := fun w' => w'.cell? ⟨m, 3, none⟩ = some (.slice qa L qc) ∧ w'.cell? ⟨m, 5, none⟩ = some (.int .i64 fi) ∧ w'.cell? ⟨g5, 2, none⟩ = some (.int .i64 nn)) (by kernel_rfl) ⟨c3, c5, a2⟩ (fun hH => ?_)
  have HFI := Lib.hid hfi
  clear oD P2 hvr hL hfi c3 c5 a2
  generalize w2.drew = w3 at P3 hH ⊢
  refine take_list (i := 0) (v := ?_) rfl (by kernel_rfl) (by kernel_rfl) (by kernel_rfl) (fun _ _ _ h => h) (Or.inl ⟨by rfl, ?_⟩) hH ?_
  rotate_left
  · ((intro w hSw; (try dsimp only at hSw); go_simp); try with_reducible rfl)
  simp only [Act.put, List.setIfInBounds_toArray, List.set_cons_zero, List.set_cons_succ]
  refine take_list (i := 1) (v := ?_) rfl (by kernel_rfl) (by kernel_rfl) (by kernel_rfl) (fun _ _ _ h => h) (Or.inl ⟨by rfl, ?_⟩) hH ?_
  rotate_left
  · ((intro w hSw; (try dsimp only at hSw); go_simp); try with_reducible rfl)
  simp only [Act.put, List.setIfInBounds_toArray, List.set_cons_zero, List.set_cons_succ]
  refine take_list (i := 2) (v := ?_) rfl (by kernel_rfl) (by kernel_rfl) (by kernel_rfl) (fun _ _ _ h => h) (Or.inl ⟨by rfl, ?_⟩) hH ?_
  rotate_left
  · ((intro w hSw; (try dsimp only at hSw); go_simp); try with_reducible rfl)
  simp only [Act.put, List.setIfInBounds_toArray, List.set_cons_zero, List.set_cons_succ]
  refine take_list (i := 3) (v := ?_) rfl (by kernel_rfl) (by kernel_rfl) (by kernel_rfl) (fun _ _ _ h => h) (Or.inl ⟨by rfl, ?_⟩) hH ?_
  rotate_left
  · ((intro w hSw; (try dsimp only at hSw); go_simp); try with_reducible rfl)
  simp only [Act.put, List.setIfInBounds_toArray, List.set_cons_zero, List.set_cons_succ]
  refine take_list (i := 4) (v := ?_) rfl (by kernel_rfl) (by kernel_rfl) (by kernel_rfl) (fun _ _ _ h => h) (Or.inl ⟨by rfl, ?_⟩) hH ?_
  rotate_left
  · ((intro w hSw; (try dsimp only at hSw); go_simp); try with_reducible rfl)
  simp only [Act.put, List.setIfInBounds_toArray, List.set_cons_zero, List.set_cons_succ]
  refine take_list (i := 5) (v := ?_) rfl (by kernel_rfl) (by kernel_rfl) (by kernel_rfl) (fun _ _ _ h => h) (Or.inl ⟨by rfl, ?_⟩) hH ?_
  rotate_left
  · ((intro w hSw; (try dsimp only at hSw); go_simp); try with_reducible rfl)
  simp only [Act.put, List.setIfInBounds_toArray, List.set_cons_zero, List.set_cons_succ]
  refine take_list (i := 6) (v := ?_) rfl (by kernel_rfl) (by kernel_rfl) (by kernel_rfl) (fun _ _ _ h => h) (Or.inl ⟨by rfl, ?_⟩) hH ?_
  rotate_left
  · ((intro w hSw; (try dsimp only at hSw); go_simp); try with_reducible rfl)
  simp only [Act.put, List.setIfInBounds_toArray, List.set_cons_zero, List.set_cons_succ]
  refine take_list (i := 7) (v := ?_) rfl (by kernel_rfl) (by kernel_rfl) (by kernel_rfl) (fun _ _ _ h => h) (Or.inl ⟨by rfl, ?_⟩) hH ?_
  rotate_left
  · ((intro w hSw; (try dsimp only at hSw); go_simp); try with_reducible rfl)
  simp only [Act.put, List.setIfInBounds_toArray, List.set_cons_zero, List.set_cons_succ]
  obtain ⟨y0, hy0⟩ : ∃ y0 : Int, (if nn < -3 then -3 else nn) = y0 := ⟨_, rfl⟩
  have hy0b : -3 ≤ y0 := by
    rw [← hy0]
    split <;> omega
  rw [hy0]
  clear hy0
  refine take_list (i := 8) (v := ?_) rfl (by kernel_rfl) (by kernel_rfl) (by kernel_rfl) (fun _ _ _ h => h) (Or.inl ⟨by rfl, ?_⟩) hH ?_
  rotate_left
  · ((intro w hSw; (try dsimp only at hSw); go_simp); try with_reducible rfl)
  simp only [Act.put, List.setIfInBounds_toArray, List.set_cons_zero, List.set_cons_succ]
  refine take_list (i := 9) (v := ?_) rfl (by kernel_rfl) (by kernel_rfl) (by kernel_rfl) (fun _ _ _ h => h) (Or.inl ⟨by rfl, ?_⟩) hH ?_
  rotate_left
  · ((intro w hSw; (try dsimp only at hSw); go_simp); try with_reducible rfl)
  simp only [Act.put, List.setIfInBounds_toArray, List.set_cons_zero, List.set_cons_succ]
  refine take_list (i := 10) (v := ?_) rfl (by kernel_rfl) (by kernel_rfl) (by kernel_rfl) (fun _ _ _ h => h) (Or.inl ⟨by rfl, ?_⟩) hH ?_
  rotate_left
  · ((intro w hSw; (try dsimp only at hSw); go_simp); try with_reducible rfl)
  simp only [Act.put, List.setIfInBounds_toArray, List.set_cons_zero, List.set_cons_succ]
  refine take_list (i := 11) (v := ?_) rfl (by kernel_rfl) (by kernel_rfl) (by kernel_rfl) (fun _ _ _ h => h) (Or.inl ⟨by rfl, ?_⟩) hH ?_
  rotate_left
  · ((intro w hSw; (try dsimp only at hSw); go_simp); try with_reducible rfl)
  simp only [Act.put, List.setIfInBounds_toArray, List.set_cons_zero, List.set_cons_succ]
  refine take_list (i := 12) (v := ?_) rfl (by kernel_rfl) (by kernel_rfl) (by kernel_rfl) (fun _ _ _ h => h) (Or.inl ⟨by rfl, ?_⟩) hH ?_
  rotate_left
  · ((intro w hSw; (try dsimp only at hSw); go_simp); try with_reducible rfl)
  simp only [Act.put, List.setIfInBounds_toArray, List.set_cons_zero, List.set_cons_succ]
  refine take_list (i := 13) (v := ?_) rfl (by kernel_rfl) (by kernel_rfl) (by kernel_rfl) (fun _ _ _ h => h) (Or.inl ⟨by rfl, ?_⟩) hH ?_
  rotate_left
  · ((intro w hSw; (try dsimp only at hSw); go_simp); try with_reducible rfl)
  simp only [Act.put, List.setIfInBounds_toArray, List.set_cons_zero, List.set_cons_succ]
  refine take_list (i := 14) (v := ?_) rfl (by kernel_rfl) (by kernel_rfl) (by kernel_rfl) (fun _ _ _ h => h) (Or.inl ⟨by rfl, ?_⟩) hH ?_
  rotate_left
  · ((intro w hSw; (try dsimp only at hSw); go_simp); try with_reducible rfl)
  simp only [Act.put, List.setIfInBounds_toArray, List.set_cons_zero, List.set_cons_succ]
  obtain ⟨y, hy⟩ : ∃ y : Int, (if IntKind.i64.wrap ((L : Int) + 3) < y0 then IntKind.i64.wrap ((L : Int) + 3) else y0) = y := ⟨_, rfl⟩
  have hyb : -3 ≤ y ∧ y ≤ (L : Int) + 3 := by
    have hw : IntKind.i64.wrap ((L : Int) + 3) = (L : Int) + 3 := by rw [IntKind.wrap_i64]; omega
    rw [hw] at hy
    split at hy <;> omega
  rw [hy]
  clear hy hy0b
  obtain ⟨hy1, hy2⟩ := hyb
  obtain ⟨x, hx⟩ : ∃ x : Int, x = (fi : Int) + y := ⟨_, rfl⟩
  have wx : IntKind.i64.wrap ((fi : Int) + y) = x := by rw [hx, IntKind.wrap_i64]; omega
  have hx1 : -10 ≤ x := by omega
  have hx2 : x ≤ 4000000 := by omega
  clear hx
  refine take_list (i := 15) (v := ?_) rfl (by kernel_rfl) (by kernel_rfl) (by kernel_rfl) (fun _ _ _ h => h) (Or.inl ⟨by rfl, ?_⟩) hH ?_
  rotate_left
  · ((intro w hSw; (try dsimp only at hSw); go_simp); try with_reducible rfl)
  simp only [Act.put, List.setIfInBounds_toArray, List.set_cons_zero, List.set_cons_succ]
  refine take_list (i := 16) (v := ?_) rfl (by kernel_rfl) (by kernel_rfl) (by kernel_rfl) (fun _ _ _ h => h) (Or.inl ⟨by rfl, ?_⟩) hH ?_
  rotate_left
  · ((intro w hSw; (try dsimp only at hSw); go_simp); try with_reducible rfl)
  simp only [Act.put, List.setIfInBounds_toArray, List.set_cons_zero, List.set_cons_succ]
  refine wpAnyH_done (by kernel_rfl) ?_ _
  clear hH wx hy1 hy2 hLb hfb HFI
  have c2 : w3.cell? ⟨m, 2, none⟩ = some (.pointer (some ⟨p, 0, none⟩)) := cell_at 2 P3.out.ms.mm.blk
  have a0 : w3.cell? ⟨g5, 0, none⟩ = some (.int .i64 4) := P3.out.arg 0
  go_wp2_with fail
  have HOK := Lib.hid P3.out.ms.ok
  refine (flush_ms P3.out.ms (R.out.big C.out.b1 C.out.b2)).mono ?_
  rintro e w4 ⟨rfl, m4⟩
  have Q4 := Lib.hid (P3.out.to m4)
  clear m4 P3 c2 a0
  have KF := mflush_all Q4.out.ms R.out HOK.out C.out hc1
  generalize errV (j.flushR d s).c = ev at KF ⊢
  go_wp2_with fail
  refine KF.mono ?_
  rintro e w5 ⟨rfl, M5, m5, r5, b5, n5⟩
  have Q5 := Lib.hid (Q4.out.to m5)
  have NX := Lib.hid (And.intro r5 (And.intro b5 (n5.trans hn)))
  clear m5 r5 b5 n5 KF Q4
  have a1 : w5.cell? ⟨g5, 1, none⟩ = some (.slice ra l.length rc) := Q5.out.arg 1
  go_wp2_with fail
  refine (Kept_any gc _ l _ Q5.out.copy (Q5.out.bytesF HB.out) (by omega)).mono ?_
  rintro e wt7 ⟨rfl, o7⟩
  have Qt7 := Lib.hid (Q5.out.quiet o7)
  clear o7 Q5 a1
  go_wp2_with fail
  refine (over_any _ l.length _ (Qt7.out.copy.row (by unfold maxLen; omega)) (by omega)).mono ?_
  rintro e wt8 ⟨rfl, _, o8⟩
  have m8 := Qt7.out.done (o8.mono (fun k hk => by simpa [Value.ownBlock, eq_comm] using hk))
  have M8 := Lib.hid m8
  clear o8 m8 Qt7
  go_wp2_with fail
  go_ret
  exact ⟨rfl, _, _, _, _, _, _, _, _, _, _, M8.out, NX.out.1, NX.out.2.1, NX.out.2.2⟩
set_option maxRecDepth 100000 in
set_option maxHeartbeats 2000000 in
theorem play_arm (h : MS w0 w F m p q a d j s vr vt vm gs M) (r : MR (1 + 2 * (c : Int)) d s j M) (hc : MB c M) (hn : M.n = n) (hc1 : c + 1 ≤ 100000) (hb : BytesF w0 F rv l) (hl : l.length ≤ 1048576) (hnn1 : -9223372036854775808 ≤ nn) (hnn2 : nn ≤ 9223372036854775807) :
    Calls Tryz.prog 8 #[.pointer (some ⟨m, 0, none⟩), .agg (op4 7 nn rv kv)] w (PQ w0 F m a n c) := by
  have R := Lib.hid r
  have C := Lib.hid hc
  have HB := Lib.hid hb
  have o1 : Only [] w (w.alloc (.cells (op4 7 nn rv kv) 30)) := (Only.refl [] w).alloc _
  have H1 := Lib.hid (h.add o1 (g := w.heap.size) (Nat.le_refl _) (heap_new w _))
  obtain ⟨ra, rc, rfl, -⟩ := id (hb w h.only h.keep)
  have HFAR := Lib.hid (show ∀ x ∈ F, x.1 < w.heap.size from fun x hx => (Array.getElem?_eq_some_iff.1 (h.keep x hx)).1)
  have hg5 : w0.heap.size ≤ w.heap.size := h.only.size
  obtain ⟨g5, hg5e⟩ : ∃ g5, w.heap.size = g5 := ⟨_, rfl⟩
  rw [hg5e] at H1 HFAR hg5
  have k1 : (w.alloc (.cells (op4 7 nn (.slice ra l.length rc) kv) 30)).cell? ⟨g5, 1, none⟩ = some (.slice ra l.length rc) := cell_at 1 (H1.out.keep (g5, .cells (op4 7 nn (.slice ra l.length rc) kv) 30) (by simp))
  have z1 : (w.alloc (.cells (op4 7 nn (.slice ra l.length rc) kv) 30)).heap.size = g5 + 1 := by rw [← hg5e]; exact Array.size_push _
  clear h r hc hb o1
  go_enter Tryz.func8, Tryz.ntmps8
  go_wp2_with fail
  generalize w.alloc _ = w1 at H1 k1 z1 ⊢
  refine (Copy_any _ l w1 (HB.out w1 H1.out.only (fun x hx => H1.out.keep x (by simp [hx]))) (by omega)).mono ?_
  rintro e w2 ⟨gc, rfl, ⟨cur, hcc, hcs, hcl⟩, hg, o2⟩
  have P2 := Lib.hid (show PM w0 w2 F m p q a d j s vr vt vm gs M g5 gc _ cur l from ⟨H1.out.add o2 hg hcc, hcs, hcl, by omega, fun x hx => by have := HFAR.out x hx; omega⟩)
  clear H1 k1 z1 hcc hcs hcl hg o2 HFAR hg5 hg5e
  go_wp2_with fail
  have oD : Only [] w2 w2.drew := (Only.refl [] w2).drew
  have P3 := Lib.hid (P2.out.quiet oD)
  obtain ⟨qa, qc, hvr⟩ := P3.out.ms.mm.shapeR
  obtain ⟨L, hL⟩ : ∃ L, L = gs.length := ⟨_, rfl⟩
  obtain ⟨fi, hfi⟩ : ∃ fi, fi = M.first := ⟨_, rfl⟩
  have c3 : w2.drew.cell? ⟨m, 3, none⟩ = some (.slice qa L qc) := by rw [hL, ← hvr]; exact cell_at 3 P3.out.ms.mm.blk
  have c5 : w2.drew.cell? ⟨m, 5, none⟩ = some (.int .i64 fi) := by rw [hfi]; exact cell_at 5 P3.out.ms.mm.blk
  have a2 : w2.drew.cell? ⟨g5, 2, none⟩ = some (.int .i64 nn) := P3.out.arg 2
  have hLb : L ≤ 1048576 := by rw [hL, P3.out.ms.mm.hlen]; have := C.out.b1; omega
  have hfb : fi ≤ 1048576 := by rw [hfi]; have := R.out.fle; have := C.out.b1; omega
  refine wp_region_held_drew (S := fun w' => w'.cell? ⟨m, 3, none⟩ = some (.slice qa L qc) ∧ w'.cell? ⟨m, 5, none⟩ = some (.int .i64 fi) ∧ w'.cell? ⟨g5, 2, none⟩ = some (.int .i64 nn)) (by kernel_rfl) ⟨c3, c5, a2⟩ (fun hH => ?_)
  have HFI := Lib.hid hfi
  clear oD P2 hvr hL hfi c3 c5 a2
  generalize w2.drew = w3 at P3 hH ⊢
  refine take_list (i := 0) (v := ?_) rfl (by kernel_rfl) (by kernel_rfl) (by kernel_rfl) (fun _ _ _ h => h) (Or.inl ⟨by rfl, ?_⟩) hH ?_
  rotate_left
  · ((intro w hSw; (try dsimp only at hSw); go_simp); try with_reducible rfl)
  simp only [Act.put, List.setIfInBounds_toArray, List.set_cons_zero, List.set_cons_succ]
  refine take_list (i := 1) (v := ?_) rfl (by kernel_rfl) (by kernel_rfl) (by kernel_rfl) (fun _ _ _ h => h) (Or.inl ⟨by rfl, ?_⟩) hH ?_
  rotate_left
  · ((intro w hSw; (try dsimp only at hSw); go_simp); try with_reducible rfl)
  simp only [Act.put, List.setIfInBounds_toArray, List.set_cons_zero, List.set_cons_succ]
  refine take_list (i := 2) (v := ?_) rfl (by kernel_rfl) (by kernel_rfl) (by kernel_rfl) (fun _ _ _ h => h) (Or.inl ⟨by rfl, ?_⟩) hH ?_
  rotate_left
  · ((intro w hSw; (try dsimp only at hSw); go_simp); try with_reducible rfl)
  simp only [Act.put, List.setIfInBounds_toArray, List.set_cons_zero, List.set_cons_succ]
  refine take_list (i := 3) (v := ?_) rfl (by kernel_rfl) (by kernel_rfl) (by kernel_rfl) (fun _ _ _ h => h) (Or.inl ⟨by rfl, ?_⟩) hH ?_
  rotate_left
  · ((intro w hSw; (try dsimp only at hSw); go_simp); try with_reducible rfl)
  simp only [Act.put, List.setIfInBounds_toArray, List.set_cons_zero, List.set_cons_succ]
  refine take_list (i := 4) (v := ?_) rfl (by kernel_rfl) (by kernel_rfl) (by kernel_rfl) (fun _ _ _ h => h) (Or.inl ⟨by rfl, ?_⟩) hH ?_
  rotate_left
  · ((intro w hSw; (try dsimp only at hSw); go_simp); try with_reducible rfl)
  simp only [Act.put, List.setIfInBounds_toArray, List.set_cons_zero, List.set_cons_succ]
  refine take_list (i := 5) (v := ?_) rfl (by kernel_rfl) (by kernel_rfl) (by kernel_rfl) (fun _ _ _ h => h) (Or.inl ⟨by rfl, ?_⟩) hH ?_
  rotate_left
  · ((intro w hSw; (try dsimp only at hSw); go_simp); try with_reducible rfl)
  simp only [Act.put, List.setIfInBounds_toArray, List.set_cons_zero, List.set_cons_succ]
  refine take_list (i := 6) (v := ?_) rfl (by kernel_rfl) (by kernel_rfl) (by kernel_rfl) (fun _ _ _ h => h) (Or.inl ⟨by rfl, ?_⟩) hH ?_
  rotate_left
  · ((intro w hSw; (try dsimp only at hSw); go_simp); try with_reducible rfl)
  simp only [Act.put, List.setIfInBounds_toArray, List.set_cons_zero, List.set_cons_succ]
  refine take_list (i := 7) (v := ?_) rfl (by kernel_rfl) (by kernel_rfl) (by kernel_rfl) (fun _ _ _ h => h) (Or.inl ⟨by rfl, ?_⟩) hH ?_
  rotate_left
  · ((intro w hSw; (try dsimp only at hSw); go_simp); try with_reducible rfl)
  simp only [Act.put, List.setIfInBounds_toArray, List.set_cons_zero, List.set_cons_succ]
  obtain ⟨y0, hy0⟩ : ∃ y0 : Int, (if nn < -3 then -3 else nn) = y0 := ⟨_, rfl⟩
  have hy0b : -3 ≤ y0 := by
    rw [← hy0]
    split <;> omega
  rw [hy0]
  clear hy0
  refine take_list (i := 8) (v := ?_) rfl (by kernel_rfl) (by kernel_rfl) (by kernel_rfl) (fun _ _ _ h => h) (Or.inl ⟨by rfl, ?_⟩) hH ?_
  rotate_left
  · ((intro w hSw; (try dsimp only at hSw); go_simp); try with_reducible rfl)
  simp only [Act.put, List.setIfInBounds_toArray, List.set_cons_zero, List.set_cons_succ]
  refine take_list (i := 9) (v := ?_) rfl (by kernel_rfl) (by kernel_rfl) (by kernel_rfl) (fun _ _ _ h => h) (Or.inl ⟨by rfl, ?_⟩) hH ?_
  rotate_left
  · ((intro w hSw; (try dsimp only at hSw); go_simp); try with_reducible rfl)
  simp only [Act.put, List.setIfInBounds_toArray, List.set_cons_zero, List.set_cons_succ]
  refine take_list (i := 10) (v := ?_) rfl (by kernel_rfl) (by kernel_rfl) (by kernel_rfl) (fun _ _ _ h => h) (Or.inl ⟨by rfl, ?_⟩) hH ?_
  rotate_left
  · ((intro w hSw; (try dsimp only at hSw); go_simp); try with_reducible rfl)
  simp only [Act.put, List.setIfInBounds_toArray, List.set_cons_zero, List.set_cons_succ]
  refine take_list (i := 11) (v := ?_) rfl (by kernel_rfl) (by kernel_rfl) (by kernel_rfl) (fun _ _ _ h => h) (Or.inl ⟨by rfl, ?_⟩) hH ?_
  rotate_left
  · ((intro w hSw; (try dsimp only at hSw); go_simp); try with_reducible rfl)
  simp only [Act.put, List.setIfInBounds_toArray, List.set_cons_zero, List.set_cons_succ]
  refine take_list (i := 12) (v := ?_) rfl (by kernel_rfl) (by kernel_rfl) (by kernel_rfl) (fun _ _ _ h => h) (Or.inl ⟨by rfl, ?_⟩) hH ?_
  rotate_left
  · ((intro w hSw; (try dsimp only at hSw); go_simp); try with_reducible rfl)
  simp only [Act.put, List.setIfInBounds_toArray, List.set_cons_zero, List.set_cons_succ]
  refine take_list (i := 13) (v := ?_) rfl (by kernel_rfl) (by kernel_rfl) (by kernel_rfl) (fun _ _ _ h => h) (Or.inl ⟨by rfl, ?_⟩) hH ?_
  rotate_left
  · ((intro w hSw; (try dsimp only at hSw); go_simp); try with_reducible rfl)
  simp only [Act.put, List.setIfInBounds_toArray, List.set_cons_zero, List.set_cons_succ]
  refine take_list (i := 14) (v := ?_) rfl (by kernel_rfl) (by kernel_rfl) (by kernel_rfl) (fun _ _ _ h => h) (Or.inl ⟨by rfl, ?_⟩) hH ?_
  rotate_left
  · ((intro w hSw; (try dsimp only at hSw); go_simp); try with_reducible rfl)
  simp only [Act.put, List.setIfInBounds_toArray, List.set_cons_zero, List.set_cons_succ]
  obtain ⟨y, hy⟩ : ∃ y : Int, (if IntKind.i64.wrap ((L : Int) + 3) < y0 then IntKind.i64.wrap ((L : Int) + 3) else y0) = y := ⟨_, rfl⟩
  have hyb : -3 ≤ y ∧ y ≤ (L : Int) + 3 := by
    have hw : IntKind.i64.wrap ((L : Int) + 3) = (L : Int) + 3 := by rw [IntKind.wrap_i64]; omega
    rw [hw] at hy
    split at hy <;> omega
  rw [hy]
  clear hy hy0b
  obtain ⟨hy1, hy2⟩ := hyb
  obtain ⟨x, hx⟩ : ∃ x : Int, x = (fi : Int) + y := ⟨_, rfl⟩
  have wx : IntKind.i64.wrap ((fi : Int) + y) = x := by rw [hx, IntKind.wrap_i64]; omega
  have hx1 : -10 ≤ x := by omega
  have hx2 : x ≤ 4000000 := by omega
  clear hx
  refine take_list (i := 15) (v := ?_) rfl (by kernel_rfl) (by kernel_rfl) (by kernel_rfl) (fun _ _ _ h => h) (Or.inl ⟨by rfl, ?_⟩) hH ?_
  rotate_left
  · ((intro w hSw; (try dsimp only at hSw); go_simp); try with_reducible rfl)
  simp only [Act.put, List.setIfInBounds_toArray, List.set_cons_zero, List.set_cons_succ]
  refine take_list (i := 16) (v := ?_) rfl (by kernel_rfl) (by kernel_rfl) (by kernel_rfl) (fun _ _ _ h => h) (Or.inl ⟨by rfl, ?_⟩) hH ?_
  rotate_left
  · ((intro w hSw; (try dsimp only at hSw); go_simp); try with_reducible rfl)
  simp only [Act.put, List.setIfInBounds_toArray, List.set_cons_zero, List.set_cons_succ]
  refine wpAnyH_done (by kernel_rfl) ?_ _
  clear hH wx hy1 hy2 hLb hfb HFI
  have c2 : w3.cell? ⟨m, 2, none⟩ = some (.pointer (some ⟨p, 0, none⟩)) := cell_at 2 P3.out.ms.mm.blk
  have a0 : w3.cell? ⟨g5, 0, none⟩ = some (.int .i64 7) := P3.out.arg 0
  go_wp2_with fail
  have oE : Only [] w3 w3.drew := (Only.refl [] w3).drew
  have Q4 := Lib.hid (P3.out.quiet oE)
  have c0 : w3.drew.cell? ⟨m, 0, none⟩ = some (.pointer (some ⟨a.p, 0, none⟩)) := cell_at 0 Q4.out.ms.mm.blk
  have a2 : w3.drew.cell? ⟨g5, 2, none⟩ = some (.int .i64 nn) := Q4.out.arg 2
  refine wp_region_held_drew (S := fun w' => w'.cell? ⟨m, 0, none⟩ = some (.pointer (some ⟨a.p, 0, none⟩)) ∧ w'.cell? ⟨g5, 2, none⟩ = some (.int .i64 nn)) (by kernel_rfl) ⟨c0, a2⟩ (fun hH => ?_)
  clear c0 a2 oE P3 a0 c2
  generalize w3.drew = w4 at Q4 hH ⊢
  refine take_list (i := 0) (v := ?_) rfl (by kernel_rfl) (by kernel_rfl) (by kernel_rfl) (fun _ _ _ h => h) (Or.inl ⟨by rfl, ?_⟩) hH ?_
  rotate_left
  · ((intro w hSw; (try dsimp only at hSw); go_simp); try with_reducible rfl)
  simp only [Act.put, List.setIfInBounds_toArray, List.set_cons_zero, List.set_cons_succ]
  refine take_list (i := 1) (v := ?_) rfl (by kernel_rfl) (by kernel_rfl) (by kernel_rfl) (fun _ _ _ h => h) (Or.inl ⟨by rfl, ?_⟩) hH ?_
  rotate_left
  · ((intro w hSw; (try dsimp only at hSw); go_simp); try with_reducible rfl)
  simp only [Act.put, List.setIfInBounds_toArray, List.set_cons_zero, List.set_cons_succ]
  refine take_list (i := 2) (v := ?_) rfl (by kernel_rfl) (by kernel_rfl) (by kernel_rfl) (fun _ _ _ h => h) (Or.inl ⟨by rfl, ?_⟩) hH ?_
  rotate_left
  · ((intro w hSw; (try dsimp only at hSw); go_simp); try with_reducible rfl)
  simp only [Act.put, List.setIfInBounds_toArray, List.set_cons_zero, List.set_cons_succ]
  refine take_list (i := 3) (v := ?_) rfl (by kernel_rfl) (by kernel_rfl) (by kernel_rfl) (fun _ _ _ h => h) (Or.inl ⟨by rfl, ?_⟩) hH ?_
  rotate_left
  · ((intro w hSw; (try dsimp only at hSw); go_simp); try with_reducible rfl)
  simp only [Act.put, List.setIfInBounds_toArray, List.set_cons_zero, List.set_cons_succ]
  refine take_list (i := 4) (v := ?_) rfl (by kernel_rfl) (by kernel_rfl) (by kernel_rfl) (fun _ _ _ h => h) (Or.inl ⟨by rfl, ?_⟩) hH ?_
  rotate_left
  · ((intro w hSw; (try dsimp only at hSw); go_simp); try with_reducible rfl)
  simp only [Act.put, List.setIfInBounds_toArray, List.set_cons_zero, List.set_cons_succ]
  refine take_list (i := 5) (v := ?_) rfl (by kernel_rfl) (by kernel_rfl) (by kernel_rfl) (fun _ _ _ h => h) (Or.inl ⟨by rfl, ?_⟩) hH ?_
  rotate_left
  · ((intro w hSw; (try dsimp only at hSw); go_simp); try with_reducible rfl)
  simp only [Act.put, List.setIfInBounds_toArray, List.set_cons_zero, List.set_cons_succ]
  refine wpAnyH_ready (rs := [6]) (by kernel_rfl) (by simp) ?_
  refine ready_list rfl (fun K hK => ?_)
  go_simp
  by_cases h0 : nn < 0
  · refine (Arm_bad a.p nn w4 h0).mono ?_
    rintro e w5 ⟨rfl, rfl⟩
    refine hK.out _ _ hH (fun hH => ?_)
    clear hK K
    refine wpAnyH_done (by kernel_rfl) ?_ _
    clear hH
    have NX := Lib.hid (And.intro (R.out.mono (show (1 + 2 * (c : Int)) ≤ 1 + 2 * ((c + 1 : Nat) : Int) by omega)) (And.intro (C.out.next hc1) hn))
    have a1 : w4.cell? ⟨g5, 1, none⟩ = some (.slice ra l.length rc) := Q4.out.arg 1
    go_wp2_with fail
    refine (Kept_any gc _ l _ Q4.out.copy (Q4.out.bytesF HB.out) (by omega)).mono ?_
    rintro e wt7 ⟨rfl, o7⟩
    have Qt7 := Lib.hid (Q4.out.quiet o7)
    clear o7 Q4 a1
    go_wp2_with fail
    refine (over_any _ l.length _ (Qt7.out.copy.row (by unfold maxLen; omega)) (by omega)).mono ?_
    rintro e wt8 ⟨rfl, _, o8⟩
    have m8 := Qt7.out.done (o8.mono (fun k hk => by simpa [Value.ownBlock, eq_comm] using hk))
    have M8 := Lib.hid m8
    clear o8 m8 Qt7
    go_wp2_with fail
    go_ret
    exact ⟨rfl, _, _, _, _, _, _, _, _, _, _, M8.out, NX.out.1, NX.out.2.1, NX.out.2.2⟩
  · refine (arm_ms Q4.out.ms nn (by omega)).mono ?_
    rintro e w5 ⟨rfl, m5⟩
    have Q5 := Lib.hid (Q4.out.to m5)
    have hh := And.intro (show w5.cell? ⟨m, 0, none⟩ = some (.pointer (some ⟨a.p, 0, none⟩)) from cell_at 0 Q5.out.ms.mm.blk) (show w5.cell? ⟨g5, 2, none⟩ = some (.int .i64 nn) from Q5.out.arg 2)
    refine hK.out _ _ hh (fun hH => ?_)
    clear hK K hh m5 Q4
    refine wpAnyH_done (by kernel_rfl) ?_ _
    clear hH
    have NX := Lib.hid (And.intro ((R.out.arm nn).mono (show (1 + 2 * (c : Int)) ≤ 1 + 2 * ((c + 1 : Nat) : Int) by omega)) (And.intro (C.out.next hc1) hn))
    have a1 : w5.cell? ⟨g5, 1, none⟩ = some (.slice ra l.length rc) := Q5.out.arg 1
    go_wp2_with fail
    refine (Kept_any gc _ l _ Q5.out.copy (Q5.out.bytesF HB.out) (by omega)).mono ?_
    rintro e wt7 ⟨rfl, o7⟩
    have Qt7 := Lib.hid (Q5.out.quiet o7)
    clear o7 Q5 a1
    go_wp2_with fail
    refine (over_any _ l.length _ (Qt7.out.copy.row (by unfold maxLen; omega)) (by omega)).mono ?_
    rintro e wt8 ⟨rfl, _, o8⟩
    have m8 := Qt7.out.done (o8.mono (fun k hk => by simpa [Value.ownBlock, eq_comm] using hk))
    have M8 := Lib.hid m8
    clear o8 m8 Qt7
    go_wp2_with fail
    go_ret
    exact ⟨rfl, _, _, _, _, _, _, _, _, _, _, M8.out, NX.out.1, NX.out.2.1, NX.out.2.2⟩
end
end Go.Proofs.YtfnedeaemjchgaaGreat
/- The model's play: Trim, Get, a crash; any call. -/
namespace Go.Proofs.YtfnedeaemjchgaaGreat
open Go.RowKit Go.Maps
set_option linter.unusedSimpArgs false
set_option linter.unusedVariables false

theorem err66 (w : World) : (binOp .eql 36 (err 6) (err 6)).run Tryz.prog w = .ok (.bool true) w := by kernel_rfl
theorem nil66 (w : World) : (binOp .eql 36 .nilIface (err 6)).run Tryz.prog w = .ok (.bool false) w := by kernel_rfl
section
variable {w0 w w1 w2 w3 : World} {F : List (Nat × Obj)} {m p q c n g5 gc : Nat} {a : DA} {d : Disk} {j : JL} {s : SL} {vr vt vm rv kv v : Value} {gs : List Value} {M : ML} {l r : Sec} {kind nn : Int} {op cur : Array Value} {N : Int}
theorem get_no (h : MS w0 w F m p q a d j s vr vt vm gs M) (r : MR N d s j M) (hc : MB c M) (x : Int) (hx : x < (M.first : Int) ∨ (M.next : Int) ≤ x) :
    Calls Tryz.prog 30 #[.pointer (some ⟨p, 0, none⟩), .int .i64 x] w fun e w' => e = .returned (.tuple #[.slice none 0 0, err 6]) ∧ Only [] w w' := by
  obtain ⟨vs, vt', vn, vr', hm⟩ := h.jm
  exact (jget_no hm (r.big hc.b1 hc.b2) x (by rw [r.first, r.next]; exact hx)).mono fun e w' ⟨h1, h2⟩ => ⟨h1, h2.only⟩
/-- A slice that was made since is written over. -/
theorem PM.over (h : PM w0 w F m p q a d j s vr vt vm gs M g5 gc op cur l) (o1 : Only [] w w1) (hv : Own w1 w.heap.size v r) (o2 : Only [] w1 w2) (o3 : Only v.ownBlock.toList w2 w3) : PM w0 w3 F m p q a d j s vr vt vm gs M g5 gc op cur l := by
  cases hb : v.ownBlock
  · rw [hb] at o3
    exact ((h.quiet o1).quiet o2).quiet o3
  · rename_i g
    rw [hb] at o3
    have hg := (hv.lt hb).1
    obtain ⟨cur', hcur⟩ : ∃ cur', w1.heap[g]? = some (.cells cur' 5 (0, 0)) := by
      rcases hv.2 with ⟨rfl, _⟩ | ⟨g', cap, cur', rfl, _, hg', _⟩
      · cases hb
      · obtain rfl : g' = g := by simpa [Value.ownBlock] using hb
        exact ⟨_, hg'⟩
    have m2 := (h.ms.add o1 hg hcur).quiet o2
    refine h.to (m2.over (S := [g]) (o3.mono (by simp)) (fun k hk => ?_) (fun x hx => ⟨List.mem_cons_of_mem _ hx, fun hm => ?_⟩))
    · rw [List.mem_singleton.1 hk]
      exact ⟨Nat.le_trans h.ms.only.size hg, _, List.mem_cons_self ..⟩
    · have h1 := (Array.getElem?_eq_some_iff.1 (h.ms.keep x hx)).1
      have h2 := List.mem_singleton.1 hm
      omega
set_option maxRecDepth 100000 in
set_option maxHeartbeats 2000000 in
theorem play_trim (h : MS w0 w F m p q a d j s vr vt vm gs M) (r : MR (1 + 2 * (c : Int)) d s j M) (hc : MB c M) (hn : M.n = n) (hc1 : c + 1 ≤ 100000) (hb : BytesF w0 F rv l) (hl : l.length ≤ 1048576) (hnn1 : -9223372036854775808 ≤ nn) (hnn2 : nn ≤ 9223372036854775807) :
    Calls Tryz.prog 8 #[.pointer (some ⟨m, 0, none⟩), .agg (op4 5 nn rv kv)] w (PQ w0 F m a n c) := by
  have R := Lib.hid r
  have C := Lib.hid hc
  have HB := Lib.hid hb
  have o1 : Only [] w (w.alloc (.cells (op4 5 nn rv kv) 30)) := (Only.refl [] w).alloc _
  have H1 := Lib.hid (h.add o1 (g := w.heap.size) (Nat.le_refl _) (heap_new w _))
  obtain ⟨ra, rc, rfl, -⟩ := id (hb w h.only h.keep)
  have HFAR := Lib.hid (show ∀ x ∈ F, x.1 < w.heap.size from fun x hx => (Array.getElem?_eq_some_iff.1 (h.keep x hx)).1)
  have hg5 : w0.heap.size ≤ w.heap.size := h.only.size
  obtain ⟨g5, hg5e⟩ : ∃ g5, w.heap.size = g5 := ⟨_, rfl⟩
  rw [hg5e] at H1 HFAR hg5
  have k1 : (w.alloc (.cells (op4 5 nn (.slice ra l.length rc) kv) 30)).cell? ⟨g5, 1, none⟩ = some (.slice ra l.length rc) := cell_at 1 (H1.out.keep (g5, .cells (op4 5 nn (.slice ra l.length rc) kv) 30) (by simp))
  have z1 : (w.alloc (.cells (op4 5 nn (.slice ra l.length rc) kv) 30)).heap.size = g5 + 1 := by rw [← hg5e]; exact Array.size_push _
  clear h r hc hb o1
  go_enter Tryz.func8, Tryz.ntmps8
  go_wp2_with fail
  generalize w.alloc _ = w1 at H1 k1 z1 ⊢
  refine (Copy_any _ l w1 (HB.out w1 H1.out.only (fun x hx => H1.out.keep x (by simp [hx]))) (by omega)).mono ?_
  rintro e w2 ⟨gc, rfl, ⟨cur, hcc, hcs, hcl⟩, hg, o2⟩
  have P2 := Lib.hid (show PM w0 w2 F m p q a d j s vr vt vm gs M g5 gc _ cur l from ⟨H1.out.add o2 hg hcc, hcs, hcl, by omega, fun x hx => by have := HFAR.out x hx; omega⟩)
  clear H1 k1 z1 hcc hcs hcl hg o2 HFAR hg5 hg5e
  go_wp2_with fail
  have oD : Only [] w2 w2.drew := (Only.refl [] w2).drew
  have P3 := Lib.hid (P2.out.quiet oD)
  obtain ⟨qa, qc, hvr⟩ := P3.out.ms.mm.shapeR
  obtain ⟨L, hL⟩ : ∃ L, L = gs.length := ⟨_, rfl⟩
  obtain ⟨fi, hfi⟩ : ∃ fi, fi = M.first := ⟨_, rfl⟩
  have c3 : w2.drew.cell? ⟨m, 3, none⟩ = some (.slice qa L qc) := by rw [hL, ← hvr]; exact cell_at 3 P3.out.ms.mm.blk
  have c5 : w2.drew.cell? ⟨m, 5, none⟩ = some (.int .i64 fi) := by rw [hfi]; exact cell_at 5 P3.out.ms.mm.blk
  have a2 : w2.drew.cell? ⟨g5, 2, none⟩ = some (.int .i64 nn) := P3.out.arg 2
  have hLb : L ≤ 1048576 := by rw [hL, P3.out.ms.mm.hlen]; have := C.out.b1; omega
  have hfb : fi ≤ 1048576 := by rw [hfi]; have := R.out.fle; have := C.out.b1; omega
  refine wp_region_held_drew (S := fun w' => w'.cell? ⟨m, 3, none⟩ = some (.slice qa L qc) ∧ w'.cell? ⟨m, 5, none⟩ = some (.int .i64 fi) ∧ w'.cell? ⟨g5, 2, none⟩ = some (.int .i64 nn)) (by kernel_rfl) ⟨c3, c5, a2⟩ (fun hH => ?_)
  have HFI := Lib.hid hfi
  clear oD P2 hvr hL hfi c3 c5 a2
  generalize w2.drew = w3 at P3 hH ⊢
  refine take_list (i := 0) (v := ?_) rfl (by kernel_rfl) (by kernel_rfl) (by kernel_rfl) (fun _ _ _ h => h) (Or.inl ⟨by rfl, ?_⟩) hH ?_
  rotate_left
  · ((intro w hSw; (try dsimp only at hSw); go_simp); try with_reducible rfl)
  simp only [Act.put, List.setIfInBounds_toArray, List.set_cons_zero, List.set_cons_succ]
  refine take_list (i := 1) (v := ?_) rfl (by kernel_rfl) (by kernel_rfl) (by kernel_rfl) (fun _ _ _ h => h) (Or.inl ⟨by rfl, ?_⟩) hH ?_
  rotate_left
  · ((intro w hSw; (try dsimp only at hSw); go_simp); try with_reducible rfl)
  simp only [Act.put, List.setIfInBounds_toArray, List.set_cons_zero, List.set_cons_succ]
  refine take_list (i := 2) (v := ?_) rfl (by kernel_rfl) (by kernel_rfl) (by kernel_rfl) (fun _ _ _ h => h) (Or.inl ⟨by rfl, ?_⟩) hH ?_
  rotate_left
  · ((intro w hSw; (try dsimp only at hSw); go_simp); try with_reducible rfl)
  simp only [Act.put, List.setIfInBounds_toArray, List.set_cons_zero, List.set_cons_succ]
  refine take_list (i := 3) (v := ?_) rfl (by kernel_rfl) (by kernel_rfl) (by kernel_rfl) (fun _ _ _ h => h) (Or.inl ⟨by rfl, ?_⟩) hH ?_
  rotate_left
  · ((intro w hSw; (try dsimp only at hSw); go_simp); try with_reducible rfl)
  simp only [Act.put, List.setIfInBounds_toArray, List.set_cons_zero, List.set_cons_succ]
  refine take_list (i := 4) (v := ?_) rfl (by kernel_rfl) (by kernel_rfl) (by kernel_rfl) (fun _ _ _ h => h) (Or.inl ⟨by rfl, ?_⟩) hH ?_
  rotate_left
  · ((intro w hSw; (try dsimp only at hSw); go_simp); try with_reducible rfl)
  simp only [Act.put, List.setIfInBounds_toArray, List.set_cons_zero, List.set_cons_succ]
  refine take_list (i := 5) (v := ?_) rfl (by kernel_rfl) (by kernel_rfl) (by kernel_rfl) (fun _ _ _ h => h) (Or.inl ⟨by rfl, ?_⟩) hH ?_
  rotate_left
  · ((intro w hSw; (try dsimp only at hSw); go_simp); try with_reducible rfl)
  simp only [Act.put, List.setIfInBounds_toArray, List.set_cons_zero, List.set_cons_succ]
  refine take_list (i := 6) (v := ?_) rfl (by kernel_rfl) (by kernel_rfl) (by kernel_rfl) (fun _ _ _ h => h) (Or.inl ⟨by rfl, ?_⟩) hH ?_
  rotate_left
  · ((intro w hSw; (try dsimp only at hSw); go_simp); try with_reducible rfl)
  simp only [Act.put, List.setIfInBounds_toArray, List.set_cons_zero, List.set_cons_succ]
  refine take_list (i := 7) (v := ?_) rfl (by kernel_rfl) (by kernel_rfl) (by kernel_rfl) (fun _ _ _ h => h) (Or.inl ⟨by rfl, ?_⟩) hH ?_
  rotate_left
  · ((intro w hSw; (try dsimp only at hSw); go_simp); try with_reducible rfl)
  simp only [Act.put, List.setIfInBounds_toArray, List.set_cons_zero, List.set_cons_succ]
  obtain ⟨y0, hy0⟩ : ∃ y0 : Int, (if nn < -3 then -3 else nn) = y0 := ⟨_, rfl⟩
  have hy0b : -3 ≤ y0 := by
    rw [← hy0]
    split <;> omega
  rw [hy0]
  clear hy0
  refine take_list (i := 8) (v := ?_) rfl (by kernel_rfl) (by kernel_rfl) (by kernel_rfl) (fun _ _ _ h => h) (Or.inl ⟨by rfl, ?_⟩) hH ?_
  rotate_left
  · ((intro w hSw; (try dsimp only at hSw); go_simp); try with_reducible rfl)
  simp only [Act.put, List.setIfInBounds_toArray, List.set_cons_zero, List.set_cons_succ]
  refine take_list (i := 9) (v := ?_) rfl (by kernel_rfl) (by kernel_rfl) (by kernel_rfl) (fun _ _ _ h => h) (Or.inl ⟨by rfl, ?_⟩) hH ?_
  rotate_left
  · ((intro w hSw; (try dsimp only at hSw); go_simp); try with_reducible rfl)
  simp only [Act.put, List.setIfInBounds_toArray, List.set_cons_zero, List.set_cons_succ]
  refine take_list (i := 10) (v := ?_) rfl (by kernel_rfl) (by kernel_rfl) (by kernel_rfl) (fun _ _ _ h => h) (Or.inl ⟨by rfl, ?_⟩) hH ?_
  rotate_left
  · ((intro w hSw; (try dsimp only at hSw); go_simp); try with_reducible rfl)
  simp only [Act.put, List.setIfInBounds_toArray, List.set_cons_zero, List.set_cons_succ]
  refine take_list (i := 11) (v := ?_) rfl (by kernel_rfl) (by kernel_rfl) (by kernel_rfl) (fun _ _ _ h => h) (Or.inl ⟨by rfl, ?_⟩) hH ?_
  rotate_left
  · ((intro w hSw; (try dsimp only at hSw); go_simp); try with_reducible rfl)
  simp only [Act.put, List.setIfInBounds_toArray, List.set_cons_zero, List.set_cons_succ]
  refine take_list (i := 12) (v := ?_) rfl (by kernel_rfl) (by kernel_rfl) (by kernel_rfl) (fun _ _ _ h => h) (Or.inl ⟨by rfl, ?_⟩) hH ?_
  rotate_left
  · ((intro w hSw; (try dsimp only at hSw); go_simp); try with_reducible rfl)
  simp only [Act.put, List.setIfInBounds_toArray, List.set_cons_zero, List.set_cons_succ]
  refine take_list (i := 13) (v := ?_) rfl (by kernel_rfl) (by kernel_rfl) (by kernel_rfl) (fun _ _ _ h => h) (Or.inl ⟨by rfl, ?_⟩) hH ?_
  rotate_left
  · ((intro w hSw; (try dsimp only at hSw); go_simp); try with_reducible rfl)
  simp only [Act.put, List.setIfInBounds_toArray, List.set_cons_zero, List.set_cons_succ]
  refine take_list (i := 14) (v := ?_) rfl (by kernel_rfl) (by kernel_rfl) (by kernel_rfl) (fun _ _ _ h => h) (Or.inl ⟨by rfl, ?_⟩) hH ?_
  rotate_left
  · ((intro w hSw; (try dsimp only at hSw); go_simp); try with_reducible rfl)
  simp only [Act.put, List.setIfInBounds_toArray, List.set_cons_zero, List.set_cons_succ]
  obtain ⟨y, hy⟩ : ∃ y : Int, (if IntKind.i64.wrap ((L : Int) + 3) < y0 then IntKind.i64.wrap ((L : Int) + 3) else y0) = y := ⟨_, rfl⟩
  have hyb : -3 ≤ y ∧ y ≤ (L : Int) + 3 := by
    have hw : IntKind.i64.wrap ((L : Int) + 3) = (L : Int) + 3 := by rw [IntKind.wrap_i64]; omega
    rw [hw] at hy
    split at hy <;> omega
  rw [hy]
  clear hy hy0b
  obtain ⟨hy1, hy2⟩ := hyb
  obtain ⟨x, hx⟩ : ∃ x : Int, x = (fi : Int) + y := ⟨_, rfl⟩
  have wx : IntKind.i64.wrap ((fi : Int) + y) = x := by rw [hx, IntKind.wrap_i64]; omega
  have hx1 : -10 ≤ x := by omega
  have hx2 : x ≤ 4000000 := by omega
  clear hx
  refine take_list (i := 15) (v := ?_) rfl (by kernel_rfl) (by kernel_rfl) (by kernel_rfl) (fun _ _ _ h => h) (Or.inl ⟨by rfl, ?_⟩) hH ?_
  rotate_left
  · ((intro w hSw; (try dsimp only at hSw); go_simp); try with_reducible rfl)
  simp only [Act.put, List.setIfInBounds_toArray, List.set_cons_zero, List.set_cons_succ]
  refine take_list (i := 16) (v := ?_) rfl (by kernel_rfl) (by kernel_rfl) (by kernel_rfl) (fun _ _ _ h => h) (Or.inl ⟨by rfl, ?_⟩) hH ?_
  rotate_left
  · ((intro w hSw; (try dsimp only at hSw); go_simp); try with_reducible rfl)
  simp only [Act.put, List.setIfInBounds_toArray, List.set_cons_zero, List.set_cons_succ]
  refine wpAnyH_done (by kernel_rfl) ?_ _
  clear hH wx hy1 hy2 hLb hfb HFI
  have a0 : w3.cell? ⟨g5, 0, none⟩ = some (.int .i64 5) := P3.out.arg 0
  go_wp2_with fail
  have oE : Only [] w3 w3.drew := (Only.refl [] w3).drew
  have Q4 := Lib.hid (P3.out.quiet oE)
  have c2 : w3.drew.cell? ⟨m, 2, none⟩ = some (.pointer (some ⟨p, 0, none⟩)) := cell_at 2 Q4.out.ms.mm.blk
  have a1 : w3.drew.cell? ⟨g5, 1, none⟩ = some (.slice ra l.length rc) := Q4.out.arg 1
  refine wp_region_held_drew (S := fun w' => w'.cell? ⟨m, 2, none⟩ = some (.pointer (some ⟨p, 0, none⟩)) ∧ w'.cell? ⟨g5, 1, none⟩ = some (.slice ra l.length rc)) (by kernel_rfl) ⟨c2, a1⟩ (fun hH => ?_)
  clear c2 a1 oE P3 a0
  generalize w3.drew = w4 at Q4 hH ⊢
  have HOK := Lib.hid Q4.out.ms.ok
  refine take_list (i := 0) (v := ?_) rfl (by kernel_rfl) (by kernel_rfl) (by kernel_rfl) (fun _ _ _ h => h) (Or.inl ⟨by rfl, ?_⟩) hH ?_
  rotate_left
  · ((intro w hSw; (try dsimp only at hSw); go_simp); try with_reducible rfl)
  simp only [Act.put, List.setIfInBounds_toArray, List.set_cons_zero, List.set_cons_succ]
  refine take_list (i := 1) (v := ?_) rfl (by kernel_rfl) (by kernel_rfl) (by kernel_rfl) (fun _ _ _ h => h) (Or.inl ⟨by rfl, ?_⟩) hH ?_
  rotate_left
  · ((intro w hSw; (try dsimp only at hSw); go_simp); try with_reducible rfl)
  simp only [Act.put, List.setIfInBounds_toArray, List.set_cons_zero, List.set_cons_succ]
  refine take_list (i := 2) (v := ?_) rfl (by kernel_rfl) (by kernel_rfl) (by kernel_rfl) (fun _ _ _ h => h) (Or.inl ⟨by rfl, ?_⟩) hH ?_
  rotate_left
  · ((intro w hSw; (try dsimp only at hSw); go_simp); try with_reducible rfl)
  simp only [Act.put, List.setIfInBounds_toArray, List.set_cons_zero, List.set_cons_succ]
  refine take_list (i := 3) (v := ?_) rfl (by kernel_rfl) (by kernel_rfl) (by kernel_rfl) (fun _ _ _ h => h) (Or.inl ⟨by rfl, ?_⟩) hH ?_
  rotate_left
  · ((intro w hSw; (try dsimp only at hSw); go_simp); try with_reducible rfl)
  simp only [Act.put, List.setIfInBounds_toArray, List.set_cons_zero, List.set_cons_succ]
  refine take_list (i := 4) (v := ?_) rfl (by kernel_rfl) (by kernel_rfl) (by kernel_rfl) (fun _ _ _ h => h) (Or.inl ⟨by rfl, ?_⟩) hH ?_
  rotate_left
  · ((intro w hSw; (try dsimp only at hSw); go_simp); try with_reducible rfl)
  simp only [Act.put, List.setIfInBounds_toArray, List.set_cons_zero, List.set_cons_succ]
  refine take_list (i := 5) (v := ?_) rfl (by kernel_rfl) (by kernel_rfl) (by kernel_rfl) (fun _ _ _ h => h) (Or.inl ⟨by rfl, ?_⟩) hH ?_
  rotate_left
  · ((intro w hSw; (try dsimp only at hSw); go_simp); try with_reducible rfl)
  simp only [Act.put, List.setIfInBounds_toArray, List.set_cons_zero, List.set_cons_succ]
  refine take_list (i := 6) (v := ?_) rfl (by kernel_rfl) (by kernel_rfl) (by kernel_rfl) (fun _ _ _ h => h) (Or.inl ⟨by rfl, ?_⟩) hH ?_
  rotate_left
  · ((intro w hSw; (try dsimp only at hSw); go_simp); try with_reducible rfl)
  simp only [Act.put, List.setIfInBounds_toArray, List.set_cons_zero, List.set_cons_succ]
  refine take_list (i := 7) (v := ?_) rfl (by kernel_rfl) (by kernel_rfl) (by kernel_rfl) (fun _ _ _ h => h) (Or.inl ⟨by rfl, ?_⟩) hH ?_
  rotate_left
  · ((intro w hSw; (try dsimp only at hSw); go_simp); try with_reducible rfl)
  simp only [Act.put, List.setIfInBounds_toArray, List.set_cons_zero, List.set_cons_succ]
  refine take_list (i := 8) (v := ?_) rfl (by kernel_rfl) (by kernel_rfl) (by kernel_rfl) (fun _ _ _ h => h) (Or.inl ⟨by rfl, ?_⟩) hH ?_
  rotate_left
  · ((intro w hSw; (try dsimp only at hSw); go_simp); try with_reducible rfl)
  simp only [Act.put, List.setIfInBounds_toArray, List.set_cons_zero, List.set_cons_succ]
  refine take_list (i := 9) (v := ?_) rfl (by kernel_rfl) (by kernel_rfl) (by kernel_rfl) (fun _ _ _ h => h) (Or.inl ⟨by rfl, ?_⟩) hH ?_
  rotate_left
  · ((intro w hSw; (try dsimp only at hSw); go_simp); try with_reducible rfl)
  simp only [Act.put, List.setIfInBounds_toArray, List.set_cons_zero, List.set_cons_succ]
  refine wpAnyH_ready (rs := [10]) (by kernel_rfl) (by simp) ?_
  refine ready_list rfl (fun K hK => ?_)
  go_simp
  refine (trim_F Q4.out.ms (R.out.big C.out.b1 C.out.b2) x _ l Q4.out.copy.bytes (Q4.out.inF _ _) (by omega)).mono ?_
  rintro e w5 ⟨rfl, m5⟩
  have Q5 := Lib.hid (Q4.out.to m5)
  have hh := And.intro (show w5.cell? ⟨m, 2, none⟩ = some (.pointer (some ⟨p, 0, none⟩)) from cell_at 2 Q5.out.ms.mm.blk) (show w5.cell? ⟨g5, 1, none⟩ = some (.slice ra l.length rc) from Q5.out.arg 1)
  refine hK.out _ _ hh (fun hH => ?_)
  clear hK K hh m5 Q4
  have KT := mtrim_all x Q5.out.ms R.out HOK.out C.out hc1 (Q5.out.bytesF HB.out)
  generalize errV (j.trimR d s x l).c = ev at KT ⊢
  refine wpAnyH_ready (rs := [11]) (by kernel_rfl) (by simp) ?_
  refine ready_list rfl (fun K hK => ?_)
  go_simp
  refine KT.mono ?_
  rintro e w6 ⟨rfl, vm6, M6, m6, r6, b6, n6⟩
  have Q6 := Lib.hid (Q5.out.to m6)
  have NX := Lib.hid (And.intro r6 (And.intro b6 (n6.trans hn)))
  have hh := And.intro (show w6.cell? ⟨m, 2, none⟩ = some (.pointer (some ⟨p, 0, none⟩)) from cell_at 2 Q6.out.ms.mm.blk) (show w6.cell? ⟨g5, 1, none⟩ = some (.slice ra l.length rc) from Q6.out.arg 1)
  refine hK.out _ _ hh (fun hH => ?_)
  clear hK K hh m6 r6 b6 n6 KT Q5
  refine take_list (i := 12) (v := ?_) rfl (by kernel_rfl) (by kernel_rfl) (by kernel_rfl) (fun _ _ _ h => h) (Or.inl ⟨by rfl, ?_⟩) hH ?_
  rotate_left
  · ((intro w hSw; (try dsimp only at hSw); go_simp); try with_reducible rfl)
  simp only [Act.put, List.setIfInBounds_toArray, List.set_cons_zero, List.set_cons_succ]
  refine wpAnyH_done (by kernel_rfl) ?_ _
  clear hH
  have a1 : w6.cell? ⟨g5, 1, none⟩ = some (.slice ra l.length rc) := Q6.out.arg 1
  go_wp2_with fail
  refine (Kept_any gc _ l _ Q6.out.copy (Q6.out.bytesF HB.out) (by omega)).mono ?_
  rintro e wt7 ⟨rfl, o7⟩
  have Qt7 := Lib.hid (Q6.out.quiet o7)
  clear o7 Q6 a1
  go_wp2_with fail
  refine (over_any _ l.length _ (Qt7.out.copy.row (by unfold maxLen; omega)) (by omega)).mono ?_
  rintro e wt8 ⟨rfl, _, o8⟩
  have m8 := Qt7.out.done (o8.mono (fun k hk => by simpa [Value.ownBlock, eq_comm] using hk))
  have M8 := Lib.hid m8
  clear o8 m8 Qt7
  go_wp2_with fail
  go_ret
  exact ⟨rfl, _, _, _, _, _, _, _, _, _, _, M8.out, NX.out.1, NX.out.2.1, NX.out.2.2⟩
set_option maxRecDepth 100000 in
set_option maxHeartbeats 3000000 in
theorem play_get (h : MS w0 w F m p q a d j s vr vt vm gs M) (r : MR (1 + 2 * (c : Int)) d s j M) (hc : MB c M) (hn : M.n = n) (hc1 : c + 1 ≤ 100000) (hb : BytesF w0 F rv l) (hl : l.length ≤ 1048576) (hnn1 : -9223372036854775808 ≤ nn) (hnn2 : nn ≤ 9223372036854775807) :
    Calls Tryz.prog 8 #[.pointer (some ⟨m, 0, none⟩), .agg (op4 6 nn rv kv)] w (PQ w0 F m a n c) := by
  have q6 := err66
  have qn := nil66
  have q0 := iface_nil
  have qe := iface_err 6
  obtain ⟨fm, hfm⟩ : ∃ fm : Nat, fm = M.first := ⟨_, rfl⟩
  obtain ⟨nx, hnx⟩ : ∃ nx : Nat, nx = M.next := ⟨_, rfl⟩
  have HFM := Lib.hid hfm
  have HNX := Lib.hid hnx
  clear hfm hnx
  have R := Lib.hid r
  have C := Lib.hid hc
  have HB := Lib.hid hb
  have o1 : Only [] w (w.alloc (.cells (op4 6 nn rv kv) 30)) := (Only.refl [] w).alloc _
  have H1 := Lib.hid (h.add o1 (g := w.heap.size) (Nat.le_refl _) (heap_new w _))
  obtain ⟨ra, rc, rfl, -⟩ := id (hb w h.only h.keep)
  have HFAR := Lib.hid (show ∀ x ∈ F, x.1 < w.heap.size from fun x hx => (Array.getElem?_eq_some_iff.1 (h.keep x hx)).1)
  have hg5 : w0.heap.size ≤ w.heap.size := h.only.size
  obtain ⟨g5, hg5e⟩ : ∃ g5, w.heap.size = g5 := ⟨_, rfl⟩
  rw [hg5e] at H1 HFAR hg5
  have k1 : (w.alloc (.cells (op4 6 nn (.slice ra l.length rc) kv) 30)).cell? ⟨g5, 1, none⟩ = some (.slice ra l.length rc) := cell_at 1 (H1.out.keep (g5, .cells (op4 6 nn (.slice ra l.length rc) kv) 30) (by simp))
  have z1 : (w.alloc (.cells (op4 6 nn (.slice ra l.length rc) kv) 30)).heap.size = g5 + 1 := by rw [← hg5e]; exact Array.size_push _
  clear h r hc hb o1
  go_enter Tryz.func8, Tryz.ntmps8
  go_wp2_with fail
  generalize w.alloc _ = w1 at H1 k1 z1 ⊢
  refine (Copy_any _ l w1 (HB.out w1 H1.out.only (fun x hx => H1.out.keep x (by simp [hx]))) (by omega)).mono ?_
  rintro e w2 ⟨gc, rfl, ⟨cur, hcc, hcs, hcl⟩, hg, o2⟩
  have P2 := Lib.hid (show PM w0 w2 F m p q a d j s vr vt vm gs M g5 gc _ cur l from ⟨H1.out.add o2 hg hcc, hcs, hcl, by omega, fun x hx => by have := HFAR.out x hx; omega⟩)
  clear H1 k1 z1 hcc hcs hcl hg o2 HFAR hg5 hg5e
  go_wp2_with fail
  have oD : Only [] w2 w2.drew := (Only.refl [] w2).drew
  have P3 := Lib.hid (P2.out.quiet oD)
  obtain ⟨qa, qc, hvr⟩ := P3.out.ms.mm.shapeR
  obtain ⟨L, hL⟩ : ∃ L, L = gs.length := ⟨_, rfl⟩
  obtain ⟨fi, hfi⟩ : ∃ fi, fi = M.first := ⟨_, rfl⟩
  have c3 : w2.drew.cell? ⟨m, 3, none⟩ = some (.slice qa L qc) := by rw [hL, ← hvr]; exact cell_at 3 P3.out.ms.mm.blk
  have c5 : w2.drew.cell? ⟨m, 5, none⟩ = some (.int .i64 fi) := by rw [hfi]; exact cell_at 5 P3.out.ms.mm.blk
  have a2 : w2.drew.cell? ⟨g5, 2, none⟩ = some (.int .i64 nn) := P3.out.arg 2
  have hLb : L ≤ 1048576 := by rw [hL, P3.out.ms.mm.hlen]; have := C.out.b1; omega
  have hfb : fi ≤ 1048576 := by rw [hfi]; have := R.out.fle; have := C.out.b1; omega
  refine wp_region_held_drew (S := fun w' => w'.cell? ⟨m, 3, none⟩ = some (.slice qa L qc) ∧ w'.cell? ⟨m, 5, none⟩ = some (.int .i64 fi) ∧ w'.cell? ⟨g5, 2, none⟩ = some (.int .i64 nn)) (by kernel_rfl) ⟨c3, c5, a2⟩ (fun hH => ?_)
  have HFI := Lib.hid hfi
  clear oD P2 hvr hL hfi c3 c5 a2
  generalize w2.drew = w3 at P3 hH ⊢
  refine take_list (i := 0) (v := ?_) rfl (by kernel_rfl) (by kernel_rfl) (by kernel_rfl) (fun _ _ _ h => h) (Or.inl ⟨by rfl, ?_⟩) hH ?_
  rotate_left
  · ((intro w hSw; (try dsimp only at hSw); go_simp); try with_reducible rfl)
  simp only [Act.put, List.setIfInBounds_toArray, List.set_cons_zero, List.set_cons_succ]
  refine take_list (i := 1) (v := ?_) rfl (by kernel_rfl) (by kernel_rfl) (by kernel_rfl) (fun _ _ _ h => h) (Or.inl ⟨by rfl, ?_⟩) hH ?_
  rotate_left
  · ((intro w hSw; (try dsimp only at hSw); go_simp); try with_reducible rfl)
  simp only [Act.put, List.setIfInBounds_toArray, List.set_cons_zero, List.set_cons_succ]
  refine take_list (i := 2) (v := ?_) rfl (by kernel_rfl) (by kernel_rfl) (by kernel_rfl) (fun _ _ _ h => h) (Or.inl ⟨by rfl, ?_⟩) hH ?_
  rotate_left
  · ((intro w hSw; (try dsimp only at hSw); go_simp); try with_reducible rfl)
  simp only [Act.put, List.setIfInBounds_toArray, List.set_cons_zero, List.set_cons_succ]
  refine take_list (i := 3) (v := ?_) rfl (by kernel_rfl) (by kernel_rfl) (by kernel_rfl) (fun _ _ _ h => h) (Or.inl ⟨by rfl, ?_⟩) hH ?_
  rotate_left
  · ((intro w hSw; (try dsimp only at hSw); go_simp); try with_reducible rfl)
  simp only [Act.put, List.setIfInBounds_toArray, List.set_cons_zero, List.set_cons_succ]
  refine take_list (i := 4) (v := ?_) rfl (by kernel_rfl) (by kernel_rfl) (by kernel_rfl) (fun _ _ _ h => h) (Or.inl ⟨by rfl, ?_⟩) hH ?_
  rotate_left
  · ((intro w hSw; (try dsimp only at hSw); go_simp); try with_reducible rfl)
  simp only [Act.put, List.setIfInBounds_toArray, List.set_cons_zero, List.set_cons_succ]
  refine take_list (i := 5) (v := ?_) rfl (by kernel_rfl) (by kernel_rfl) (by kernel_rfl) (fun _ _ _ h => h) (Or.inl ⟨by rfl, ?_⟩) hH ?_
  rotate_left
  · ((intro w hSw; (try dsimp only at hSw); go_simp); try with_reducible rfl)
  simp only [Act.put, List.setIfInBounds_toArray, List.set_cons_zero, List.set_cons_succ]
  refine take_list (i := 6) (v := ?_) rfl (by kernel_rfl) (by kernel_rfl) (by kernel_rfl) (fun _ _ _ h => h) (Or.inl ⟨by rfl, ?_⟩) hH ?_
  rotate_left
  · ((intro w hSw; (try dsimp only at hSw); go_simp); try with_reducible rfl)
  simp only [Act.put, List.setIfInBounds_toArray, List.set_cons_zero, List.set_cons_succ]
  refine take_list (i := 7) (v := ?_) rfl (by kernel_rfl) (by kernel_rfl) (by kernel_rfl) (fun _ _ _ h => h) (Or.inl ⟨by rfl, ?_⟩) hH ?_
  rotate_left
  · ((intro w hSw; (try dsimp only at hSw); go_simp); try with_reducible rfl)
  simp only [Act.put, List.setIfInBounds_toArray, List.set_cons_zero, List.set_cons_succ]
  obtain ⟨y0, hy0⟩ : ∃ y0 : Int, (if nn < -3 then -3 else nn) = y0 := ⟨_, rfl⟩
  have hy0b : -3 ≤ y0 := by
    rw [← hy0]
    split <;> omega
  rw [hy0]
  clear hy0
  refine take_list (i := 8) (v := ?_) rfl (by kernel_rfl) (by kernel_rfl) (by kernel_rfl) (fun _ _ _ h => h) (Or.inl ⟨by rfl, ?_⟩) hH ?_
  rotate_left
  · ((intro w hSw; (try dsimp only at hSw); go_simp); try with_reducible rfl)
  simp only [Act.put, List.setIfInBounds_toArray, List.set_cons_zero, List.set_cons_succ]
  refine take_list (i := 9) (v := ?_) rfl (by kernel_rfl) (by kernel_rfl) (by kernel_rfl) (fun _ _ _ h => h) (Or.inl ⟨by rfl, ?_⟩) hH ?_
  rotate_left
  · ((intro w hSw; (try dsimp only at hSw); go_simp); try with_reducible rfl)
  simp only [Act.put, List.setIfInBounds_toArray, List.set_cons_zero, List.set_cons_succ]
  refine take_list (i := 10) (v := ?_) rfl (by kernel_rfl) (by kernel_rfl) (by kernel_rfl) (fun _ _ _ h => h) (Or.inl ⟨by rfl, ?_⟩) hH ?_
  rotate_left
  · ((intro w hSw; (try dsimp only at hSw); go_simp); try with_reducible rfl)
  simp only [Act.put, List.setIfInBounds_toArray, List.set_cons_zero, List.set_cons_succ]
  refine take_list (i := 11) (v := ?_) rfl (by kernel_rfl) (by kernel_rfl) (by kernel_rfl) (fun _ _ _ h => h) (Or.inl ⟨by rfl, ?_⟩) hH ?_
  rotate_left
  · ((intro w hSw; (try dsimp only at hSw); go_simp); try with_reducible rfl)
  simp only [Act.put, List.setIfInBounds_toArray, List.set_cons_zero, List.set_cons_succ]
  refine take_list (i := 12) (v := ?_) rfl (by kernel_rfl) (by kernel_rfl) (by kernel_rfl) (fun _ _ _ h => h) (Or.inl ⟨by rfl, ?_⟩) hH ?_
  rotate_left
  · ((intro w hSw; (try dsimp only at hSw); go_simp); try with_reducible rfl)
  simp only [Act.put, List.setIfInBounds_toArray, List.set_cons_zero, List.set_cons_succ]
  refine take_list (i := 13) (v := ?_) rfl (by kernel_rfl) (by kernel_rfl) (by kernel_rfl) (fun _ _ _ h => h) (Or.inl ⟨by rfl, ?_⟩) hH ?_
  rotate_left
  · ((intro w hSw; (try dsimp only at hSw); go_simp); try with_reducible rfl)
  simp only [Act.put, List.setIfInBounds_toArray, List.set_cons_zero, List.set_cons_succ]
  refine take_list (i := 14) (v := ?_) rfl (by kernel_rfl) (by kernel_rfl) (by kernel_rfl) (fun _ _ _ h => h) (Or.inl ⟨by rfl, ?_⟩) hH ?_
  rotate_left
  · ((intro w hSw; (try dsimp only at hSw); go_simp); try with_reducible rfl)
  simp only [Act.put, List.setIfInBounds_toArray, List.set_cons_zero, List.set_cons_succ]
  obtain ⟨y, hy⟩ : ∃ y : Int, (if IntKind.i64.wrap ((L : Int) + 3) < y0 then IntKind.i64.wrap ((L : Int) + 3) else y0) = y := ⟨_, rfl⟩
  have hyb : -3 ≤ y ∧ y ≤ (L : Int) + 3 := by
    have hw : IntKind.i64.wrap ((L : Int) + 3) = (L : Int) + 3 := by rw [IntKind.wrap_i64]; omega
    rw [hw] at hy
    split at hy <;> omega
  rw [hy]
  clear hy hy0b
  obtain ⟨hy1, hy2⟩ := hyb
  obtain ⟨x, hx⟩ : ∃ x : Int, x = (fi : Int) + y := ⟨_, rfl⟩
  have wx : IntKind.i64.wrap ((fi : Int) + y) = x := by rw [hx, IntKind.wrap_i64]; omega
  have hx1 : -10 ≤ x := by omega
  have hx2 : x ≤ 4000000 := by omega
  clear hx
  refine take_list (i := 15) (v := ?_) rfl (by kernel_rfl) (by kernel_rfl) (by kernel_rfl) (fun _ _ _ h => h) (Or.inl ⟨by rfl, ?_⟩) hH ?_
  rotate_left
  · ((intro w hSw; (try dsimp only at hSw); go_simp); try with_reducible rfl)
  simp only [Act.put, List.setIfInBounds_toArray, List.set_cons_zero, List.set_cons_succ]
  refine take_list (i := 16) (v := ?_) rfl (by kernel_rfl) (by kernel_rfl) (by kernel_rfl) (fun _ _ _ h => h) (Or.inl ⟨by rfl, ?_⟩) hH ?_
  rotate_left
  · ((intro w hSw; (try dsimp only at hSw); go_simp); try with_reducible rfl)
  simp only [Act.put, List.setIfInBounds_toArray, List.set_cons_zero, List.set_cons_succ]
  refine wpAnyH_done (by kernel_rfl) ?_ _
  clear hH wx hy1 hy2 hLb hfb HFI
  have a0 : w3.cell? ⟨g5, 0, none⟩ = some (.int .i64 6) := P3.out.arg 0
  have c2 : w3.cell? ⟨m, 2, none⟩ = some (.pointer (some ⟨p, 0, none⟩)) := cell_at 2 P3.out.ms.mm.blk
  go_wp2_with fail
  by_cases hlo : x < (fm : Int)
  · have KG := get_no P3.out.ms R.out C.out x (.inl (by rw [← HFM.out]; exact hlo))
    refine KG.mono ?_
    rintro e w4 ⟨rfl, o4⟩
    have Q4 := Lib.hid (P3.out.quiet o4)
    clear KG o4 P3 c2 a0
    go_wp2_with fail
    have oE : Only [] w4 w4.drew := (Only.refl [] w4).drew
    have Q5 := Lib.hid (Q4.out.quiet oE)
    have c5 : w4.drew.cell? ⟨m, 5, none⟩ = some (.int .i64 fm) := by rw [HFM.out]; exact cell_at 5 Q5.out.ms.mm.blk
    refine wp_region_held_drew (S := fun w' => w'.cell? ⟨m, 5, none⟩ = some (.int .i64 fm)) (by kernel_rfl) c5 (fun hH => ?_)
    clear c5 oE Q4
    generalize w4.drew = w5 at Q5 hH ⊢
    refine take_list (i := 0) (v := ?_) rfl (by kernel_rfl) (by kernel_rfl) (by kernel_rfl) (fun _ _ _ h => h) (Or.inl ⟨by rfl, ?_⟩) hH ?_
    rotate_left
    · ((intro w hSw; (try dsimp only at hSw); go_simp); try with_reducible rfl)
    simp only [Act.put, List.setIfInBounds_toArray, List.set_cons_zero, List.set_cons_succ]
    refine take_list (i := 1) (v := ?_) rfl (by kernel_rfl) (by kernel_rfl) (by kernel_rfl) (fun _ _ _ h => h) (Or.inl ⟨by rfl, ?_⟩) hH ?_
    rotate_left
    · ((intro w hSw; (try dsimp only at hSw); go_simp); try with_reducible rfl)
    simp only [Act.put, List.setIfInBounds_toArray, List.set_cons_zero, List.set_cons_succ]
    refine take_list (i := 2) (v := ?_) rfl (by kernel_rfl) (by kernel_rfl) (by kernel_rfl) (fun _ _ _ h => h) (Or.inl ⟨by rfl, ?_⟩) hH ?_
    rotate_left
    · ((intro w hSw; (try dsimp only at hSw); go_simp); try with_reducible rfl)
    simp only [Act.put, List.setIfInBounds_toArray, List.set_cons_zero, List.set_cons_succ]
    refine take_list (i := 3) (v := ?_) rfl (by kernel_rfl) (by kernel_rfl) (by kernel_rfl) (fun _ _ _ h => h) (Or.inl ⟨by rfl, ?_⟩) hH ?_
    rotate_left
    · ((intro w hSw; (try dsimp only at hSw); go_simp); try with_reducible rfl)
    simp only [Act.put, List.setIfInBounds_toArray, List.set_cons_zero, List.set_cons_succ]
    refine take_list (i := 4) (v := ?_) rfl (by kernel_rfl) (by kernel_rfl) (by kernel_rfl) (fun _ _ _ h => h) (Or.inl ⟨by rfl, ?_⟩) hH ?_
    rotate_left
    · ((intro w hSw; (try dsimp only at hSw); go_simp); try with_reducible rfl)
    simp only [Act.put, List.setIfInBounds_toArray, List.set_cons_zero, List.set_cons_succ]
    refine take_list (i := 5) (v := ?_) rfl (by kernel_rfl) (by kernel_rfl) (by kernel_rfl) (fun _ _ _ h => h) (Or.inl ⟨by rfl, ?_⟩) hH ?_
    rotate_left
    · ((intro w hSw; (try dsimp only at hSw); go_simp); try with_reducible rfl)
    simp only [Act.put, List.setIfInBounds_toArray, List.set_cons_zero, List.set_cons_succ]
    refine take_list (i := 6) (v := ?_) rfl (by kernel_rfl) (by kernel_rfl) (by kernel_rfl) (fun _ _ _ h => h) (Or.inl ⟨by rfl, ?_⟩) hH ?_
    rotate_left
    · ((intro w hSw; (try dsimp only at hSw); go_simp); try with_reducible rfl)
    simp only [Act.put, List.setIfInBounds_toArray, List.set_cons_zero, List.set_cons_succ]
    refine take_list (i := 7) (v := ?_) rfl (by kernel_rfl) (by kernel_rfl) (by kernel_rfl) (fun _ _ _ h => h) (Or.inl ⟨by rfl, ?_⟩) hH ?_
    rotate_left
    · ((intro w hSw; (try dsimp only at hSw); go_simp); try with_reducible rfl)
    simp only [Act.put, List.setIfInBounds_toArray, List.set_cons_zero, List.set_cons_succ]
    refine take_list (i := 8) (v := ?_) rfl (by kernel_rfl) (by kernel_rfl) (by kernel_rfl) (fun _ _ _ h => h) (Or.inl ⟨by rfl, ?_⟩) hH ?_
    rotate_left
    · ((intro w hSw; (try dsimp only at hSw); go_simp); try with_reducible rfl)
    simp only [Act.put, List.setIfInBounds_toArray, List.set_cons_zero, List.set_cons_succ]
    refine take_list (i := 9) (v := ?_) rfl (by kernel_rfl) (by kernel_rfl) (by kernel_rfl) (fun _ _ _ h => h) (Or.inl ⟨by rfl, ?_⟩) hH ?_
    rotate_left
    · ((intro w hSw; (try dsimp only at hSw); go_simp); try with_reducible rfl)
    simp only [Act.put, List.setIfInBounds_toArray, List.set_cons_zero, List.set_cons_succ]
    refine take_list (i := 10) (v := ?_) rfl (by kernel_rfl) (by kernel_rfl) (by kernel_rfl) (fun _ _ _ h => h) (Or.inl ⟨by rfl, ?_⟩) hH ?_
    rotate_left
    · ((intro w hSw; (try dsimp only at hSw); go_simp); try with_reducible rfl)
    simp only [Act.put, List.setIfInBounds_toArray, List.set_cons_zero, List.set_cons_succ]
    refine take_list (i := 11) (v := ?_) rfl (by kernel_rfl) (by kernel_rfl) (by kernel_rfl) (fun _ _ _ h => h) (Or.inl ⟨by rfl, ?_⟩) hH ?_
    rotate_left
    · ((intro w hSw; (try dsimp only at hSw); go_simp); try with_reducible rfl)
    simp only [Act.put, List.setIfInBounds_toArray, List.set_cons_zero, List.set_cons_succ]
    refine take_list (i := 12) (v := undef) rfl (by kernel_rfl) (by kernel_rfl) (by kernel_rfl) (fun _ _ _ h => h) (Or.inr ⟨by rfl, rfl⟩) hH ?_
    simp only [Act.put, List.setIfInBounds_toArray, List.set_cons_zero, List.set_cons_succ]
    refine take_list (i := 13) (v := undef) rfl (by kernel_rfl) (by kernel_rfl) (by kernel_rfl) (fun _ _ _ h => h) (Or.inr ⟨by rfl, rfl⟩) hH ?_
    simp only [Act.put, List.setIfInBounds_toArray, List.set_cons_zero, List.set_cons_succ]
    refine take_list (i := 14) (v := undef) rfl (by kernel_rfl) (by kernel_rfl) (by kernel_rfl) (fun _ _ _ h => h) (Or.inr ⟨by rfl, rfl⟩) hH ?_
    simp only [Act.put, List.setIfInBounds_toArray, List.set_cons_zero, List.set_cons_succ]
    refine take_list (i := 15) (v := undef) rfl (by kernel_rfl) (by kernel_rfl) (by kernel_rfl) (fun _ _ _ h => h) (Or.inr ⟨by rfl, rfl⟩) hH ?_
    simp only [Act.put, List.setIfInBounds_toArray, List.set_cons_zero, List.set_cons_succ]
    refine take_list (i := 16) (v := ?_) rfl (by kernel_rfl) (by kernel_rfl) (by kernel_rfl) (fun _ _ _ h => h) (Or.inl ⟨by rfl, ?_⟩) hH ?_
    rotate_left
    · ((intro w hSw; (try dsimp only at hSw); go_simp); try with_reducible rfl)
    simp only [Act.put, List.setIfInBounds_toArray, List.set_cons_zero, List.set_cons_succ]
    refine take_list (i := 17) (v := ?_) rfl (by kernel_rfl) (by kernel_rfl) (by kernel_rfl) (fun _ _ _ h => h) (Or.inl ⟨by rfl, ?_⟩) hH ?_
    rotate_left
    · ((intro w hSw; (try dsimp only at hSw); go_simp); try with_reducible rfl)
    simp only [Act.put, List.setIfInBounds_toArray, List.set_cons_zero, List.set_cons_succ]
    refine take_list (i := 18) (v := ?_) rfl (by kernel_rfl) (by kernel_rfl) (by kernel_rfl) (fun _ _ _ h => h) (Or.inl ⟨by rfl, ?_⟩) hH ?_
    rotate_left
    · ((intro w hSw; (try dsimp only at hSw); go_simp); try with_reducible rfl)
    simp only [Act.put, List.setIfInBounds_toArray, List.set_cons_zero, List.set_cons_succ]
    refine take_list (i := 19) (v := undef) rfl (by kernel_rfl) (by kernel_rfl) (by kernel_rfl) (fun _ _ _ h => h) (Or.inr ⟨by rfl, rfl⟩) hH ?_
    simp only [Act.put, List.setIfInBounds_toArray, List.set_cons_zero, List.set_cons_succ]
    refine take_list (i := 20) (v := undef) rfl (by kernel_rfl) (by kernel_rfl) (by kernel_rfl) (fun _ _ _ h => h) (Or.inr ⟨by rfl, rfl⟩) hH ?_
    simp only [Act.put, List.setIfInBounds_toArray, List.set_cons_zero, List.set_cons_succ]
    refine take_list (i := 21) (v := undef) rfl (by kernel_rfl) (by kernel_rfl) (by kernel_rfl) (fun _ _ _ h => h) (Or.inr ⟨by rfl, rfl⟩) hH ?_
    simp only [Act.put, List.setIfInBounds_toArray, List.set_cons_zero, List.set_cons_succ]
    refine take_list (i := 22) (v := undef) rfl (by kernel_rfl) (by kernel_rfl) (by kernel_rfl) (fun _ _ _ h => h) (Or.inr ⟨by rfl, rfl⟩) hH ?_
    simp only [Act.put, List.setIfInBounds_toArray, List.set_cons_zero, List.set_cons_succ]
    refine take_list (i := 23) (v := undef) rfl (by kernel_rfl) (by kernel_rfl) (by kernel_rfl) (fun _ _ _ h => h) (Or.inr ⟨by rfl, rfl⟩) hH ?_
    simp only [Act.put, List.setIfInBounds_toArray, List.set_cons_zero, List.set_cons_succ]
    refine take_list (i := 24) (v := undef) rfl (by kernel_rfl) (by kernel_rfl) (by kernel_rfl) (fun _ _ _ h => h) (Or.inr ⟨by rfl, rfl⟩) hH ?_
    simp only [Act.put, List.setIfInBounds_toArray, List.set_cons_zero, List.set_cons_succ]
    refine take_list (i := 25) (v := undef) rfl (by kernel_rfl) (by kernel_rfl) (by kernel_rfl) (fun _ _ _ h => h) (Or.inr ⟨by rfl, rfl⟩) hH ?_
    simp only [Act.put, List.setIfInBounds_toArray, List.set_cons_zero, List.set_cons_succ]
    refine take_list (i := 26) (v := undef) rfl (by kernel_rfl) (by kernel_rfl) (by kernel_rfl) (fun _ _ _ h => h) (Or.inr ⟨by rfl, rfl⟩) hH ?_
    simp only [Act.put, List.setIfInBounds_toArray, List.set_cons_zero, List.set_cons_succ]
    refine take_list (i := 27) (v := undef) rfl (by kernel_rfl) (by kernel_rfl) (by kernel_rfl) (fun _ _ _ h => h) (Or.inr ⟨by rfl, rfl⟩) hH ?_
    simp only [Act.put, List.setIfInBounds_toArray, List.set_cons_zero, List.set_cons_succ]
    refine take_list (i := 28) (v := undef) rfl (by kernel_rfl) (by kernel_rfl) (by kernel_rfl) (fun _ _ _ h => h) (Or.inr ⟨by rfl, rfl⟩) hH ?_
    simp only [Act.put, List.setIfInBounds_toArray, List.set_cons_zero, List.set_cons_succ]
    refine take_list (i := 29) (v := undef) rfl (by kernel_rfl) (by kernel_rfl) (by kernel_rfl) (fun _ _ _ h => h) (Or.inr ⟨by rfl, rfl⟩) hH ?_
    simp only [Act.put, List.setIfInBounds_toArray, List.set_cons_zero, List.set_cons_succ]
    refine take_list (i := 30) (v := undef) rfl (by kernel_rfl) (by kernel_rfl) (by kernel_rfl) (fun _ _ _ h => h) (Or.inr ⟨by rfl, rfl⟩) hH ?_
    simp only [Act.put, List.setIfInBounds_toArray, List.set_cons_zero, List.set_cons_succ]
    refine take_list (i := 31) (v := undef) rfl (by kernel_rfl) (by kernel_rfl) (by kernel_rfl) (fun _ _ _ h => h) (Or.inr ⟨by rfl, rfl⟩) hH ?_
    simp only [Act.put, List.setIfInBounds_toArray, List.set_cons_zero, List.set_cons_succ]
    refine take_list (i := 32) (v := undef) rfl (by kernel_rfl) (by kernel_rfl) (by kernel_rfl) (fun _ _ _ h => h) (Or.inr ⟨by rfl, rfl⟩) hH ?_
    simp only [Act.put, List.setIfInBounds_toArray, List.set_cons_zero, List.set_cons_succ]
    refine take_list (i := 33) (v := undef) rfl (by kernel_rfl) (by kernel_rfl) (by kernel_rfl) (fun _ _ _ h => h) (Or.inr ⟨by rfl, rfl⟩) hH ?_
    simp only [Act.put, List.setIfInBounds_toArray, List.set_cons_zero, List.set_cons_succ]
    refine take_list (i := 34) (v := undef) rfl (by kernel_rfl) (by kernel_rfl) (by kernel_rfl) (fun _ _ _ h => h) (Or.inr ⟨by rfl, rfl⟩) hH ?_
    simp only [Act.put, List.setIfInBounds_toArray, List.set_cons_zero, List.set_cons_succ]
    refine take_list (i := 35) (v := undef) rfl (by kernel_rfl) (by kernel_rfl) (by kernel_rfl) (fun _ _ _ h => h) (Or.inr ⟨by rfl, rfl⟩) hH ?_
    simp only [Act.put, List.setIfInBounds_toArray, List.set_cons_zero, List.set_cons_succ]
    refine take_list (i := 36) (v := undef) rfl (by kernel_rfl) (by kernel_rfl) (by kernel_rfl) (fun _ _ _ h => h) (Or.inr ⟨by rfl, rfl⟩) hH ?_
    simp only [Act.put, List.setIfInBounds_toArray, List.set_cons_zero, List.set_cons_succ]
    refine take_list (i := 37) (v := undef) rfl (by kernel_rfl) (by kernel_rfl) (by kernel_rfl) (fun _ _ _ h => h) (Or.inr ⟨by rfl, rfl⟩) hH ?_
    simp only [Act.put, List.setIfInBounds_toArray, List.set_cons_zero, List.set_cons_succ]
    refine take_list (i := 38) (v := undef) rfl (by kernel_rfl) (by kernel_rfl) (by kernel_rfl) (fun _ _ _ h => h) (Or.inr ⟨by rfl, rfl⟩) hH ?_
    simp only [Act.put, List.setIfInBounds_toArray, List.set_cons_zero, List.set_cons_succ]
    refine take_list (i := 39) (v := undef) rfl (by kernel_rfl) (by kernel_rfl) (by kernel_rfl) (fun _ _ _ h => h) (Or.inr ⟨by rfl, rfl⟩) hH ?_
    simp only [Act.put, List.setIfInBounds_toArray, List.set_cons_zero, List.set_cons_succ]
    refine take_list (i := 40) (v := undef) rfl (by kernel_rfl) (by kernel_rfl) (by kernel_rfl) (fun _ _ _ h => h) (Or.inr ⟨by rfl, rfl⟩) hH ?_
    simp only [Act.put, List.setIfInBounds_toArray, List.set_cons_zero, List.set_cons_succ]
    refine take_list (i := 41) (v := undef) rfl (by kernel_rfl) (by kernel_rfl) (by kernel_rfl) (fun _ _ _ h => h) (Or.inr ⟨by rfl, rfl⟩) hH ?_
    simp only [Act.put, List.setIfInBounds_toArray, List.set_cons_zero, List.set_cons_succ]
    refine take_list (i := 42) (v := undef) rfl (by kernel_rfl) (by kernel_rfl) (by kernel_rfl) (fun _ _ _ h => h) (Or.inr ⟨by rfl, rfl⟩) hH ?_
    simp only [Act.put, List.setIfInBounds_toArray, List.set_cons_zero, List.set_cons_succ]
    refine take_list (i := 43) (v := undef) rfl (by kernel_rfl) (by kernel_rfl) (by kernel_rfl) (fun _ _ _ h => h) (Or.inr ⟨by rfl, rfl⟩) hH ?_
    simp only [Act.put, List.setIfInBounds_toArray, List.set_cons_zero, List.set_cons_succ]
    refine take_list (i := 44) (v := undef) rfl (by kernel_rfl) (by kernel_rfl) (by kernel_rfl) (fun _ _ _ h => h) (Or.inr ⟨by rfl, rfl⟩) hH ?_
    simp only [Act.put, List.setIfInBounds_toArray, List.set_cons_zero, List.set_cons_succ]
    refine take_list (i := 45) (v := undef) rfl (by kernel_rfl) (by kernel_rfl) (by kernel_rfl) (fun _ _ _ h => h) (Or.inr ⟨by rfl, rfl⟩) hH ?_
    simp only [Act.put, List.setIfInBounds_toArray, List.set_cons_zero, List.set_cons_succ]
    refine take_list (i := 46) (v := undef) rfl (by kernel_rfl) (by kernel_rfl) (by kernel_rfl) (fun _ _ _ h => h) (Or.inr ⟨by rfl, rfl⟩) hH ?_
    simp only [Act.put, List.setIfInBounds_toArray, List.set_cons_zero, List.set_cons_succ]
    refine take_list (i := 47) (v := undef) rfl (by kernel_rfl) (by kernel_rfl) (by kernel_rfl) (fun _ _ _ h => h) (Or.inr ⟨by rfl, rfl⟩) hH ?_
    simp only [Act.put, List.setIfInBounds_toArray, List.set_cons_zero, List.set_cons_succ]
    refine take_list (i := 48) (v := undef) rfl (by kernel_rfl) (by kernel_rfl) (by kernel_rfl) (fun _ _ _ h => h) (Or.inr ⟨by rfl, rfl⟩) hH ?_
    simp only [Act.put, List.setIfInBounds_toArray, List.set_cons_zero, List.set_cons_succ]
    refine take_list (i := 49) (v := undef) rfl (by kernel_rfl) (by kernel_rfl) (by kernel_rfl) (fun _ _ _ h => h) (Or.inr ⟨by rfl, rfl⟩) hH ?_
    simp only [Act.put, List.setIfInBounds_toArray, List.set_cons_zero, List.set_cons_succ]
    refine take_list (i := 50) (v := ?_) rfl (by kernel_rfl) (by kernel_rfl) (by kernel_rfl) (fun _ _ _ h => h) (Or.inl ⟨by rfl, ?_⟩) hH ?_
    rotate_left
    · ((intro w hSw; (try dsimp only at hSw); go_simp); try with_reducible rfl)
    simp only [Act.put, List.setIfInBounds_toArray, List.set_cons_zero, List.set_cons_succ]
    refine take_list (i := 51) (v := ?_) rfl (by kernel_rfl) (by kernel_rfl) (by kernel_rfl) (fun _ _ _ h => h) (Or.inl ⟨by rfl, ?_⟩) hH ?_
    rotate_left
    · ((intro w hSw; (try dsimp only at hSw); go_simp); try with_reducible rfl)
    simp only [Act.put, List.setIfInBounds_toArray, List.set_cons_zero, List.set_cons_succ]
    refine wpAnyH_done (by kernel_rfl) ?_ _
    clear hH
    go_wp2_with fail
    refine (over_any (.slice none 0 0) 0 _ (.inl ⟨rfl, rfl⟩) (by decide)).mono ?_
    rintro e wz ⟨rfl, _, oz⟩
    have Qz := Lib.hid (Q5.out.quiet oz)
    clear oz Q5
    have NX := Lib.hid (And.intro (R.out.mono (show (1 + 2 * (c : Int)) ≤ 1 + 2 * ((c + 1 : Nat) : Int) by omega)) (And.intro (C.out.next hc1) hn))
    have a1 : wz.cell? ⟨g5, 1, none⟩ = some (.slice ra l.length rc) := Qz.out.arg 1
    go_wp2_with fail
    refine (Kept_any gc _ l _ Qz.out.copy (Qz.out.bytesF HB.out) (by omega)).mono ?_
    rintro e wt7 ⟨rfl, o7⟩
    have Qt7 := Lib.hid (Qz.out.quiet o7)
    clear o7 Qz a1
    go_wp2_with fail
    refine (over_any _ l.length _ (Qt7.out.copy.row (by unfold maxLen; omega)) (by omega)).mono ?_
    rintro e wt8 ⟨rfl, _, o8⟩
    have m8 := Qt7.out.done (o8.mono (fun k hk => by simpa [Value.ownBlock, eq_comm] using hk))
    have M8 := Lib.hid m8
    clear o8 m8 Qt7
    go_wp2_with fail
    go_ret
    exact ⟨rfl, _, _, _, _, _, _, _, _, _, _, M8.out, NX.out.1, NX.out.2.1, NX.out.2.2⟩
  by_cases hhi : (nx : Int) ≤ x
  · have KG := get_no P3.out.ms R.out C.out x (.inr (by rw [← HNX.out]; exact hhi))
    have d1 : decide (x < (fm : Int)) = false := by rw [decide_eq_false_iff_not]; exact hlo
    refine KG.mono ?_
    rintro e w4 ⟨rfl, o4⟩
    have Q4 := Lib.hid (P3.out.quiet o4)
    clear KG o4 P3 c2 a0
    go_wp2_with fail
    have oE : Only [] w4 w4.drew := (Only.refl [] w4).drew
    have Q5 := Lib.hid (Q4.out.quiet oE)
    have c5 : w4.drew.cell? ⟨m, 5, none⟩ = some (.int .i64 fm) := by rw [HFM.out]; exact cell_at 5 Q5.out.ms.mm.blk
    refine wp_region_held_drew (S := fun w' => w'.cell? ⟨m, 5, none⟩ = some (.int .i64 fm)) (by kernel_rfl) c5 (fun hH => ?_)
    clear c5 oE Q4
    generalize w4.drew = w5 at Q5 hH ⊢
    refine take_list (i := 0) (v := ?_) rfl (by kernel_rfl) (by kernel_rfl) (by kernel_rfl) (fun _ _ _ h => h) (Or.inl ⟨by rfl, ?_⟩) hH ?_
    rotate_left
    · ((intro w hSw; (try dsimp only at hSw); go_simp); try with_reducible rfl)
    simp only [Act.put, List.setIfInBounds_toArray, List.set_cons_zero, List.set_cons_succ]
    refine take_list (i := 1) (v := ?_) rfl (by kernel_rfl) (by kernel_rfl) (by kernel_rfl) (fun _ _ _ h => h) (Or.inl ⟨by rfl, ?_⟩) hH ?_
    rotate_left
    · ((intro w hSw; (try dsimp only at hSw); go_simp); try with_reducible rfl)
    simp only [Act.put, List.setIfInBounds_toArray, List.set_cons_zero, List.set_cons_succ]
    refine take_list (i := 2) (v := ?_) rfl (by kernel_rfl) (by kernel_rfl) (by kernel_rfl) (fun _ _ _ h => h) (Or.inl ⟨by rfl, ?_⟩) hH ?_
    rotate_left
    · ((intro w hSw; (try dsimp only at hSw); go_simp); try with_reducible rfl)
    simp only [Act.put, List.setIfInBounds_toArray, List.set_cons_zero, List.set_cons_succ]
    refine take_list (i := 3) (v := ?_) rfl (by kernel_rfl) (by kernel_rfl) (by kernel_rfl) (fun _ _ _ h => h) (Or.inl ⟨by rfl, ?_⟩) hH ?_
    rotate_left
    · ((intro w hSw; (try dsimp only at hSw); go_simp); try with_reducible rfl)
    simp only [Act.put, List.setIfInBounds_toArray, List.set_cons_zero, List.set_cons_succ]
    refine take_list (i := 4) (v := ?_) rfl (by kernel_rfl) (by kernel_rfl) (by kernel_rfl) (fun _ _ _ h => h) (Or.inl ⟨by rfl, ?_⟩) hH ?_
    rotate_left
    · ((intro w hSw; (try dsimp only at hSw); go_simp); try with_reducible rfl)
    simp only [Act.put, List.setIfInBounds_toArray, List.set_cons_zero, List.set_cons_succ]
    refine take_list (i := 5) (v := ?_) rfl (by kernel_rfl) (by kernel_rfl) (by kernel_rfl) (fun _ _ _ h => h) (Or.inl ⟨by rfl, ?_⟩) hH ?_
    rotate_left
    · ((intro w hSw; (try dsimp only at hSw); go_simp); try with_reducible rfl)
    simp only [Act.put, List.setIfInBounds_toArray, List.set_cons_zero, List.set_cons_succ]
    refine take_list (i := 6) (v := ?_) rfl (by kernel_rfl) (by kernel_rfl) (by kernel_rfl) (fun _ _ _ h => h) (Or.inl ⟨by rfl, ?_⟩) hH ?_
    rotate_left
    · ((intro w hSw; (try dsimp only at hSw); go_simp); try with_reducible rfl)
    simp only [Act.put, List.setIfInBounds_toArray, List.set_cons_zero, List.set_cons_succ]
    refine take_list (i := 7) (v := ?_) rfl (by kernel_rfl) (by kernel_rfl) (by kernel_rfl) (fun _ _ _ h => h) (Or.inl ⟨by rfl, ?_⟩) hH ?_
    rotate_left
    · ((intro w hSw; (try dsimp only at hSw); go_simp); try with_reducible rfl)
    simp only [Act.put, List.setIfInBounds_toArray, List.set_cons_zero, List.set_cons_succ]
    refine take_list (i := 8) (v := ?_) rfl (by kernel_rfl) (by kernel_rfl) (by kernel_rfl) (fun _ _ _ h => h) (Or.inl ⟨by rfl, ?_⟩) hH ?_
    rotate_left
    · ((intro w hSw; (try dsimp only at hSw); go_simp); try with_reducible rfl)
    simp only [Act.put, List.setIfInBounds_toArray, List.set_cons_zero, List.set_cons_succ]
    refine take_list (i := 9) (v := ?_) rfl (by kernel_rfl) (by kernel_rfl) (by kernel_rfl) (fun _ _ _ h => h) (Or.inl ⟨by rfl, ?_⟩) hH ?_
    rotate_left
    · ((intro w hSw; (try dsimp only at hSw); go_simp); try with_reducible rfl)
    simp only [Act.put, List.setIfInBounds_toArray, List.set_cons_zero, List.set_cons_succ]
    refine take_list (i := 10) (v := ?_) rfl (by kernel_rfl) (by kernel_rfl) (by kernel_rfl) (fun _ _ _ h => h) (Or.inl ⟨by rfl, ?_⟩) hH ?_
    rotate_left
    · ((intro w hSw; (try dsimp only at hSw); go_simp); try with_reducible rfl)
    simp only [Act.put, List.setIfInBounds_toArray, List.set_cons_zero, List.set_cons_succ]
    refine take_list (i := 11) (v := ?_) rfl (by kernel_rfl) (by kernel_rfl) (by kernel_rfl) (fun _ _ _ h => h) (Or.inl ⟨by rfl, ?_⟩) hH ?_
    rotate_left
    · ((intro w hSw; (try dsimp only at hSw); go_simp); try with_reducible rfl)
    simp only [Act.put, List.setIfInBounds_toArray, List.set_cons_zero, List.set_cons_succ]
    refine take_list (i := 12) (v := ?_) rfl (by kernel_rfl) (by kernel_rfl) (by kernel_rfl) (fun _ _ _ h => h) (Or.inl ⟨by rfl, ?_⟩) hH ?_
    rotate_left
    · ((intro w hSw; (try dsimp only at hSw); go_simp); try with_reducible rfl)
    simp only [Act.put, List.setIfInBounds_toArray, List.set_cons_zero, List.set_cons_succ]
    refine take_list (i := 13) (v := ?_) rfl (by kernel_rfl) (by kernel_rfl) (by kernel_rfl) (fun _ _ _ h => h) (Or.inl ⟨by rfl, ?_⟩) hH ?_
    rotate_left
    · ((intro w hSw; (try dsimp only at hSw); go_simp); try with_reducible rfl)
    simp only [Act.put, List.setIfInBounds_toArray, List.set_cons_zero, List.set_cons_succ]
    have KM := mnext_any Q5.out.ms.mm (by have := C.out.b1; omega)
    rw [← HNX.out] at KM
    refine wpAnyH_ready (rs := [14]) (by kernel_rfl) (by simp) ?_
    refine ready_list rfl (fun K hK => ?_)
    go_simp
    refine KM.mono ?_
    rintro e w6 ⟨rfl, rfl⟩
    refine hK.out _ _ hH (fun hH => ?_)
    clear hK K KM
    refine take_list (i := 15) (v := ?_) rfl (by kernel_rfl) (by kernel_rfl) (by kernel_rfl) (fun _ _ _ h => h) (Or.inl ⟨by rfl, ?_⟩) hH ?_
    rotate_left
    · ((intro w hSw; (try dsimp only at hSw); go_simp); try with_reducible rfl)
    simp only [Act.put, List.setIfInBounds_toArray, List.set_cons_zero, List.set_cons_succ]
    refine take_list (i := 16) (v := ?_) rfl (by kernel_rfl) (by kernel_rfl) (by kernel_rfl) (fun _ _ _ h => h) (Or.inl ⟨by rfl, ?_⟩) hH ?_
    rotate_left
    · ((intro w hSw; (try dsimp only at hSw); go_simp); try with_reducible rfl)
    simp only [Act.put, List.setIfInBounds_toArray, List.set_cons_zero, List.set_cons_succ]
    refine take_list (i := 17) (v := ?_) rfl (by kernel_rfl) (by kernel_rfl) (by kernel_rfl) (fun _ _ _ h => h) (Or.inl ⟨by rfl, ?_⟩) hH ?_
    rotate_left
    · ((intro w hSw; (try dsimp only at hSw); go_simp); try with_reducible rfl)
    simp only [Act.put, List.setIfInBounds_toArray, List.set_cons_zero, List.set_cons_succ]
    refine take_list (i := 18) (v := ?_) rfl (by kernel_rfl) (by kernel_rfl) (by kernel_rfl) (fun _ _ _ h => h) (Or.inl ⟨by rfl, ?_⟩) hH ?_
    rotate_left
    · ((intro w hSw; (try dsimp only at hSw); go_simp); try with_reducible rfl)
    simp only [Act.put, List.setIfInBounds_toArray, List.set_cons_zero, List.set_cons_succ]
    refine take_list (i := 19) (v := undef) rfl (by kernel_rfl) (by kernel_rfl) (by kernel_rfl) (fun _ _ _ h => h) (Or.inr ⟨by rfl, rfl⟩) hH ?_
    simp only [Act.put, List.setIfInBounds_toArray, List.set_cons_zero, List.set_cons_succ]
    refine take_list (i := 20) (v := undef) rfl (by kernel_rfl) (by kernel_rfl) (by kernel_rfl) (fun _ _ _ h => h) (Or.inr ⟨by rfl, rfl⟩) hH ?_
    simp only [Act.put, List.setIfInBounds_toArray, List.set_cons_zero, List.set_cons_succ]
    refine take_list (i := 21) (v := undef) rfl (by kernel_rfl) (by kernel_rfl) (by kernel_rfl) (fun _ _ _ h => h) (Or.inr ⟨by rfl, rfl⟩) hH ?_
    simp only [Act.put, List.setIfInBounds_toArray, List.set_cons_zero, List.set_cons_succ]
    refine take_list (i := 22) (v := undef) rfl (by kernel_rfl) (by kernel_rfl) (by kernel_rfl) (fun _ _ _ h => h) (Or.inr ⟨by rfl, rfl⟩) hH ?_
    simp only [Act.put, List.setIfInBounds_toArray, List.set_cons_zero, List.set_cons_succ]
    refine take_list (i := 23) (v := undef) rfl (by kernel_rfl) (by kernel_rfl) (by kernel_rfl) (fun _ _ _ h => h) (Or.inr ⟨by rfl, rfl⟩) hH ?_
    simp only [Act.put, List.setIfInBounds_toArray, List.set_cons_zero, List.set_cons_succ]
    refine take_list (i := 24) (v := undef) rfl (by kernel_rfl) (by kernel_rfl) (by kernel_rfl) (fun _ _ _ h => h) (Or.inr ⟨by rfl, rfl⟩) hH ?_
    simp only [Act.put, List.setIfInBounds_toArray, List.set_cons_zero, List.set_cons_succ]
    refine take_list (i := 25) (v := undef) rfl (by kernel_rfl) (by kernel_rfl) (by kernel_rfl) (fun _ _ _ h => h) (Or.inr ⟨by rfl, rfl⟩) hH ?_
    simp only [Act.put, List.setIfInBounds_toArray, List.set_cons_zero, List.set_cons_succ]
    refine take_list (i := 26) (v := undef) rfl (by kernel_rfl) (by kernel_rfl) (by kernel_rfl) (fun _ _ _ h => h) (Or.inr ⟨by rfl, rfl⟩) hH ?_
    simp only [Act.put, List.setIfInBounds_toArray, List.set_cons_zero, List.set_cons_succ]
    refine take_list (i := 27) (v := undef) rfl (by kernel_rfl) (by kernel_rfl) (by kernel_rfl) (fun _ _ _ h => h) (Or.inr ⟨by rfl, rfl⟩) hH ?_
    simp only [Act.put, List.setIfInBounds_toArray, List.set_cons_zero, List.set_cons_succ]
    refine take_list (i := 28) (v := undef) rfl (by kernel_rfl) (by kernel_rfl) (by kernel_rfl) (fun _ _ _ h => h) (Or.inr ⟨by rfl, rfl⟩) hH ?_
    simp only [Act.put, List.setIfInBounds_toArray, List.set_cons_zero, List.set_cons_succ]
    refine take_list (i := 29) (v := undef) rfl (by kernel_rfl) (by kernel_rfl) (by kernel_rfl) (fun _ _ _ h => h) (Or.inr ⟨by rfl, rfl⟩) hH ?_
    simp only [Act.put, List.setIfInBounds_toArray, List.set_cons_zero, List.set_cons_succ]
    refine take_list (i := 30) (v := undef) rfl (by kernel_rfl) (by kernel_rfl) (by kernel_rfl) (fun _ _ _ h => h) (Or.inr ⟨by rfl, rfl⟩) hH ?_
    simp only [Act.put, List.setIfInBounds_toArray, List.set_cons_zero, List.set_cons_succ]
    refine take_list (i := 31) (v := undef) rfl (by kernel_rfl) (by kernel_rfl) (by kernel_rfl) (fun _ _ _ h => h) (Or.inr ⟨by rfl, rfl⟩) hH ?_
    simp only [Act.put, List.setIfInBounds_toArray, List.set_cons_zero, List.set_cons_succ]
    refine take_list (i := 32) (v := undef) rfl (by kernel_rfl) (by kernel_rfl) (by kernel_rfl) (fun _ _ _ h => h) (Or.inr ⟨by rfl, rfl⟩) hH ?_
    simp only [Act.put, List.setIfInBounds_toArray, List.set_cons_zero, List.set_cons_succ]
    refine take_list (i := 33) (v := undef) rfl (by kernel_rfl) (by kernel_rfl) (by kernel_rfl) (fun _ _ _ h => h) (Or.inr ⟨by rfl, rfl⟩) hH ?_
    simp only [Act.put, List.setIfInBounds_toArray, List.set_cons_zero, List.set_cons_succ]
    refine take_list (i := 34) (v := undef) rfl (by kernel_rfl) (by kernel_rfl) (by kernel_rfl) (fun _ _ _ h => h) (Or.inr ⟨by rfl, rfl⟩) hH ?_
    simp only [Act.put, List.setIfInBounds_toArray, List.set_cons_zero, List.set_cons_succ]
    refine take_list (i := 35) (v := undef) rfl (by kernel_rfl) (by kernel_rfl) (by kernel_rfl) (fun _ _ _ h => h) (Or.inr ⟨by rfl, rfl⟩) hH ?_
    simp only [Act.put, List.setIfInBounds_toArray, List.set_cons_zero, List.set_cons_succ]
    refine take_list (i := 36) (v := undef) rfl (by kernel_rfl) (by kernel_rfl) (by kernel_rfl) (fun _ _ _ h => h) (Or.inr ⟨by rfl, rfl⟩) hH ?_
    simp only [Act.put, List.setIfInBounds_toArray, List.set_cons_zero, List.set_cons_succ]
    refine take_list (i := 37) (v := undef) rfl (by kernel_rfl) (by kernel_rfl) (by kernel_rfl) (fun _ _ _ h => h) (Or.inr ⟨by rfl, rfl⟩) hH ?_
    simp only [Act.put, List.setIfInBounds_toArray, List.set_cons_zero, List.set_cons_succ]
    refine take_list (i := 38) (v := undef) rfl (by kernel_rfl) (by kernel_rfl) (by kernel_rfl) (fun _ _ _ h => h) (Or.inr ⟨by rfl, rfl⟩) hH ?_
    simp only [Act.put, List.setIfInBounds_toArray, List.set_cons_zero, List.set_cons_succ]
    refine take_list (i := 39) (v := undef) rfl (by kernel_rfl) (by kernel_rfl) (by kernel_rfl) (fun _ _ _ h => h) (Or.inr ⟨by rfl, rfl⟩) hH ?_
    simp only [Act.put, List.setIfInBounds_toArray, List.set_cons_zero, List.set_cons_succ]
    refine take_list (i := 40) (v := undef) rfl (by kernel_rfl) (by kernel_rfl) (by kernel_rfl) (fun _ _ _ h => h) (Or.inr ⟨by rfl, rfl⟩) hH ?_
    simp only [Act.put, List.setIfInBounds_toArray, List.set_cons_zero, List.set_cons_succ]
    refine take_list (i := 41) (v := undef) rfl (by kernel_rfl) (by kernel_rfl) (by kernel_rfl) (fun _ _ _ h => h) (Or.inr ⟨by rfl, rfl⟩) hH ?_
    simp only [Act.put, List.setIfInBounds_toArray, List.set_cons_zero, List.set_cons_succ]
    refine take_list (i := 42) (v := undef) rfl (by kernel_rfl) (by kernel_rfl) (by kernel_rfl) (fun _ _ _ h => h) (Or.inr ⟨by rfl, rfl⟩) hH ?_
    simp only [Act.put, List.setIfInBounds_toArray, List.set_cons_zero, List.set_cons_succ]
    refine take_list (i := 43) (v := undef) rfl (by kernel_rfl) (by kernel_rfl) (by kernel_rfl) (fun _ _ _ h => h) (Or.inr ⟨by rfl, rfl⟩) hH ?_
    simp only [Act.put, List.setIfInBounds_toArray, List.set_cons_zero, List.set_cons_succ]
    refine take_list (i := 44) (v := undef) rfl (by kernel_rfl) (by kernel_rfl) (by kernel_rfl) (fun _ _ _ h => h) (Or.inr ⟨by rfl, rfl⟩) hH ?_
    simp only [Act.put, List.setIfInBounds_toArray, List.set_cons_zero, List.set_cons_succ]
    refine take_list (i := 45) (v := undef) rfl (by kernel_rfl) (by kernel_rfl) (by kernel_rfl) (fun _ _ _ h => h) (Or.inr ⟨by rfl, rfl⟩) hH ?_
    simp only [Act.put, List.setIfInBounds_toArray, List.set_cons_zero, List.set_cons_succ]
    refine take_list (i := 46) (v := undef) rfl (by kernel_rfl) (by kernel_rfl) (by kernel_rfl) (fun _ _ _ h => h) (Or.inr ⟨by rfl, rfl⟩) hH ?_
    simp only [Act.put, List.setIfInBounds_toArray, List.set_cons_zero, List.set_cons_succ]
    refine take_list (i := 47) (v := undef) rfl (by kernel_rfl) (by kernel_rfl) (by kernel_rfl) (fun _ _ _ h => h) (Or.inr ⟨by rfl, rfl⟩) hH ?_
    simp only [Act.put, List.setIfInBounds_toArray, List.set_cons_zero, List.set_cons_succ]
    refine take_list (i := 48) (v := undef) rfl (by kernel_rfl) (by kernel_rfl) (by kernel_rfl) (fun _ _ _ h => h) (Or.inr ⟨by rfl, rfl⟩) hH ?_
    simp only [Act.put, List.setIfInBounds_toArray, List.set_cons_zero, List.set_cons_succ]
    refine take_list (i := 49) (v := undef) rfl (by kernel_rfl) (by kernel_rfl) (by kernel_rfl) (fun _ _ _ h => h) (Or.inr ⟨by rfl, rfl⟩) hH ?_
    simp only [Act.put, List.setIfInBounds_toArray, List.set_cons_zero, List.set_cons_succ]
    refine take_list (i := 50) (v := ?_) rfl (by kernel_rfl) (by kernel_rfl) (by kernel_rfl) (fun _ _ _ h => h) (Or.inl ⟨by rfl, ?_⟩) hH ?_
    rotate_left
    · ((intro w hSw; (try dsimp only at hSw); go_simp); try with_reducible rfl)
    simp only [Act.put, List.setIfInBounds_toArray, List.set_cons_zero, List.set_cons_succ]
    refine take_list (i := 51) (v := ?_) rfl (by kernel_rfl) (by kernel_rfl) (by kernel_rfl) (fun _ _ _ h => h) (Or.inl ⟨by rfl, ?_⟩) hH ?_
    rotate_left
    · ((intro w hSw; (try dsimp only at hSw); go_simp); try with_reducible rfl)
    simp only [Act.put, List.setIfInBounds_toArray, List.set_cons_zero, List.set_cons_succ]
    refine wpAnyH_done (by kernel_rfl) ?_ _
    clear hH
    go_wp2_with fail
    refine (over_any (.slice none 0 0) 0 _ (.inl ⟨rfl, rfl⟩) (by decide)).mono ?_
    rintro e wz ⟨rfl, _, oz⟩
    have Qz := Lib.hid (Q5.out.quiet oz)
    clear oz Q5
    have NX := Lib.hid (And.intro (R.out.mono (show (1 + 2 * (c : Int)) ≤ 1 + 2 * ((c + 1 : Nat) : Int) by omega)) (And.intro (C.out.next hc1) hn))
    have a1 : wz.cell? ⟨g5, 1, none⟩ = some (.slice ra l.length rc) := Qz.out.arg 1
    go_wp2_with fail
    refine (Kept_any gc _ l _ Qz.out.copy (Qz.out.bytesF HB.out) (by omega)).mono ?_
    rintro e wt7 ⟨rfl, o7⟩
    have Qt7 := Lib.hid (Qz.out.quiet o7)
    clear o7 Qz a1
    go_wp2_with fail
    refine (over_any _ l.length _ (Qt7.out.copy.row (by unfold maxLen; omega)) (by omega)).mono ?_
    rintro e wt8 ⟨rfl, _, o8⟩
    have m8 := Qt7.out.done (o8.mono (fun k hk => by simpa [Value.ownBlock, eq_comm] using hk))
    have M8 := Lib.hid m8
    clear o8 m8 Qt7
    go_wp2_with fail
    go_ret
    exact ⟨rfl, _, _, _, _, _, _, _, _, _, _, M8.out, NX.out.1, NX.out.2.1, NX.out.2.2⟩
  obtain ⟨i, hi⟩ : ∃ i : Nat, x = (i : Int) + 1 := ⟨(x - 1).toNat, by have := R.out.f1; have := HFM.out; omega⟩
  have hil : i < M.recs.length := by have h1 := HNX.out; unfold ML.next at h1; omega
  obtain ⟨y1, hy1⟩ : ∃ y1, M.recs[i]? = some y1 := ⟨_, List.getElem?_eq_getElem hil⟩
  have KG := get_M P3.out.ms R.out C.out i y1 hy1 (by have := HFM.out; omega) x hi
  have hy4 : y1.length ≤ 4096 := (P3.out.ms.ok.recs y1 (by
    rw [R.out.recs]
    refine List.mem_of_getElem? (i := i - (M.first - 1)) ?_
    have e : M.first - 1 + (i - (M.first - 1)) = i := by have := HFM.out; have := R.out.f1; omega
    rw [List.getElem?_drop, e]
    exact hy1)).2
  have HY1 := Lib.hid hy1
  have wr1 : IntKind.i64.wrap (x - 1) = (i : Int) := by rw [IntKind.wrap_i64]; omega
  have hgl : (i : Int) < (gs.length : Int) := by rw [P3.out.ms.mm.hlen]; omega
  have i0 : (0 : Int) ≤ (i : Int) := by omega
  clear hi hil hy1
  refine KG.mono ?_
  rintro e w4 ⟨b4, c4, rfl, own4, o4⟩
  have Q4 := Lib.hid (P3.out.quiet o4)
  have HOV := Lib.hid (fun (w6 w7 : World) (o6 : Only [] w4 w6) (o7 : Only (Value.slice b4 y1.length c4).ownBlock.toList w6 w7) => P3.out.over o4 own4 o6 o7)
  have OW4 := Lib.hid own4
  clear KG own4 o4 P3 c2 a0
  go_wp2_with fail
  have oE : Only [] w4 w4.drew := (Only.refl [] w4).drew
  have Q5 := Lib.hid (Q4.out.quiet oE)
  have OO5 := Lib.hid oE
  obtain ⟨T, hT⟩ : ∃ T, T = strOf y1 := ⟨_, rfl⟩
  obtain ⟨rg, rcc, gb, gcc, hvr, hcell, hrow⟩ := Q5.out.ms.mm.row_at HY1.out
  have s1 := str_bytes (OW4.out.quiet oE).bytes hT
  have s2 := str_bytes hrow hT
  have c3 : w4.drew.cell? ⟨m, 3, none⟩ = some (.slice (some ⟨rg, 0, none⟩) gs.length rcc) := by rw [← hvr]; exact cell_at 3 Q5.out.ms.mm.blk
  have c5 : w4.drew.cell? ⟨m, 5, none⟩ = some (.int .i64 fm) := by rw [HFM.out]; exact cell_at 5 Q5.out.ms.mm.blk
  have SS := And.intro c5 (And.intro c3 (And.intro hcell (And.intro s1 s2)))
  have HSS := Lib.hid SS
  clear c5 c3 hcell s1 s2 oE Q4 hvr hrow hT SS
  refine wp_region_held_drew (S := fun w' => w'.cell? ⟨m, 5, none⟩ = some (.int .i64 fm) ∧ w'.cell? ⟨m, 3, none⟩ = some (.slice (some ⟨rg, 0, none⟩) gs.length rcc) ∧ w'.cell? ⟨rg, i, none⟩ = some (.slice gb y1.length gcc) ∧ (convert 27 9 (.slice b4 y1.length c4)).run Tryz.prog w' = .ok (.string T) w' ∧ (convert 27 9 (.slice gb y1.length gcc)).run Tryz.prog w' = .ok (.string T) w') (by kernel_rfl) HSS.out (fun hH => ?_)
  clear HSS
  generalize w4.drew = w5 at Q5 OO5 hH ⊢
  refine take_list (i := 0) (v := ?_) rfl (by kernel_rfl) (by kernel_rfl) (by kernel_rfl) (fun _ _ _ h => h) (Or.inl ⟨by rfl, ?_⟩) hH ?_
  rotate_left
  · ((intro w hSw; (try dsimp only at hSw); go_simp); try with_reducible rfl)
  simp only [Act.put, List.setIfInBounds_toArray, List.set_cons_zero, List.set_cons_succ]
  refine take_list (i := 1) (v := ?_) rfl (by kernel_rfl) (by kernel_rfl) (by kernel_rfl) (fun _ _ _ h => h) (Or.inl ⟨by rfl, ?_⟩) hH ?_
  rotate_left
  · ((intro w hSw; (try dsimp only at hSw); go_simp); try with_reducible rfl)
  simp only [Act.put, List.setIfInBounds_toArray, List.set_cons_zero, List.set_cons_succ]
  refine take_list (i := 2) (v := ?_) rfl (by kernel_rfl) (by kernel_rfl) (by kernel_rfl) (fun _ _ _ h => h) (Or.inl ⟨by rfl, ?_⟩) hH ?_
  rotate_left
  · ((intro w hSw; (try dsimp only at hSw); go_simp); try with_reducible rfl)
  simp only [Act.put, List.setIfInBounds_toArray, List.set_cons_zero, List.set_cons_succ]
  refine take_list (i := 3) (v := ?_) rfl (by kernel_rfl) (by kernel_rfl) (by kernel_rfl) (fun _ _ _ h => h) (Or.inl ⟨by rfl, ?_⟩) hH ?_
  rotate_left
  · ((intro w hSw; (try dsimp only at hSw); go_simp); try with_reducible rfl)
  simp only [Act.put, List.setIfInBounds_toArray, List.set_cons_zero, List.set_cons_succ]
  refine take_list (i := 4) (v := undef) rfl (by kernel_rfl) (by kernel_rfl) (by kernel_rfl) (fun _ _ _ h => h) (Or.inr ⟨by rfl, rfl⟩) hH ?_
  simp only [Act.put, List.setIfInBounds_toArray, List.set_cons_zero, List.set_cons_succ]
  refine take_list (i := 5) (v := undef) rfl (by kernel_rfl) (by kernel_rfl) (by kernel_rfl) (fun _ _ _ h => h) (Or.inr ⟨by rfl, rfl⟩) hH ?_
  simp only [Act.put, List.setIfInBounds_toArray, List.set_cons_zero, List.set_cons_succ]
  refine take_list (i := 6) (v := undef) rfl (by kernel_rfl) (by kernel_rfl) (by kernel_rfl) (fun _ _ _ h => h) (Or.inr ⟨by rfl, rfl⟩) hH ?_
  simp only [Act.put, List.setIfInBounds_toArray, List.set_cons_zero, List.set_cons_succ]
  refine take_list (i := 7) (v := undef) rfl (by kernel_rfl) (by kernel_rfl) (by kernel_rfl) (fun _ _ _ h => h) (Or.inr ⟨by rfl, rfl⟩) hH ?_
  simp only [Act.put, List.setIfInBounds_toArray, List.set_cons_zero, List.set_cons_succ]
  refine take_list (i := 8) (v := undef) rfl (by kernel_rfl) (by kernel_rfl) (by kernel_rfl) (fun _ _ _ h => h) (Or.inr ⟨by rfl, rfl⟩) hH ?_
  simp only [Act.put, List.setIfInBounds_toArray, List.set_cons_zero, List.set_cons_succ]
  refine take_list (i := 9) (v := undef) rfl (by kernel_rfl) (by kernel_rfl) (by kernel_rfl) (fun _ _ _ h => h) (Or.inr ⟨by rfl, rfl⟩) hH ?_
  simp only [Act.put, List.setIfInBounds_toArray, List.set_cons_zero, List.set_cons_succ]
  refine take_list (i := 10) (v := undef) rfl (by kernel_rfl) (by kernel_rfl) (by kernel_rfl) (fun _ _ _ h => h) (Or.inr ⟨by rfl, rfl⟩) hH ?_
  simp only [Act.put, List.setIfInBounds_toArray, List.set_cons_zero, List.set_cons_succ]
  refine take_list (i := 11) (v := undef) rfl (by kernel_rfl) (by kernel_rfl) (by kernel_rfl) (fun _ _ _ h => h) (Or.inr ⟨by rfl, rfl⟩) hH ?_
  simp only [Act.put, List.setIfInBounds_toArray, List.set_cons_zero, List.set_cons_succ]
  refine take_list (i := 12) (v := undef) rfl (by kernel_rfl) (by kernel_rfl) (by kernel_rfl) (fun _ _ _ h => h) (Or.inr ⟨by rfl, rfl⟩) hH ?_
  simp only [Act.put, List.setIfInBounds_toArray, List.set_cons_zero, List.set_cons_succ]
  refine take_list (i := 13) (v := undef) rfl (by kernel_rfl) (by kernel_rfl) (by kernel_rfl) (fun _ _ _ h => h) (Or.inr ⟨by rfl, rfl⟩) hH ?_
  simp only [Act.put, List.setIfInBounds_toArray, List.set_cons_zero, List.set_cons_succ]
  refine take_list (i := 14) (v := undef) rfl (by kernel_rfl) (by kernel_rfl) (by kernel_rfl) (fun _ _ _ h => h) (Or.inr ⟨by rfl, rfl⟩) hH ?_
  simp only [Act.put, List.setIfInBounds_toArray, List.set_cons_zero, List.set_cons_succ]
  refine take_list (i := 15) (v := undef) rfl (by kernel_rfl) (by kernel_rfl) (by kernel_rfl) (fun _ _ _ h => h) (Or.inr ⟨by rfl, rfl⟩) hH ?_
  simp only [Act.put, List.setIfInBounds_toArray, List.set_cons_zero, List.set_cons_succ]
  refine take_list (i := 16) (v := undef) rfl (by kernel_rfl) (by kernel_rfl) (by kernel_rfl) (fun _ _ _ h => h) (Or.inr ⟨by rfl, rfl⟩) hH ?_
  simp only [Act.put, List.setIfInBounds_toArray, List.set_cons_zero, List.set_cons_succ]
  refine take_list (i := 17) (v := ?_) rfl (by kernel_rfl) (by kernel_rfl) (by kernel_rfl) (fun _ _ _ h => h) (Or.inl ⟨by rfl, ?_⟩) hH ?_
  rotate_left
  · ((intro w hSw; (try dsimp only at hSw); go_simp); try with_reducible rfl)
  simp only [Act.put, List.setIfInBounds_toArray, List.set_cons_zero, List.set_cons_succ]
  refine take_list (i := 18) (v := ?_) rfl (by kernel_rfl) (by kernel_rfl) (by kernel_rfl) (fun _ _ _ h => h) (Or.inl ⟨by rfl, ?_⟩) hH ?_
  rotate_left
  · ((intro w hSw; (try dsimp only at hSw); go_simp); try with_reducible rfl)
  simp only [Act.put, List.setIfInBounds_toArray, List.set_cons_zero, List.set_cons_succ]
  refine take_list (i := 19) (v := ?_) rfl (by kernel_rfl) (by kernel_rfl) (by kernel_rfl) (fun _ _ _ h => h) (Or.inl ⟨by rfl, ?_⟩) hH ?_
  rotate_left
  · ((intro w hSw; (try dsimp only at hSw); go_simp); try with_reducible rfl)
  simp only [Act.put, List.setIfInBounds_toArray, List.set_cons_zero, List.set_cons_succ]
  refine take_list (i := 20) (v := ?_) rfl (by kernel_rfl) (by kernel_rfl) (by kernel_rfl) (fun _ _ _ h => h) (Or.inl ⟨by rfl, ?_⟩) hH ?_
  rotate_left
  · ((intro w hSw; (try dsimp only at hSw); go_simp); try with_reducible rfl)
  simp only [Act.put, List.setIfInBounds_toArray, List.set_cons_zero, List.set_cons_succ]
  refine take_list (i := 21) (v := ?_) rfl (by kernel_rfl) (by kernel_rfl) (by kernel_rfl) (fun _ _ _ h => h) (Or.inl ⟨by rfl, ?_⟩) hH ?_
  rotate_left
  · ((intro w hSw; (try dsimp only at hSw); go_simp); try with_reducible rfl)
  simp only [Act.put, List.setIfInBounds_toArray, List.set_cons_zero, List.set_cons_succ]
  refine take_list (i := 22) (v := ?_) rfl (by kernel_rfl) (by kernel_rfl) (by kernel_rfl) (fun _ _ _ h => h) (Or.inl ⟨by rfl, ?_⟩) hH ?_
  rotate_left
  · ((intro w hSw; (try dsimp only at hSw); go_simp); try with_reducible rfl)
  simp only [Act.put, List.setIfInBounds_toArray, List.set_cons_zero, List.set_cons_succ]
  refine take_list (i := 23) (v := ?_) rfl (by kernel_rfl) (by kernel_rfl) (by kernel_rfl) (fun _ _ _ h => h) (Or.inl ⟨by rfl, ?_⟩) hH ?_
  rotate_left
  · ((intro w hSw; (try dsimp only at hSw); go_simp); try with_reducible rfl)
  simp only [Act.put, List.setIfInBounds_toArray, List.set_cons_zero, List.set_cons_succ]
  refine take_list (i := 24) (v := ?_) rfl (by kernel_rfl) (by kernel_rfl) (by kernel_rfl) (fun _ _ _ h => h) (Or.inl ⟨by rfl, ?_⟩) hH ?_
  rotate_left
  · ((intro w hSw; (try dsimp only at hSw); go_simp); try with_reducible rfl)
  simp only [Act.put, List.setIfInBounds_toArray, List.set_cons_zero, List.set_cons_succ]
  refine take_list (i := 25) (v := ?_) rfl (by kernel_rfl) (by kernel_rfl) (by kernel_rfl) (fun _ _ _ h => h) (Or.inl ⟨by rfl, ?_⟩) hH ?_
  rotate_left
  · ((intro w hSw; (try dsimp only at hSw); go_simp); try with_reducible rfl)
  simp only [Act.put, List.setIfInBounds_toArray, List.set_cons_zero, List.set_cons_succ]
  refine take_list (i := 26) (v := ?_) rfl (by kernel_rfl) (by kernel_rfl) (by kernel_rfl) (fun _ _ _ h => h) (Or.inl ⟨by rfl, ?_⟩) hH ?_
  rotate_left
  · ((intro w hSw; (try dsimp only at hSw); go_simp); try with_reducible rfl)
  simp only [Act.put, List.setIfInBounds_toArray, List.set_cons_zero, List.set_cons_succ]
  refine take_list (i := 27) (v := ?_) rfl (by kernel_rfl) (by kernel_rfl) (by kernel_rfl) (fun _ _ _ h => h) (Or.inl ⟨by rfl, ?_⟩) hH ?_
  rotate_left
  · ((intro w hSw; (try dsimp only at hSw); go_simp); try with_reducible rfl)
  simp only [Act.put, List.setIfInBounds_toArray, List.set_cons_zero, List.set_cons_succ]
  refine take_list (i := 28) (v := ?_) rfl (by kernel_rfl) (by kernel_rfl) (by kernel_rfl) (fun _ _ _ h => h) (Or.inl ⟨by rfl, ?_⟩) hH ?_
  rotate_left
  · ((intro w hSw; (try dsimp only at hSw); go_simp); try with_reducible rfl)
  simp only [Act.put, List.setIfInBounds_toArray, List.set_cons_zero, List.set_cons_succ]
  refine take_list (i := 29) (v := ?_) rfl (by kernel_rfl) (by kernel_rfl) (by kernel_rfl) (fun _ _ _ h => h) (Or.inl ⟨by rfl, ?_⟩) hH ?_
  rotate_left
  · ((intro w hSw; (try dsimp only at hSw); go_simp); try with_reducible rfl)
  simp only [Act.put, List.setIfInBounds_toArray, List.set_cons_zero, List.set_cons_succ]
  refine take_list (i := 30) (v := ?_) rfl (by kernel_rfl) (by kernel_rfl) (by kernel_rfl) (fun _ _ _ h => h) (Or.inl ⟨by rfl, ?_⟩) hH ?_
  rotate_left
  · ((intro w hSw; (try dsimp only at hSw); go_simp); try with_reducible rfl)
  simp only [Act.put, List.setIfInBounds_toArray, List.set_cons_zero, List.set_cons_succ]
  refine take_list (i := 31) (v := ?_) rfl (by kernel_rfl) (by kernel_rfl) (by kernel_rfl) (fun _ _ _ h => h) (Or.inl ⟨by rfl, ?_⟩) hH ?_
  rotate_left
  · ((intro w hSw; (try dsimp only at hSw); go_simp); try with_reducible rfl)
  simp only [Act.put, List.setIfInBounds_toArray, List.set_cons_zero, List.set_cons_succ]
  refine take_list (i := 32) (v := ?_) rfl (by kernel_rfl) (by kernel_rfl) (by kernel_rfl) (fun _ _ _ h => h) (Or.inl ⟨by rfl, ?_⟩) hH ?_
  rotate_left
  · ((intro w hSw; (try dsimp only at hSw); go_simp); try with_reducible rfl)
  simp only [Act.put, List.setIfInBounds_toArray, List.set_cons_zero, List.set_cons_succ]
  have KM := mnext_any Q5.out.ms.mm (by have := C.out.b1; omega)
  rw [← HNX.out] at KM
  refine wpAnyH_ready (rs := [33]) (by kernel_rfl) (by simp) ?_
  refine ready_list rfl (fun K hK => ?_)
  go_simp
  refine KM.mono ?_
  rintro e w6 ⟨rfl, rfl⟩
  refine hK.out _ _ hH (fun hH => ?_)
  clear hK K KM
  refine take_list (i := 34) (v := ?_) rfl (by kernel_rfl) (by kernel_rfl) (by kernel_rfl) (fun _ _ _ h => h) (Or.inl ⟨by rfl, ?_⟩) hH ?_
  rotate_left
  · ((intro w hSw; (try dsimp only at hSw); go_simp); try with_reducible rfl)
  simp only [Act.put, List.setIfInBounds_toArray, List.set_cons_zero, List.set_cons_succ]
  refine take_list (i := 35) (v := ?_) rfl (by kernel_rfl) (by kernel_rfl) (by kernel_rfl) (fun _ _ _ h => h) (Or.inl ⟨by rfl, ?_⟩) hH ?_
  rotate_left
  · ((intro w hSw; (try dsimp only at hSw); go_simp); try with_reducible rfl)
  simp only [Act.put, List.setIfInBounds_toArray, List.set_cons_zero, List.set_cons_succ]
  refine take_list (i := 36) (v := ?_) rfl (by kernel_rfl) (by kernel_rfl) (by kernel_rfl) (fun _ _ _ h => h) (Or.inl ⟨by rfl, ?_⟩) hH ?_
  rotate_left
  · ((intro w hSw; (try dsimp only at hSw); go_simp); try with_reducible rfl)
  simp only [Act.put, List.setIfInBounds_toArray, List.set_cons_zero, List.set_cons_succ]
  refine take_list (i := 37) (v := ?_) rfl (by kernel_rfl) (by kernel_rfl) (by kernel_rfl) (fun _ _ _ h => h) (Or.inl ⟨by rfl, ?_⟩) hH ?_
  rotate_left
  · ((intro w hSw; (try dsimp only at hSw); go_simp); try with_reducible rfl)
  simp only [Act.put, List.setIfInBounds_toArray, List.set_cons_zero, List.set_cons_succ]
  refine take_list (i := 38) (v := .string T) rfl (by kernel_rfl) (by kernel_rfl) (by kernel_rfl) (fun _ _ _ h => h) (Or.inl ⟨by rfl, ?_⟩) hH ?_
  · intro w hSw
    have hc2 := hSw.2.2.2.1
    clear hSw hH
    go_simp
  simp only [Act.put, List.setIfInBounds_toArray, List.set_cons_zero, List.set_cons_succ]
  refine take_list (i := 39) (v := ?_) rfl (by kernel_rfl) (by kernel_rfl) (by kernel_rfl) (fun _ _ _ h => h) (Or.inl ⟨by rfl, ?_⟩) hH ?_
  rotate_left
  · ((intro w hSw; (try dsimp only at hSw); go_simp); try with_reducible rfl)
  simp only [Act.put, List.setIfInBounds_toArray, List.set_cons_zero, List.set_cons_succ]
  refine take_list (i := 40) (v := ?_) rfl (by kernel_rfl) (by kernel_rfl) (by kernel_rfl) (fun _ _ _ h => h) (Or.inl ⟨by rfl, ?_⟩) hH ?_
  rotate_left
  · ((intro w hSw; (try dsimp only at hSw); go_simp); try with_reducible rfl)
  simp only [Act.put, List.setIfInBounds_toArray, List.set_cons_zero, List.set_cons_succ]
  refine take_list (i := 41) (v := ?_) rfl (by kernel_rfl) (by kernel_rfl) (by kernel_rfl) (fun _ _ _ h => h) (Or.inl ⟨by rfl, ?_⟩) hH ?_
  rotate_left
  · ((intro w hSw; (try dsimp only at hSw); go_simp); try with_reducible rfl)
  simp only [Act.put, List.setIfInBounds_toArray, List.set_cons_zero, List.set_cons_succ]
  refine take_list (i := 42) (v := ?_) rfl (by kernel_rfl) (by kernel_rfl) (by kernel_rfl) (fun _ _ _ h => h) (Or.inl ⟨by rfl, ?_⟩) hH ?_
  rotate_left
  · ((intro w hSw; (try dsimp only at hSw); go_simp); try with_reducible rfl)
  simp only [Act.put, List.setIfInBounds_toArray, List.set_cons_zero, List.set_cons_succ]
  refine take_list (i := 43) (v := ?_) rfl (by kernel_rfl) (by kernel_rfl) (by kernel_rfl) (fun _ _ _ h => h) (Or.inl ⟨by rfl, ?_⟩) hH ?_
  rotate_left
  · ((intro w hSw; (try dsimp only at hSw); go_simp); try with_reducible rfl)
  simp only [Act.put, List.setIfInBounds_toArray, List.set_cons_zero, List.set_cons_succ]
  refine take_list (i := 44) (v := ?_) rfl (by kernel_rfl) (by kernel_rfl) (by kernel_rfl) (fun _ _ _ h => h) (Or.inl ⟨by rfl, ?_⟩) hH ?_
  rotate_left
  · ((intro w hSw; (try dsimp only at hSw); go_simp); try with_reducible rfl)
  simp only [Act.put, List.setIfInBounds_toArray, List.set_cons_zero, List.set_cons_succ]
  refine take_list (i := 45) (v := ?_) rfl (by kernel_rfl) (by kernel_rfl) (by kernel_rfl) (fun _ _ _ h => h) (Or.inl ⟨by rfl, ?_⟩) hH ?_
  rotate_left
  · ((intro w hSw; (try dsimp only at hSw); go_simp); try with_reducible rfl)
  simp only [Act.put, List.setIfInBounds_toArray, List.set_cons_zero, List.set_cons_succ]
  refine take_list (i := 46) (v := ?_) rfl (by kernel_rfl) (by kernel_rfl) (by kernel_rfl) (fun _ _ _ h => h) (Or.inl ⟨by rfl, ?_⟩) hH ?_
  rotate_left
  · ((intro w hSw; (try dsimp only at hSw); go_simp); try with_reducible rfl)
  simp only [Act.put, List.setIfInBounds_toArray, List.set_cons_zero, List.set_cons_succ]
  refine take_list (i := 47) (v := .string T) rfl (by kernel_rfl) (by kernel_rfl) (by kernel_rfl) (fun _ _ _ h => h) (Or.inl ⟨by rfl, ?_⟩) hH ?_
  · intro w hSw
    have hc2 := hSw.2.2.2.2
    clear hSw hH
    go_simp
  simp only [Act.put, List.setIfInBounds_toArray, List.set_cons_zero, List.set_cons_succ]
  refine take_list (i := 48) (v := ?_) rfl (by kernel_rfl) (by kernel_rfl) (by kernel_rfl) (fun _ _ _ h => h) (Or.inl ⟨by rfl, ?_⟩) hH ?_
  rotate_left
  · ((intro w hSw; (try dsimp only at hSw); go_simp); try with_reducible rfl)
  simp only [Act.put, List.setIfInBounds_toArray, List.set_cons_zero, List.set_cons_succ]
  refine take_list (i := 49) (v := ?_) rfl (by kernel_rfl) (by kernel_rfl) (by kernel_rfl) (fun _ _ _ h => h) (Or.inl ⟨by rfl, ?_⟩) hH ?_
  rotate_left
  · ((intro w hSw; (try dsimp only at hSw); go_simp); try with_reducible rfl)
  simp only [Act.put, List.setIfInBounds_toArray, List.set_cons_zero, List.set_cons_succ]
  refine take_list (i := 50) (v := ?_) rfl (by kernel_rfl) (by kernel_rfl) (by kernel_rfl) (fun _ _ _ h => h) (Or.inl ⟨by rfl, ?_⟩) hH ?_
  rotate_left
  · ((intro w hSw; (try dsimp only at hSw); go_simp); try with_reducible rfl)
  simp only [Act.put, List.setIfInBounds_toArray, List.set_cons_zero, List.set_cons_succ]
  refine take_list (i := 51) (v := ?_) rfl (by kernel_rfl) (by kernel_rfl) (by kernel_rfl) (fun _ _ _ h => h) (Or.inl ⟨by rfl, ?_⟩) hH ?_
  rotate_left
  · ((intro w hSw; (try dsimp only at hSw); go_simp); try with_reducible rfl)
  simp only [Act.put, List.setIfInBounds_toArray, List.set_cons_zero, List.set_cons_succ]
  refine wpAnyH_done (by kernel_rfl) ?_ _
  clear hH
  have HRW := Lib.hid (OW4.out.quiet OO5.out).row
  clear OW4
  go_wp2_with fail
  refine (over_any _ y1.length _ HRW.out (by omega)).mono ?_
  rintro e wz ⟨rfl, _, oz⟩
  have Qz := Lib.hid (HOV.out _ _ OO5.out oz)
  clear oz Q5 HRW HOV OO5
  have NX := Lib.hid (And.intro (R.out.mono (show (1 + 2 * (c : Int)) ≤ 1 + 2 * ((c + 1 : Nat) : Int) by omega)) (And.intro (C.out.next hc1) hn))
  have a1 : wz.cell? ⟨g5, 1, none⟩ = some (.slice ra l.length rc) := Qz.out.arg 1
  go_wp2_with fail
  refine (Kept_any gc _ l _ Qz.out.copy (Qz.out.bytesF HB.out) (by omega)).mono ?_
  rintro e wt7 ⟨rfl, o7⟩
  have Qt7 := Lib.hid (Qz.out.quiet o7)
  clear o7 Qz a1
  go_wp2_with fail
  refine (over_any _ l.length _ (Qt7.out.copy.row (by unfold maxLen; omega)) (by omega)).mono ?_
  rintro e wt8 ⟨rfl, _, o8⟩
  have m8 := Qt7.out.done (o8.mono (fun k hk => by simpa [Value.ownBlock, eq_comm] using hk))
  have M8 := Lib.hid m8
  clear o8 m8 Qt7
  go_wp2_with fail
  go_ret
  exact ⟨rfl, _, _, _, _, _, _, _, _, _, _, M8.out, NX.out.1, NX.out.2.1, NX.out.2.2⟩
set_option maxRecDepth 100000 in
set_option maxHeartbeats 2000000 in
theorem play_crash (h : MS w0 w F m p q a d j s vr vt vm gs M) (r : MR (1 + 2 * (c : Int)) d s j M) (hc : MB c M) (hn : M.n = n) (hc1 : c + 1 ≤ 100000) (hb : BytesF w0 F rv l) (hl : l.length ≤ 1048576) (hnn1 : -9223372036854775808 ≤ nn) (hnn2 : nn ≤ 9223372036854775807) (ks : List Int) (hk : IntsV w0 kv ks) (hkl : ks.length ≤ 1099511627776) (h0 : ¬ kind = 0) (h1 : ¬ kind = 1) (h2 : ¬ kind = 2) (h3 : ¬ kind = 3) (h4 : ¬ kind = 4) (h5 : ¬ kind = 5) (h6 : ¬ kind = 6) (h7 : ¬ kind = 7) :
    Calls Tryz.prog 8 #[.pointer (some ⟨m, 0, none⟩), .agg (op4 kind nn rv kv)] w (PQ w0 F m a n c) := by
  have HK := Lib.hid hk
  clear hk
  have R := Lib.hid r
  have C := Lib.hid hc
  have HB := Lib.hid hb
  have o1 : Only [] w (w.alloc (.cells (op4 kind nn rv kv) 30)) := (Only.refl [] w).alloc _
  have H1 := Lib.hid (h.add o1 (g := w.heap.size) (Nat.le_refl _) (heap_new w _))
  obtain ⟨ra, rc, rfl, -⟩ := id (hb w h.only h.keep)
  have HFAR := Lib.hid (show ∀ x ∈ F, x.1 < w.heap.size from fun x hx => (Array.getElem?_eq_some_iff.1 (h.keep x hx)).1)
  have hg5 : w0.heap.size ≤ w.heap.size := h.only.size
  obtain ⟨g5, hg5e⟩ : ∃ g5, w.heap.size = g5 := ⟨_, rfl⟩
  rw [hg5e] at H1 HFAR hg5
  have k1 : (w.alloc (.cells (op4 kind nn (.slice ra l.length rc) kv) 30)).cell? ⟨g5, 1, none⟩ = some (.slice ra l.length rc) := cell_at 1 (H1.out.keep (g5, .cells (op4 kind nn (.slice ra l.length rc) kv) 30) (by simp))
  have z1 : (w.alloc (.cells (op4 kind nn (.slice ra l.length rc) kv) 30)).heap.size = g5 + 1 := by rw [← hg5e]; exact Array.size_push _
  clear h r hc hb o1
  go_enter Tryz.func8, Tryz.ntmps8
  go_wp2_with fail
  generalize w.alloc _ = w1 at H1 k1 z1 ⊢
  refine (Copy_any _ l w1 (HB.out w1 H1.out.only (fun x hx => H1.out.keep x (by simp [hx]))) (by omega)).mono ?_
  rintro e w2 ⟨gc, rfl, ⟨cur, hcc, hcs, hcl⟩, hg, o2⟩
  have P2 := Lib.hid (show PM w0 w2 F m p q a d j s vr vt vm gs M g5 gc _ cur l from ⟨H1.out.add o2 hg hcc, hcs, hcl, by omega, fun x hx => by have := HFAR.out x hx; omega⟩)
  clear H1 k1 z1 hcc hcs hcl hg o2 HFAR hg5 hg5e
  go_wp2_with fail
  have oD : Only [] w2 w2.drew := (Only.refl [] w2).drew
  have P3 := Lib.hid (P2.out.quiet oD)
  obtain ⟨qa, qc, hvr⟩ := P3.out.ms.mm.shapeR
  obtain ⟨L, hL⟩ : ∃ L, L = gs.length := ⟨_, rfl⟩
  obtain ⟨fi, hfi⟩ : ∃ fi, fi = M.first := ⟨_, rfl⟩
  have c3 : w2.drew.cell? ⟨m, 3, none⟩ = some (.slice qa L qc) := by rw [hL, ← hvr]; exact cell_at 3 P3.out.ms.mm.blk
  have c5 : w2.drew.cell? ⟨m, 5, none⟩ = some (.int .i64 fi) := by rw [hfi]; exact cell_at 5 P3.out.ms.mm.blk
  have a2 : w2.drew.cell? ⟨g5, 2, none⟩ = some (.int .i64 nn) := P3.out.arg 2
  have hLb : L ≤ 1048576 := by rw [hL, P3.out.ms.mm.hlen]; have := C.out.b1; omega
  have hfb : fi ≤ 1048576 := by rw [hfi]; have := R.out.fle; have := C.out.b1; omega
  refine wp_region_held_drew (S := fun w' => w'.cell? ⟨m, 3, none⟩ = some (.slice qa L qc) ∧ w'.cell? ⟨m, 5, none⟩ = some (.int .i64 fi) ∧ w'.cell? ⟨g5, 2, none⟩ = some (.int .i64 nn)) (by kernel_rfl) ⟨c3, c5, a2⟩ (fun hH => ?_)
  have HFI := Lib.hid hfi
  clear oD P2 hvr hL hfi c3 c5 a2
  generalize w2.drew = w3 at P3 hH ⊢
  refine take_list (i := 0) (v := ?_) rfl (by kernel_rfl) (by kernel_rfl) (by kernel_rfl) (fun _ _ _ h => h) (Or.inl ⟨by rfl, ?_⟩) hH ?_
  rotate_left
  · ((intro w hSw; (try dsimp only at hSw); go_simp); try with_reducible rfl)
  simp only [Act.put, List.setIfInBounds_toArray, List.set_cons_zero, List.set_cons_succ]
  refine take_list (i := 1) (v := ?_) rfl (by kernel_rfl) (by kernel_rfl) (by kernel_rfl) (fun _ _ _ h => h) (Or.inl ⟨by rfl, ?_⟩) hH ?_
  rotate_left
  · ((intro w hSw; (try dsimp only at hSw); go_simp); try with_reducible rfl)
  simp only [Act.put, List.setIfInBounds_toArray, List.set_cons_zero, List.set_cons_succ]
  refine take_list (i := 2) (v := ?_) rfl (by kernel_rfl) (by kernel_rfl) (by kernel_rfl) (fun _ _ _ h => h) (Or.inl ⟨by rfl, ?_⟩) hH ?_
  rotate_left
  · ((intro w hSw; (try dsimp only at hSw); go_simp); try with_reducible rfl)
  simp only [Act.put, List.setIfInBounds_toArray, List.set_cons_zero, List.set_cons_succ]
  refine take_list (i := 3) (v := ?_) rfl (by kernel_rfl) (by kernel_rfl) (by kernel_rfl) (fun _ _ _ h => h) (Or.inl ⟨by rfl, ?_⟩) hH ?_
  rotate_left
  · ((intro w hSw; (try dsimp only at hSw); go_simp); try with_reducible rfl)
  simp only [Act.put, List.setIfInBounds_toArray, List.set_cons_zero, List.set_cons_succ]
  refine take_list (i := 4) (v := ?_) rfl (by kernel_rfl) (by kernel_rfl) (by kernel_rfl) (fun _ _ _ h => h) (Or.inl ⟨by rfl, ?_⟩) hH ?_
  rotate_left
  · ((intro w hSw; (try dsimp only at hSw); go_simp); try with_reducible rfl)
  simp only [Act.put, List.setIfInBounds_toArray, List.set_cons_zero, List.set_cons_succ]
  refine take_list (i := 5) (v := ?_) rfl (by kernel_rfl) (by kernel_rfl) (by kernel_rfl) (fun _ _ _ h => h) (Or.inl ⟨by rfl, ?_⟩) hH ?_
  rotate_left
  · ((intro w hSw; (try dsimp only at hSw); go_simp); try with_reducible rfl)
  simp only [Act.put, List.setIfInBounds_toArray, List.set_cons_zero, List.set_cons_succ]
  refine take_list (i := 6) (v := ?_) rfl (by kernel_rfl) (by kernel_rfl) (by kernel_rfl) (fun _ _ _ h => h) (Or.inl ⟨by rfl, ?_⟩) hH ?_
  rotate_left
  · ((intro w hSw; (try dsimp only at hSw); go_simp); try with_reducible rfl)
  simp only [Act.put, List.setIfInBounds_toArray, List.set_cons_zero, List.set_cons_succ]
  refine take_list (i := 7) (v := ?_) rfl (by kernel_rfl) (by kernel_rfl) (by kernel_rfl) (fun _ _ _ h => h) (Or.inl ⟨by rfl, ?_⟩) hH ?_
  rotate_left
  · ((intro w hSw; (try dsimp only at hSw); go_simp); try with_reducible rfl)
  simp only [Act.put, List.setIfInBounds_toArray, List.set_cons_zero, List.set_cons_succ]
  obtain ⟨y0, hy0⟩ : ∃ y0 : Int, (if nn < -3 then -3 else nn) = y0 := ⟨_, rfl⟩
  have hy0b : -3 ≤ y0 := by
    rw [← hy0]
    split <;> omega
  rw [hy0]
  clear hy0
  refine take_list (i := 8) (v := ?_) rfl (by kernel_rfl) (by kernel_rfl) (by kernel_rfl) (fun _ _ _ h => h) (Or.inl ⟨by rfl, ?_⟩) hH ?_
  rotate_left
  · ((intro w hSw; (try dsimp only at hSw); go_simp); try with_reducible rfl)
  simp only [Act.put, List.setIfInBounds_toArray, List.set_cons_zero, List.set_cons_succ]
  refine take_list (i := 9) (v := ?_) rfl (by kernel_rfl) (by kernel_rfl) (by kernel_rfl) (fun _ _ _ h => h) (Or.inl ⟨by rfl, ?_⟩) hH ?_
  rotate_left
  · ((intro w hSw; (try dsimp only at hSw); go_simp); try with_reducible rfl)
  simp only [Act.put, List.setIfInBounds_toArray, List.set_cons_zero, List.set_cons_succ]
  refine take_list (i := 10) (v := ?_) rfl (by kernel_rfl) (by kernel_rfl) (by kernel_rfl) (fun _ _ _ h => h) (Or.inl ⟨by rfl, ?_⟩) hH ?_
  rotate_left
  · ((intro w hSw; (try dsimp only at hSw); go_simp); try with_reducible rfl)
  simp only [Act.put, List.setIfInBounds_toArray, List.set_cons_zero, List.set_cons_succ]
  refine take_list (i := 11) (v := ?_) rfl (by kernel_rfl) (by kernel_rfl) (by kernel_rfl) (fun _ _ _ h => h) (Or.inl ⟨by rfl, ?_⟩) hH ?_
  rotate_left
  · ((intro w hSw; (try dsimp only at hSw); go_simp); try with_reducible rfl)
  simp only [Act.put, List.setIfInBounds_toArray, List.set_cons_zero, List.set_cons_succ]
  refine take_list (i := 12) (v := ?_) rfl (by kernel_rfl) (by kernel_rfl) (by kernel_rfl) (fun _ _ _ h => h) (Or.inl ⟨by rfl, ?_⟩) hH ?_
  rotate_left
  · ((intro w hSw; (try dsimp only at hSw); go_simp); try with_reducible rfl)
  simp only [Act.put, List.setIfInBounds_toArray, List.set_cons_zero, List.set_cons_succ]
  refine take_list (i := 13) (v := ?_) rfl (by kernel_rfl) (by kernel_rfl) (by kernel_rfl) (fun _ _ _ h => h) (Or.inl ⟨by rfl, ?_⟩) hH ?_
  rotate_left
  · ((intro w hSw; (try dsimp only at hSw); go_simp); try with_reducible rfl)
  simp only [Act.put, List.setIfInBounds_toArray, List.set_cons_zero, List.set_cons_succ]
  refine take_list (i := 14) (v := ?_) rfl (by kernel_rfl) (by kernel_rfl) (by kernel_rfl) (fun _ _ _ h => h) (Or.inl ⟨by rfl, ?_⟩) hH ?_
  rotate_left
  · ((intro w hSw; (try dsimp only at hSw); go_simp); try with_reducible rfl)
  simp only [Act.put, List.setIfInBounds_toArray, List.set_cons_zero, List.set_cons_succ]
  obtain ⟨y, hy⟩ : ∃ y : Int, (if IntKind.i64.wrap ((L : Int) + 3) < y0 then IntKind.i64.wrap ((L : Int) + 3) else y0) = y := ⟨_, rfl⟩
  have hyb : -3 ≤ y ∧ y ≤ (L : Int) + 3 := by
    have hw : IntKind.i64.wrap ((L : Int) + 3) = (L : Int) + 3 := by rw [IntKind.wrap_i64]; omega
    rw [hw] at hy
    split at hy <;> omega
  rw [hy]
  clear hy hy0b
  obtain ⟨hy1, hy2⟩ := hyb
  obtain ⟨x, hx⟩ : ∃ x : Int, x = (fi : Int) + y := ⟨_, rfl⟩
  have wx : IntKind.i64.wrap ((fi : Int) + y) = x := by rw [hx, IntKind.wrap_i64]; omega
  have hx1 : -10 ≤ x := by omega
  have hx2 : x ≤ 4000000 := by omega
  clear hx
  refine take_list (i := 15) (v := ?_) rfl (by kernel_rfl) (by kernel_rfl) (by kernel_rfl) (fun _ _ _ h => h) (Or.inl ⟨by rfl, ?_⟩) hH ?_
  rotate_left
  · ((intro w hSw; (try dsimp only at hSw); go_simp); try with_reducible rfl)
  simp only [Act.put, List.setIfInBounds_toArray, List.set_cons_zero, List.set_cons_succ]
  refine take_list (i := 16) (v := ?_) rfl (by kernel_rfl) (by kernel_rfl) (by kernel_rfl) (fun _ _ _ h => h) (Or.inl ⟨by rfl, ?_⟩) hH ?_
  rotate_left
  · ((intro w hSw; (try dsimp only at hSw); go_simp); try with_reducible rfl)
  simp only [Act.put, List.setIfInBounds_toArray, List.set_cons_zero, List.set_cons_succ]
  refine wpAnyH_done (by kernel_rfl) ?_ _
  clear hH wx hy1 hy2 hLb hfb HFI
  have a0 : w3.cell? ⟨g5, 0, none⟩ = some (.int .i64 kind) := P3.out.arg 0
  have a3 : w3.cell? ⟨g5, 3, none⟩ = some kv := P3.out.arg 3
  go_wp2_with fail
  refine (mcrash_all P3.out.ms R.out C.out (HK.out.kept P3.out.ms.only (fun _ _ _ _ _ => by simp)) hkl).mono ?_
  rintro e w5 ⟨rfl, p5, q5, j5, s5, vr5, vt5, gs5, M5, m5, r5, b5, n5⟩
  have Q5 := Lib.hid (P3.out.to m5)
  have NX := Lib.hid (And.intro (r5.mono (show (1 + 2 * (c : Int)) ≤ 1 + 2 * ((c + 1 : Nat) : Int) by omega)) (And.intro (b5.next hc1) (n5.trans hn)))
  clear m5 r5 b5 n5 P3 a0 a3
  have a1 : w5.cell? ⟨g5, 1, none⟩ = some (.slice ra l.length rc) := Q5.out.arg 1
  go_wp2_with fail
  refine (Kept_any gc _ l _ Q5.out.copy (Q5.out.bytesF HB.out) (by omega)).mono ?_
  rintro e wt7 ⟨rfl, o7⟩
  have Qt7 := Lib.hid (Q5.out.quiet o7)
  clear o7 Q5 a1
  go_wp2_with fail
  refine (over_any _ l.length _ (Qt7.out.copy.row (by unfold maxLen; omega)) (by omega)).mono ?_
  rintro e wt8 ⟨rfl, _, o8⟩
  have m8 := Qt7.out.done (o8.mono (fun k hk => by simpa [Value.ownBlock, eq_comm] using hk))
  have M8 := Lib.hid m8
  clear o8 m8 Qt7
  go_wp2_with fail
  go_ret
  exact ⟨rfl, _, _, _, _, _, _, _, _, _, _, M8.out, NX.out.1, NX.out.2.1, NX.out.2.2⟩
/-- Any call. -/
theorem play_all (h : MS w0 w F m p q a d j s vr vt vm gs M) (r : MR (1 + 2 * (c : Int)) d s j M) (hc : MB c M) (hn : M.n = n) (hc1 : c + 1 ≤ 100000) (hb : BytesF w0 F rv l) (hl : l.length ≤ 1048576) (hnn1 : -9223372036854775808 ≤ nn) (hnn2 : nn ≤ 9223372036854775807) (ks : List Int) (hk : IntsV w0 kv ks) (hkl : ks.length ≤ 1099511627776) :
    Calls Tryz.prog 8 #[.pointer (some ⟨m, 0, none⟩), .agg (op4 kind nn rv kv)] w (PQ w0 F m a n c) := by
  by_cases h0 : kind = 0
  · subst h0
    exact play_append h r hc hn hc1 hb hl hnn1 hnn2
  by_cases h1 : kind = 1
  · subst h1
    exact play_spend h r hc hn hc1 hb hl hnn1 hnn2
  by_cases h2 : kind = 2
  · subst h2
    exact play_book h r hc hn hc1 hb hl hnn1 hnn2
  by_cases h3 : kind = 3
  · subst h3
    exact play_unbook h r hc hn hc1 hb hl hnn1 hnn2
  by_cases h4 : kind = 4
  · subst h4
    exact play_flush h r hc hn hc1 hb hl hnn1 hnn2
  by_cases h5 : kind = 5
  · subst h5
    exact play_trim h r hc hn hc1 hb hl hnn1 hnn2
  by_cases h6 : kind = 6
  · subst h6
    exact play_get h r hc hn hc1 hb hl hnn1 hnn2
  by_cases h7 : kind = 7
  · subst h7
    exact play_arm h r hc hn hc1 hb hl hnn1 hnn2
  exact play_crash h r hc hn hc1 hb hl hnn1 hnn2 ks hk hkl h0 h1 h2 h3 h4 h5 h6 h7
end
end Go.Proofs.YtfnedeaemjchgaaGreat
/- long: what it says of a script that is not long; a model's beginning. -/
namespace Go.Proofs.YtfnedeaemjchgaaGreat
open Go.RowKit Go.Maps
set_option linter.unusedSimpArgs false
set_option linter.unusedVariables false

def ShortTo4 (os : List Op4R) (k : Nat) : Prop := ∀ (i : Nat) (o : Op4R), i < k → os[i]? = some o → o.recd.length ≤ 65536 ∧ o.keep.length ≤ 65536
theorem ShortTo4.succ {os : List Op4R} {k : Nat} (h : ShortTo4 os k) {o : Op4R} (ho : os[k]? = some o) (h1 : o.recd.length ≤ 65536) (h2 : o.keep.length ≤ 65536) : ShortTo4 os (k + 1) := fun i o' hi hio => by
  by_cases e : i = k
  · subst e
    rw [ho] at hio
    cases hio
    exact ⟨h1, h2⟩
  · exact h i o' (by omega) hio
def Long4 (os : List Op4R) (w : World) (e : Ending) (w' : World) : Prop := ∃ x : Bool, e = .returned (.bool x) ∧ (x = false → os.length ≤ 800 ∧ ShortTo4 os os.length) ∧ Only [] w w'
theorem Long4.mk' {os : List Op4R} {w w' : World} {x y : Bool} (hx : x = y) (h : y = false → os.length ≤ 800 ∧ ShortTo4 os os.length) (ho : Only [] w w') : Long4 os w (.returned (.bool x)) w' := ⟨x, rfl, fun e => h (hx ▸ e), ho⟩
set_option maxRecDepth 100000 in
theorem long4_any (v : Value) (os : List Op4R) (w : World) (h : Script4 w v os) (hlen : os.length ≤ maxLen) :
    Calls Tryz.prog 6 #[v] w (Long4 os w) := by
  have h' := h
  obtain ⟨a, cap, rfl, _⟩ := h'
  have HS := Lib.hid h
  have HM : os.length ≤ 9223372036854775807 := by unfold maxLen at hlen; omega
  clear h hlen
  go_enter Tryz.func6, Tryz.ntmps6
  go_wp2
  go_loopw [3, 5, 8] (fun n _ i wr => ∃ (k : Nat) (m : Int), k ≤ os.length ∧ i = .int .i64 k ∧ n = .int .i64 m ∧ (k : Int) ≤ m ∧ m ≤ 800 ∧ ShortTo4 os k ∧ Only [] w wr) (fun _ _ i _ => os.length - (intOf i).toNat)
  case atStart => exact ⟨0, 0, by omega, rfl, rfl, by omega, by omega, (fun i o hi => by omega), Only.refl _ _⟩
  case round =>
    obtain ⟨k, m, hk, rfl, rfl, hkm, hm4, hst, ho⟩ := hrel
    by_cases hlt : k < os.length
    · have hkl : os[k]? = some os[k] := List.getElem?_eq_getElem hlt
      obtain ⟨a', cap', hv, hc⟩ := HS.out.kept ho
      obtain ⟨b, off, ha, bv, kv, c0, c1, c2, c3, hb, _, hkv, _, _, hbl, hkl2⟩ := hc k _ hkl
      obtain ⟨ba, bcap, hbv, _⟩ := hb
      obtain ⟨ka, kcap, hkv', _⟩ := hkv
      cases hv
      subst ha
      subst hbv
      subst hkv'
      have HST := Lib.hid (fun h1 h2 => hst.succ hkl h1 h2)
      generalize os[k].recd.length = bl at c1 hbl HST
      generalize os[k].keep.length = kl at c3 hkl2 HST
      have hbl' : bl ≤ 9223372036854775807 := by unfold maxLen at hbl; omega
      have hkl' : kl ≤ 9223372036854775807 := by unfold maxLen at hkl2; omega
      have e1 : Int.tdiv (bl : Int) 64 = ((bl / 64 : Nat) : Int) := by rw [Int.tdiv_eq_ediv_of_nonneg (by omega)]; rfl
      have e2 : Int.tdiv (kl : Int) 16 = ((kl / 16 : Nat) : Int) := by rw [Int.tdiv_eq_ediv_of_nonneg (by omega)]; rfl
      obtain ⟨bq, hbq⟩ : ∃ bq : Nat, bq = bl / 64 := ⟨_, rfl⟩
      obtain ⟨kq, hkq⟩ : ∃ kq : Nat, kq = kl / 16 := ⟨_, rfl⟩
      rw [← hbq] at e1
      rw [← hkq] at e2
      have hbq1 : bq ≤ 144115188075855871 := by omega
      have hkq1 : kq ≤ 576460752303423487 := by omega
      have HBQ := Lib.hid hbq
      have HKQ := Lib.hid hkq
      clear hc hkl hbl hkl2 hbq hkq
      go_wp2
      · go_ret
        exact Long4.mk' rfl (fun h => by cases h) (ho.alloc _)
      · go_roundw
        case rel => exact ⟨k + 1, _, by omega, by go_num, rfl, by omega, by omega, HST.out (by have := HBQ.out; omega) (by have := HKQ.out; omega), ho.alloc _⟩
        case measure => simp [intOf]; omega
    · obtain rfl : k = os.length := by omega
      go_wp2
      go_ret
      exact Long4.mk' rfl (fun _ => ⟨by omega, hst⟩) ho
theorem msts_nil : msts [] = [0] := by decide
set_option maxRecDepth 100000 in
set_option maxHeartbeats 4000000 in
/-- A model begins. -/
theorem begun_gs (n : Nat) (w : World) (h0 : 2 ≤ n) (h1 : n ≤ 2048) :
    Calls Tryz.prog 7 #[.int .i64 n] w fun e w' => ∃ m a, e = .returned (.pointer (some ⟨m, 0, none⟩)) ∧ GS w w' [] m a n 0 := by
  have q0 := iface_nil
  have q1 := iface_ne
  have q2 := iface_nerr
  have e3 : IntKind.i64.wrap ((n : Int) + 3) = (n : Int) + 3 := by rw [IntKind.wrap_i64]; omega
  go_enter Tryz.func7, Tryz.ntmps7
  go_wp2_with fail
  refine (new_st ((n : Int) + 3) w (by omega) (by omega)).mono ?_
  rintro e w1 ⟨a, rfl, s1⟩
  go_wp2_with fail
  refine (format_new (at_ := 1) (n := n) s1 (Disk.Calm.fresh _) (jfitB_iff.2 ⟨by omega, by omega, by omega, by show (1 : Int) ≤ (n : Int) + 3 - 2 - n; omega⟩)).mono ?_
  rintro e w2 ⟨p, q, rfl, s2, m2, g2⟩
  have S2 := Lib.hid s2
  have M2 := Lib.hid m2
  have G2 := Lib.hid g2
  clear s1 s2 m2 g2
  generalize (Disk.fresh ((n : Int) + 3)).jfm 1 n = d2 at S2 M2 G2
  go_wp2_with fail
  go_ret
  have oA : Only [] w2 (w2.alloc (.cells #[.int .i64 0] 3)) := (Only.refl [] w2).alloc _
  have hsz : (w2.alloc (.cells #[.int .i64 0] 3)).heap.size = w2.heap.size + 1 := Array.size_push _
  have hgA : (w2.alloc (.cells #[.int .i64 0] 3)).heap[w2.heap.size]? = some (.cells #[.int .i64 0] 3 (0, 0)) := heap_new w2 _
  generalize w2.alloc (.cells #[.int .i64 0] 3) = w3 at oA hsz hgA ⊢
  generalize hC : (Obj.cells #[.pointer (some ⟨a.p, 0, none⟩), .int .i64 n, .pointer (some ⟨p, 0, none⟩), .slice none 0 0, .slice (some ⟨w2.heap.size, 0, none⟩) 1 1, .int .i64 1, .string ⟨#[]⟩, .int .i64 1, .int .i64 0, .bool false, .slice none 0 0] 44) = C
  have oB : Only [] w3 (w3.alloc C) := (Only.refl [] w3).alloc _
  have oC : Only [] w2 (w3.alloc C) := oA.trans oB (by simp)
  have hk : (w3.alloc C).heap[w2.heap.size + 1]? = some C := by rw [← hsz]; exact heap_new _ _
  have hg : (w3.alloc C).heap[w2.heap.size]? = some (.cells #[.int .i64 0] 3 (0, 0)) := oB.heap hgA (by simp)
  subst hC
  obtain ⟨⟨B, j2, hB⟩, o2⟩ := S2.out
  have hw := o2.size
  refine ⟨w2.heap.size + 1, a, rfl, p, q, d2, JL.new 1 n, ⟨1, 1, row0, false⟩, .slice none 0 0, .slice (some ⟨w2.heap.size, 0, none⟩) 1 1, .slice none 0 0, [], ⟨n, [], 1, [], 1, 0, false, []⟩, ⟨⟨B, j2.quiet oC, fun k hk => ⟨hB k hk, by simp⟩, fun k hk hb => ?_⟩, ⟨hk, World.ownsRow_nil _ 0 _ 1, rfl, fun i g r hg => by simp at hg, ?_⟩, OMk.nil _, fun k hk => ⟨?_, by simp⟩, o2.trans oC (by simp), by simp⟩, ⟨rfl, rfl, rfl, Nat.le_refl _, Nat.le_refl _, rfl, rfl, rfl, rfl, rfl, fun _ => rfl, fun _ => rfl, fun _ => ⟨G2.out, by show (1 : Int) ≤ _; omega⟩, fun e => by cases e⟩, ⟨Nat.le_refl _, by show (flat []).length ≤ _; simp [flat], Nat.le_refl _, by omega⟩, rfl⟩
  · have := j2.lt _ hb
    rcases mem_mbl.1 hk with e | e | e | e | ⟨g, hg, _⟩
    · omega
    · cases e
    · simp [Value.ownBlock] at e
      omega
    · cases e
    · cases hg
  · rw [msts_nil]
    exact ⟨⟨rfl, .inr ⟨w2.heap.size, 1, _, rfl, Nat.zero_le _, hg, Nat.le_refl _, by unfold maxLen; omega, rfl, rfl⟩⟩, by intro x hx; simp at hx; subst hx; decide⟩
  · rcases mem_mbl.1 hk with e | e | e | e | ⟨g, hg, _⟩
    · omega
    · cases e
    · simp [Value.ownBlock] at e
      omega
    · cases e
    · cases hg
theorem wf_hi {x : Int} (h : (Lit.int .i64 x).wf = true) : -9223372036854775808 ≤ x ∧ x ≤ 9223372036854775807 := by
  have h1 : IntKind.i64.max = 9223372036854775807 := by decide
  have h2 : IntKind.i64.min = -9223372036854775808 := by decide
  simp [Lit.wf] at h
  omega
theorem plays_all {w0 w : World} {F : List (Nat × Obj)} {m n c : Nat} {a : DA} {kind nn : Int} {rv kv : Value} {l : Sec} {ks : List Int} (h : GS w0 w F m a n c) (hc1 : c + 1 ≤ 100000) (hb : BytesF w0 F rv l) (hl : l.length ≤ 1048576) (hnn : -9223372036854775808 ≤ nn ∧ nn ≤ 9223372036854775807) (hk : IntsV w0 kv ks) (hkl : ks.length ≤ 1099511627776) :
    Calls Tryz.prog 8 #[.pointer (some ⟨m, 0, none⟩), .agg #[.int .i64 kind, rv, .int .i64 nn, kv]] w (PQ w0 F m a n c) := by
  obtain ⟨p, q, d, j, s, vr, vt, vm, gs, M, h1, h2, h3, h4⟩ := h
  exact play_all h1 h2 h3 h4 hc1 hb hl hnn.1 hnn.2 ks hk hkl
theorem same_all {w0 w : World} {F : List (Nat × Obj)} {m n c : Nat} {a : DA} (h : GS w0 w F m a n c) : Calls Tryz.prog 9 #[.pointer (some ⟨m, 0, none⟩)] w fun e w' => e = .returned (.bool true) ∧ GS w0 w' F m a n c := by
  obtain ⟨p, q, d, j, s, vr, vt, vm, gs, M, h1, h2, h3, h4⟩ := id h
  exact (msame_any h1 h2 h3).mono fun e w' ⟨g1, g2⟩ => ⟨g1, h.quiet g2⟩
end Go.Proofs.YtfnedeaemjchgaaGreat

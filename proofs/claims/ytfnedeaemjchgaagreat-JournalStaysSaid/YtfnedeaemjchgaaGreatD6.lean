/- Write and Sync. -/
import Derived.Test.YtfnedeaemjchgaaGreatD5
namespace Go.Proofs.YtfnedeaemjchgaaGreat
open Go.RowKit Go.Maps

def Disk.fall (d : Disk) : Disk := { d with met := d.met.fall }
def Disk.write (d : Disk) (k : Int) (l : Sec) : Disk :=
  { d with met := d.met.tick, now := upd d.now k l, old := if (d.old k).isSome then d.old else upd d.old k (d.get k) }
def Disk.sync (d : Disk) : Disk := { d with met := { d.met.tick with syncs := wrap64 (d.met.syncs + 1) }, old := fun _ => none }

theorem Write_nil (at_ : Int) (v : Value) (w : World) : Calls Tryz.prog 63 #[.pointer none, .int .i64 at_, v] w fun e w' => e = .returned (err 1) ∧ w = w' := by
  go_enter Tryz.func63, Tryz.ntmps63
  go_wp2_with (go_at_call 78; (with_reducible refine (has_nil _ _).mono ?_); rintro e w' ⟨rfl, rfl⟩)
  go_ret
  exact ⟨rfl, rfl⟩

theorem Write_out (a : DA) (d : Disk) (at_ : Int) (v : Value) (w : World) (h : Dev w a d) (hi : inB at_ d.size = false) :
    Calls Tryz.prog 63 #[.pointer (some ⟨a.p, 0, none⟩), .int .i64 at_, v] w fun e w' => e = .returned (err 1) ∧ w = w' := by
  have hc := has_any a.p d.met d.size a.bn a.bs at_ w h.blk
  rw [hi] at hc
  clear hi
  go_enter Tryz.func63, Tryz.ntmps63
  go_wp2_with (go_at_call 78; (with_reducible refine hc.mono ?_); rintro e w' ⟨rfl, rfl⟩)
  go_ret
  exact ⟨rfl, rfl⟩

/-- Bounds that every slice that is there keeps. -/
def Fits (ls : List Sec) : Prop := ls.length ≤ 4611686018427387904 ∧ ∀ l ∈ ls, l.length ≤ 9223372036854775807

theorem Write_form (a : DA) (d : Disk) (at_ : Int) (v : Value) (ls : List Sec) (w : World) (h : Dev w a d) (hi : inB at_ d.size = true) (hv : Parts w v ls) (hf : Fits ls) (ht : total ls ≠ 512) :
    Calls Tryz.prog 63 #[.pointer (some ⟨a.p, 0, none⟩), .int .i64 at_, v] w fun e w' => e = .returned (err 2) ∧ w = w' := by
  have hc := has_any a.p d.met d.size a.bn a.bs at_ w h.blk
  have hg := fill_any v ls w hv hf.1 hf.2
  rw [hi] at hc
  rw [decide_eq_false ht] at hg
  clear hi ht hf
  go_enter Tryz.func63, Tryz.ntmps63
  go_wp2_with (first | (go_at_call 78; (with_reducible refine hc.mono ?_); rintro e w' ⟨rfl, rfl⟩) | (go_at_call 79; (with_reducible refine hg.mono ?_); rintro e w' ⟨rfl, rfl⟩))
  go_ret
  exact ⟨rfl, rfl⟩

set_option maxRecDepth 100000 in
theorem Write_off (a : DA) (d : Disk) (at_ : Int) (v : Value) (ls : List Sec) (w : World) (h : Dev w a d) (hi : inB at_ d.size = true) (hv : Parts w v ls) (hf : Fits ls) (ht : total ls = 512) (hd : d.met.off = true) :
    Calls Tryz.prog 63 #[.pointer (some ⟨a.p, 0, none⟩), .int .i64 at_, v] w fun e w' => e = .returned (err 3) ∧ Dev w' a d.fall ∧ Only a.bl w w' := by
  have hc := has_any a.p d.met d.size a.bn a.bs at_ w h.blk
  have hg := fill_any v ls w hv hf.1 hf.2
  have hs := step_off a.p d.met d.size a.bn a.bs w h.blk hd
  rw [hi] at hc
  rw [decide_eq_true ht] at hg
  clear hi ht hf hd
  go_enter Tryz.func63, Tryz.ntmps63
  go_wp2_with (first
    | (go_at_call 78; (with_reducible refine hc.mono ?_); rintro e w' ⟨rfl, rfl⟩)
    | (go_at_call 79; (with_reducible refine hg.mono ?_); rintro e w' ⟨rfl, rfl⟩)
    | (go_at_call 70; (with_reducible refine hs.mono ?_); rintro e w1 ⟨rfl, hb1, ho1⟩))
  go_ret
  exact ⟨rfl, ⟨hb1, h.now.kept ho1 (by simpa using h.np), h.old.kept ho1 (by simpa using h.sp), h.ne, h.lo, h.hi⟩, ho1.mono (by simp [DA.bl])⟩

set_option maxRecDepth 100000 in
theorem Write_on (a : DA) (d : Disk) (at_ : Int) (v : Value) (ls : List Sec) (w : World) (h : Dev w a d) (hi : inB at_ d.size = true) (hv : Parts w v ls) (hf : Fits ls) (ht : total ls = 512) (hd : d.met.off = false) :
    Calls Tryz.prog 63 #[.pointer (some ⟨a.p, 0, none⟩), .int .i64 at_, v] w fun e w' => e = .returned .nilIface ∧ Dev w' a (d.write at_ ls.flatten) ∧ Only a.bl w w' := by
  have hc := has_any a.p d.met d.size a.bn a.bs at_ w h.blk
  have hg := fill_any v ls w hv hf.1 hf.2
  have hs := step_on a.p d.met d.size a.bn a.bs w h.blk hd
  have hin := inB_iff.1 hi
  have hhi := h.hi
  have hwf := wf_i64 hin.1 (by omega)
  have HT := Lib.hid ht
  have HF := Lib.hid hf
  have HN := Lib.hid hin
  rw [hi] at hc
  rw [decide_eq_true ht] at hg
  clear hi ht hf hd hin
  cases ho : d.old at_ with
  | none =>
    have HO := Lib.hid ho
    clear ho
    go_enter Tryz.func63, Tryz.ntmps63
    go_wp2_with (first
    | (go_at_call 78; (with_reducible refine hc.mono ?_); rintro e w' ⟨rfl, rfl⟩)
    | (go_at_call 79; (with_reducible refine hg.mono ?_); rintro e w' ⟨rfl, rfl⟩)
    | (go_at_call 70
       (with_reducible refine hs.mono ?_)
       rintro e w1 ⟨rfl, hb1, ho1⟩
       have hold := h.old.kept ho1 (by simpa using h.sp)
       have hlk := hold.look_ok key_int Tryz.underlying77 zero_sector hwf
       rw [HO.out] at hlk
       change _ = Result.ok (Value.tuple #[.agg (enc zeros), .bool false]) _ at hlk
       have c7 := hb1.c7
       have c6 := hb1.c6)
    | (refine wpList_alloc_sector rfl rfl ?_; intro w2 g2 hb2 hg2 ho2)
    | (refine wpList_store_sector (l := zeros) (old := zeros) rfl (.tmp 8) (.tmp 33) rfl g2 (by rfl) (by rfl) zeros_length zeros_length hb2 ?_; intro w3 hb3 ho3))
    have ho12 : Only [a.p] w w3 := (ho1.trans ho2 (by simp)).trans ho3 (by have := ho1.size; simp; omega)
    have hlp := h.blk.lt
    have hb3' : DBlk w3 a.p d.met.tick d.size a.bn a.bs := hb1.kept ((ho2.mono (T := [g2]) (by simp)).trans ho3 (by simp)) (by have := ho1.size; simp; omega)
    have hnow := h.now.kept ho12 (by simpa using h.np)
    have hold3 := h.old.kept ho12 (by simpa using h.sp)
    have hlk3 := (hnow.kept ((Only.refl [] _).drew) (by simp)).look key_int Tryz.underlying77 zero_sector hwf
    change Sem.run _ _ w3.drew = Result.ok (Value.agg (enc (d.get at_))) w3.drew at hlk3
    have d7 := hb3'.c7
    have d6 := hb3'.c6
    have hv3 := hv.kept ho12 (h.clean.mono (by simp [DA.bl]))
    have hgl := h.get_length at_
    have HH := Lib.hid h
    clear hlk c7 c6 hc hg hs hb1 ho1 hold h hv hb2 hg2 ho2 hb3 ho3
    go_still_tail 11, (by kernel_rfl)
    change wpList _ _ _ _ _ w3.drew
    have o4 : Only [a.p] w w3.drew := ho12.drew
    have b4 : DBlk w3.drew a.p d.met.tick d.size a.bn a.bs := hb3'
    have n4 : SMap Tryz.prog w3.drew a.bn d.now := hnow.kept ((Only.refl [] _).drew) (by simp)
    have s4 : SMap Tryz.prog w3.drew a.bs d.old := hold3.kept ((Only.refl [] _).drew) (by simp)
    have v4 : Parts w3.drew v ls := hv3.kept ((Only.refl [] _).drew) (clean_nil _)
    clear hlk3 d7 d6 ho12 hb3' hnow hold3 hv3
    generalize w3.drew = w4 at o4 b4 n4 s4 v4 ⊢
    go_wp2_with (refine wpList_smap_store rfl (.tmp 40) (.tmp 41) (.tmp 47) rfl key_int Tryz.underlying77 (by rfl) s4 at_ (by rfl) HN.out.1 (by have := HN.out; omega) (d.get at_) (by rfl) hgl ?_; intro w5 s5 o5)
    have b5 : DBlk w5 a.p d.met.tick d.size a.bn a.bs := b4.kept o5 (by simpa using HH.out.sp.symm)
    have n5 := n4.kept o5 (by simpa using HH.out.ne)
    have v5 := v4.kept o5 (fun ad u hc hu => by simpa using cell_no_map s4 hc)
    have c6 := b5.c6
    have hj := fun W (hW : Parts W v ls) => join_any v ls W hW HF.out.1 HT.out
    have hfl : ls.flatten.length = 512 := by rw [← total_flatten]; exact HT.out
    go_frame
    go_region_law
      (go_simp
       go_at_call 80
       (with_reducible refine (hj _ (v5.kept ((Only.refl [] _).drew) (clean_nil _))).mono ?_)
       rintro e w6 ⟨rfl, o6⟩
       have q6 : Only [] w5 w6 := ((Only.refl [] _).drew).trans o6 (by simp)
       obtain ⟨w7, h7, n7, o7⟩ := (n5.kept q6 (by simp)).store key_int Tryz.underlying77 HN.out.1 (by have := HN.out; omega) hfl
       have d6 := (b5.kept q6 (by simp)).c6)
    all_goals
      have b7 := (b5.kept q6 (by simp)).kept o7 (by simpa using HH.out.np.symm)
      have s7 := (s5.kept q6 (by simp)).kept o7 (by simpa using HH.out.ne.symm)
      have z7 : Only a.bl w w7 := (((o4.mono (T := a.bl) (by simp [DA.bl])).trans o5 (by simp [DA.bl])).trans q6 (by simp)).trans o7 (by simp [DA.bl])
      have e7 : (d.write at_ ls.flatten).old = upd d.old at_ (d.get at_) := by simp [Disk.write, HO.out]
      have HE := Lib.hid e7
      clear hj h7 d6 c6 e7 hfl hgl
      go_wp2
      go_ret
      exact ⟨rfl, ⟨b7, n7, by rw [HE.out]; exact s7, HH.out.ne, HH.out.lo, HH.out.hi⟩, z7⟩
  | some l0 =>
    have HO := Lib.hid ho
    clear ho
    go_enter Tryz.func63, Tryz.ntmps63
    go_wp2_with (first
    | (go_at_call 78; (with_reducible refine hc.mono ?_); rintro e w' ⟨rfl, rfl⟩)
    | (go_at_call 79; (with_reducible refine hg.mono ?_); rintro e w' ⟨rfl, rfl⟩)
    | (go_at_call 70
       (with_reducible refine hs.mono ?_)
       rintro e w1 ⟨rfl, hb1, ho1⟩
       have hold := h.old.kept ho1 (by simpa using h.sp)
       have hlk := hold.look_ok key_int Tryz.underlying77 zero_sector hwf
       have hl0 : l0.length = 512 := by
         obtain ⟨_, _, _, hr⟩ := hold
         exact (hr.len _ _ HO.out).1
       have HL0 := Lib.hid hl0
       clear hl0
       rw [HO.out] at hlk
       change _ = Result.ok (Value.tuple #[.agg (enc l0), .bool true]) _ at hlk
       have c7 := hb1.c7
       have c6 := hb1.c6)
    | (refine wpList_alloc_sector rfl rfl ?_; intro w2 g2 hb2 hg2 ho2)
    | (refine wpList_store_sector (l := l0) (old := zeros) rfl (.tmp 8) (.tmp 33) rfl g2 (by rfl) (by rfl) HL0.out zeros_length hb2 ?_; intro w5 hb3 ho3))
    have o5 : Only [a.p] w w5 := (ho1.trans ho2 (by simp)).trans ho3 (by have := ho1.size; simp; omega)
    have hlp := h.blk.lt
    have b5 : DBlk w5 a.p d.met.tick d.size a.bn a.bs := hb1.kept ((ho2.mono (T := [g2]) (by simp)).trans ho3 (by simp)) (by have := ho1.size; simp; omega)
    have n5 := h.now.kept o5 (by simpa using h.np)
    have s5 := h.old.kept o5 (by simpa using h.sp)
    have v5 := hv.kept o5 (h.clean.mono (by simp [DA.bl]))
    have HH := Lib.hid h
    clear hlk c7 c6 hc hg hs hb1 ho1 hold h hv hb2 hg2 ho2 hb3 ho3
    have c6 := b5.c6
    have hj := fun W (hW : Parts W v ls) => join_any v ls W hW HF.out.1 HT.out
    have hfl : ls.flatten.length = 512 := by rw [← total_flatten]; exact HT.out
    go_region_law
      (go_simp
       go_at_call 80
       (with_reducible refine (hj _ (v5.kept ((Only.refl [] _).drew) (clean_nil _))).mono ?_)
       rintro e w6 ⟨rfl, o6⟩
       have q6 : Only [] w5 w6 := ((Only.refl [] _).drew).trans o6 (by simp)
       obtain ⟨w7, h7, n7, o7⟩ := (n5.kept q6 (by simp)).store key_int Tryz.underlying77 HN.out.1 (by have := HN.out; omega) hfl
       have d6 := (b5.kept q6 (by simp)).c6)
    all_goals
      have b7 := (b5.kept q6 (by simp)).kept o7 (by simpa using HH.out.np.symm)
      have s7 := (s5.kept q6 (by simp)).kept o7 (by simpa using HH.out.ne.symm)
      have z7 : Only a.bl w w7 := ((o5.mono (T := a.bl) (by simp [DA.bl])).trans q6 (by simp)).trans o7 (by simp [DA.bl])
      have e7 : (d.write at_ ls.flatten).old = d.old := by simp [Disk.write, HO.out]
      have HE := Lib.hid e7
      clear hj h7 d6 c6 e7 hfl
      go_wp2
      go_ret
      exact ⟨rfl, ⟨b7, n7, by rw [HE.out]; exact s7, HH.out.ne, HH.out.lo, HH.out.hi⟩, z7⟩

/-! ### Sync -/
theorem Sync_nil (w : World) : Calls Tryz.prog 54 #[.pointer none] w fun e w' => e = .returned (err 3) ∧ w = w' := by
  go_enter Tryz.func54, Tryz.ntmps54
  go_wp2
  go_ret
  exact ⟨rfl, rfl⟩

theorem Sync_off (a : DA) (d : Disk) (w : World) (h : Dev w a d) (hd : d.met.off = true) :
    Calls Tryz.prog 54 #[.pointer (some ⟨a.p, 0, none⟩)] w fun e w' => e = .returned (err 3) ∧ Dev w' a d.fall ∧ Only a.bl w w' := by
  have hs := step_off a.p d.met d.size a.bn a.bs w h.blk hd
  clear hd
  go_enter Tryz.func54, Tryz.ntmps54
  go_wp2_with (go_at_call 70; (with_reducible refine hs.mono ?_); rintro e w1 ⟨rfl, hb1, ho1⟩)
  go_ret
  exact ⟨rfl, ⟨hb1, h.now.kept ho1 (by simpa using h.np), h.old.kept ho1 (by simpa using h.sp), h.ne, h.lo, h.hi⟩, ho1.mono (by simp [DA.bl])⟩

theorem Sync_on (a : DA) (d : Disk) (w : World) (h : Dev w a d) (hd : d.met.off = false) :
    Calls Tryz.prog 54 #[.pointer (some ⟨a.p, 0, none⟩)] w fun e w' => e = .returned .nilIface ∧ Dev w' a d.sync ∧ Only a.bl w w' := by
  have hs := step_on a.p d.met d.size a.bn a.bs w h.blk hd
  clear hd
  go_enter Tryz.func54, Tryz.ntmps54
  go_wp2_with (first
    | (go_at_call 70
       (with_reducible refine hs.mono ?_)
       rintro e w1 ⟨rfl, hb1, ho1⟩
       have c1 : w1.cell? ⟨a.p, 1, none⟩ = some (.int .i64 d.met.syncs) := hb1.c1
       have f1 := hb1.free 1
       have hk := heap_cell (g := a.p) (i := 1) (.int .i64 (wrap64 (d.met.syncs + 1))) hb1
       have c7 : (w1.setCell ⟨a.p, 1, none⟩ (.int .i64 (wrap64 (d.met.syncs + 1)))).cell? ⟨a.p, 7, none⟩ = some (.map (some a.bs)) := (World.cell?_setCell_other _ ⟨a.p, 1, none⟩ ⟨a.p, 7, none⟩ _ (by simp)).trans hb1.c7
       have HK := Lib.hid hk
       have o2 : Only [a.p] w (w1.setCell ⟨a.p, 1, none⟩ (.int .i64 (wrap64 (d.met.syncs + 1)))) := ho1.setCell (by simp) _
       have s2 := h.old.kept o2 (by simpa using h.sp)
       clear hk)
    | (go_at_call 71; (with_reducible refine (add_any _ _ _ _ _ c1 f1).mono ?_); rintro e w' ⟨rfl, rfl⟩)
    | (refine wpList_smap_clear rfl (.tmp 22) rfl Tryz.underlying77 (by rfl) s2 ?_; intro w3 s3 o3))
  go_ret
  have n3 := (h.now.kept o2 (by simpa using h.np)).kept o3 (by simpa using h.ne)
  have b3 : DBlk w3 a.p d.sync.met d.size a.bn a.bs := o3.heap HK.out (by simpa using h.sp.symm)
  exact ⟨rfl, ⟨b3, n3, s3, h.ne, h.lo, h.hi⟩, (o2.mono (T := a.bl) (by simp [DA.bl])).trans o3 (by simp [DA.bl])⟩
end Go.Proofs.YtfnedeaemjchgaaGreat

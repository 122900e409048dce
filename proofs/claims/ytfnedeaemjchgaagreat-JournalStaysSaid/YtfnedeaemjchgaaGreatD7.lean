/- Crash. -/
import Derived.Test.YtfnedeaemjchgaaGreatD6
namespace Go.Proofs.YtfnedeaemjchgaaGreat
open Go.RowKit Go.Maps

def dels (m : Int → Option Sec) (ks : List Int) : Int → Option Sec := fun z => if z ∈ ks then none else m z
theorem dels_nil (m : Int → Option Sec) : dels m [] = m := by funext z; simp [dels]
theorem dels_succ (m : Int → Option Sec) (ks : List Int) (i : Nat) (k : Int) (h : ks[i]? = some k) : del (dels m (ks.take i)) k = dels m (ks.take (i + 1)) := by
  funext z
  have hi : i < ks.length := (List.getElem?_eq_some_iff.1 h).1
  rw [List.take_add_one, h]
  simp only [del, dels, List.mem_append, Option.toList_some, List.mem_singleton]
  by_cases e : z = k
  · simp [e]
  · by_cases e2 : z ∈ ks.take i <;> simp [e, e2]
def over (now m : Int → Option Sec) (left : Int → Bool) : Int → Option Sec := fun z => if left z then now z else match m z with | some l => some l | none => now z
def back (now m : Int → Option Sec) : Int → Option Sec := fun z => match m z with | some l => some l | none => now z
theorem over_start (now m : Int → Option Sec) : over now m (fun k => (m k).isSome) = now := by
  funext z
  cases hm : m z <;> simp [over, hm]
theorem over_end (now m : Int → Option Sec) (left : Int → Bool) (h : ∀ k, left k = false) : over now m left = back now m := by
  funext z
  simp [over, back, h]
theorem over_step (now m : Int → Option Sec) (left : Int → Bool) (x : Int) (l : Sec) (hm : m x = some l) : upd (over now m left) x l = over now m (fun z => left z && z != x) := by
  funext z
  simp only [upd, over]
  by_cases e : z = x
  · subst e
    simp [hm]
  · simp [e]
def Disk.crash (d : Disk) (ks : List Int) : Disk := { d with met := d.met.rest, now := back d.now (dels d.old ks), old := fun _ => none }

theorem Crash_nil (v : Value) (w : World) : Calls Tryz.prog 42 #[.pointer none, v] w fun e w' => e = .returned (.tuple #[]) ∧ w = w' := by
  go_enter Tryz.func42, Tryz.ntmps42
  go_wp2
  go_returns
  exact ⟨rfl, rfl⟩

set_option maxRecDepth 100000 in
theorem Crash_any (a : DA) (d : Disk) (v : Value) (ks : List Int) (w : World) (h : Dev w a d) (hv : IntsV w v ks) (hsep : Off v a.bl) (hlen : ks.length ≤ 9223372036854775807) :
    Calls Tryz.prog 42 #[.pointer (some ⟨a.p, 0, none⟩), v] w fun e w' => e = .returned (.tuple #[]) ∧ Dev w' a (d.crash ks) ∧ Only a.bl w w' := by
  have hv' := hv
  obtain ⟨va, vcap, rfl, _⟩ := hv'
  have HV := Lib.hid hv
  have HS := Lib.hid hsep
  have HD := Lib.hid h
  clear hv h hsep
  go_enter Tryz.func42, Tryz.ntmps42
  go_wp2
  go_loopw [5, 12] (fun _ i wr => ∃ k : Nat, k ≤ ks.length ∧ i = .int .i64 k ∧ SMap Tryz.prog wr a.bs (dels d.old (ks.take k)) ∧ Only [a.bs] w wr) (fun _ i _ => ks.length - (intOf i).toNat)
  case atStart => exact ⟨0, by omega, rfl, by rw [List.take_zero, dels_nil]; exact HD.out.old, Only.refl _ _⟩
  case round =>
    obtain ⟨k, hk, rfl, hs, ho⟩ := hrel
    have hb := HD.out.blk.kept ho (by simpa using HD.out.sp.symm)
    have c7 := hb.c7
    by_cases hlt : k < ks.length
    · have hkl : ks[k]? = some ks[k] := List.getElem?_eq_getElem hlt
      obtain ⟨hwf, b, off, cap1, hva, hcell⟩ := (HV.out.kept ho (fun x n c e h0 hx => HS.out x n c e h0 (by simp [DA.bl] at hx ⊢; simp [hx]))).at_ hkl
      cases hva
      have HX := Lib.hid (dels_succ d.old ks k _ hkl)
      clear hkl
      go_wp2_with (refine wpList_smap_delete rfl (.tmp 19) (.tmp 20) rfl key_int Tryz.underlying77 (by rfl) hs ks[k] (by rfl) hwf ?_; intro w5 h5 o5)
      rw [HX.out] at h5
      go_roundw
      case rel => exact ⟨k + 1, by omega, by go_num, h5, ho.trans o5 (by simp)⟩
      case measure => simp [intOf]; omega
    · obtain rfl : k = ks.length := by omega
      rw [List.take_length] at hs
      go_wp2_with (refine wpList_smap_range rfl (.tmp 25) rfl key_int Tryz.underlying77 (by rfl) hs ?_; intro w5 r cnt hr hrl o5)
      go_frame
      have hn1 := (HD.out.now.kept ho (by simpa using HD.out.ne)).kept o5 (by simp)
      have hb1 := hb.kept o5 (by simp)
      have hor : Only [a.bs] w w5 := ho.trans o5 (by simp)
      have hrz : w.heap.size ≤ r := Nat.le_trans ho.size hrl
      obtain ⟨m1, hm1⟩ : ∃ m1, m1 = dels d.old ks := ⟨_, rfl⟩
      rw [← hm1] at hr
      have HM := Lib.hid hm1
      have hlb := HD.out.lt
      have hrp : r ≠ a.p := by have := hlb a.p (by simp [DA.bl]); omega
      have hrn : r ≠ a.bn := by have := hlb a.bn (by simp [DA.bl]); omega
      have HP := Lib.hid hrp
      have HN := Lib.hid hrn
      clear hs ho hb c7 hrl hm1 hlb hrp hrn o5
      go_loopw [6, 7] (fun _ _ wr => ∃ left cnt, SRange Tryz.prog wr a.bs r m1 left cnt ∧ SMap Tryz.prog wr a.bn (over d.now m1 left) ∧ DBlk wr a.p d.met d.size a.bn a.bs ∧ Only [a.bs, a.bn] w wr) (fun _ _ wr => wr.rangeLeft a.bs r)
      case atStart => exact ⟨_, cnt, hr, by rw [over_start]; exact hn1, hb1, hor.mono (by simp)⟩
      case round =>
        clear hr hn1 hb1 hor
        obtain ⟨left, cnt1, hr, hn, hb, ho⟩ := hrel
        have c6 := hb.c6
        have c7 := hb.c7
        have HL := Lib.hid hr.left_eq
        go_wp2_with (first
          | (refine wpList_smap_next rfl (.tmp 26) rfl key_int (by rfl) hr (fun hc0 hl0 => ?_) (fun x l w6 cnt2 hlx hmx hr6 hlt6 o6 hen => ?_))
          | (refine wpList_alloc_sector rfl rfl ?_; intro w7 g7 hb7 hg7 o7)
          | (refine wpList_store_sector (l := l) (old := zeros) rfl (.tmp 7) (.tmp 31) rfl g7 (by rfl) (by rfl) (by obtain ⟨_, _, _, hrd⟩ := hr6.map; exact (hrd.len _ _ hmx).1) zeros_length hb7 ?_; intro w8 hb8 o8)
          | (refine wpList_smap_clear rfl (.tmp 41) rfl Tryz.underlying77 (by rfl) hr.map ?_
             intro w10 s10 o10
             have b10 := hb.kept o10 (by simpa using HD.out.sp.symm))
          | (go_at_call 56
             (with_reducible refine (restore_any _ _ _ _ _ _ b10).mono ?_)
             rintro e w11 ⟨rfl, b11, o11⟩))
        · go_returns
          have n11 := (hn.kept o10 (by simpa using HD.out.ne)).kept o11 (by simpa using HD.out.np)
          rw [over_end _ _ _ hl0, HM.out] at n11
          exact ⟨rfl, ⟨b11, n11, s10.kept o11 (by simpa using HD.out.sp), HD.out.ne, HD.out.lo, HD.out.hi⟩, ((ho.mono (T := a.bl) (by simp [DA.bl])).trans o10 (by simp [DA.bl])).trans o11 (by simp [DA.bl])⟩
        · go_frame
          have hlen8 : l.length = 512 := by obtain ⟨_, _, _, hrd⟩ := hr6.map; exact (hrd.len _ _ hmx).1
          have hin8 : 0 ≤ x ∧ x < 4096 := by obtain ⟨_, _, _, hrd⟩ := hr6.map; exact (hrd.len _ _ hmx).2
          have z6 := o6.size
          have zo := ho.size
          have zr := hr.lt
          have q8 : Only [r] wr w8 := (o6.trans o7 (by simp)).trans o8 (by simp; omega)
          have r8 := (hr6.kept o7 (by simp) (by simp)).kept o8 (S := [g7]) (by have := hr.map.lt; simp; omega) (by simp; omega)
          have n8 := hn.kept q8 (by simpa using HN.out.symm)
          have b8 := hb.kept q8 (by simpa using HP.out.symm)
          have hb8d : w8.drew.heap[g7]? = some (.cells (enc l) 98 (0, 0)) := hb8
          have d6 : w8.cell? ⟨a.p, 6, none⟩ = some (.map (some a.bn)) := b8.c6
          clear hen c6 c7 z6 zo zr
          refine wp_region_still_tail 6 (by kernel_rfl) (by kernel_rfl) ?_
          simp only [List.take_succ_cons, List.take_zero, List.drop_succ_cons, List.drop_zero]
          iterate 5 still_step
          refine wpStill_load_sector (l := l) rfl (.tmp 7) rfl g7 (by rfl) hlen8 hb8d ?_
          refine wpStill_nil ?_
          change wpList _ _ _ _ _ w8.drew
          have n9 : SMap Tryz.prog w8.drew a.bn (over d.now m1 left) := n8.kept ((Only.refl [] _).drew) (by simp)
          have b9 : DBlk w8.drew a.p d.met d.size a.bn a.bs := b8
          have r9 := r8.kept ((Only.refl [] _).drew) (by simp) (by simp)
          have o9 : Only [a.bs, a.bn] w w8.drew := ((ho.trans q8 (by simp; omega))).drew
          have HE := Lib.hid (over_step d.now m1 left x l hmx)
          clear hb8d d6 r8 n8 b8 q8 hb8 o8 hb7 o7 hr6 o6 hr hn hb ho hg7
          generalize w8.drew = w9 at n9 b9 r9 o9 ⊢
          go_wp2_with (refine wpList_smap_store rfl (.tmp 35) (.tmp 36) (.tmp 37) rfl key_int Tryz.underlying77 (by rfl) n9 x (by rfl) hin8.1 hin8.2 l (by rfl) hlen8 ?_; intro w10 n10 o10)
          rw [HE.out] at n10
          have r10 := r9.kept o10 (by simpa using HD.out.ne.symm) (by simpa using HN.out)
          have b10 := b9.kept o10 (by simpa using HD.out.np.symm)
          have z10 : Only [a.bs, a.bn] w w10 := o9.trans o10 (by simp)
          clear n9 b9 r9 o9 o10
          go_frame
          go_roundw
          case rel => exact ⟨_, _, r10, n10, b10, z10⟩
          case measure => rw [r10.left_eq, HL.out]; exact hlt6
end Go.Proofs.YtfnedeaemjchgaaGreat

/- Unsynced where nothing, or one sector, is unsynced. -/
import Derived.Test.YtdmkmjlkogkmgaaD8
namespace Go.Proofs.Ytdmkmjlkogkmgaa
open Go.RowKit Go.Maps
set_option linter.unusedSimpArgs false

theorem ins_small (v : Value) (n : Int) (w : World) (h0 : 0 ≤ n) (h1 : n ≤ 1) : Calls Try.prog 81 #[v, .int .i64 0, .int .i64 n] w fun e w' => e = .returned (.tuple #[]) ∧ w = w' := by
  go_enter Try.func81, Try.ntmps81
  go_wp2_with fail
  refine wp_loop_rounds 1 ?_
  rw [rounds_succ]
  go_wp2_with fail
  go_returns
  exact ⟨rfl, rfl⟩

theorem pdq_small (v : Value) (n l : Int) (w : World) (h0 : 0 ≤ n) (h1 : n ≤ 1) : Calls Try.prog 65 #[v, .int .i64 0, .int .i64 n, .int .i64 l] w fun e w' => e = .returned (.tuple #[]) ∧ w = w' := by
  go_enter Try.func65, Try.ntmps65
  go_wp2_with fail
  refine wp_loop_rounds 1 ?_
  rw [rounds_succ]
  go_wp2_with (go_at_call 81; (with_reducible refine (ins_small _ _ _ h0 h1).mono ?_); rintro e w' ⟨rfl, rfl⟩)
  go_returns
  exact ⟨rfl, rfl⟩

set_option maxRecDepth 100000 in
theorem sort_small (a : Option Addr) (n c : Nat) (w : World) (h1 : n ≤ 1) : Calls Try.prog 43 #[.slice a n c] w fun e w' => e = .returned (.tuple #[]) ∧ w = w' := by
  have h2 : (0 : Int) ≤ (n : Int) := by omega
  have h3 : (n : Int) ≤ 1 := by omega
  rcases (show n = 0 ∨ n = 1 by omega) with rfl | rfl
  · go_enter Try.func43, Try.ntmps43
    go_wp2_with (first | (go_at_call 65; (with_reducible refine (pdq_small _ _ _ _ (by omega) (by omega)).mono ?_); rintro e w' ⟨rfl, rfl⟩) | go_in)
    go_returns
    exact ⟨rfl, rfl⟩
  · go_enter Try.func43, Try.ntmps43
    go_wp2_with (first | (go_at_call 65; (with_reducible refine (pdq_small _ _ _ _ (by omega) (by omega)).mono ?_); rintro e w' ⟨rfl, rfl⟩) | go_in)
    go_returns
    exact ⟨rfl, rfl⟩

set_option maxRecDepth 100000 in
theorem unsynced_none (a : DA) (d : Disk) (w : World) (h : Dev w a d) (ho : d.old = fun _ => none) :
    Calls Try.prog 21 #[.pointer (some ⟨a.p, 0, none⟩)] w fun e w' => e = .returned (.slice none 0 0) ∧ Only [] w w' := by
  have c7 := h.blk.c7
  have HO := Lib.hid ho
  have HD := Lib.hid h
  clear ho h
  go_enter Try.func21, Try.ntmps21
  go_wp2_with (refine wpList_smap_range rfl (.tmp 10) rfl key_int Try.underlying61 (by rfl) HD.out.old ?_; intro w5 r cnt hr hrl o5)
  go_frame
  refine wp_loop_rounds 1 ?_
  rw [rounds_succ]
  go_wp2_with (first
    | (refine wpList_smap_next rfl (.tmp 11) rfl key_int (by rfl) hr (fun hc0 hl0 => ?_) (fun x l w6 cnt2 hlx hmx hr6 hlt6 o6 hen => absurd hmx (by rw [HO.out]; simp)))
    | (go_at_call 43; (with_reducible refine (sort_small _ _ _ _ (by omega)).mono ?_); rintro e w' ⟨rfl, rfl⟩))
  go_ret
  exact ⟨rfl, o5⟩
end Go.Proofs.Ytdmkmjlkogkmgaa

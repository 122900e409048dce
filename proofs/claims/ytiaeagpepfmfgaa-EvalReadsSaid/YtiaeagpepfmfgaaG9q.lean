import Derived.Test.YtiaeagpepfmfgaaG8q
namespace Go.Proofs.Ytiaeagpepfmfgaa
open Go.RowKit Go.Maps
set_option linter.unusedSimpArgs false
set_option linter.unusedVariables false
theorem posOk_adv {α:Type} {ts:List Tok} {i:Nat} {r:Except Nat (α×Nat)} (h:Adv ts i r):PosOk ts (nextP r):=by
 cases r with
 | error k=>exact h.2
 | ok y=>
  obtain ⟨t,a⟩:=y
  exact h.2
section
variable {w w':World} {v:Value} {ts:List Tok}
set_option maxHeartbeats 1000000 in
theorem around_no (h:TS w v ts) {i:Nat} (hi:i < ts.length) (dp:Nat) (hdp:dp≤13) (x y:ByteArray) (h12:12≤dp) (hx:isT ts i x.data.toList=true) :
  Calls Try.prog 77 #[v,.int .i64 (i:Int),.int .i64 (dp:Int),.string x,.string y] w (RE w (.error i)):=by
 obtain ⟨a,cap,rfl⟩:=h.shape
 have hlen:=h.len
 have KI:=fun (W:World) (ho:Only [] w W)=>ris_any (h.quiet ho) (.ok i) hi x
 rw [show isP ts (.ok i) x.data.toList=true from hx] at KI
 have HKI:=Lib.hid KI
 have h12':(12:Int)≤(dp:Int):=by omega
 have i0:(0:Int)≤(i:Int):=by omega
 clear KI h hx
 go_enter Try.func77,Try.ntmps77
 go_wp2_with fail
 refine (HKI.out _ ((Only.refl [] w).alloc _)).mono ?_
 rintro e w' ⟨rfl,rfl⟩
 go_wp2_with fail
 refine (rbad_any i (by omega) _).mono ?_
 rintro e w' ⟨rfl,rfl⟩
 go_wp2_with fail
 (try simp only [Exit.inBlock,Exit.then])
 refine bodyPost_ret (res_around _ _ w.heap.size (.int .i64 0) (.int .i64 0) (.string ⟨#[]⟩) (.slice none 0 0) (.int .i64 0) (.int .i64 (-1 - (i:Int))) rfl rfl ?_) rfl ?_
 ·first | exact heap_new w _ | exact five_set (heap_new w _) _ _ _ _ _
 ·refine RE.bad rfl ?_
  repeat' (first | with_reducible exact Only.refl _ _ | with_reducible refine Only.alloc ?_ _ | with_reducible refine Only.setCell ?_ (Or.inr ?_) _ | (dsimp only;omega))
theorem raround_step (f:Nat) (IE:ExprC ts f):AroundC ts (f+1):=by
 intro w v i dp x y h hi hf hdp
 by_cases hb:12≤dp∧isT ts i x.data.toList=true
 ·rw [show aroundR ts (f+1) i dp x.data.toList y.data.toList=.error i from by unfold aroundR;exact if_pos hb]
  exact around_no h hi dp hdp x y hb.1 hb.2
 ·by_cases hx:isT ts i x.data.toList=true
  ·have hR:aroundR ts (f+1) i dp x.data.toList y.data.toList=closeR ts (exprR ts f (i+1) 1 (dp+1)) y.data.toList:=by
    unfold aroundR
    rw [if_neg hb,if_pos hx]
    unfold closeR
    cases exprR ts f (i+1) 1 (dp+1)<;>rfl
   have hd:dp < 12:=by
    rcases Nat.lt_or_ge dp 12 with h1 | h1
    ·exact h1
    ·exact absurd ⟨h1,hx⟩ hb
   have hi1:i+1 < ts.length:=isT_lt h.ends hi hx
   rw [hR]
   refine around_go h (.ok i) hi dp hdp x y hb _ (posOk_adv ((adv_expr h.ends f).1 (i+1) 1 (dp+1) hi1)) (fun W ho=>?_)
   rw [show zP (eatP ts (.ok i) x.data.toList)=((i+1:Nat):Int) from by show zP (eatT ts i x.data.toList)=_;unfold eatT;rw [if_pos hx];rfl]
   exact IE W v (i+1) 1 (dp+1) (h.quiet ho) hi1 (by omega) (by omega) (by omega)
  ·have hR:aroundR ts (f+1) i dp x.data.toList y.data.toList=closeR ts (.error i) y.data.toList:=by
    unfold aroundR
    rw [if_neg hb,if_neg hx]
    rfl
   rw [hR]
   refine around_go h (.ok i) hi dp hdp x y hb _ hi (fun W ho=>?_)
   rw [show zP (eatP ts (.ok i) x.data.toList)=zP (.error i) from by show zP (eatT ts i x.data.toList)=_;unfold eatT;rw [if_neg hx]]
   exact rexpr_err (h.quiet ho) i 1 ((dp:Int)+1)
theorem expr_all (ts:List Tok) (f:Nat):SmallC ts f∧AroundC ts f∧ExprC ts f:=by
 induction f using Nat.strongRecOn with
 | _ f ih=>
  cases f with
  | zero=>
   refine ⟨fun w v i dp _ _ hf _=>?_,fun w v i dp x y _ _ hf _=>?_,fun w v i l dp _ _ hf _ _=>?_⟩
   all_goals omega
  | succ f=>
   obtain ⟨h1,h2,h3⟩:=ih f (by omega)
   exact ⟨rsmall_step f h1 h2,raround_step f h3,rexpr_step f h1 (fun g hg=>(ih g (by omega)).2.2)⟩
def exprP (ts:List Tok) (p:Except Nat Nat) (dp:Nat):Except Nat (E×Nat):=match p with | .ok i=>exprT ts i dp | .error k=>.error k
def aroundP (ts:List Tok) (p:Except Nat Nat) (dp:Nat):Except Nat (E×Nat):=match p with | .ok i=>aroundT ts i dp | .error k=>.error k
theorem exprP_ok (he:Ends ts) {p:Except Nat Nat} (hp:PosOk ts p) (dp:Nat):PosOk ts (nextP (exprP ts p dp)):=by
 cases p with
 | error k=>exact hp
 | ok i=>exact posOk_adv ((adv_expr he _).1 i 1 dp hp)
theorem aroundP_ok (he:Ends ts) {p:Except Nat Nat} (hp:PosOk ts p) (dp:Nat):PosOk ts (nextP (aroundP ts p dp)):=by
 cases p with
 | error k=>exact hp
 | ok i=>exact posOk_adv ((adv_expr he _).2.2.2 i dp [91] [93] hp)
theorem rexpr_any (h:TS w v ts) {p:Except Nat Nat} (hp:PosOk ts p) (dp:Nat) (hdp:dp≤13) :
  Calls Try.prog 43 #[v,.int .i64 (zP p),.int .i64 1,.int .i64 (dp:Int)] w (RE w (exprP ts p dp)):=by
 cases p with
 | error k=>exact rexpr_err h k 1 dp
 | ok i=>exact (expr_all ts _).2.2 w v i 1 dp h hp (by omega) (by omega) hdp
theorem raround_any (h:TS w v ts) {p:Except Nat Nat} (hp:PosOk ts p) (dp:Nat) (hdp:dp≤13) :
  Calls Try.prog 77 #[v,.int .i64 (zP p),.int .i64 (dp:Int),.string ⟨#[91]⟩,.string ⟨#[93]⟩] w (RE w (aroundP ts p dp)):=by
 cases p with
 | error k=>exact around_go h (.error k) hp dp hdp ⟨#[91]⟩ ⟨#[93]⟩ (fun e=>by cases e.2) (.error k) hp (fun W ho=>rexpr_err (h.quiet ho) k 1 ((dp:Int)+1))
 | ok i=>exact (expr_all ts _).2.1 w v i dp ⟨#[91]⟩ ⟨#[93]⟩ h hp (by omega) hdp
end
end Go.Proofs.Ytiaeagpepfmfgaa

import Derived.Test.YtagkbbcpbebapaaG14r
import Derived.Test.YtagkbbcpbebapaaGcr
namespace Go.Proofs.Ytagkbbcpbebapaa
open Go.RowKit Go.Maps
set_option linter.unusedSimpArgs false
set_option linter.unusedVariables false
section
variable {ts:List Tok} {α β:Type}
def mapR (g:α→β) (r:Except Nat (α×Nat)):Except Nat (β×Nat):=match r with | .error k=>.error k | .ok (x,a)=>.ok (g x,a)
theorem mapR_z (g:α→β) (r:Except Nat (α×Nat)):zR (mapR g r)=zR r:=by cases r<;>rfl
theorem mapR_ok {g:α→β} {r:Except Nat (α×Nat)} {y:β} {j:Nat} (h:mapR g r=.ok (y,j)):∃ x,r=.ok (x,j)∧y=g x:=by
 cases r with
 | error k=>cases h
 | ok x=>
  obtain ⟨x,a⟩:=x
  unfold mapR at h
  cases h
  exact ⟨x,rfl,rfl⟩
def AdvP (ts:List Tok) (i:Nat) (p:Except Nat Nat):Prop:=match p with | .ok a=>i≤a∧a < ts.length | .error k=>i≤k∧k < ts.length
theorem Adv.next {i:Nat} {r:Except Nat (α×Nat)} (h:Adv ts i r):AdvP ts i (nextP r):=by
 cases r with
 | error k=>exact h
 | ok x=>obtain ⟨x,a⟩:=x;exact ⟨Nat.le_of_lt h.1,h.2⟩
theorem AdvP.ok {i:Nat} {p:Except Nat Nat} (h:AdvP ts i p):PosOk ts p:=by
 cases p with
 | error k=>exact h.2
 | ok a=>exact h.2
theorem Adv.map {i:Nat} {r:Except Nat (α×Nat)} (h:Adv ts i r) (g:α→β):Adv ts i (mapR g r):=by
 cases r with
 | error k=>exact h
 | ok x=>obtain ⟨x,a⟩:=x;exact h
theorem Adv.from {i j:Nat} {r:Except Nat (α×Nat)} (h:Adv ts j r) (hij:i≤j):Adv ts i r:=by
 cases r with
 | error k=>exact ⟨Nat.le_trans hij h.1,h.2⟩
 | ok x=>obtain ⟨x,a⟩:=x;exact ⟨Nat.lt_of_le_of_lt hij h.1,h.2⟩
theorem AdvP.from {i j:Nat} {p:Except Nat Nat} (h:AdvP ts j p) (hij:i≤j):AdvP ts i p:=by
 cases p with
 | error k=>exact ⟨Nat.le_trans hij h.1,h.2⟩
 | ok a=>exact ⟨Nat.le_trans hij h.1,h.2⟩
theorem AdvP.eat (he:Ends ts) {i:Nat} {p:Except Nat Nat} (h:AdvP ts i p) (x:Sec):AdvP ts i (eatP ts p x):=by
 cases p with
 | error k=>exact h
 | ok a=>
  have h2:=eatT_adv he x h.2
  show AdvP ts i (eatT ts a x)
  cases e:eatT ts a x with
  | error k=>rw [e] at h2;obtain rfl:k=a:=h2;exact h
  | ok b=>rw [e] at h2;obtain ⟨rfl,h3⟩:=h2;exact ⟨by have:=h.1;omega,h3⟩
theorem AdvP.expr (he:Ends ts) {i:Nat} {p:Except Nat Nat} (h:AdvP ts i p) (dp:Nat):Adv ts i (exprP ts p dp):=by
 cases p with
 | error k=>exact h
 | ok a=>exact ((adv_expr he _).1 a 1 dp h.2).from h.1
theorem AdvP.num (he:Ends ts) {i:Nat} {p:Except Nat Nat} (h:AdvP ts i p):Adv ts i (numP ts p):=by
 cases p with
 | error k=>exact h
 | ok a=>exact (numT_adv he h.2).from h.1
theorem closeS_adv (he:Ends ts) {i:Nat} {r:Except Nat (E×Nat)} (h:Adv ts i r) (c:Sec) (mk:E→St):Adv ts i (closeS ts r c mk):=by
 cases r with
 | error k=>exact h
 | ok x=>
  obtain ⟨x,a⟩:=x
  have h2:=eatT_adv he c h.2
  unfold closeS
  dsimp only
  cases e:eatT ts a c with
  | error k=>rw [e] at h2;obtain rfl:k=a:=h2;exact ⟨Nat.le_of_lt h.1,h.2⟩
  | ok b=>rw [e] at h2;obtain ⟨rfl,h3⟩:=h2;exact ⟨by have:=h.1;omega,h3⟩
theorem cell_adv (he:Ends ts) {i:Nat} (hi:i < ts.length) (dp:Nat):Adv ts i (cellR ts i dp):=by
 have h1:Adv ts i (aroundT ts i dp):=(adv_expr he _).2.2.2 i dp [91] [93] hi
 cases e:aroundT ts i dp with
 | error k=>rw [cellR_no e];rw [e] at h1;exact h1
 | ok x=>
  obtain ⟨t,a⟩:=x
  rw [cellR_of e]
  rw [e] at h1
  have h1:i < a∧a < ts.length:=h1
  split
  ·rename_i hx
   have h2:a+1 < ts.length:=by rcases hx with hx | hx | hx<;>exact isT_lt he h1.2 hx
   exact (closeS_adv he ((adv_expr he _).1 (a+1) 1 dp h2) _ _).from (by omega)
  ·split
   ·rename_i hx
    have h2:a+1 < ts.length:=isT_lt he h1.2 hx
    exact (closeS_adv he ((adv_expr he _).2.2.2 (a+1) dp [91] [93] h2) _ _).from (by omega)
   ·exact ⟨Nat.le_of_lt h1.1,h1.2⟩
theorem let_adv (he:Ends ts) {i:Nat} (hi:i+1 < ts.length) (dp:Nat):Adv ts i (letR ts i dp):=by
 rw [letR_close]
 exact (closeS_adv he (((wordT_adv he hi).next.eat he _).expr he dp) _ _).from (by omega)
def forP (ts:List Tok) (i:Nat):Except Nat Nat:=eatP ts (eatP ts (eatP ts (nextP (wordT ts (i+1))) [105,110]) [48]) [46,46]
theorem forP_adv (he:Ends ts) {i:Nat} (hi:i+1 < ts.length):AdvP ts (i+1) (forP ts i):=(((wordT_adv he hi).next.eat he _).eat he _).eat he _
theorem forR_num (i:Nat):forR ts i=mapR (fun n=>(valS (wordT ts (i+1)),n)) (numP ts (forP ts i)):=by
 unfold forR forP
 cases hw:wordT ts (i+1) with
 | error k=>rfl
 | ok x=>
  obtain ⟨s,a⟩:=x
  dsimp only [nextP,eatP,valS]
  cases eatT ts a [105,110] with
  | error k=>rfl
  | ok a=>
   dsimp only
   cases eatT ts a [48] with
   | error k=>rfl
   | ok a=>
    dsimp only
    cases eatT ts a [46,46] with
    | error k=>rfl
    | ok a=>
     dsimp only [numP]
     cases numT ts a<;>rfl
def blockP (ts:List Tok) (f:Nat) (p:Except Nat Nat) (dp:Nat):Except Nat (List St×Nat):=match p with | .ok i=>blockR ts f i dp | .error k=>.error k
def ifS (ts:List Tok) (f dp:Nat) (ps:Int) (r:Except Nat (E×Nat)) (rb:Except Nat (List St×Nat)):Except Nat (St×Nat):=match r,rb with
 | .ok (e,_),.ok (b,a)=>if isT ts a [101,108,115,101]=true then mapR (fun c=>.mk 6 [] [e] 0 b c ps) (blockR ts f (a+1) dp) else .ok (.mk 6 [] [e] 0 b [] ps,a)
 | _,.error k=>.error k
 | .error k,.ok _=>.error k
theorem stmtR_if {f i dp:Nat} (h1:isT ts i [91]=false) (h2:isT ts i [108,101,116]=false) (h3:isT ts i [105,102]=true) :
  stmtR ts (f+1) i dp=ifS ts f dp (pAt ts i) (exprT ts (i+1) dp) (blockP ts f (nextP (exprT ts (i+1) dp)) dp):=by
 unfold stmtR
 rw [h1,h2,h3]
 simp only [Bool.false_eq_true,if_false,if_true]
 cases exprT ts (i+1) dp with
 | error k=>rfl
 | ok x=>
  obtain ⟨e,a⟩:=x
  dsimp only [nextP,blockP]
  cases blockR ts f a dp with
  | error k=>rfl
  | ok y=>
   obtain ⟨b,c⟩:=y
   unfold ifS
   dsimp only
   split
   ·cases blockR ts f (c+1) dp<;>rfl
   ·rfl
theorem stmtR_for {f i dp:Nat} (h1:isT ts i [91]=false) (h2:isT ts i [108,101,116]=false) (h3:isT ts i [105,102]=false) (h4:isT ts i [102,111,114]=true) :
  stmtR ts (f+1) i dp=mapR (fun b=>.mk 7 (valS (wordT ts (i+1))) [] (valI (numP ts (forP ts i))) b [] (pAt ts i)) (blockP ts f (nextP (numP ts (forP ts i))) dp):=by
 unfold stmtR
 rw [h1,h2,h3,h4,forR_num]
 simp only [Bool.false_eq_true,if_false,if_true]
 cases numP ts (forP ts i) with
 | error k=>rfl
 | ok x=>
  obtain ⟨n,a⟩:=x
  dsimp only [nextP,blockP,mapR,valI]
  cases blockR ts f a dp<;>rfl
theorem stmtR_let {f i dp:Nat} (h1:isT ts i [91]=false) (h2:isT ts i [108,101,116]=true):stmtR ts (f+1) i dp=letR ts i dp:=by
 unfold stmtR
 rw [h1,h2]
 simp only [Bool.false_eq_true,if_false,if_true]
theorem stmtR_cell {f i dp:Nat} (h1:isT ts i [91]=true):stmtR ts (f+1) i dp=cellR ts i dp:=by
 unfold stmtR
 rw [h1]
 simp only [if_true]
theorem stmtR_none {f i dp:Nat} (h1:isT ts i [91]=false) (h2:isT ts i [108,101,116]=false) (h3:isT ts i [105,102]=false) (h4:isT ts i [102,111,114]=false):stmtR ts (f+1) i dp=.error i:=by
 unfold stmtR
 rw [h1,h2,h3,h4]
 simp only [Bool.false_eq_true,if_false]
def closeL (ts:List Tok) (r:Except Nat (List St×Nat)):Except Nat (List St×Nat):=match r with
 | .error k=>.error k
 | .ok (l,a)=>match eatT ts a [125] with
  | .error k=>.error k
  | .ok b=>.ok (l,b)
theorem blockR_yes {f i dp:Nat} (h1:isT ts i [123]=true) (h2:¬ 12≤dp):blockR ts (f+1) i dp=closeL ts (stmtsR ts f (i+1) (dp+1)):=by
 unfold blockR
 rw [if_neg (fun e=>h2 e.1),if_pos h1]
 unfold closeL
 cases stmtsR ts f (i+1) (dp+1)<;>rfl
theorem blockR_no {f i dp:Nat} (h:isT ts i [123]=true→12≤dp):blockR ts (f+1) i dp=.error i:=by
 unfold blockR
 by_cases h1:isT ts i [123]=true
 ·rw [if_pos ⟨h h1,h1⟩]
 ·rw [if_neg (fun e=>h1 e.2),if_neg h1]
theorem closeL_adv (he:Ends ts) {i:Nat} {r:Except Nat (List St×Nat)} (h:AdvL ts i r):AdvL ts i (closeL ts r):=by
 cases r with
 | error k=>exact h
 | ok x=>
  obtain ⟨x,a⟩:=x
  have h2:=eatT_adv he [125] h.2
  unfold closeL
  dsimp only
  cases e:eatT ts a [125] with
  | error k=>rw [e] at h2;obtain rfl:k=a:=h2;exact h
  | ok b=>rw [e] at h2;obtain ⟨rfl,h3⟩:=h2;exact ⟨by have:=h.1;omega,h3⟩
theorem AdvL.up {i j:Nat} {r:Except Nat (α×Nat)} (h:AdvL ts j r) (hij:i < j):Adv ts i r:=by
 cases r with
 | error k=>exact ⟨by have:=h.1;omega,h.2⟩
 | ok x=>obtain ⟨x,a⟩:=x;exact ⟨by have:=h.1;omega,h.2⟩
theorem adv_stmt (he:Ends ts):∀ f:Nat,(∀ i dp,i < ts.length→Adv ts i (stmtR ts f i dp))∧(∀ i dp,i < ts.length→Adv ts i (blockR ts f i dp))∧(∀ i dp,i < ts.length→AdvL ts i (stmtsR ts f i dp)):=by
 intro f
 induction f with
 | zero=>
  refine ⟨fun i _ hi=>?_,fun i _ hi=>?_,fun i _ hi=>?_⟩
  ·unfold stmtR;exact ⟨Nat.le_refl _,hi⟩
  ·unfold blockR;exact ⟨Nat.le_refl _,hi⟩
  ·unfold stmtsR;exact ⟨Nat.le_refl _,hi⟩
 | succ f ih=>
  obtain ⟨ih1,ih2,ih3⟩:=ih
  have ihP:∀ i p dp,AdvP ts i p→Adv ts i (blockP ts f p dp):=by
   intro i p dp hp
   cases p with
   | error k=>exact hp
   | ok a=>exact (ih2 a dp hp.2).from hp.1
  refine ⟨fun i dp hi=>?_,fun i dp hi=>?_,fun i dp hi=>?_⟩
  ·cases d1:isT ts i [91] with
   | true=>rw [stmtR_cell d1];exact cell_adv he hi dp
   | false=>
    cases d2:isT ts i [108,101,116] with
    | true=>rw [stmtR_let d1 d2];exact let_adv he (isT_lt he hi d2) dp
    | false=>
     cases d3:isT ts i [105,102] with
     | true=>
      rw [stmtR_if d1 d2 d3]
      have hi1:=isT_lt he hi d3
      have h1:Adv ts (i+1) (exprT ts (i+1) dp):=(adv_expr he _).1 (i+1) 1 dp hi1
      have h2:=ihP (i+1) _ dp h1.next
      cases e1:exprT ts (i+1) dp with
      | error k=>rw [e1] at h1;exact (show Adv ts i (.error k:Except Nat (St×Nat)) from ⟨by have:=h1.1;omega,h1.2⟩)
      | ok x=>
       obtain ⟨e,a⟩:=x
       rw [e1] at h1 h2
       cases e2:blockP ts f (nextP (.ok (e,a):Except Nat (E×Nat))) dp with
       | error k=>rw [e2] at h2;exact (show Adv ts i (.error k:Except Nat (St×Nat)) from ⟨by have:=h2.1;omega,h2.2⟩)
       | ok y=>
        obtain ⟨b,c⟩:=y
        rw [e2] at h2
        have h2:i+1 < c∧c < ts.length:=h2
        unfold ifS
        dsimp only
        split
        ·rename_i hx
         exact ((ih2 (c+1) dp (isT_lt he h2.2 hx)).map _).from (by omega)
        ·exact ⟨by omega,h2.2⟩
     | false=>
      cases d4:isT ts i [102,111,114] with
      | true=>
       rw [stmtR_for d1 d2 d3 d4]
       exact ((ihP (i+1) _ dp ((forP_adv he (isT_lt he hi d4)).num he).next).map _).from (by omega)
      | false=>rw [stmtR_none d1 d2 d3 d4];exact ⟨Nat.le_refl _,hi⟩
  ·by_cases h1:isT ts i [123]=true∧¬ 12≤dp
   ·rw [blockR_yes h1.1 h1.2]
    exact (closeL_adv he (ih3 (i+1) (dp+1) (isT_lt he hi h1.1))).up (by omega)
   ·rw [blockR_no (fun e=>by
     rcases Nat.lt_or_ge dp 12 with h2 | h2
     ·exact absurd ⟨e,by omega⟩ h1
     ·exact h2)]
    exact ⟨Nat.le_refl _,hi⟩
  ·unfold stmtsR
   split
   ·exact ⟨Nat.le_refl _,hi⟩
   ·have h1:=ih1 i dp hi
    cases e:stmtR ts f i dp with
    | error k=>rw [e] at h1;exact h1
    | ok x=>
     obtain ⟨s,a⟩:=x
     rw [e] at h1
     have h2:=ih3 a dp h1.2
     dsimp only
     cases e2:stmtsR ts f a dp with
     | error k=>rw [e2] at h2;exact ⟨Nat.le_trans (Nat.le_of_lt h1.1) h2.1,h2.2⟩
     | ok y=>obtain ⟨l,b⟩:=y;rw [e2] at h2;exact ⟨Nat.le_trans (Nat.le_of_lt h1.1) h2.1,h2.2⟩
end
def RBl (w:World) (r:Except Nat (List St×Nat)) (e:Ending) (w':World):Prop:=
 ∃ (a:Option Addr) (l c:Nat),e=.returned (.tuple #[.slice a l c,.int .i64 (zR r)])∧(∀ t i,r=.ok (t,i)→SsV w' (fun b=>w.heap.size≤b) (.slice a l c) t)∧Only [] w w'
def StmtC (ts:List Tok) (f:Nat):Prop:=∀ (w:World) (v:Value) (i dp:Nat),TS w v ts→i < ts.length→2*(ts.length - i)+1≤f→dp≤12→Calls Try.prog 69 #[v,.int .i64 (i:Int),.int .i64 (dp:Int)] w (RSt w (stmtR ts f i dp))
def BlockC (ts:List Tok) (f:Nat):Prop:=∀ (w:World) (v:Value) (p:Except Nat Nat) (dp:Nat),TS w v ts→PosOk ts p→(∀ i,p=.ok i→2*(ts.length - i)+1≤f)→dp≤12→Calls Try.prog 89 #[v,.int .i64 (zP p),.int .i64 (dp:Int)] w (RBl w (blockP ts f p dp))
end Go.Proofs.Ytagkbbcpbebapaa

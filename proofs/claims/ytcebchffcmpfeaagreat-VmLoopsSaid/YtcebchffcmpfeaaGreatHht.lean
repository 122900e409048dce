import Derived.Test.YtcebchffcmpfeaaGreatHat
import Derived.ChangeMaps5
namespace Go.Proofs.YtcebchffcmpfeaaGreat
set_option linter.unusedVariables false
set_option linter.unusedSimpArgs false
open Go.RowKit Go.Maps
theorem nM:(Tryz.prog.fieldsOf 52).toList.map (fun f=>(f.name == "_",f.type,f.offset))=[(false,3,0),(false,3,1)]:=by kernel_rfl
theorem bU {S:List Nat} {a w:World} {n:Nat} (h:Only S a w):Only S a (w.drewN n):=⟨h.os,h.tape,h.output,h.size,h.block⟩
def eqI (x y:Ins):Bool:=(x.1 == y.1) && (x.2 == y.2)
theorem jV (a b c d:Int) (w:World):(Op.equalIn 10000 52 (.agg #[.int .i64 a,.int .i64 b]) (.agg #[.int .i64 c,.int .i64 d])).run Tryz.prog w=.ok (eqI (a,b) (c,d)) w:=by
 have p0:∀ (x y:Int) w,(part 3 #[.int .i64 x,.int .i64 y] 0).run Tryz.prog w=.ok (.int .i64 x) w:=fun x y w=>by simp [part,isAgg,run_underlying Tryz.underlying3]
 have p1:∀ (x y:Int) w,(part 3 #[.int .i64 x,.int .i64 y] 1).run Tryz.prog w=.ok (.int .i64 y) w:=fun x y w=>by simp [part,isAgg,run_underlying Tryz.underlying3]
 rw [show (10000:Nat)=9998+2 from rfl,run_equalIn_struct w (9998+1) 52 _ _ (by kernel_rfl) (by kernel_rfl)];have hf:=nM;generalize (Tryz.prog.fieldsOf 52).toList=fs at hf⊢;rcases fs with _ | ⟨f0,_ | ⟨f1,_ | ⟨f2,r⟩⟩⟩
 ·simp at hf
 ·simp at hf
 ·simp only [List.map_cons,List.map_nil,List.cons.injEq,Prod.mk.injEq,beq_eq_false_iff_ne,ne_eq,and_true] at hf;obtain ⟨⟨a1,a2,a3⟩,b1,b2,b3⟩:=hf;simp only [Op.eqFields,ne_eq,a1,b1,not_false_eq_true,if_true,a2,a3,b2,b3,Sem.run_bind,Sem.run_ite,p0,p1,Result.andThen_ok,run_equalIn_int w 9998 3 .i64 .i64 _ _ Tryz.underlying3];unfold eqI;dsimp only;cases a == c<;>cases b == d<;>simp
 ·simp at hf
theorem jW (x y:Ins) (w:World):(binOp .neq 52 (.agg #[.int .i64 x.1,.int .i64 x.2]) (.agg #[.int .i64 y.1,.int .i64 y.2])).run Tryz.prog w=.ok (.bool (!eqI x y)) w:=by
 rw [run_neq_struct,jV,Result.andThen_ok]
theorem eqI_iff {x y:Ins}:eqI x y=true↔x=y:=by
 obtain ⟨a,b⟩:=x;obtain ⟨c,d⟩:=y;simp [eqI]
theorem RV.at_ {α:Type} {R:RowT α} {w:World} {a:Option Addr} {n cap:Nat} {l:List α} (h:RV R w (.slice a n cap) l) {i:Nat} {x:α} (hx:l[i]?=some x):∃ g off,a=some ⟨g,off,none⟩∧∀ j u,(R.en x)[j]?=some u→w.cell? ⟨g,off+i*R.k+j,none⟩=some u:=by
 obtain ⟨a',cap',e,h1⟩:=h;injection e with e1 e2 e3
 subst e1;rcases h1 with rfl | ⟨g,off,rfl,hh⟩
 ·simp at hx
 ·exact ⟨g,off,rfl,fun j u hu=>hh i x hx j u hu⟩
theorem RV.len_ {α:Type} {R:RowT α} {w:World} {a:Option Addr} {n cap:Nat} {l:List α} (h:RV R w (.slice a n cap) l):n=l.length:=by
 obtain ⟨a',cap',e,h1⟩:=h;injection e
end Go.Proofs.YtcebchffcmpfeaaGreat

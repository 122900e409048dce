import Derived.Test.YtheanmadognhbaaGreatDoorHas
import Derived.ChangeMaps5
import Derived.ChangeKeysEq
import Derived.BigQuiet
namespace Go.Proofs.YtheanmadognhbaaGreatDoor
open Go.RowKit Go.Maps
set_option linter.unusedSimpArgs false
set_option linter.unusedVariables false
theorem fields_instr:(Tryz.prog.fieldsOf 51).toList.map (fun f=>(f.name == "_",f.type,f.offset))=[(false,3,0),(false,3,1)]:=by kernel_rfl
theorem fields_loop:(Tryz.prog.fieldsOf 55).toList.map (fun f=>(f.name == "_",f.type,f.offset))=[(false,3,0),(false,3,1),(false,3,2),(false,3,3)]:=by kernel_rfl
def eqI (x y:Ins):Bool:=(x.1 == y.1) && (x.2 == y.2)
def eqL (x y:Lp):Bool:=(x.loc == y.loc) && ((x.n == y.n) && ((x.fr == y.fr) && (x.lst == y.lst)))
theorem equal_instr (a b c d:Int) (w:World):(Op.equalIn 10000 51 (.agg #[.int .i64 a,.int .i64 b]) (.agg #[.int .i64 c,.int .i64 d])).run Tryz.prog w=.ok (eqI (a,b) (c,d)) w:=by
 have p0:∀ (x y:Int) w,(part 3 #[.int .i64 x,.int .i64 y] 0).run Tryz.prog w=.ok (.int .i64 x) w:=fun x y w=>by simp [part,isAgg,run_underlying Tryz.underlying3]
 have p1:∀ (x y:Int) w,(part 3 #[.int .i64 x,.int .i64 y] 1).run Tryz.prog w=.ok (.int .i64 y) w:=fun x y w=>by simp [part,isAgg,run_underlying Tryz.underlying3]
 rw [show (10000:Nat)=9998+2 from rfl,run_equalIn_struct w (9998+1) 51 _ _ (by kernel_rfl) (by kernel_rfl)]
 have hf:=fields_instr
 generalize (Tryz.prog.fieldsOf 51).toList=fs at hf⊢
 rcases fs with _ | ⟨f0,_ | ⟨f1,_ | ⟨f2,r⟩⟩⟩
 ·simp at hf
 ·simp at hf
 ·simp only [List.map_cons,List.map_nil,List.cons.injEq,Prod.mk.injEq,beq_eq_false_iff_ne,ne_eq,and_true] at hf
  obtain ⟨⟨a1,a2,a3⟩,b1,b2,b3⟩:=hf
  simp only [Op.eqFields,ne_eq,a1,b1,not_false_eq_true,if_true,a2,a3,b2,b3,Sem.run_bind,Sem.run_ite,p0,p1,Result.andThen_ok,run_equalIn_int w 9998 3 .i64 .i64 _ _ Tryz.underlying3]
  unfold eqI
  dsimp only
  cases a == c<;>cases b == d<;>simp
 ·simp at hf
theorem equal_loop (x y:Lp) (w:World):(Op.equalIn 10000 55 (.agg #[.int .i64 x.loc,.int .i64 x.n,.int .i64 x.fr,.int .i64 x.lst]) (.agg #[.int .i64 y.loc,.int .i64 y.n,.int .i64 y.fr,.int .i64 y.lst])).run Tryz.prog w=.ok (eqL x y) w:=by
 obtain ⟨m0,m1,m2,m3⟩:=x
 obtain ⟨n0,n1,n2,n3⟩:=y
 have p0:∀ (a b c d:Int) w,(part 3 #[.int .i64 a,.int .i64 b,.int .i64 c,.int .i64 d] 0).run Tryz.prog w=.ok (.int .i64 a) w:=fun a b c d w=>by simp [part,isAgg,run_underlying Tryz.underlying3]
 have p1:∀ (a b c d:Int) w,(part 3 #[.int .i64 a,.int .i64 b,.int .i64 c,.int .i64 d] 1).run Tryz.prog w=.ok (.int .i64 b) w:=fun a b c d w=>by simp [part,isAgg,run_underlying Tryz.underlying3]
 have p2:∀ (a b c d:Int) w,(part 3 #[.int .i64 a,.int .i64 b,.int .i64 c,.int .i64 d] 2).run Tryz.prog w=.ok (.int .i64 c) w:=fun a b c d w=>by simp [part,isAgg,run_underlying Tryz.underlying3]
 have p3:∀ (a b c d:Int) w,(part 3 #[.int .i64 a,.int .i64 b,.int .i64 c,.int .i64 d] 3).run Tryz.prog w=.ok (.int .i64 d) w:=fun a b c d w=>by simp [part,isAgg,run_underlying Tryz.underlying3]
 rw [show (10000:Nat)=9998+2 from rfl,run_equalIn_struct w (9998+1) 55 _ _ (by kernel_rfl) (by kernel_rfl)]
 have hf:=fields_loop
 generalize (Tryz.prog.fieldsOf 55).toList=fs at hf⊢
 rcases fs with _ | ⟨f0,_ | ⟨f1,_ | ⟨f2,_ | ⟨f3,_ | ⟨f4,r⟩⟩⟩⟩⟩
 ·simp at hf
 ·simp at hf
 ·simp at hf
 ·simp at hf
 ·simp only [List.map_cons,List.map_nil,List.cons.injEq,Prod.mk.injEq,beq_eq_false_iff_ne,ne_eq,and_true] at hf
  obtain ⟨⟨a1,a2,a3⟩,⟨b1,b2,b3⟩,⟨c1,c2,c3⟩,d1,d2,d3⟩:=hf
  simp only [Op.eqFields,ne_eq,a1,b1,c1,d1,not_false_eq_true,if_true,a2,a3,b2,b3,c2,c3,d2,d3,Sem.run_bind,Sem.run_ite,p0,p1,p2,p3,Result.andThen_ok,run_equalIn_int w 9998 3 .i64 .i64 _ _ Tryz.underlying3]
  unfold eqL
  dsimp only
  cases m0 == n0<;>cases m1 == n1<;>cases m2 == n2<;>cases m3 == n3<;>simp
 ·simp at hf
theorem RV.at_ {α:Type} {R:RowT α} {w:World} {a:Option Addr} {n cap:Nat} {l:List α} (h:RV R w (.slice a n cap) l) {i:Nat} {x:α} (hx:l[i]?=some x):∃ g off,a=some ⟨g,off,none⟩∧∀ j u,(R.en x)[j]?=some u→w.cell? ⟨g,off+i*R.k+j,none⟩=some u:=by
 obtain ⟨a',cap',e,h1⟩:=h
 injection e with e1 e2 e3
 subst e1
 rcases h1 with rfl | ⟨g,off,rfl,hh⟩
 ·simp at hx
 ·exact ⟨g,off,rfl,fun j u hu=>hh i x hx j u hu⟩
theorem RV.len_ {α:Type} {R:RowT α} {w:World} {a:Option Addr} {n cap:Nat} {l:List α} (h:RV R w (.slice a n cap) l):n=l.length:=by
 obtain ⟨a',cap',e,h1⟩:=h
 injection e
end Go.Proofs.YtheanmadognhbaaGreatDoor

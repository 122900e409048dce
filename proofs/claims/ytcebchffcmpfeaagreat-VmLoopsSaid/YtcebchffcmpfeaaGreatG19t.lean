import Derived.Test.YtcebchffcmpfeaaGreatGdt
namespace Go.Proofs.YtcebchffcmpfeaaGreat
set_option linter.unusedVariables false
set_option linter.unusedSimpArgs false
open Go.RowKit Go.Maps
def nmv (l:List Sec):List Value:=l.map fun s=>.string (aj s)
def NmV (w:World) (B:Nat→Prop) (v:Value) (l:List Sec):Prop:=
 ∃ (a:Option Addr) (cap:Nat),v=.slice a l.length cap∧l.length≤cap∧(l=[]∨∃ g,a=some ⟨g,0,none⟩∧B g∧∀ i s,l[i]?=some s→w.cell? ⟨g,i,none⟩=some (.string (aj s)))
theorem NmV.kept {w w':World} {S:List Nat} {B B':Nat→Prop} (ho:Only S w w') (hs:∀ k∈S,¬ B k) (hB:∀ k,B k→B' k) {v:Value} {l:List Sec} (h:NmV w B v l):NmV w' B' v l:=by
 obtain ⟨a,cap,h1,h2,h3⟩:=h;refine ⟨a,cap,h1,h2,h3.imp id ?_⟩;rintro ⟨g,h4,h5,h6⟩;exact ⟨g,h4,hB g h5,fun i s hi=>ac ho (h6 i s hi) (fun hk=>hs _ hk h5)⟩
theorem NmV.nil (w:World) (B:Nat→Prop):NmV w B (.slice none 0 0) []:=⟨none,0,rfl,Nat.le_refl _,.inl rfl⟩
def ONm (w:World) (base:Nat) (v:Value) (l:List Sec):Prop:=w.ownsRow base 9 1 v l.length (nmv l)
theorem ONm.nil (w:World) (base:Nat):ONm w base (.slice none 0 0) []:=World.ownsRow_nil w base _ 1
theorem ONm.keep {w w':World} {S:List Nat} {base:Nat} {v:Value} {l:List Sec} (h:ONm w base v l) (ho:Only S w w') (hs:∀ k∈S,k < base):ONm w' base v l:=by
 refine ⟨h.1,?_⟩;rcases h.2 with hn | ⟨g,cap,cur,rfl,hb,hg,r⟩
 ·exact .inl hn
 ·exact .inr ⟨g,cap,cur,rfl,hb,ho.heap hg (fun hk=>by have:=hs g hk;omega),r⟩
theorem ONm.nmv {w:World} {base:Nat} {v:Value} {l:List Sec} (h:ONm w base v l):NmV w (fun b=>base≤b) v l:=by
 rcases h.2 with ⟨rfl,hn⟩ | ⟨g,cap,cur,rfl,hb,hg,hc,_,hz,ht⟩
 ·obtain rfl:l=[]:=List.eq_nil_of_length_eq_zero hn;exact NmV.nil _ _
 ·refine ⟨_,cap,rfl,hc,.inr ⟨g,rfl,hb,fun i s hi=>?_⟩⟩;have hlt:i < l.length:=(List.getElem?_eq_some_iff.1 hi).1;have h1:(Go.Proofs.YtcebchffcmpfeaaGreat.nmv l)[i]?=some (.string (aj s)):=by unfold Go.Proofs.YtcebchffcmpfeaaGreat.nmv;rw [List.getElem?_map,hi];rfl
  rw [← ht,List.getElem?_take_of_lt (by omega)] at h1;rw [ab _ hg];simpa using h1
theorem ONm.lt {w:World} {base:Nat} {v:Value} {l:List Sec} (h:ONm w base v l) {k:Nat} (hk:v.ownBlock=some k):base≤k∧k < w.heap.size:=World.ownsRow.lt h k hk
theorem info_str:(Tryz.prog.info? 9).map (fun i=>(i.zero,i.size,i.bytes))=some (some (.string ⟨#[]⟩),1,16):=by kernel_rfl
theorem lW {w:World} (base:Nat) (ty:TypeId) (v:Value) (l:List Sec) (hown:ONm w base v l) (bx capx:Nat) (s:Sec) (h0:w.cell? ⟨bx,0,none⟩=some (.string (aj s))) (hn:l.length≤1048576) (hb:base≤w.heap.size) :
  ∃ a cap w',(Builtin.append_ #[56,56] ty #[v,.slice (some ⟨bx,0,none⟩) 1 capx]).run Tryz.prog w=.ok (.slice a (l.length+1) cap) w'∧ONm w' base (.slice a (l.length+1) cap) (l++[s])∧Only v.ownBlock.toList w w':=by
 obtain ⟨i,hi,hz⟩:=Option.map_eq_some_iff.1 info_str;simp only [Prod.mk.injEq] at hz;obtain ⟨z1,z2,z3⟩:=hz;have hcell:∀ (j:Nat) (u:Value),([.string (aj s)]:List Value)[j]?=some u→w.cell? ((⟨bx,0,none⟩:Addr).add j)=some u:=fun j u hj=>by
  match j with
  | 0=>
   simp at hj;subst hj;have:(⟨bx,0,none⟩:Addr).add 0=⟨bx,0,none⟩:=by simp [Addr.add]
   rw [this];exact h0
  | j+1=>simp at hj
 obtain ⟨v',w',hr,k1,k2,_,k5⟩:=run_append_own_at (P:=Tryz.prog) w base 56 ty 9 i (.string ⟨#[]⟩) 1 16 Tryz.underlying56 hi z1 z2 z3 rfl (by omega) v l.length (nmv l) hown ⟨bx,0,none⟩ 1 capx [.string (aj s)] rfl hcell (by simp [Value.oneCell']) (by unfold maxLen;omega) (by omega) hb;have hsh:∃ a cap,v'=.slice a (l.length+1) cap:=by
  rcases k1.2 with ⟨_,hn⟩ | ⟨g,cap,cur,rfl,_⟩
  ·omega
  ·exact ⟨_,_,rfl⟩
 obtain ⟨a,cap,rfl⟩:=hsh;refine ⟨a,cap,w',hr,?_,Only.of_grown k2⟩;unfold ONm nmv;rw [List.map_append,List.length_append];exact k1
section
variable {w:World} {ops:Array Oper} {rest:List Oper} {o:Oper} {a:Act} {Q:Exit→Act→World→Prop}
theorem eg (hg:o.guard=none) (s x:Operand) (hop:o.op=Op.call {callee:=Callee.builtin Builtin.append,args:=#[s,x],argTypes:=#[56,56] })
  (base:Nat) (v:Value) (l:List Sec) (hs:a.eval s=v) (hown:ONm w base v l) (bx capx:Nat) (hx:a.eval x=.slice (some ⟨bx,0,none⟩) 1 capx) (y:Sec) (h0:w.cell? ⟨bx,0,none⟩=some (.string (aj y))) (hn:l.length≤1048576) (hb:base≤w.heap.size)
  (hK:∀ a' cap w',ONm w' base (.slice a' (l.length+1) cap) (l++[y])→Only v.ownBlock.toList w w'→wpList Tryz.prog ops Q rest (a.put o.dst (.slice a' (l.length+1) cap)) w') :
  wpList Tryz.prog ops Q (o :: rest) a w:=by
 refine wpList_plain hg fun K' hK'=>?_;obtain ⟨a',cap,w',hrun,k1,k2⟩:=lW base o.type v l hown bx capx y h0 hn hb;unfold Oper.wp;simp [execOp,hop,resolve,invoke,builtin,hs,hx,hrun,Result.andThen];exact hK' _ _ (hK _ _ w' k1 k2)
end
theorem kB {w:World} (base:Nat) (ty:TypeId) (v:Value) (m:Nat) (vs:List Value) (hown:w.ownsRow base 95 5 v m vs) (bx capx:Nat) (k n p:Int) (s:ByteArray) (a1:Option Addr) (l1 c1:Nat)
  (hc:∀ j u,[.int .i64 k,.int .i64 n,.string s,.slice a1 l1 c1,.int .i64 p][j]?=some u→w.cell? ⟨bx,j,none⟩=some u) (hn:m≤1048576) (hb:base≤w.heap.size) :
  ∃ a cap w',(Builtin.append_ #[57,57] ty #[v,.slice (some ⟨bx,0,none⟩) 1 capx]).run Tryz.prog w=.ok (.slice a (m+1) cap) w'∧
   w'.ownsRow base 95 5 (.slice a (m+1) cap) (m+1) (vs++[.int .i64 k,.int .i64 n,.string s,.slice a1 l1 c1,.int .i64 p])∧Only v.ownBlock.toList w w'∧
   ((Value.slice a (m+1) cap).ownBlock=v.ownBlock∨(Value.slice a (m+1) cap).ownBlock=some w.heap.size):=by
 obtain ⟨i,hi,hz⟩:=Option.map_eq_some_iff.1 info_ex;simp only [Prod.mk.injEq] at hz;obtain ⟨z1,z2,z3⟩:=hz;have hcell:∀ (j:Nat) (u:Value),([.int .i64 k,.int .i64 n,.string s,.slice a1 l1 c1,.int .i64 p]:List Value)[j]?=some u→w.cell? ((⟨bx,0,none⟩:Addr).add j)=some u:=fun j u hj=>by
  have:(⟨bx,0,none⟩:Addr).add j=⟨bx,j,none⟩:=by simp [Addr.add];exact fun e=>e.symm
  rw [this];exact hc j u hj
 obtain ⟨v',w',hr,k1,k2,_,k5⟩:=run_append_own_at (P:=Tryz.prog) w base 57 ty 95 i (.agg #[.int .i64 0,.int .i64 0,.string ⟨#[]⟩,.slice none 0 0,.int .i64 0]) 5 64 Tryz.underlying57 hi z1 z2 z3 rfl (by omega) v m vs hown ⟨bx,0,none⟩ 1 capx [.int .i64 k,.int .i64 n,.string s,.slice a1 l1 c1,.int .i64 p] rfl hcell (by simp [Value.oneCell']) (by unfold maxLen;omega) (by omega) hb;have hsh:∃ a cap,v'=.slice a (m+1) cap:=by
  rcases k1.2 with ⟨_,hn⟩ | ⟨g,cap,cur,rfl,_⟩
  ·omega
  ·exact ⟨_,_,rfl⟩
 obtain ⟨a,cap,rfl⟩:=hsh;exact ⟨a,cap,w',hr,k1,Only.of_grown k2,k5⟩
section
variable {w:World} {ops:Array Oper} {rest:List Oper} {o:Oper} {a:Act} {Q:Exit→Act→World→Prop}
theorem eh (hg:o.guard=none) (s x:Operand) (hop:o.op=Op.call {callee:=Callee.builtin Builtin.append,args:=#[s,x],argTypes:=#[57,57] })
  (base:Nat) (v:Value) (m:Nat) (vs:List Value) (hs:a.eval s=v) (hown:w.ownsRow base 95 5 v m vs) (bx capx:Nat) (hx:a.eval x=.slice (some ⟨bx,0,none⟩) 1 capx) (k n p:Int) (sb:ByteArray) (a1:Option Addr) (l1 c1:Nat)
  (hc:∀ j u,[.int .i64 k,.int .i64 n,.string sb,.slice a1 l1 c1,.int .i64 p][j]?=some u→w.cell? ⟨bx,j,none⟩=some u) (hn:m≤1048576) (hb:base≤w.heap.size)
  (hK:∀ a' cap w',w'.ownsRow base 95 5 (.slice a' (m+1) cap) (m+1) (vs++[.int .i64 k,.int .i64 n,.string sb,.slice a1 l1 c1,.int .i64 p])→Only v.ownBlock.toList w w'→
   ((Value.slice a' (m+1) cap).ownBlock=v.ownBlock∨(Value.slice a' (m+1) cap).ownBlock=some w.heap.size)→wpList Tryz.prog ops Q rest (a.put o.dst (.slice a' (m+1) cap)) w') :
  wpList Tryz.prog ops Q (o :: rest) a w:=by
 refine wpList_plain hg fun K' hK'=>?_;obtain ⟨a',cap,w',hrun,k1,k2,k3⟩:=kB base o.type v m vs hown bx capx k n p sb a1 l1 c1 hc hn hb;unfold Oper.wp;simp [execOp,hop,resolve,invoke,builtin,hs,hx,hrun,Result.andThen];exact hK' _ _ (hK _ _ w' k1 k2 k3)
end
theorem OSt.keep {w w':World} {S:List Nat} {base:Nat} {v:Value} {l:List St} (h:OSt w base v l) (ho:Only S w w') (hs:∀ k∈S,k < base):OSt w' base v l:=by
 obtain ⟨css,h1,h2,h3⟩:=h;refine ⟨css,⟨h1.1,?_⟩,h2,fun i s cs hi hc=>SV.kept ho (fun k hk hB=>by have:=hs k hk;omega) (fun b hb=>⟨hb.1,by have:=ho.size;omega,hb.2.2⟩) s cs (h3 i s cs hi hc)⟩;rcases h1.2 with hn | ⟨g,cap,cur,rfl,hb,hg,r⟩
 ·exact .inl hn
 ·exact .inr ⟨g,cap,cur,rfl,hb,ho.heap hg (fun hk=>by have:=hs g hk;omega),r⟩
theorem OEx.keep {w w':World} {S:List Nat} {base:Nat} {v:Value} {l:List E} (h:OEx w base v l) (ho:Only S w w') (hs:∀ k∈S,k < base):OEx w' base v l:=by
 obtain ⟨css,h1,h2,h3⟩:=h;refine ⟨css,⟨h1.1,?_⟩,h2,fun i s cs hi hc=>EV.kept ho (fun k hk hB=>by have:=hs k hk;omega) (fun b hb=>⟨hb.1,by have:=ho.size;omega,hb.2.2⟩) s cs (h3 i s cs hi hc)⟩;rcases h1.2 with hn | ⟨g,cap,cur,rfl,hb,hg,r⟩
 ·exact .inl hn
 ·exact .inr ⟨g,cap,cur,rfl,hb,ho.heap hg (fun hk=>by have:=hs g hk;omega),r⟩
theorem OEx.shape {w:World} {base:Nat} {v:Value} {l:List E} (h:OEx w base v l):∃ a cap,v=.slice a l.length cap:=by
 obtain ⟨a,cap,h1,_⟩:=h.esv;exact ⟨a,cap,h1⟩
theorem ONm.shape {w:World} {base:Nat} {v:Value} {l:List Sec} (h:ONm w base v l):∃ a cap,v=.slice a l.length cap:=by
 obtain ⟨a,cap,h1,_⟩:=h.nmv;exact ⟨a,cap,h1⟩
theorem OSt.lt' {w:World} {base:Nat} {v:Value} {l:List St} (h:OSt w base v l) {k:Nat} (hk:v.ownBlock=some k):base≤k∧k < w.heap.size:=by
 obtain ⟨css,h1,_⟩:=h;exact World.ownsRow.lt h1 k hk
theorem OEx.lt' {w:World} {base:Nat} {v:Value} {l:List E} (h:OEx w base v l) {k:Nat} (hk:v.ownBlock=some k):base≤k∧k < w.heap.size:=by
 obtain ⟨css,h1,_⟩:=h;exact World.ownsRow.lt h1 k hk
def DV (w:World) (B:Nat→Prop) (d:Df) (cs:List Value):Prop:=
 ∃ v1 v2 v3 v4,cs=[.string (aj d.name),v1,v2,v3,v4]∧NmV w B v1 d.params∧EsV w B v2 d.needs∧SsV w B v3 d.body∧EsV w B v4 d.give
theorem DV.kept {w w':World} {S:List Nat} {B B':Nat→Prop} (ho:Only S w w') (hs:∀ k∈S,¬ B k) (hB:∀ k,B k→B' k) {d:Df} {cs:List Value} (h:DV w B d cs):DV w' B' d cs:=by
 obtain ⟨v1,v2,v3,v4,h0,h1,h2,h3,h4⟩:=h;exact ⟨v1,v2,v3,v4,h0,h1.kept ho hs hB,h2.kept ho hs hB,h3.kept ho hs hB,h4.kept ho hs hB⟩
section
variable (ts:List Tok)
def pK (p:Except Nat Nat):Except Nat (List Sec×Nat):=match p with | .ok i=>cU ts i | .error k=>.error k
def u4 (f:Nat) (p:Except Nat Nat):Except Nat (List E×Nat):=match p with | .ok i=>bo ts f i | .error k=>.error k
def bodyP (f:Nat) (p:Except Nat Nat):Except Nat (List St×Nat):=match p with | .ok i=>bM ts f i | .error k=>.error k
def giveP (p:Except Nat Nat):Except Nat (List E×Nat):=match p with | .ok i=>fk ts i | .error k=>.error k
def dW:Except Nat (Sec×Nat):=fC ts (ba ts (.ok 0) [111,112])
def dP:Except Nat (List Sec×Nat):=pK ts (ba ts (ai (dW ts)) [40])
def dQ:Except Nat Nat:=ba ts (ba ts (ai (dP ts)) [41]) [123]
def dN:Except Nat (List E×Nat):=u4 ts (ts.length+1) (dQ ts)
def dB:Except Nat (List St×Nat):=bodyP ts (ts.length+1) (ai (dN ts))
def dG:Except Nat (List E×Nat):=giveP ts (ai (dB ts))
def valL {α:Type} (r:Except Nat (List α×Nat)):List α:=match r with | .ok (l,_)=>l | .error _=>[]
def headS:Except Nat ((Sec×List Sec)×Nat):=match dQ ts with | .error k=>.error k | .ok a=>.ok ((iZ (dW ts),valL (dP ts)),a)
theorem headR_eq:uF ts=headS ts:=by
 unfold uF headS dQ dP dW;rw [show ba ts (.ok 0) [111,112]=bE ts 0 [111,112] from rfl];cases bE ts 0 [111,112] with
 | error k=>rfl
 | ok a=>
  dsimp only [fC];cases bp ts a with
  | error k=>rfl
  | ok x=>
   obtain ⟨s,a⟩:=x;dsimp only [ai,ba,iZ];cases bE ts a [40] with
   | error k=>rfl
   | ok a=>
    dsimp only [pK];cases cU ts a with
    | error k=>rfl
    | ok x=>
     obtain ⟨ps,a⟩:=x;dsimp only [ai,ba];cases bE ts a [41] with
     | error k=>rfl
     | ok a=>
      dsimp only;cases bE ts a [123]<;>rfl
def defS:Except Nat (Df×Nat):=match ba ts (ai (dG ts)) [125] with | .error k=>.error k | .ok a=>.ok (⟨iZ (dW ts),valL (dP ts),valL (dN ts),valL (dB ts),valL (dG ts)⟩,a)
theorem pL:oV ts=defS ts:=by
 unfold oV defS dG dB dN;rw [headR_eq];unfold headS;cases dQ ts with
 | error k=>rfl
 | ok a=>
  dsimp only [u4];cases bo ts (ts.length+1) a with
  | error k=>rfl
  | ok x=>
   obtain ⟨ns,a⟩:=x;dsimp only [ai,bodyP];cases bM ts (ts.length+1) a with
   | error k=>rfl
   | ok x=>
    obtain ⟨b,a⟩:=x;dsimp only [ai,giveP];cases fk ts a with
    | error k=>rfl
    | ok x=>
     obtain ⟨g,a⟩:=x;dsimp only [ai,ba];cases bE ts a [125]<;>rfl
theorem defS_z:zR (oV ts)=zP (ba ts (ai (dG ts)) [125]):=by
 rw [pL];unfold defS;cases ba ts (ai (dG ts)) [125]<;>rfl
theorem ic {α:Type} {r:Except Nat (α×Nat)} {a:Nat} (h:ai r=.ok a):∃ x,r=.ok (x,a):=by
 cases r with
 | error k=>cases h
 | ok x=>obtain ⟨x,b⟩:=x;cases h;exact ⟨x,rfl⟩
theorem f7 {p:Except Nat Nat} {x:Sec} {a:Nat} (h:ba ts p x=.ok a):∃ i,p=.ok i:=by
 cases p with
 | error k=>cases h
 | ok i=>exact ⟨i,rfl⟩
theorem u5 {d:Df} {j:Nat} (h:oV ts=.ok (d,j)):∃ a1 a2 a3 a4 a5,dW ts=.ok (d.name,a1)∧dP ts=.ok (d.params,a2)∧dN ts=.ok (d.needs,a3)∧dB ts=.ok (d.body,a4)∧dG ts=.ok (d.give,a5):=by
 rw [pL] at h;unfold defS at h;cases e:ba ts (ai (dG ts)) [125] with
 | error k=>rw [e] at h;cases h
 | ok a=>
  rw [e] at h;obtain ⟨i5,h5⟩:=f7 ts e;obtain ⟨g,hg⟩:=ic h5;have h4:∃ i,ai (dB ts)=.ok i:=by
   cases e4:ai (dB ts) with
   | ok i=>exact ⟨i,rfl⟩
   | error k=>unfold dG at hg;rw [e4] at hg;cases hg
  obtain ⟨i4,h4⟩:=h4;obtain ⟨b,hb⟩:=ic h4;have h3:∃ i,ai (dN ts)=.ok i:=by
   cases e4:ai (dN ts) with
   | ok i=>exact ⟨i,rfl⟩
   | error k=>unfold dB at hb;rw [e4] at hb;cases hb
  obtain ⟨i3,h3⟩:=h3;obtain ⟨n,hn⟩:=ic h3;have h2:∃ i,dQ ts=.ok i:=by
   cases e4:dQ ts with
   | ok i=>exact ⟨i,rfl⟩
   | error k=>unfold dN at hn;rw [e4] at hn;cases hn
  obtain ⟨i2,h2⟩:=h2;obtain ⟨i1,h1⟩:=f7 ts h2;obtain ⟨i0,h0⟩:=f7 ts h1;obtain ⟨p,hp⟩:=ic h0;have hw:∃ i,ba ts (ai (dW ts)) [40]=.ok i:=by
   cases e4:ba ts (ai (dW ts)) [40] with
   | ok i=>exact ⟨i,rfl⟩
   | error k=>unfold dP at hp;rw [e4] at hp;cases hp
  obtain ⟨iw,hw⟩:=hw;obtain ⟨ix,hx⟩:=f7 ts hw;obtain ⟨s,hs⟩:=ic hx;cases h;exact ⟨_,_,_,_,_,by rw [hs];rfl,by rw [hp];rfl,by rw [hn];rfl,by rw [hb];rfl,by rw [hg];rfl⟩
end
def RDf (w:World) (r:Except Nat (Df×Nat)) (e:Ending) (w':World):Prop:=
 ∃ (s:ByteArray) (a1 a2 a3 a4:Option Addr) (l1 l2 l3 l4 c1 c2 c3 c4:Nat),e=.returned (.tuple #[.agg #[.string s,.slice a1 l1 c1,.slice a2 l2 c2,.slice a3 l3 c3,.slice a4 l4 c4],.int .i64 (zR r)])∧
  (∀ d i,r=.ok (d,i)→DV w' (fun b=>w.heap.size≤b) d [.string s,.slice a1 l1 c1,.slice a2 l2 c2,.slice a3 l3 c3,.slice a4 l4 c4])∧Only [] w w'
end Go.Proofs.YtcebchffcmpfeaaGreat

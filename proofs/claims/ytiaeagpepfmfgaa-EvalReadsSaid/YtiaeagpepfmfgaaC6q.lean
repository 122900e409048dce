import Derived.Test.YtiaeagpepfmfgaaC4q
import Derived.Test.YtiaeagpepfmfgaaC5q
namespace Go.Proofs.Ytiaeagpepfmfgaa
open Go.RowKit Go.Maps
set_option linter.unusedSimpArgs false
set_option linter.unusedVariables false
def tkv (l:List Tok):List Value:=(l.map fun x=>[Value.int .i64 (x.kind:Int),Value.string (strOf x.text),Value.int .i64 (x.pos:Int)]).flatten
theorem tkv_snoc (l:List Tok) (x:Tok):tkv (l++[x])=tkv l++[.int .i64 (x.kind:Int),.string (strOf x.text),.int .i64 (x.pos:Int)]:=by simp [tkv]
theorem tkv_get:∀ (l:List Tok) (i:Nat) (x:Tok),l[i]?=some x→(tkv l)[i*3]?=some (.int .i64 (x.kind:Int))∧(tkv l)[i*3+1]?=some (.string (strOf x.text))∧(tkv l)[i*3+2]?=some (.int .i64 (x.pos:Int))
 | [],i,p,h=>by simp at h
 | q :: l,0,p,h=>by
  simp at h
  subst h
  exact ⟨rfl,rfl,rfl⟩
 | q :: l,i+1,p,h=>by
  have:=tkv_get l i p (by simpa using h)
  have e:(i+1)*3=i*3+1+1+1:=by omega
  rw [e]
  exact this
def TV (w:World) (v:Value) (l:List Tok):Prop:=
 ∃ (a:Option Addr) (cap:Nat),v=.slice a l.length cap∧l.length≤cap∧∀ i x,l[i]?=some x→∃ b,a=some ⟨b,0,none⟩∧w.cell? ⟨b,i*3,none⟩=some (.int .i64 (x.kind:Int))∧w.cell? ⟨b,i*3+1,none⟩=some (.string (strOf x.text))∧w.cell? ⟨b,i*3+2,none⟩=some (.int .i64 (x.pos:Int))
theorem TV.quiet {w w':World} {v:Value} {l:List Tok} (h:TV w v l) (ho:Only [] w w'):TV w' v l:=by
 obtain ⟨a,cap,hv,hcap,hc⟩:=h
 refine ⟨a,cap,hv,hcap,fun i x hi=>?_⟩
 obtain ⟨b,ha,h1,h2,h3⟩:=hc i x hi
 exact ⟨b,ha,cell_kept ho h1 (by simp),cell_kept ho h2 (by simp),cell_kept ho h3 (by simp)⟩
theorem TV.nil (w:World):TV w (.slice none 0 0) []:=⟨none,0,rfl,Nat.le_refl _,fun i x h=>by simp at h⟩
def OTk (w:World) (base:Nat) (v:Value) (l:List Tok):Prop:=w.ownsRow base 61 3 v l.length (tkv l)
section
variable {w w':World} {base:Nat} {v:Value} {l:List Tok}
theorem OTk.nil (w:World) (base:Nat):OTk w base (.slice none 0 0) []:=World.ownsRow_nil w base _ 3
theorem OTk.quiet (h:OTk w base v l) (ho:Only [] w w'):OTk w' base v l:=by
 refine ⟨h.1,?_⟩
 rcases h.2 with hn | ⟨g,cap,cur,rfl,hb,hg,r⟩
 ·exact .inl hn
 ·exact .inr ⟨g,cap,cur,rfl,hb,ho.heap hg (by simp),r⟩
theorem OTk.tv (h:OTk w base v l):TV w v l:=by
 rcases h.2 with ⟨rfl,hn⟩ | ⟨g,cap,cur,rfl,hb,hg,hc,_,hz,ht⟩
 ·obtain rfl:l=[]:=List.eq_nil_of_length_eq_zero hn
  exact TV.nil w
 ·refine ⟨_,cap,rfl,hc,fun i x hi=>?_⟩
  have hlt:i < l.length:=(List.getElem?_eq_some_iff.1 hi).1
  obtain ⟨h1,h2,h3⟩:=tkv_get l i x hi
  rw [← ht,List.getElem?_take_of_lt (by omega)] at h1 h2 h3
  exact ⟨g,rfl,by rw [cell_at _ hg];simpa using h1,by rw [cell_at _ hg];simpa using h2,by rw [cell_at _ hg];simpa using h3⟩
theorem OTk.lt (h:OTk w base v l) {k:Nat} (hk:v.ownBlock=some k):base≤k∧k < w.heap.size:=World.ownsRow.lt h k hk
end
theorem info_tok:(Try.prog.info? 61).map (fun i=>(i.zero,i.size,i.bytes))=some (some (.agg #[.int .i64 0,.string ⟨#[]⟩,.int .i64 0]),3,32):=by kernel_rfl
theorem run_append_tok {w:World} (base:Nat) (ty:TypeId) (v:Value) (l:List Tok) (hown:OTk w base v l) (bx capx:Nat) (x:Tok) (h0:w.cell? ⟨bx,0,none⟩=some (.int .i64 (x.kind:Int))) (h1:w.cell? ⟨bx,1,none⟩=some (.string (strOf x.text))) (h2:w.cell? ⟨bx,2,none⟩=some (.int .i64 (x.pos:Int))) (hn:l.length≤1048576) (hb:base≤w.heap.size) :
  ∃ a cap w',(Builtin.append_ #[55,55] ty #[v,.slice (some ⟨bx,0,none⟩) 1 capx]).run Try.prog w=.ok (.slice a (l.length+1) cap) w'∧OTk w' base (.slice a (l.length+1) cap) (l++[x])∧Only v.ownBlock.toList w w':=by
 obtain ⟨i,hi,hz⟩:=Option.map_eq_some_iff.1 info_tok
 simp only [Prod.mk.injEq] at hz
 obtain ⟨z1,z2,z3⟩:=hz
 have hcell:∀ (j:Nat) (u:Value),([.int .i64 (x.kind:Int),.string (strOf x.text),.int .i64 (x.pos:Int)]:List Value)[j]?=some u→w.cell? ((⟨bx,0,none⟩:Addr).add j)=some u:=fun j u hj=>by
  match j with
  | 0=>
   simp at hj
   subst hj
   have:(⟨bx,0,none⟩:Addr).add 0=⟨bx,0,none⟩:=by simp [Addr.add]
   rw [this]
   exact h0
  | 1=>
   simp at hj
   subst hj
   have:(⟨bx,0,none⟩:Addr).add 1=⟨bx,1,none⟩:=by simp [Addr.add]
   rw [this]
   exact h1
  | 2=>
   simp at hj
   subst hj
   have:(⟨bx,0,none⟩:Addr).add 2=⟨bx,2,none⟩:=by simp [Addr.add]
   rw [this]
   exact h2
  | j+3=>simp at hj
 obtain ⟨v',w',hr,k1,k2,_,k5⟩:=run_append_own_at (P:=Try.prog) w base 55 ty 61 i (.agg #[.int .i64 0,.string ⟨#[]⟩,.int .i64 0]) 3 32 Try.underlying55 hi z1 z2 z3 rfl (by omega) v l.length (tkv l) hown ⟨bx,0,none⟩ 1 capx [.int .i64 (x.kind:Int),.string (strOf x.text),.int .i64 (x.pos:Int)] rfl hcell (by simp [Value.oneCell']) (by unfold maxLen;omega) (by omega) hb
 have hsh:∃ a cap,v'=.slice a (l.length+1) cap:=by
  rcases k1.2 with ⟨_,hn⟩ | ⟨g,cap,cur,rfl,_⟩
  ·omega
  ·exact ⟨_,_,rfl⟩
 obtain ⟨a,cap,rfl⟩:=hsh
 refine ⟨a,cap,w',hr,?_,Only.of_grown k2⟩
 unfold OTk
 rw [tkv_snoc,List.length_append]
 exact k1
section
variable {w:World} {ops:Array Oper} {rest:List Oper} {o:Oper} {a:Act} {Q:Exit→Act→World→Prop}
theorem wpList_append_tok (hg:o.guard=none) (s x:Operand) (hop:o.op=Op.call {callee:=Callee.builtin Builtin.append,args:=#[s,x],argTypes:=#[55,55] })
  (base:Nat) (v:Value) (l:List Tok) (hs:a.eval s=v) (hown:OTk w base v l) (bx capx:Nat) (hx:a.eval x=.slice (some ⟨bx,0,none⟩) 1 capx) (y:Tok) (h0:w.cell? ⟨bx,0,none⟩=some (.int .i64 (y.kind:Int))) (h1:w.cell? ⟨bx,1,none⟩=some (.string (strOf y.text))) (h2:w.cell? ⟨bx,2,none⟩=some (.int .i64 (y.pos:Int))) (hn:l.length≤1048576) (hb:base≤w.heap.size)
  (hK:∀ v' w',OTk w' base v' (l++[y])→Only v.ownBlock.toList w w'→wpList Try.prog ops Q rest (a.put o.dst v') w') :
  wpList Try.prog ops Q (o :: rest) a w:=by
 refine wpList_plain hg fun K' hK'=>?_
 obtain ⟨a',cap,w',hrun,k1,k2⟩:=run_append_tok base o.type v l hown bx capx y h0 h1 h2 hn hb
 unfold Oper.wp
 simp [execOp,hop,resolve,invoke,builtin,hs,hx,hrun,Result.andThen]
 exact hK' _ _ (hK _ w' k1 k2)
end
theorem tok_cells (w:World) (k:Int) (t:ByteArray) (p:Int):(w.alloc (.cells #[.int .i64 k,.string t,.int .i64 p] 61)).cell? ⟨w.heap.size,0,none⟩=some (.int .i64 k)∧(w.alloc (.cells #[.int .i64 k,.string t,.int .i64 p] 61)).cell? ⟨w.heap.size,1,none⟩=some (.string t)∧(w.alloc (.cells #[.int .i64 k,.string t,.int .i64 p] 61)).cell? ⟨w.heap.size,2,none⟩=some (.int .i64 p):=by
 have h:=heap_new w (.cells #[.int .i64 k,.string t,.int .i64 p] 61)
 exact ⟨by rw [cell_at _ h];rfl,by rw [cell_at _ h];rfl,by rw [cell_at _ h];rfl⟩
theorem except_map_map {α:Type} (f g:List Tok→List Tok) (x:Except α (List Tok)):(x.map f).map g=x.map (g ∘ f):=by cases x<;>rfl
theorem lexG_on {L:Sec} {k:Nat} {acc:List Tok} {c:UInt8} (hk:L[k]?=some c) (h1:isBlk c=false) (h2:c.toNat≠35) (h:lex L=(lexG k (L.drop k)).map (acc++·)) :
  ((firstN (L.drop k)).2=0→lex L=.error k)∧((firstN (L.drop k)).2≠0→lex L=(lexG (k+(firstN (L.drop k)).2+gapN false (L.drop (k+(firstN (L.drop k)).2))) (L.drop (k+(firstN (L.drop k)).2+gapN false (L.drop (k+(firstN (L.drop k)).2))))).map ((acc++[⟨(firstN (L.drop k)).1,(L.drop k).take (firstN (L.drop k)).2,k⟩])++·)):=by
 obtain ⟨hlt,hc⟩:=List.getElem?_eq_some_iff.1 hk
 have hd:L.drop k=c :: L.drop (k+1):=by rw [List.drop_eq_getElem_cons hlt,hc]
 have hs:=lexG_step k c (L.drop (k+1)) h1 h2
 rw [← hd] at hs
 constructor
 ·intro hz
  rw [if_pos hz] at hs
  rw [h,hs]
  rfl
 ·intro hz
  rw [if_neg hz] at hs
  rw [h,hs,except_map_map]
  have hg:=lexG_gap (k+(firstN (L.drop k)).2) (L.drop (k+(firstN (L.drop k)).2))
  rw [List.drop_drop] at hg
  rw [hg,List.drop_drop]
  congr 1
  funext x
  simp
end Go.Proofs.Ytiaeagpepfmfgaa

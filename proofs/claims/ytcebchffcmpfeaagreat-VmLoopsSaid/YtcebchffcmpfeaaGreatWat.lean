import Derived.WalkKit
import Derived.Maps.RangeWalk
import Derived.Handy
import Derived.Lib.Hide
import Derived.Laws.CopyOwn
import Derived.BigQuiet
import Derived.StillTailTactics
import Derived.Deep.QuietTactic
import Derived.Deep.RegionHeld3
import Derived.Deep.RegionLaw
import Derived.ProofKit
import Derived.Test.YtcebchffcmpfeaaGreatRows
import Derived.OpenShut
import Derived.ChangeSame
import Derived.Carry
namespace Go.Proofs.YtcebchffcmpfeaaGreat
set_option linter.unusedVariables false
set_option linter.unusedSimpArgs false
open Go.RowKit Go.Maps Go.ChangeMaps Go.MapKept
structure Only (S:List Nat) (w w':World):Prop where
 os:w'.os=w.os
 tape:w'.tape=w.tape
 output:w'.output=w.output
 size:w.heap.size≤w'.heap.size
 block:∀ k,k < w.heap.size→k∉S→w'.heap[k]?=w.heap[k]?
theorem Only.refl (S:List Nat) (w:World):Only S w w:=⟨rfl,rfl,rfl,Nat.le_refl _,fun _ _ _=>rfl⟩
theorem Only.mono {S T:List Nat} {w w':World} (h:Only S w w') (hs:∀ k∈S,k∈T):Only T w w':=
 ⟨h.os,h.tape,h.output,h.size,fun k hk hn=>h.block k hk fun e=>hn (hs k e)⟩
theorem Only.trans {S T:List Nat} {a b c:World} (h:Only S a b) (k:Only T b c) (hs:∀ k∈T,k∈S∨a.heap.size≤k):Only S a c:=
 ⟨k.os.trans h.os,k.tape.trans h.tape,k.output.trans h.output,Nat.le_trans h.size k.size,fun i hi hn=>by
  refine (k.block i (Nat.lt_of_lt_of_le hi h.size) fun e=>?_).trans (h.block i hi hn);rcases hs i e with h1 | h1
  ·exact hn h1
  ·omega⟩
theorem Only.heap {S:List Nat} {w w':World} (h:Only S w w') {k:Nat} {o:Obj} (hk:w.heap[k]?=some o) (hn:k∉S):w'.heap[k]?=some o:=
 (h.block k (Array.getElem?_eq_some_iff.1 hk).1 hn).trans hk
theorem Only.alloc {S:List Nat} {a w:World} (h:Only S a w) (o:Obj):Only S a (w.alloc o):=
 h.trans ⟨rfl,rfl,rfl,by simp,fun k hk _=>Below.heap_alloc _ _ _ hk⟩ (T:=[]) (by simp)
theorem Only.drew {S:List Nat} {a w:World} (h:Only S a w):Only S a w.drew:=⟨h.os,h.tape,h.output,h.size,h.block⟩
theorem Only.setCell {S:List Nat} {a w:World} (h:Only S a w) {p:Addr} (hp:p.block∈S∨a.heap.size≤p.block) (u:Value):Only S a (w.setCell p u):=
 h.trans (T:=[p.block]) ⟨rfl,rfl,rfl,by simp,fun k _ hn=>Below.heap_setCell _ _ _ _ (by simpa using hn)⟩ (by simpa using hp)
theorem Only.setRow {S:List Nat} {a w:World} (h:Only S a w) {g:Nat} (hp:g∈S∨a.heap.size≤g) (cs:Array Value):Only S a (w.setRow g cs):=
 h.trans (T:=[g]) ⟨rfl,rfl,rfl,by simp,fun k _ hn=>setRow_other w g k cs (by simpa using hn)⟩ (by simpa using hp)
theorem Only.of_grown {w w':World} {row:Option Nat} (h:w.grownBy w' row):Only row.toList w w':=
 ⟨h.os,h.tape,h.output,h.size,fun k hk hn=>h.block k hk fun e=>hn (by rw [← e];simp)⟩
theorem Only.below {w w':World} (h:Only [] w w'):Below w.heap.size w w':=⟨h.os,h.tape,h.output,h.size,fun k hk=>h.block k hk (by simp)⟩
theorem Only.fresh {S:List Nat} {w w':World} (h:Only S w w') (hs:∀ k∈S,w.heap.size≤k):Only [] w w':=
 ⟨h.os,h.tape,h.output,h.size,fun k hk _=>h.block k hk fun e=>by have:=hs k e;omega⟩
theorem ak {w:World} {k:Nat} {o:Obj} (h:w.heap[k]?=some o):k < w.heap.size:=(Array.getElem?_eq_some_iff.1 h).1
theorem ag (w:World) (o:Obj):(w.alloc o).heap[w.heap.size]?=some o:=heap_alloc_new w o
theorem ax {w:World} (o:Obj) {k:Nat} {o':Obj} (h:w.heap[k]?=some o'):(w.alloc o).heap[k]?=some o':=(Below.heap_alloc w o k (ak h)).trans h
theorem iX {w:World} {g:Nat} {old:Array Value} {t:TypeId} {fr:Nat×Nat} (cs:Array Value) (h:w.heap[g]?=some (.cells old t fr)):(w.setRow g cs).heap[g]?=some (.cells cs t fr):=setRow_heap w g old cs t fr h
theorem af {w:World} {g i:Nat} {old:Array Value} {t:TypeId} {fr:Nat×Nat} (v:Value) (h:w.heap[g]?=some (.cells old t fr)):(w.setCell ⟨g,i,none⟩ v).heap[g]?=some (.cells (old.setIfInBounds i v) t fr):=by
 simp [World.setCell,Array.getElem?_modify,h]
theorem ab {w:World} {g:Nat} {cs:Array Value} {t:TypeId} {fr:Nat×Nat} (i:Nat) (h:w.heap[g]?=some (.cells cs t fr)):w.cell? ⟨g,i,none⟩=cs[i]?:=cell_of_row w g i cs t fr h
theorem ae {w:World} {g:Nat} {cs:Array Value} {t:TypeId} (i:Nat) (h:w.heap[g]?=some (.cells cs t (0,0))):w.frozen? ⟨g,i,none⟩=false:=frozen_of_row w g i cs t h
abbrev Sec:=List UInt8
def enc (l:Sec):Array Value:=(l.map fun c=>Value.int .u8 c.toNat).toArray
def zeros:Sec:=List.replicate 512 0
@[simp] theorem enc_size (l:Sec):(enc l).size=l.length:=by simp [enc]
theorem ub (l:Sec) (i:Nat):(enc l)[i]?=(l[i]?).map fun c=>Value.int .u8 c.toNat:=by simp [enc]
theorem enc_inj {l l':Sec} (h:enc l=enc l'):l=l':=by
 have h1:(l.map fun c=>Value.int .u8 c.toNat)=l'.map fun c=>Value.int .u8 c.toNat:=by
  have:=congrArg Array.toList h;simpa [enc] using this
 apply List.ext_getElem?
 intro i;have h2:=congrArg (fun x=>x[i]?) h1;simp only [List.getElem?_map] at h2;cases ha:l[i]?<;>cases hb:l'[i]?<;>simp [ha,hb] at h2⊢
 exact UInt8.toNat_inj.1 (by omega)
theorem iz:zeros.length=512:=List.length_replicate ..
open Classical in
noncomputable def secR (v:Value):Option (DataW Unit×List MemPlace):=
 if h:∃ l:Sec,l.length=512∧v=.agg (enc l) then some (.lit (.string h.choose),[]) else none
theorem pb {l:Sec} (hl:l.length=512):secR (.agg (enc l))=some (.lit (.string l),[]):=by
 have h:∃ l':Sec,l'.length=512∧Value.agg (enc l)=.agg (enc l'):=⟨l,hl,rfl⟩
 unfold secR;rw [dif_pos h];have h2:=h.choose_spec.2;injection h2 with h2
 rw [← enc_inj h2]
theorem lF {v:Value} {y:DataW Unit×List MemPlace} (h:secR v=some y):∃ l:Sec,l.length=512∧v=.agg (enc l)∧y=(.lit (.string l),[]):=by
 unfold secR at h;split at h
 ·rename_i hx;exact ⟨hx.choose,hx.choose_spec.1,hx.choose_spec.2,(Option.some.inj h).symm⟩
 ·cases h
theorem fu:∀ (N:Nat) (l:List Int),l.Nodup→(∀ x∈l,0≤x∧x < N)→l.length≤N
 | 0,l,_,h=>by
  cases l with
  | nil=>simp
  | cons a r=>have:=h a (by simp);omega
 | N+1,l,hn,h=>by
  by_cases hm:(N:Int)∈l
  ·have ih:=fu N (l.erase (N:Int)) (hn.erase _) (fun x hx=>by
    have h1:=h x (List.mem_of_mem_erase hx);have h2:x≠(N:Int):=fun e=>by
     rw [e] at hx;exact (List.Nodup.not_mem_erase hn) hx
    omega)
   have:=List.length_erase_of_mem hm;omega
  ·have ih:=fu N l hn (fun x hx=>by
    have h1:=h x hx;have h2:x≠(N:Int):=fun e=>hm (e ▸ hx)
    omega)
   omega
structure Reads (D:DataW Unit) (m:Int→Option Sec):Prop where
 has:∀ k,Maps.has D (.int .i64 k)=(m k).isSome
 at_:∀ k l,m k=some l→∀ z,D.atKey (.int .i64 k) z=.lit (.string l)
 len:∀ k l,m k=some l→l.length=512∧0≤k∧k < 4096
def SMap (P:Program) (w:World) (b:Nat) (m:Int→Option Sec):Prop:=
 ∃ (n:Nat) (D:DataW Unit),w.ownsMap P 3 secR b n D∧Reads D m
def upd (m:Int→Option Sec) (k:Int) (l:Sec):Int→Option Sec:=fun z=>if z=k then some l else m z
def del (m:Int→Option Sec) (k:Int):Int→Option Sec:=fun z=>if z=k then none else m z
theorem wf_i64 {k:Int} (h0:0≤k) (h1:k < 4096):(Lit.int .i64 k).wf=true:=WalkArith.wf_i64 (by omega)
theorem mG {a b:Int} (h:a≠b):(Lit.int .i64 a)≠(Lit.int .i64 b):=fun e=>h (by cases e;rfl)
theorem eo (k:Int):WideAt.IsKeyLit (Lit.int .i64 k):=by simp [WideAt.IsKeyLit]
section
variable {P:Program} {w w':World} {b:Nat} {m:Int→Option Sec}
theorem SMap.lt (h:SMap P w b m):b < w.heap.size:=by
 obtain ⟨n,D,ho,_⟩:=h;exact ho.lt
theorem SMap.kept {S:List Nat} (h:SMap P w b m) (ho:Only S w w') (hb:b∉S):SMap P w' b m:=by
 obtain ⟨n,D,h1,h2⟩:=h;have hlt:=h1.lt;obtain ⟨es,clock,hb',r⟩:=h1;exact ⟨n,D,⟨es,clock,(ho.block b hlt hb).trans hb',r⟩,h2⟩
theorem SMap.obj (h:SMap P w b m):∃ es clock,w.heap[b]?=some (.map es clock):=by
 obtain ⟨n,D,⟨es,clock,hb,_⟩,_⟩:=h;exact ⟨es,clock,hb⟩
theorem SMap.ne (h:SMap P w b m) {g:Nat} {cs:Array Value} {t:TypeId} {fr:Nat×Nat} (hg:w.heap[g]?=some (.cells cs t fr)):b≠g:=by
 obtain ⟨es,clock,hb⟩:=h.obj;intro e;rw [e,hg] at hb;cases hb
theorem SMap.small (hk:P.underlying 3=some (.int .i64)) (h:SMap P w b m):∃ (n:Nat) (D:DataW Unit),n≤4096∧w.ownsMap P 3 secR b n D∧Reads D m:=by
 obtain ⟨n,D,ho,hr⟩:=h;have K:=int_keyed hk;have ht:=ho.tidy K;have ho':=ho;obtain ⟨es,clock,hb,F,hs,hD⟩:=ho';refine ⟨Maps.size D,D,?_,⟨es,clock,hb,F,by simp [hD,Maps.size,length_sorted],hD⟩,hr⟩;obtain ⟨L,hL,hp⟩:=ht;have hint:∀ p∈L,∃ x:Int,p.1=.int .i64 x∧0≤x∧x < 4096:=fun p hp=>by
  rw [hD] at hL;cases hL;obtain ⟨e,he,rfl⟩:=List.mem_map.1 (mem_sorted.1 hp);obtain ⟨y,hy⟩:=F.reads e he;have h1:=WideElems.rd_key hy;obtain ⟨x,_,hx,_⟩:=Maps.keyOf_int_inv hk h1;have hrg:(WideElems.rg P 3 secR e).1=.int .i64 x:=by rw [WideElems.rg_of hy,hx]
  refine ⟨x,hrg,?_⟩;have hh:Maps.has D (.int .i64 x)=true:=by
   rw [hD];exact List.any_eq_true.2 ⟨_,hp,by rw [hrg];exact WideAt.sameKey_self (eo x)⟩
  rw [hr.has] at hh;obtain ⟨l,hl⟩:=Option.isSome_iff_exists.1 hh;exact (hr.len x l hl).2
 have hsz:Maps.size D=L.length:=by rw [hL];rfl
 rw [hsz];have hnum:∀ p:Lit×DataW Unit,∃ x:Int,p∈L→p.1=.int .i64 x∧0≤x∧x < 4096:=fun p=>by
  by_cases hp':p∈L
  ·obtain ⟨x,hx⟩:=hint p hp';exact ⟨x,fun _=>hx⟩
  ·exact ⟨0,fun h=>absurd h hp'⟩
 have hf:=fu 4096 (L.map fun p=>(hnum p).choose) ?_ ?_
 ·simpa using hf
 ·rw [List.Nodup,List.pairwise_map];refine hp.imp_of_mem fun {a c} ha hc hne e=>hne ?_;rw [((hnum a).choose_spec ha).1,((hnum c).choose_spec hc).1,e]
 ·intro x hx;obtain ⟨p,hp',rfl⟩:=List.mem_map.1 hx;have:=((hnum p).choose_spec hp').2;omega
variable {t e:TypeId}
theorem SMap.look (hk:P.underlying 3=some (.int .i64)) (ht:P.underlying t=some (.map 3 e)) (hz:∀ w,(zeroValue e).run P w=.ok (.agg (enc zeros)) w) (h:SMap P w b m) {k:Int} (hw:(Lit.int .i64 k).wf=true) :
  (Instr.lookup t (.map (some b)) (.int .i64 k) false).run P w=.ok (.agg (enc ((m k).getD zeros))) w:=by
 obtain ⟨n,D,ho,hr⟩:=h;obtain ⟨v,ps,hrun,hv⟩:=ho.lookup (int_keyed hk) ht (hz w) (pb iz) (keyOf_int_mk hk hw);obtain ⟨l,hl,rfl,hy⟩:=lF hv;rw [hrun];cases hm:m k with
 | none=>
  have hh:=hr.has k;rw [hm] at hh;rw [Maps.atKey_of_not_has (by simpa using hh)] at hy;cases hy;rfl
 | some l'=>
  rw [hr.at_ k l' hm] at hy;cases hy;rfl
theorem SMap.look_ok (hk:P.underlying 3=some (.int .i64)) (ht:P.underlying t=some (.map 3 e)) (hz:∀ w,(zeroValue e).run P w=.ok (.agg (enc zeros)) w) (h:SMap P w b m) {k:Int} (hw:(Lit.int .i64 k).wf=true) :
  (Instr.lookup t (.map (some b)) (.int .i64 k) true).run P w=.ok (.tuple #[.agg (enc ((m k).getD zeros)),.bool (m k).isSome]) w:=by
 obtain ⟨n,D,ho,hr⟩:=h;obtain ⟨v,ps,hrun,hv⟩:=ho.look_ok (int_keyed hk) ht (hz w) (pb iz) (keyOf_int_mk hk hw);obtain ⟨l,hl,rfl,hy⟩:=lF hv;rw [hrun,hr.has];cases hm:m k with
 | none=>
  have hh:=hr.has k;rw [hm] at hh;rw [Maps.atKey_of_not_has (by simpa using hh)] at hy;cases hy;rfl
 | some l'=>
  rw [hr.at_ k l' hm] at hy;cases hy;rfl
theorem SMap.store (hk:P.underlying 3=some (.int .i64)) (ht:P.underlying t=some (.map 3 e)) (h:SMap P w b m) {k:Int} (h0:0≤k) (h1:k < 4096) {l:Sec} (hl:l.length=512) :
  ∃ w',(Instr.mapUpdate t (.map (some b)) (.int .i64 k) (.agg (enc l))).run P w=.ok () w'∧SMap P w' b (upd m k l)∧Only [b] w w':=by
 obtain ⟨n,D,hn,ho,hr⟩:=h.small hk;obtain ⟨w',hrun,ho',hg⟩:=ho.update (int_keyed hk) ht (by unfold maxLen;omega) (keyOf_int_mk hk (wf_i64 h0 h1)) (pb hl);refine ⟨w',hrun,⟨n+1,_,ho',⟨fun z=>?_,fun z l' hz zd=>?_,fun z l' hz=>?_⟩⟩,(Only.of_grown hg)⟩
 ·by_cases e1:z=k
  ·subst e1;rw [Maps.has_put_same (ho.isMap) (eo z)];simp [upd]
  ·rw [Maps.has_put_other (mG e1),hr.has];simp [upd,e1]
 ·by_cases e1:z=k
  ·subst e1;rw [Maps.atKey_put_same ho.isMap (eo z)];simp only [upd,if_true,Option.some.injEq] at hz;rw [hz]
  ·rw [Maps.atKey_put_other (mG e1)];exact hr.at_ z l' (by simpa [upd,e1] using hz) zd
 ·by_cases e1:z=k
  ·subst e1;simp only [upd,if_true,Option.some.injEq] at hz;rw [← hz];exact ⟨hl,h0,h1⟩
  ·exact hr.len z l' (by simpa [upd,e1] using hz)
theorem SMap.drop (hk:P.underlying 3=some (.int .i64)) (ht:P.underlying t=some (.map 3 e)) (h:SMap P w b m) {k:Int} (hw:(Lit.int .i64 k).wf=true) (ty:TypeId) :
  ∃ w',(Builtin.delete_ #[t,3] ty #[.map (some b),.int .i64 k]).run P w=.ok (.tuple #[]) w'∧SMap P w' b (del m k)∧Only [b] w w':=by
 obtain ⟨n,D,ho,hr⟩:=h;obtain ⟨w',hrun,ho',hg⟩:=ho.drop (int_keyed hk) ht (keyOf_int_mk hk hw) ty;refine ⟨w',hrun,⟨n,_,ho',⟨fun z=>?_,fun z l' hz zd=>?_,fun z l' hz=>?_⟩⟩,(Only.of_grown hg.grown)⟩
 ·by_cases e1:z=k
  ·subst e1;rw [Maps.has_del_same];simp [del]
  ·rw [Maps.has_del_other (mG e1),hr.has];simp [del,e1]
 ·by_cases e1:z=k
  ·subst e1;simp [del] at hz
  ·rw [Maps.atKey_del_other (mG e1)];exact hr.at_ z l' (by simpa [del,e1] using hz) zd
 ·by_cases e1:z=k
  ·subst e1;simp [del] at hz
  ·exact hr.len z l' (by simpa [del,e1] using hz)
theorem jf:Reads (.map []) (fun _=>none):=⟨fun _=>rfl,fun _ _ h=>by simp at h,fun _ _ h=>by simp at h⟩
theorem SMap.made (w:World):SMap P (w.alloc (.map #[] 0)) w.heap.size (fun _=>none):=⟨0,_,World.ownsMap_made w P 3 secR,jf⟩
theorem SMap.clear (ht:P.underlying t=some (.map 3 e)) (h:SMap P w b m) (ty:TypeId) :
  ∃ w',(Builtin.clear_ #[t] ty #[.map (some b)]).run P w=.ok (.tuple #[]) w'∧SMap P w' b (fun _=>none)∧Only [b] w w':=by
 obtain ⟨es,clock,hb⟩:=h.obj;refine ⟨setBlock w b (.map #[] clock),?_,⟨0,.map [],⟨#[],clock,heap_setBlock_same hb _,⟨by simp,?_,by simp⟩,Nat.le_refl _,rfl⟩,jf⟩,⟨rfl,rfl,rfl,by simp [setBlock],fun k _ hn=>heap_setBlock_other hb _ (by simpa using hn)⟩⟩
 ·simp [Builtin.clear_,run_underlying ht,MapKept.run_getObj_map hb,MapKept.run_setObj_map _ hb,Result.andThen,setBlock]
 ·exact (stamped_iff _ _).2 ⟨by simp,by simp,by simp⟩
def SRange (P:Program) (w:World) (b r:Nat) (m:Int→Option Sec) (left:Int→Bool) (cnt:Nat):Prop:=
 ∃ (n:Nat) (D:DataW Unit) (lf:Lit→Bool),w.ranges P 3 secR b r n D lf cnt∧Reads D m∧∀ k,lf (.int .i64 k)=left k
theorem SRange.kept {S:List Nat} {r cnt:Nat} {left:Int→Bool} (h:SRange P w b r m left cnt) (ho:Only S w w') (hb:b∉S) (hr:r∉S):SRange P w' b r m left cnt:=by
 obtain ⟨n,D,lf,h1,h2,h3⟩:=h;have hl1:=h1.owns.lt;have hl2:=h1.lt;obtain ⟨es,clock,since,seen,c0,hb',F,hs,hD,hr',rest⟩:=h1;exact ⟨n,D,lf,⟨es,clock,since,seen,c0,(ho.block b hl1 hb).trans hb',F,hs,hD,(ho.block r hl2 hr).trans hr',rest⟩,h2,h3⟩
theorem SRange.left_eq {r cnt:Nat} {left:Int→Bool} (h:SRange P w b r m left cnt):w.rangeLeft b r=cnt:=by
 obtain ⟨n,D,lf,h1,_,_⟩:=h;exact h1.left_eq
theorem SRange.ne {r cnt:Nat} {left:Int→Bool} (h:SRange P w b r m left cnt):r≠b:=by
 obtain ⟨n,D,lf,h1,_,_⟩:=h;exact h1.ne
theorem SRange.lt {r cnt:Nat} {left:Int→Bool} (h:SRange P w b r m left cnt):r < w.heap.size:=by
 obtain ⟨n,D,lf,h1,_,_⟩:=h;exact h1.lt
theorem SRange.iter {r cnt:Nat} {left:Int→Bool} (h:SRange P w b r m left cnt):∃ m' s x c,w.heap[r]?=some (.mapIter m' s x c):=by
 obtain ⟨n,D,lf,⟨es,clock,since,seen,c0,_,_,_,_,hr,_⟩,_,_⟩:=h;exact ⟨_,_,_,_,hr⟩
theorem SRange.map {r cnt:Nat} {left:Int→Bool} (h:SRange P w b r m left cnt):SMap P w b m:=by
 obtain ⟨n,D,lf,h1,h2,_⟩:=h;exact ⟨n,D,h1.owns,h2⟩
theorem SMap.range (hk:P.underlying 3=some (.int .i64)) (ht:P.underlying t=some (.map 3 e)) (h:SMap P w b m) :
  ∃ w' cnt,(Instr.range t (.map (some b))).run P w=.ok (.pointer (some ⟨w.heap.size,0,none⟩)) w'∧SRange P w' b w.heap.size m (fun k=>(m k).isSome) cnt∧Only [] w w'∧w'.heap.size=w.heap.size+1:=by
 obtain ⟨n,D,ho,hr⟩:=h;obtain ⟨w',hrun,h1,h2,h3⟩:=ho.range (int_keyed hk) ht;exact ⟨w',_,hrun,⟨n,D,_,h1,hr,hr.has⟩,Only.of_grown h2,h3⟩
theorem SRange.next {r cnt:Nat} {left:Int→Bool} (hk:P.underlying 3=some (.int .i64)) (h:SRange P w b r m left cnt) (ty:TypeId) :
  (cnt=0∧(∀ k,left k=false)∧(Instr.next (.pointer (some ⟨r,0,none⟩)) false ty).run P w=.ok (.tuple #[.bool false]) w)∨
  ∃ x l w' cnt',left x=true∧m x=some l∧(Instr.next (.pointer (some ⟨r,0,none⟩)) false ty).run P w=.ok (.tuple #[.bool true,.int .i64 x,.agg (enc l)]) w'∧
   SRange P w' b r m (fun z=>left z && z != x) cnt'∧cnt' < cnt∧Only [r] w w'∧w'.heap.size=w.heap.size∧(Instr.entry (.pointer (some ⟨r,0,none⟩))).run P w'=.ok (.tuple #[.int .i64 x,.agg (enc l)]) w':=by
 obtain ⟨n,D,lf,h1,h2,h3⟩:=h;rcases h1.next (int_keyed hk) ty with ⟨h0,hl,hrun⟩ | ⟨key,v,kl,y,w',cnt',hkey,hlk,hv,hat,hrun,hrg,hlt,hgr,hsz,hen⟩
 ·exact .inl ⟨h0,fun k=>by rw [← h3];exact hl _,hrun⟩
 ·obtain ⟨x,rfl,rfl,hwx⟩:=Maps.keyOf_int_inv hk hkey;obtain ⟨l,hl,rfl,rfl⟩:=lF hv;have fL:∀ k,lf (.int .i64 k)=true→Maps.has D (.int .i64 k)=true:=fun k hk'=>by
   obtain ⟨es,clock,since,seen,c0,hb',F,hs,hD,hr',ho',hc',hl1,hl2,_⟩:=h1;obtain ⟨e0,he0,hk0⟩:=hl2 _ hk';rw [hD];exact List.any_eq_true.2 ⟨_,mem_sorted.2 (List.mem_map.2 ⟨e0,he0,rfl⟩),by rw [hk0];exact WideAt.sameKey_self (eo k)⟩
  have hm:m x=some l:=by
   have hh:=fL x hlk;rw [h2.has] at hh;obtain ⟨l',hl'⟩:=Option.isSome_iff_exists.1 hh;have e1:=h2.at_ x l' hl' (.lit (.bool true));rw [hat] at e1;cases e1;exact hl'
  refine .inr ⟨x,l,w',cnt',by rw [← h3];exact hlk,hm,hrun,⟨n,D,_,hrg,h2,fun k=>?_⟩,hlt,Only.of_grown hgr,hsz,hen⟩;show (lf (.int .i64 k) && !(Lit.int .i64 k).sameKey (.int .i64 x))=(left k && k != x)
  rw [h3];congr 1
  by_cases e1:k=x
  ·subst e1;rw [WideAt.sameKey_self (eo k)];simp
  ·rw [Maps.sameKey_ne (mG e1)];simp [e1]
end
section
variable {P:Program} {w:World} {ops:Array Oper} {rest:List Oper} {o:Oper} {a:Act} {Q:Exit→Act→World→Prop}
theorem gV {w':World} (hg:o.guard=none) (v:Value) (hrun:(execOp a.eval o).run P w=.ok (.value v) w')
  (h:wpList P ops Q rest (a.put o.dst v) w'):wpList P ops Q (o :: rest) a w:=by
 refine wpList_plain hg fun K' hK'=>?_;unfold Oper.wp;rw [hrun];exact hK' _ _ h
theorem d8 (hg:o.guard=none) (t:TypeId) (hop:o.op=.alloc t) (cs:Array Value) (hz:∀ w,(zeroValue t).run P w=.ok (.agg cs) w)
  (h:wpList P ops Q rest (a.put o.dst (.pointer (some ⟨w.heap.size,0,none⟩))) (w.alloc (.cells cs t))):wpList P ops Q (o :: rest) a w:=by
 refine wpList_plain hg fun K' hK'=>?_;unfold Oper.wp;have:(Instr.alloc t true (.tuple #[])).run P w=.ok (.pointer (some ⟨w.heap.size,0,none⟩)) (w.alloc (.cells cs t)):=by
  simp [Instr.alloc,hz,newVar,newRow,newObj,Value.cells,Result.andThen];rfl
 simp [execOp,hop,this,Result.andThen];exact hK' _ _ h
theorem wpList_store_row (hg:o.guard=none) (ty:TypeId) (x y:Operand) (ho:o.op=.store ty x y)
  (g:Nat) (cells:Array Value) (hx:a.eval x=.pointer (some ⟨g,0,none⟩)) (hy:a.eval y=.agg cells)
  (t:TypeId) (old:Array Value) (hg':w.heap[g]?=some (.cells old t (0,0))) (hi:(P.info? ty).map (·.size)=some cells.size)
  (hold:old.size=cells.size) (h1:cells.all (·.oneCell')=true)
  (h:wpList P ops Q rest (a.put o.dst undef) (w.setRow g cells)):wpList P ops Q (o :: rest) a w:=
 wpList_plain hg fun _ hK=>wp_store_row ty x y ho g cells hx hy t old hg' hi hold h1 (hK _ _ h)
end
section
variable {P:Program} {md:Region.Mode} {l:List Oper} {Q:Exit→Act→World→Prop} {S:World→Prop}
theorem mH {i:Nat} {oi:Oper} {v:Value} {fuel:Nat} {listed:Array Bool} {a:Act} {w:World} (hi:l[i]?=some oi)
  (hs:Region.noSelect l.toArray=true) (hf:Region.free md l.toArray listed i=true) (hr:(Region.ready md l.toArray listed).contains i=true)
  (hQ:∀ c a w,Q (.panic c) (a.put oi.dst v) w→Q (.panic c) a w) (hy:YieldsIf P l.toArray S oi v a) (hS:S w)
  (h:wpAnyH P md l.toArray Q S fuel (listed.setIfInBounds i true) (a.put oi.dst v) w):wpAnyH P md l.toArray Q S (fuel+1) listed a w:=
 wpAnyH_take (by simpa using hi) hs hf hr hQ hy hS h
theorem rR {fuel:Nat} {listed:Array Bool} {a:Act} {w:World} {i:Nat} {o:Oper} (ho:l[i]?=some o)
  (h:∀ K':Act→World→Prop,Shut (∀ a w,S w→(S w→wpAnyH P md l.toArray Q S fuel (listed.setIfInBounds i true) a w)→K' a w)→if Region.wanted o (yielded l.toArray a.tmps)=true then Oper.wp P o a w K' Q else K' (a.put o.dst undef) w) :
  AllReadyH P md l.toArray Q S fuel listed a w [i]:=AllReadyH.cons (by simpa using ho) h AllReadyH.nil
end
section
variable {P:Program} {md:Region.Mode} {ops:Array Oper} {Q:Exit→Act→World→Prop} {S S':World→Prop}
end
theorem nb (w:World) (o:Obj):∃ w',w'=w.alloc o∧Only [] w w'∧w'.heap[w.heap.size]?=some o∧w'.heap.size=w.heap.size+1:=⟨_,rfl,(Only.refl _ _).alloc _,ag w o,Array.size_push _⟩
section
variable {P:Program} {md:Region.Mode} {l:List Oper} {Q:Exit→Act→World→Prop} {S:World→Prop}
theorem tk (i:Nat) {oi:Oper} {v:Value} {fuel:Nat} {listed listed':Array Bool} {a a':Act} {w:World} (hS:S w) (h:wpAnyH P md l.toArray Q S fuel listed' a' w)
  (hi:l[i]?=some oi:=by rfl) (hs:Region.noSelect l.toArray=true:=by kernel_rfl) (hf:Region.free md l.toArray listed i=true:=by kernel_rfl) (hr:(Region.ready md l.toArray listed).contains i=true:=by kernel_rfl)
  (hQ:∀ c a w,Q (.panic c) (a.put oi.dst v) w→Q (.panic c) a w:=by exact fun _ _ _ h=>h)
  (hy:YieldsIf P l.toArray S oi v a:=by refine Or.inl ⟨by rfl,?_⟩;((intro w hSw;(try dsimp only at hSw);go_simp);try with_reducible rfl))
  (hl:listed.setIfInBounds i true=listed':=by (try simp only [List.setIfInBounds_toArray,List.set_cons_zero,List.set_cons_succ]);rfl)
  (ha:a.put oi.dst v=a':=by (try simp only [Act.put,List.setIfInBounds_toArray,List.set_cons_zero,List.set_cons_succ]);rfl):wpAnyH P md l.toArray Q S (fuel+1) listed a w:=by
 subst hl;subst ha;exact mH hi hs hf hr hQ hy hS h
theorem sk (i:Nat) {oi:Oper} {fuel:Nat} {listed listed':Array Bool} {a a':Act} {w:World} (hS:S w) (h:wpAnyH P md l.toArray Q S fuel listed' a' w)
  (hi:l[i]?=some oi:=by rfl) (hs:Region.noSelect l.toArray=true:=by kernel_rfl) (hf:Region.free md l.toArray listed i=true:=by kernel_rfl) (hr:(Region.ready md l.toArray listed).contains i=true:=by kernel_rfl)
  (hQ:∀ c a w,Q (.panic c) (a.put oi.dst undef) w→Q (.panic c) a w:=by exact fun _ _ _ h=>h)
  (hy:YieldsIf P l.toArray S oi undef a:=by exact Or.inr ⟨by rfl,rfl⟩)
  (hl:listed.setIfInBounds i true=listed':=by (try simp only [List.setIfInBounds_toArray,List.set_cons_zero,List.set_cons_succ]);rfl)
  (ha:a.put oi.dst undef=a':=by (try simp only [Act.put,List.setIfInBounds_toArray,List.set_cons_zero,List.set_cons_succ]);rfl):wpAnyH P md l.toArray Q S (fuel+1) listed a w:=by
 subst hl;subst ha;exact mH hi hs hf hr hQ hy hS h
theorem rd (i:Nat) {o:Oper} {fuel:Nat} {listed:Array Bool} {a:Act} {w:World}
  (h:∀ K':Act→World→Prop,Shut (∀ a w,S w→(S w→wpAnyH P md l.toArray Q S fuel (listed.setIfInBounds i true) a w)→K' a w)→if Region.wanted o (yielded l.toArray a.tmps)=true then Oper.wp P o a w K' Q else K' (a.put o.dst undef) w)
  (hr:Region.ready md l.toArray listed=[i]:=by kernel_rfl) (ho:l[i]?=some o:=by rfl):wpAnyH P md l.toArray Q S (fuel+1) listed a w:=
 wpAnyH_ready hr (by simp) (rR ho h)
end
theorem Hd {p:Prop} (h:p):Hid p:=h
theorem oc {S:List Nat} {w w':World} (h:Only S w w':=by repeat' (first | with_reducible exact Only.refl _ _ | refine Only.setCell ?_ (.inl (by simp)) _)):Only S w w':=h
open Go.RowKit Go.Maps
section
variable {P:Program} {md:Region.Mode} {ops:Array Oper} {Q:Exit→Act→World→Prop} {S S':World→Prop} {B:List Nat}
def d9 (P:Program) (md:Region.Mode) (ops:Array Oper) (Q:Exit→Act→World→Prop) (S:World→Prop) (B:List Nat):Nat→Array Bool→Act→World→Prop
 | 0,listed,a,w=>Region.ready md ops listed=[]∧Q .normal a w
 | fuel+1,listed,a,w=>
  (Region.ready md ops listed=[]→Q .normal a w)∧
  ∀ i∈Region.ready md ops listed,wpOp P ops Q i (fun a' w'=>(i∈B→S w')∧d9 P md ops Q S B fuel (listed.setIfInBounds i true) a' w') a w
theorem kF:∀ (fuel:Nat) (listed:Array Bool) (a:Act) (w:World),d9 P md ops Q S B fuel listed a w→wpAny P md ops Q fuel listed a w
 | 0,_,_,_,h=>h
 | fuel+1,_,_,_,h=>⟨h.1,fun i hi=>wpOp_mono (fun a' w' h'=>kF fuel _ a' w' h'.2) (h.2 i hi)⟩
def behind (md:Region.Mode) (ops:Array Oper) (i:Nat):List Nat:=
 (List.range ops.size).foldl (fun D k=>match ops[k]? with
  | some o=>if o.after.any (fun e=>Region.binds md e && (e.on == i || D.contains e.on)) then k :: D else D
  | none=>D) []
def fM (md:Region.Mode) (ops:Array Oper) (listed:Array Bool) (i:Nat) (B D:List Nat):Bool:=
 (D.all fun k=>!listed.getD k false && match ops[k]? with
  | some o=>o.after.any fun e=>Region.binds md e && (e.on == i || D.contains e.on)
  | none=>true) &&
 (List.range ops.size).all fun k=>listed.getD k true || k == i || B.contains k || D.contains k
structure Waits (md:Region.Mode) (ops:Array Oper) (listed:Array Bool) (i:Nat) (B D:List Nat):Prop where
 open_:∀ k∈D,listed.getD k false=false
 wait:∀ k o,ops[k]?=some o→k∈D→∃ e∈o.after,Region.binds md e=true∧(e.on=i∨e.on∈D)
 all:∀ k o,ops[k]?=some o→listed.getD k true=false→k≠i→k∉B→k∈D
theorem fN {listed:Array Bool} {i:Nat} {D:List Nat} (h:fM md ops listed i B D=true):Waits md ops listed i B D:=by
 simp only [fM,Bool.and_eq_true,List.all_eq_true,List.mem_range] at h;obtain ⟨h1,h2⟩:=h;refine ⟨fun k hk=>by have:=(h1 k hk).1;simpa using this,fun k o ho hk=>?_,fun k o ho hun hki hkB=>?_⟩
 ·have:=(h1 k hk).2;simp only [ho] at this;obtain ⟨e,he,hb⟩:=Array.any_eq_true'.1 this;simp only [Bool.and_eq_true,Bool.or_eq_true,beq_iff_eq,List.contains_iff_mem] at hb;exact ⟨e,he,hb.1,hb.2⟩
 ·have:=h2 k (Array.getElem?_eq_some_iff.1 ho).1;simpa [hun,hki,hkB] using this
theorem mI {i:Nat} {oi:Oper} {v:Value} (hi:ops[i]?=some oi) (hsel:∀ (j:Nat) (o:Oper) cs b,ops[j]?=some o→o.op≠.select cs b)
  (hQ:∀ c a w,Q (.panic c) (a.put oi.dst v) w→Q (.panic c) a w) (D:List Nat) :
  ∀ (fuel:Nat) (listed:Array Bool) (a:Act) (w:World),
   (∀ j oj,ops[j]?=some oj→j≠i→listed.getD j true=false→(∀ e∈oj.after,Region.binds md e=true→e.on≠i)→oi.apart ops oj=true)→
   Waits md ops listed i B D→i∈Region.ready md ops listed→YieldsIf P ops S oi v a→S w→
   d9 P md ops Q S B fuel (listed.setIfInBounds i true) (a.put oi.dst v) w→d9 P md ops Q S B (fuel+1) listed a w:=by
 intro fuel
 induction fuel with
 | zero=>
  intro listed a w _ _ hr hy hS H;refine ⟨fun h=>(by rw [h] at hr;cases hr),fun j hj=>?_⟩
  by_cases hji:j=i
  ·subst hji;exact hy.wpOp hi hS ⟨fun _=>hS,H⟩
  ·have:=ready_mono hj hji;rw [H.1] at this;cases this
 | succ fuel ih=>
  intro listed a w hfree hwait hr hy hS H;refine ⟨fun h=>(by rw [h] at hr;cases hr),fun j hj=>?_⟩
  by_cases hji:j=i
  ·subst hji;exact hy.wpOp hi hS ⟨fun _=>hS,H⟩
  ·have h1:=H.2 j (ready_mono hj hji);obtain ⟨hjun,oj,hoj,hall⟩:=mem_ready.1 hj;have hion:listed.getD i false=false:=by
    have h0:=(mem_ready.1 hr).1;rcases Nat.lt_or_ge i listed.size with h' | h'
    ·simp [h'] at h0⊢;exact h0
    ·simp [Array.getElem?_eq_none h']
   have hnot:∀ e∈oj.after,Region.binds md e=true→e.on≠i:=fun e he hb heq=>by
    have h1:=hall e he hb;rw [heq,hion] at h1;cases h1
   have hjD:j∉D:=fun hd=>by
    obtain ⟨e,he,hb,h2⟩:=hwait.wait j oj hoj hd;have h3:=hall e he hb;rcases h2 with h2 | h2
    ·exact hnot e he hb h2
    ·rw [hwait.open_ _ h2] at h3;cases h3
   have hjB:j∈B:=Classical.byContradiction fun hn=>hjD (hwait.all j oj hoj hjun hji hn);have h2:=wpOp_putIf hoj (hfree j oj hoj hji hjun hnot) (fun cs b=>hsel i oi cs b hi) (fun cs b=>hsel j oj cs b hoj) hQ hy h1;have hfree':∀ k ok,ops[k]?=some ok→k≠i→(listed.setIfInBounds j true).getD k true=false→
     (∀ e∈ok.after,Region.binds md e=true→e.on≠i)→oi.apart ops ok=true:=fun k ok hk hki hun hno=>by
    refine hfree k ok hk hki ?_ hno
    by_cases hjk:j=k
    ·subst hjk;exact hjun
    ·rw [getD_set_ne true hjk] at hun;exact hun
   have hwait':Waits md ops (listed.setIfInBounds j true) i B D:=by
    refine ⟨fun k hk=>?_,hwait.wait,fun k ok hk hun hki hkB=>?_⟩
    ·rw [getD_set_ne false (fun e=>hjD (by rw [e];exact hk))];exact hwait.open_ k hk
    ·have hjk:j≠k:=fun e=>hkB (e ▸ hjB);rw [getD_set_ne true hjk] at hun;exact hwait.all k ok hk hun hki hkB
   refine wpOp_mono (fun a' w' h3=>⟨h3.2.1,ih (listed.setIfInBounds j true) a' w' hfree' hwait' (ready_mono hr (Ne.symm hji)) h3.1 (h3.2.1 hjB) ?_⟩) h2;rw [Array.setIfInBounds_comm _ _ hji];exact h3.2.2
theorem fw {id:Nat} {a:Act} {w:World} (B:List Nat) (hm:P.follows .mixedOrders=true) (hS:S w.drew)
  (h:S w.drew→d9 P .any ops Q S B ops.size (Array.replicate ops.size false) a w.drew):(Code.region id ops true).wp P Q a w:=
 wp_region_any hm (kF _ _ _ _ (h hS))
theorem fx {listed:Array Bool} {a:Act} {w:World} (hr:Region.ready md ops listed=[]) (h:Q .normal a w) :
  ∀ fuel,d9 P md ops Q S B fuel listed a w
 | 0=>⟨hr,h⟩
 | _+1=>⟨fun _=>h,by rw [hr];simp⟩
end
section
variable {P:Program} {md:Region.Mode} {l:List Oper} {Q:Exit→Act→World→Prop} {S:World→Prop} {B:List Nat}
theorem ap {i:Nat} {oi:Oper} {v:Value} {fuel:Nat} {listed:Array Bool} {a:Act} {w:World} (hi:l[i]?=some oi)
  (hs:Region.noSelect l.toArray=true) (hf:Region.free md l.toArray listed i=true) (hr:(Region.ready md l.toArray listed).contains i=true) (hb:fM md l.toArray listed i B (behind md l.toArray i)=true)
  (hQ:∀ c a w,Q (.panic c) (a.put oi.dst v) w→Q (.panic c) a w) (hy:YieldsIf P l.toArray S oi v a) (hS:S w)
  (h:d9 P md l.toArray Q S B fuel (listed.setIfInBounds i true) (a.put oi.dst v) w):d9 P md l.toArray Q S B (fuel+1) listed a w:=
 mI (by simpa using hi) (Region.noSelect_spec hs) hQ _ fuel listed a w (Region.free_spec (by simpa using hi) hf) (fN hb) (by simpa using hr) hy hS h
theorem fO {i:Nat} {o:Oper} {fuel:Nat} {listed:Array Bool} {a:Act} {w:World} (hr:Region.ready md l.toArray listed=[i]) (ho:l[i]?=some o)
  (h:∀ K':Act→World→Prop,Shut (∀ a w,S w→(S w→d9 P md l.toArray Q S B fuel (listed.setIfInBounds i true) a w)→K' a w)→if Region.wanted o (yielded l.toArray a.tmps)=true then Oper.wp P o a w K' Q else K' (a.put o.dst undef) w) :
  d9 P md l.toArray Q S B (fuel+1) listed a w:=by
 refine ⟨fun h0=>absurd (hr ▸ h0) (by simp),fun j hj=>?_⟩;rw [hr] at hj;obtain rfl:=List.mem_singleton.1 hj;exact wpOp_step (by simpa using ho) (fun K' hK=>h K' (fun a w hS hW=>hK a w ⟨fun _=>hS,hW hS⟩))
theorem gW {i:Nat} {o:Oper} {fuel:Nat} {listed:Array Bool} {a:Act} {w:World} (hr:Region.ready md l.toArray listed=[i]) (hi:B.contains i=false) (ho:l[i]?=some o)
  (h:∀ K':Act→World→Prop,Shut (∀ a w,d9 P md l.toArray Q S B fuel (listed.setIfInBounds i true) a w→K' a w)→if Region.wanted o (yielded l.toArray a.tmps)=true then Oper.wp P o a w K' Q else K' (a.put o.dst undef) w) :
  d9 P md l.toArray Q S B (fuel+1) listed a w:=by
 refine ⟨fun h0=>absurd (hr ▸ h0) (by simp),fun j hj=>?_⟩;rw [hr] at hj;obtain rfl:=List.mem_singleton.1 hj;have hn:j∉B:=by simpa using hi
 exact wpOp_step (by simpa using ho) (fun K' hK=>h K' (fun a w hW=>hK a w ⟨fun hB=>absurd hB hn,hW⟩))
end
section
variable {P:Program} {md:Region.Mode} {ops:Array Oper} {Q:Exit→Act→World→Prop} {S S':World→Prop} {B:List Nat}
def cb (P:Program) (md:Region.Mode) (ops:Array Oper) (Q:Exit→Act→World→Prop) (S:World→Prop) (B:List Nat):Nat→Array Bool→Act→World→Prop
 | 0,listed,a,w=>Region.ready md ops listed=[]∧Q .normal a w
 | fuel+1,listed,a,w=>
  (Region.ready md ops listed=[]→Q .normal a w)∧
  ∀ i∈Region.ready md ops listed,wpOp P ops Q i (fun a' w'=>(i∈B→S w→S w')∧cb P md ops Q S B fuel (listed.setIfInBounds i true) a' w') a w
theorem kG:∀ (fuel:Nat) (listed:Array Bool) (a:Act) (w:World),cb P md ops Q S B fuel listed a w→wpAny P md ops Q fuel listed a w
 | 0,_,_,_,h=>h
 | fuel+1,_,_,_,h=>⟨h.1,fun i hi=>wpOp_mono (fun a' w' h'=>kG fuel _ a' w' h'.2) (h.2 i hi)⟩
theorem mJ {i:Nat} {oi:Oper} {v:Value} (hi:ops[i]?=some oi) (hsel:∀ (j:Nat) (o:Oper) cs b,ops[j]?=some o→o.op≠.select cs b)
  (hQ:∀ c a w,Q (.panic c) (a.put oi.dst v) w→Q (.panic c) a w) (D:List Nat) :
  ∀ (fuel:Nat) (listed:Array Bool) (a:Act) (w:World),
   (∀ j oj,ops[j]?=some oj→j≠i→listed.getD j true=false→(∀ e∈oj.after,Region.binds md e=true→e.on≠i)→oi.apart ops oj=true)→
   Waits md ops listed i B D→i∈Region.ready md ops listed→YieldsIf P ops S oi v a→S w→
   cb P md ops Q S B fuel (listed.setIfInBounds i true) (a.put oi.dst v) w→cb P md ops Q S B (fuel+1) listed a w:=by
 intro fuel
 induction fuel with
 | zero=>
  intro listed a w _ _ hr hy hS H;refine ⟨fun h=>(by rw [h] at hr;cases hr),fun j hj=>?_⟩
  by_cases hji:j=i
  ·subst hji;exact hy.wpOp hi hS ⟨fun _ _=>hS,H⟩
  ·have:=ready_mono hj hji;rw [H.1] at this;cases this
 | succ fuel ih=>
  intro listed a w hfree hwait hr hy hS H;refine ⟨fun h=>(by rw [h] at hr;cases hr),fun j hj=>?_⟩
  by_cases hji:j=i
  ·subst hji;exact hy.wpOp hi hS ⟨fun _ _=>hS,H⟩
  ·have h1:=H.2 j (ready_mono hj hji);obtain ⟨hjun,oj,hoj,hall⟩:=mem_ready.1 hj;have hion:listed.getD i false=false:=by
    have h0:=(mem_ready.1 hr).1;rcases Nat.lt_or_ge i listed.size with h' | h'
    ·simp [h'] at h0⊢;exact h0
    ·simp [Array.getElem?_eq_none h']
   have hnot:∀ e∈oj.after,Region.binds md e=true→e.on≠i:=fun e he hb heq=>by
    have h1:=hall e he hb;rw [heq,hion] at h1;cases h1
   have hjD:j∉D:=fun hd=>by
    obtain ⟨e,he,hb,h2⟩:=hwait.wait j oj hoj hd;have h3:=hall e he hb;rcases h2 with h2 | h2
    ·exact hnot e he hb h2
    ·rw [hwait.open_ _ h2] at h3;cases h3
   have hjB:j∈B:=Classical.byContradiction fun hn=>hjD (hwait.all j oj hoj hjun hji hn);have h2:=wpOp_putIf hoj (hfree j oj hoj hji hjun hnot) (fun cs b=>hsel i oi cs b hi) (fun cs b=>hsel j oj cs b hoj) hQ hy h1;have hfree':∀ k ok,ops[k]?=some ok→k≠i→(listed.setIfInBounds j true).getD k true=false→
     (∀ e∈ok.after,Region.binds md e=true→e.on≠i)→oi.apart ops ok=true:=fun k ok hk hki hun hno=>by
    refine hfree k ok hk hki ?_ hno
    by_cases hjk:j=k
    ·subst hjk;exact hjun
    ·rw [getD_set_ne true hjk] at hun;exact hun
   have hwait':Waits md ops (listed.setIfInBounds j true) i B D:=by
    refine ⟨fun k hk=>?_,hwait.wait,fun k ok hk hun hki hkB=>?_⟩
    ·rw [getD_set_ne false (fun e=>hjD (by rw [e];exact hk))];exact hwait.open_ k hk
    ·have hjk:j≠k:=fun e=>hkB (e ▸ hjB);rw [getD_set_ne true hjk] at hun;exact hwait.all k ok hk hun hki hkB
   refine wpOp_mono (fun a' w' h3=>⟨h3.2.1,ih (listed.setIfInBounds j true) a' w' hfree' hwait' (ready_mono hr (Ne.symm hji)) h3.1 (h3.2.1 hjB hS) ?_⟩) h2;rw [Array.setIfInBounds_comm _ _ hji];exact h3.2.2
theorem pd {i:Nat} {oi:Oper} {v:Value} (hi:ops[i]?=some oi) (hsel:∀ (j:Nat) (o:Oper) cs b,ops[j]?=some o→o.op≠.select cs b)
  (hQ:∀ c a w,Q (.panic c) (a.put oi.dst v) w→Q (.panic c) a w) :
  ∀ (fuel:Nat) (listed:Array Bool) (a:Act) (w:World),
   (∀ j oj,ops[j]?=some oj→j≠i→listed.getD j true=false→(∀ e∈oj.after,Region.binds md e=true→e.on≠i)→oi.apart ops oj=true)→
   i∈Region.ready md ops listed→YieldsIf P ops (fun _=>True) oi v a→
   cb P md ops Q S B fuel (listed.setIfInBounds i true) (a.put oi.dst v) w→cb P md ops Q S B (fuel+1) listed a w:=by
 intro fuel
 induction fuel with
 | zero=>
  intro listed a w _ hr hy H;refine ⟨fun h=>(by rw [h] at hr;cases hr),fun j hj=>?_⟩
  by_cases hji:j=i
  ·subst hji;exact hy.wpOp hi trivial ⟨fun _ h=>h,H⟩
  ·have:=ready_mono hj hji;rw [H.1] at this;cases this
 | succ fuel ih=>
  intro listed a w hfree hr hy H;refine ⟨fun h=>(by rw [h] at hr;cases hr),fun j hj=>?_⟩
  by_cases hji:j=i
  ·subst hji;exact hy.wpOp hi trivial ⟨fun _ h=>h,H⟩
  ·have h1:=H.2 j (ready_mono hj hji);obtain ⟨hjun,oj,hoj,hall⟩:=mem_ready.1 hj;have hion:listed.getD i false=false:=by
    have h0:=(mem_ready.1 hr).1;rcases Nat.lt_or_ge i listed.size with h' | h'
    ·simp [h'] at h0⊢;exact h0
    ·simp [Array.getElem?_eq_none h']
   have hnot:∀ e∈oj.after,Region.binds md e=true→e.on≠i:=fun e he hb heq=>by
    have h1:=hall e he hb;rw [heq,hion] at h1;cases h1
   have h2:=wpOp_putIf hoj (hfree j oj hoj hji hjun hnot) (fun cs b=>hsel i oi cs b hi) (fun cs b=>hsel j oj cs b hoj) hQ hy h1;have hfree':∀ k ok,ops[k]?=some ok→k≠i→(listed.setIfInBounds j true).getD k true=false→
     (∀ e∈ok.after,Region.binds md e=true→e.on≠i)→oi.apart ops ok=true:=fun k ok hk hki hun hno=>by
    refine hfree k ok hk hki ?_ hno
    by_cases hjk:j=k
    ·subst hjk;exact hjun
    ·rw [getD_set_ne true hjk] at hun;exact hun
   refine wpOp_mono (fun a' w' h3=>⟨h3.2.1,ih (listed.setIfInBounds j true) a' w' hfree' (ready_mono hr (Ne.symm hji)) h3.1 ?_⟩) h2;rw [Array.setIfInBounds_comm _ _ hji];exact h3.2.2
theorem pf {id:Nat} {a:Act} {w:World} (B:List Nat) (hm:P.follows .mixedOrders=true) (hS:S w.drew)
  (h:S w.drew→cb P .any ops Q S B ops.size (Array.replicate ops.size false) a w.drew):(Code.region id ops true).wp P Q a w:=
 wp_region_any hm (kG _ _ _ _ (h hS))
theorem ph {listed:Array Bool} {a:Act} {w:World} (hr:Region.ready md ops listed=[]) (h:Q .normal a w) :
  ∀ fuel,cb P md ops Q S B fuel listed a w
 | 0=>⟨hr,h⟩
 | _+1=>⟨fun _=>h,by rw [hr];simp⟩
end
section
variable {P:Program} {md:Region.Mode} {l:List Oper} {Q:Exit→Act→World→Prop} {S:World→Prop} {B:List Nat}
theorem rT {i:Nat} {oi:Oper} {v:Value} {fuel:Nat} {listed:Array Bool} {a:Act} {w:World} (hi:l[i]?=some oi)
  (hs:Region.noSelect l.toArray=true) (hf:Region.free md l.toArray listed i=true) (hr:(Region.ready md l.toArray listed).contains i=true) (hb:fM md l.toArray listed i B (behind md l.toArray i)=true)
  (hQ:∀ c a w,Q (.panic c) (a.put oi.dst v) w→Q (.panic c) a w) (hy:YieldsIf P l.toArray S oi v a) (hS:S w)
  (h:cb P md l.toArray Q S B fuel (listed.setIfInBounds i true) (a.put oi.dst v) w):cb P md l.toArray Q S B (fuel+1) listed a w:=
 mJ (by simpa using hi) (Region.noSelect_spec hs) hQ _ fuel listed a w (Region.free_spec (by simpa using hi) hf) (fN hb) (by simpa using hr) hy hS h
theorem rU {i:Nat} {oi:Oper} {v:Value} {fuel:Nat} {listed:Array Bool} {a:Act} {w:World} (hi:l[i]?=some oi)
  (hs:Region.noSelect l.toArray=true) (hf:Region.free md l.toArray listed i=true) (hr:(Region.ready md l.toArray listed).contains i=true)
  (hQ:∀ c a w,Q (.panic c) (a.put oi.dst v) w→Q (.panic c) a w) (hy:YieldsIf P l.toArray (fun _=>True) oi v a)
  (h:cb P md l.toArray Q S B fuel (listed.setIfInBounds i true) (a.put oi.dst v) w):cb P md l.toArray Q S B (fuel+1) listed a w:=
 pd (by simpa using hi) (Region.noSelect_spec hs) hQ fuel listed a w (Region.free_spec (by simpa using hi) hf) (by simpa using hr) hy h
theorem kH {i:Nat} {o:Oper} {fuel:Nat} {listed:Array Bool} {a:Act} {w:World} (hr:Region.ready md l.toArray listed=[i]) (hi:B.contains i=false) (ho:l[i]?=some o)
  (h:∀ K':Act→World→Prop,Shut (∀ a w,cb P md l.toArray Q S B fuel (listed.setIfInBounds i true) a w→K' a w)→if Region.wanted o (yielded l.toArray a.tmps)=true then Oper.wp P o a w K' Q else K' (a.put o.dst undef) w) :
  cb P md l.toArray Q S B (fuel+1) listed a w:=by
 refine ⟨fun h0=>absurd (hr ▸ h0) (by simp),fun j hj=>?_⟩;rw [hr] at hj;obtain rfl:=List.mem_singleton.1 hj;have hn:j∉B:=by simpa using hi
 exact wpOp_step (by simpa using ho) (fun K' hK=>h K' (fun a w hW=>hK a w ⟨fun hB=>absurd hB hn,hW⟩))
theorem tkC (i:Nat) {oi:Oper} {v:Value} {fuel:Nat} {listed listed':Array Bool} {a a':Act} {w:World} (hS:S w) (h:cb P md l.toArray Q S B fuel listed' a' w)
  (hi:l[i]?=some oi:=by rfl) (hs:Region.noSelect l.toArray=true:=by kernel_rfl) (hf:Region.free md l.toArray listed i=true:=by kernel_rfl) (hr:(Region.ready md l.toArray listed).contains i=true:=by kernel_rfl) (hb:fM md l.toArray listed i B (behind md l.toArray i)=true:=by kernel_rfl)
  (hQ:∀ c a w,Q (.panic c) (a.put oi.dst v) w→Q (.panic c) a w:=by exact fun _ _ _ h=>h)
  (hy:YieldsIf P l.toArray S oi v a:=by refine Or.inl ⟨by rfl,?_⟩;((intro w hSw;(try dsimp only at hSw);go_simp);try with_reducible rfl))
  (hl:listed.setIfInBounds i true=listed':=by (try simp only [List.setIfInBounds_toArray,List.set_cons_zero,List.set_cons_succ]);rfl)
  (ha:a.put oi.dst v=a':=by (try simp only [Act.put,List.setIfInBounds_toArray,List.set_cons_zero,List.set_cons_succ]);rfl):cb P md l.toArray Q S B (fuel+1) listed a w:=by
 subst hl;subst ha;exact rT hi hs hf hr hb hQ hy hS h
theorem tkP (i:Nat) {oi:Oper} {v:Value} {fuel:Nat} {listed listed':Array Bool} {a a':Act} {w:World} (h:cb P md l.toArray Q S B fuel listed' a' w)
  (hi:l[i]?=some oi:=by rfl) (hs:Region.noSelect l.toArray=true:=by kernel_rfl) (hf:Region.free md l.toArray listed i=true:=by kernel_rfl) (hr:(Region.ready md l.toArray listed).contains i=true:=by kernel_rfl)
  (hQ:∀ c a w,Q (.panic c) (a.put oi.dst v) w→Q (.panic c) a w:=by exact fun _ _ _ h=>h)
  (hy:YieldsIf P l.toArray (fun _=>True) oi v a:=by refine Or.inl ⟨by rfl,?_⟩;((intro w hSw;(try dsimp only at hSw);go_simp);try with_reducible rfl))
  (hl:listed.setIfInBounds i true=listed':=by (try simp only [List.setIfInBounds_toArray,List.set_cons_zero,List.set_cons_succ]);rfl)
  (ha:a.put oi.dst v=a':=by (try simp only [Act.put,List.setIfInBounds_toArray,List.set_cons_zero,List.set_cons_succ]);rfl):cb P md l.toArray Q S B (fuel+1) listed a w:=by
 subst hl;subst ha;exact rU hi hs hf hr hQ hy h
end
open Go.ChangeShapes Go.WideShapes Go.ChangeAt Go.RowKit
theorem law_own:ownKnob Tryz.prog.godebug=none:=by kernel_rfl
section
variable {H:Type} {enc:TypeId×Value→H} {P:Program}
theorem rV {f:Func} {s:ChangeSpec} {apart fresh handsOn again:Bool} {W W':World} {args:Array Value} {v:Value} {ds gs:List (DataW H)} {before pa pv:List MemPlace}
  (hW:DataW.Whole enc P f.params.toList s.vars apart W args.toList ds gs before) (ho:Only [] W W')
  (hres:∀ (b:Nat) (sp:Nat→Bool) (hd:Bool),DataW.TrodAll enc P W' b sp hd f.resultTypes.toList (v.resultList f.resultTypes.size) (s.fn H (ds++gs)).results [])
  (hargs:∀ sp:Nat→Bool,(∀ p∈before,sp p.block=true)→DataW.TrodAll enc P W' 0 sp true f.params.toList args.toList (s.fn H (ds++gs)).args pa)
  (hvars:∀ sp:Nat→Bool,(∀ p∈before,sp p.block=true)→DataW.TrodVars enc P W' sp s.vars (s.fn H (ds++gs)).vars pv)
  (hps:before=pa++pv)
  (hok:∀ (j:Nat) (t:TypeId) (r:Value),f.resultTypes[j]?=some t→(v.resultList f.resultTypes.size)[j]?=some r→Value.okWide P W' .any 0 t r) :
  s.post enc P f apart fresh handsOn again W args v W':=by
 have hb:=ho.below;have old:=fun p (hp:p∈before)=>hW.lt p hp;have seen:∀ p∈before,(fun b=>decide (b < W.heap.size)) p.block=true:=fun p hp=>by simpa using old p hp
 refine ⟨ds,gs,before,[],pa,pv,hW,hres _ _ _,hargs _ seen,hvars _ seen,World.keptBut_mono (fun p hp=>⟨hp,?_⟩) (hb.frame (·∈before)),fun _=>?_⟩
 ·exact .inr (List.mem_append.1 (hps ▸ hp))
 ·obtain ⟨_,_,_,_,_,free,single⟩:=hW;refine ⟨hok,_,_,([]++pa)++pv,⟨[]++pa,pv,trodAll_append (hargs _ (fun _ _=>rfl)) (hres _ _ _),hvars _ (fun _ _=>rfl),rfl,fun b off hp=>?_,fun ha=>?_⟩,fun p hp _=>?_⟩
  ·have hm:MemPlace.cell b off∈before:=by rw [hps];simpa using hp
   exact (hb.frozen (old _ hm)).trans (free b off hm)
  ·simpa [hps] using single ha
  ·rw [hps];simpa using hp
end
theorem law_laid:laidOutB Tryz.prog=true:=by kernel_rfl
theorem ud {H:Type} {enc:TypeId×Value→H} {t:TypeId} (hr:Tryz.prog.readableRec t=true) (hrow:t < Tryz.prog.types.size) {W W':World} {v:Value} {d:DataW H} {ps:List MemPlace}
  (h:DataW.Trod enc Tryz.prog W 0 (fun _=>true) true t v d ps) (ho:Only [] W W') (hlt:∀ x∈ps,x.block < W.heap.size) {sp:Nat→Bool} (hsp:∀ x∈ps,sp x.block=true):DataW.Trod enc Tryz.prog W' 0 sp true t v d ps:=
 WideElems.Trod_stays law_laid hr hrow h (fun x hx=>ho.below.same (hlt x hx)) hsp
end Go.Proofs.YtcebchffcmpfeaaGreat

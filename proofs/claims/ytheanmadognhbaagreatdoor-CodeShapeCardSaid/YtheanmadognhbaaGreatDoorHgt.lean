import Derived.Test.YtheanmadognhbaaGreatDoorHft
namespace Go.Proofs.YtheanmadognhbaaGreatDoor
set_option linter.unusedVariables false
set_option linter.unusedSimpArgs false
set_option maxRecDepth 100000
set_option maxHeartbeats 16000000
open Go.RowKit Go.Maps
theorem oa:∀ (i:Nat) (at_:Nat) (l:Sec) (ts:List Tok),fq at_ l=.ok ts→∀ (j:Nat) (ti tj:Tok),ts[i]?=some ti→ts[j]?=some tj→i < j→ti.pos < tj.pos
 | i,at_,l,ts,h,j,ti,tj,hi,hj,hij=>by
  rcases hO h with ⟨h1,rfl⟩ | ⟨us,kd,z,rfl,hf,hz,hzl,hu⟩
  ·have:=(List.getElem?_eq_some_iff.1 hj).1;simp at this;omega
  ·obtain ⟨j,rfl⟩:∃ k,j=k+1:=⟨j - 1,by omega⟩
   have hj':us[j]?=some tj:=by simpa using hj
   cases i with
   | zero=>
    simp at hi;have:=(qN j _ _ us tj hu hj').1;rw [← hi];simp only;omega
   | succ i=>
    exact oa i _ _ us hu j ti tj (by simpa using hi) hj' (by omega)
def Up (ts:List Tok):Prop:=∀ i j,i < j→j < ts.length→pAt ts i < pAt ts j
theorem up_lex {l:Sec} {ts:List Tok} (h:lex l=.ok ts):Up ts:=by
 intro i j hij hj;rw [tY] at h;have e1:ts[i]?=some ts[i]:=List.getElem?_eq_getElem (by omega);have e2:ts[j]?=some ts[j]:=List.getElem?_eq_getElem hj;have:=oa i 0 l ts h j _ _ e1 e2 hij;unfold pAt;rw [e1,e2];exact this
def OI (ts:List Tok) (a:Nat):Nat→List Dc→Prop | i,[]=>i≤a | i,x :: xs=>∃ k,i≤k∧k < ts.length∧x.2.1=(pAt ts k:Nat)∧OI ts a (k+1) xs
section
variable {ts:List Tok}
theorem OI.le {a:Nat}:∀ {l:List Dc} {i:Nat},OI ts a i l→i≤a
 | [],i,h=>h
 | x :: xs,i,h=>by
  obtain ⟨k,h1,-,-,h2⟩:=h;have:=OI.le h2;omega
theorem OI.from_ {a:Nat} {l:List Dc} {i j:Nat} (h:OI ts a i l) (hij:j≤i):OI ts a j l:=by
 cases l with
 | nil=>exact Nat.le_trans hij h
 | cons x xs=>
  obtain ⟨k,h1,h2⟩:=h;exact ⟨k,Nat.le_trans hij h1,h2⟩
theorem OI.to {a b:Nat} (hab:a≤b):∀ {l:List Dc} {i:Nat},OI ts a i l→OI ts b i l
 | [],i,h=>Nat.le_trans h hab
 | x :: xs,i,h=>by
  obtain ⟨k,h1,h2,h3,h4⟩:=h;exact ⟨k,h1,h2,h3,OI.to hab h4⟩
theorem OI.app {a b:Nat} {m:List Dc} (hm:OI ts b a m):∀ {l:List Dc} {i:Nat},OI ts a i l→OI ts b i (l++m)
 | [],i,h=>hm.from_ h
 | x :: xs,i,h=>by
  obtain ⟨k,h1,h2,h3,h4⟩:=h;exact ⟨k,h1,h2,h3,OI.app hm h4⟩
theorem OI.all (hu:Up ts) {a:Nat}:∀ {l:List Dc} {i:Nat},OI ts a i l→∀ y∈l,∃ k,i≤k∧k < ts.length∧y.2.1=(pAt ts k:Nat)
 | [],i,h=>by intro y hy;cases hy
 | x :: xs,i,h=>by
  obtain ⟨k,h1,h2,h3,h4⟩:=h;intro y hy;rcases List.mem_cons.1 hy with rfl | hy
  ·exact ⟨k,h1,h2,h3⟩
  ·obtain ⟨m,g1,g2,g3⟩:=OI.all hu h4 y hy;exact ⟨m,by omega,g2,g3⟩
theorem OI.inc (hu:Up ts) {a:Nat}:∀ {l:List Dc} {i:Nat},OI ts a i l→Inc l
 | [],i,h=>trivial
 | x :: xs,i,h=>by
  obtain ⟨k,h1,h2,h3,h4⟩:=h;refine ⟨fun y hy=>?_,OI.inc hu h4⟩;obtain ⟨m,g1,g2,g3⟩:=OI.all hu h4 y hy;have:=hu k m (by omega) g2;rw [h3,g3];omega
theorem xg {i:Nat} {c:UInt8} {r:Sec} (h:isT ts i (c :: r)=true):i < ts.length:=by
 rcases Nat.lt_or_ge i ts.length with h1 | h1
 ·exact h1
 ·unfold isT xAt at h;rw [List.getElem?_eq_none h1] at h;simp at h
theorem forR_ok {i a:Nat} {x:Sec×Int} (h:forR ts i=.ok (x,a)):i+1≤a:=by
 unfold forR at h;split at h
 ·cases h
 ·rename_i s a1 h1;have e1:=(iV h1).2;split at h
  ·cases h
  ·rename_i a2 h2;have e2:=bJ h2;split at h
   ·cases h
   ·rename_i a3 h3;have e3:=bJ h3;split at h
    ·cases h
    ·rename_i a4 h4;have e4:=bJ h4;split at h
     ·cases h
     ·rename_i n a5 h5;have e5:=(vk h5).2.2;cases h;omega
theorem xh {i dp a:Nat} {s:St} (h:d8 ts i dp=.ok (s,a)):bD s=[]:=by
 unfold d8 at h;split at h
 ·cases h
 ·split at h
  ·split at h
   ·cases h
   ·split at h
    ·cases h
    ·cases h;have key:∀ k:Int,k=2∨k=3∨k=4→∀ (xs:List E) (p:Int),bD (.mk k [] xs 0 [] [] p)=[]:=by
      intro k hk xs p;unfold bD ap;rw [if_neg (by omega)];rfl
     refine key _ ?_ _ _;split
     ·exact .inl rfl
     ·split
      ·exact .inr (.inl rfl)
      ·exact .inr (.inr rfl)
  ·split at h
   ·split at h
    ·cases h
    ·split at h
     ·cases h
     ·cases h;unfold bD ap;rfl
   ·cases h
theorem decl_let {i dp a:Nat} {s:St} (h:pj ts i dp=.ok (s,a)):∃ nm,bD s=[(nm,((pAt ts i:Nat):Int),1)]:=by
 unfold pj at h;split at h
 ·cases h
 ·split at h
  ·cases h
  ·split at h
   ·cases h
   ·split at h
    ·cases h
    ·rename_i s0 _ _ _ _ _ _ _ _ _;cases h;exact ⟨_,by unfold bD ap;rfl⟩
theorem oi_stmt (he:Ends ts):∀ f:Nat,(∀ i dp s a,i < ts.length→bz ts f i dp=.ok (s,a)→OI ts a i (bD s))∧(∀ i dp l a,i < ts.length→be ts f i dp=.ok (l,a)→OI ts a i (ap l))∧
  (∀ i dp l a,i < ts.length→aW ts f i dp=.ok (l,a)→OI ts a i (ap l)):=by
 intro f
 induction f with
 | zero=>
  refine ⟨fun i _ e a _ h=>?_,fun i _ e a _ h=>?_,fun i _ e a _ h=>?_⟩
  ·unfold bz at h;cases h
  ·unfold be at h;cases h
  ·unfold aW at h;cases h
 | succ f ih=>
  obtain ⟨ih1,ih2,ih3⟩:=ih;refine ⟨fun i dp s a hi h=>?_,fun i dp l a hi h=>?_,fun i dp l a hi h=>?_⟩
  ·have hadv:=(dT he (f+1)).1 i dp hi;rw [h] at hadv;have hadv:i < a∧a < ts.length:=hadv;unfold bz at h;split at h
   ·rw [xh h];exact Nat.le_of_lt hadv.1
   ·split at h
    ·obtain ⟨nm,e⟩:=decl_let h;rw [e];exact ⟨i,Nat.le_refl _,hi,rfl,hadv.1⟩
    ·split at h
     ·rename_i hif;have hi1:=aO he hi hif;have hadx:=AdvP.expr he (i:=i+1) (p:=.ok (i+1)) ⟨Nat.le_refl _,hi1⟩ dp;split at h
      ·cases h
      ·rename_i e b0 hex;have hb0:i+1 < b0∧b0 < ts.length:=by
        have e1:g8 ts (.ok (i+1)) dp=bE ts (i+1) dp:=rfl;rw [e1,hex] at hadx;exact hadx
       split at h
       ·cases h
       ·rename_i bd c hb;have hc:=(dT he f).2.1 b0 dp hb0.2;rw [hb] at hc;have hc:b0 < c∧c < ts.length:=hc;have q1:=ih2 _ _ _ _ hb0.2 hb;split at h
        ·rename_i hel;have hc1:=aO he hc.2 hel;split at h
         ·cases h
         ·rename_i els d hd;have q2:=ih2 _ _ _ _ hc1 hd;cases h;unfold bD;rw [if_neg (by decide),List.nil_append];exact (OI.app (q2.from_ (by omega)) q1).from_ (by omega)
        ·cases h;unfold bD;rw [if_neg (by decide),List.nil_append];have e0:ap []=[]:=by unfold ap;rfl
         rw [e0,List.append_nil];exact q1.from_ (by omega)
     ·split at h
      ·split at h
       ·cases h
       ·rename_i x c hf;have hfor:=forR_ok hf;have hclen:c < ts.length:=by
         rcases Nat.lt_or_ge c ts.length with h1 | h1
         ·exact h1
         ·exfalso;split at h
          ·cases h
          ·rename_i bd d hb;cases f with
           | zero=>unfold be at hb;cases hb
           | succ f=>
            unfold be at hb;split at hb
            ·cases hb
            ·split at hb
             ·rename_i h2;have:=xg h2;omega
             ·cases hb
        split at h
        ·cases h
        ·rename_i bd d hb;have q1:=ih2 _ _ _ _ hclen hb;cases h;unfold bD;rw [if_pos (by decide)];have e0:ap []=[]:=by unfold ap;rfl
         rw [e0,List.append_nil];exact ⟨i,Nat.le_refl _,hi,rfl,q1.from_ hfor⟩
      ·cases h
  ·unfold be at h;split at h
   ·cases h
   ·split at h
    ·rename_i hop;have hi1:=aO he hi hop;split at h
     ·cases h
     ·rename_i l' b hs;have q:=ih3 _ _ _ _ hi1 hs;split at h
      ·cases h
      ·rename_i c hc;have:=bJ hc;cases h;exact (q.from_ (by omega)).to (by omega)
    ·cases h
  ·unfold aW at h;split at h
   ·cases h;unfold ap;exact Nat.le_refl _
   ·split at h
    ·cases h
    ·rename_i s b hs;have hb:=(dT he f).1 i dp hi;rw [hs] at hb;have hb:i < b∧b < ts.length:=hb;split at h
     ·cases h
     ·rename_i l' c hl;cases h;unfold ap;exact OI.app (ih3 _ _ _ _ hb.2 hl) (ih1 _ _ _ _ hi hs)
theorem oi_body (he:Ends ts):∀ f i l a,i < ts.length→bW ts f i=.ok (l,a)→OI ts a i (ap l):=by
 intro f
 induction f with
 | zero=>intro i l a _ h;unfold bW at h;cases h
 | succ f ih=>
  intro i l a hi h;unfold bW at h;split at h
  ·cases h;unfold ap;exact Nat.le_refl _
  ·split at h
   ·cases h
   ·rename_i s b hs;have hb:=(dT he (4*ts.length+8)).1 i 1 hi;have hs':bz ts (4*ts.length+8) i 1=.ok (s,b):=hs;rw [hs'] at hb;have hb:i < b∧b < ts.length:=hb;split at h
    ·cases h
    ·rename_i l' d hl;cases h;unfold ap;exact OI.app (ih _ _ _ hb.2 hl) ((oi_stmt he _).1 _ _ _ _ hi hs')
theorem tq {f i a:Nat} {l:List St} (h:bW ts f i=.ok (l,a)):i < ts.length:=by
 rcases Nat.lt_or_ge i ts.length with h1 | h1
 ·exact h1
 ·exfalso;cases f with
  | zero=>unfold bW at h;cases h
  | succ f=>
   have hn:∀ (c:UInt8) (r:Sec),isT ts i (c :: r)=false:=fun c r=>by
    cases hq:isT ts i (c :: r) with
    | false=>rfl
    | true=>have:=xg hq;omega
   unfold bW at h;split at h
   ·rename_i h2;rcases h2 with h2 | h2
    ·rw [hn] at h2;cases h2
    ·rw [hn] at h2;cases h2
   ·split at h
    ·cases h
    ·rename_i s b hs;have hs':bz ts (4*ts.length+7+1) i 1=.ok (s,b):=hs;rw [hG (hn _ _) (hn _ _) (hn _ _) (hn _ _)] at hs';cases hs'
theorem def_inc (he:Ends ts) (hu:Up ts) {d:Df} {a:Nat} (h:oL ts=.ok (d,a)):Inc (ap d.body):=by
 unfold oL at h;split at h
 ·cases h
 ·split at h
  ·cases h
  ·split at h
   ·cases h
   ·rename_i b a3 h3;split at h
    ·cases h
    ·split at h
     ·cases h
     ·cases h;exact (oi_body he _ _ _ _ (tq h3) h3).inc hu
end
theorem oe {l:Sec} {d:Df} (h:bf l=.ok d):Inc (ap d.body):=by
 unfold bf at h;split at h
 ·cases h
 ·rename_i hl;split at h
  ·cases h
  ·rename_i ts hlex;split at h
   ·cases h
   ·rename_i d' hp;cases h;unfold f6 at hp;split at hp
    ·cases hp
    ·rename_i d2 a hd;split at hp
     ·cases hp;exact def_inc (iU hlex) (up_lex hlex) hd
     ·cases hp
theorem kf {l:Sec} {d:Df} (h:bf l=.ok d):DfOk d:=⟨eo h,dz h,ln h,ap d.body,oe h,List.Perm.refl _⟩
def pdF (r:Except (Nat×Nat) Df):Option Df:=match r with | .ok d=>some d | .error _=>none
def rh (w:World) (r:Option Df) (e:Ending) (w':World):Prop:=
 ∃ (s:ByteArray) (a1 a2 a3 a4:Option Addr) (l1 l2 l3 l4 c1 c2 c3 c4:Nat),e=.returned (.tuple #[.agg #[.string s,.slice a1 l1 c1,.slice a2 l2 c2,.slice a3 l3 c3,.slice a4 l4 c4],.bool r.isSome])∧
  (∀ d,r=some d→DV w' (fun b=>w.heap.size≤b) d [.string s,.slice a1 l1 c1,.slice a2 l2 c2,.slice a3 l3 c3,.slice a4 l4 c4])∧Only [] w w'
def PdZ (w:World) (r:Option Df) (e:Ending) (w':World):Prop:=
 ∃ (s:ByteArray) (a1 a2 a3 a4:Option Addr) (l1 l2 l3 l4 c1 c2 c3 c4:Nat),e=.returned (.tuple #[.agg #[.string s,.slice a1 l1 c1,.slice a2 l2 c2,.slice a3 l3 c3,.slice a4 l4 c4],.bool r.isSome])∧
  DV w' (fun b=>w.heap.size≤b) (r.getD ⟨[],[],[],[],[]⟩) [.string s,.slice a1 l1 c1,.slice a2 l2 c2,.slice a3 l3 c3,.slice a4 l4 c4]∧Only [] w w'
theorem dv_zero (w:World) (B:Nat→Prop):DV w B ⟨[],[],[],[],[]⟩ zeroD:=
 ⟨_,_,_,_,rfl,⟨none,0,rfl,Nat.le_refl _,.inl rfl⟩,⟨none,0,rfl,Nat.le_refl _,.inl rfl⟩,⟨none,0,rfl,Nat.le_refl _,.inl rfl⟩,⟨none,0,rfl,Nat.le_refl _,.inl rfl⟩⟩
theorem ci (tmps:Array Value) (w:World) (g:Nat) (v0 v1 v2 v3 v4 ev:Value) (h2:tmps.getD 4 undef=.pointer (some ⟨g,0,none⟩)) (h3:tmps.getD 5 undef=ev) (h:w.heap[g]?=some (.cells #[v0,v1,v2,v3,v4] 27 (0,0))) :
  (results Tryz.f10 tmps).run Tryz.prog w=.ok (.tuple #[.agg #[v0,v1,v2,v3,v4],ev]) w:=by
 have c0:w.cell? ⟨g,0,none⟩=some v0:=ab 0 h;have c1:w.cell? ⟨g,1,none⟩=some v1:=ab 1 h;have c2:w.cell? ⟨g,2,none⟩=some v2:=ab 2 h;have c3:w.cell? ⟨g,3,none⟩=some v3:=ab 3 h;have c4:w.cell? ⟨g,4,none⟩=some v4:=ab 4 h;have hl:(loadVar 27 ⟨g,0,none⟩).run Tryz.prog w=.ok (.agg #[v0,v1,v2,v3,v4]) w:=by
  clear h;simp [go_sem,c0,c1,c2,c3,c4]
 have h2':tmps[4]?.getD undef=.pointer (some ⟨g,0,none⟩):=by simpa using h2
 have h3':tmps[5]?.getD undef=ev:=by simpa using h3
 simp [results,Tryz.results10,asAddr,h2',h3',hl]
theorem p6 (s:ByteArray) (w:World) (hs:s.size≤9223372036854775807):Calls Tryz.prog 10 #[.string s,.bool false] w (PdZ w (pdF (bf s.data.toList))):=by
 obtain ⟨R,hR⟩:∃ R,R=bf s.data.toList:=⟨_,rfl⟩
 rw [← hR];have HR:=Hd hR;clear hR
 go_enter Tryz.func10,Tryz.ntmps10
 go_upto_region 1 with (fail)
 obtain ⟨w1,q9,o1,hz,-⟩:=nb w (.cells #[.string ⟨#[]⟩,.slice none 0 0,.slice none 0 0,.slice none 0 0,.slice none 0 0] 27);rw [← q9];clear q9;obtain ⟨gz,hgz⟩:∃ g,g=w.heap.size:=⟨_,rfl⟩
 rw [← hgz] at hz⊢;have K1:=lh s w1 hs;rw [← HR.out] at K1;have HG:=Hd hgz;have HO:=Hd o1;have HZ:=Hd hz;have HZL:=Hd (am hz);clear o1 hz hgz;go_wp2_with fail
 refine K1.mono ?_;rintro e w2 ⟨sn,a1,a2,a3,a4,l1,l2,l3,l4,c1,c2,c3,c4,pc,pp,rfl,herr,hok,o2,hzd⟩;replace HO:=Hd (HO.out.trans o2 (by simp));replace HZ:=Hd (o2.heap HZ.out (by simp));have HOK:=Hd hok;have HER:=Hd herr;have HZD:=Hd hzd;clear K1 o2 hok herr hzd;go_upto_region 2 with (fail)
 obtain ⟨w3,q9,oA,hA,-⟩:=nb w2 (.cells #[.string sn,.slice a1 l1 c1,.slice a2 l2 c2,.slice a3 l3 c3,.slice a4 l4 c4] 27);rw [← q9];clear q9;obtain ⟨gd,hgd⟩:∃ g,g=w2.heap.size:=⟨_,rfl⟩
 rw [← hgd] at hA⊢;replace HO:=Hd (HO.out.trans oA (by simp));replace HZ:=Hd (oA.heap HZ.out (by simp));have HOA:=Hd oA;have x0:w3.cell? ⟨gd,0,none⟩=some (.string sn):=ab 0 hA;have x1:w3.cell? ⟨gd,1,none⟩=some (.slice a1 l1 c1):=ab 1 hA;have x2:w3.cell? ⟨gd,2,none⟩=some (.slice a2 l2 c2):=ab 2 hA;have x3:w3.cell? ⟨gd,3,none⟩=some (.slice a3 l3 c3):=ab 3 hA;have x4:w3.cell? ⟨gd,4,none⟩=some (.slice a4 l4 c4):=ab 4 hA;clear hA oA hgd;have z0:w3.cell? ⟨gz,0,none⟩=some (.string ⟨#[]⟩):=ab 0 HZ.out;have z1:w3.cell? ⟨gz,1,none⟩=some (.slice none 0 0):=ab 1 HZ.out;have z2:w3.cell? ⟨gz,2,none⟩=some (.slice none 0 0):=ab 2 HZ.out;have z3:w3.cell? ⟨gz,3,none⟩=some (.slice none 0 0):=ab 3 HZ.out;have z4:w3.cell? ⟨gz,4,none⟩=some (.slice none 0 0):=ab 4 HZ.out;have fz0:=ac 0 HZ.out;have fz1:=ac 1 HZ.out;have fz2:=ac 2 HZ.out;have fz3:=ac 3 HZ.out;have fz4:=ac 4 HZ.out;cases hr:R with
 | error q=>
  obtain ⟨k,p0⟩:=q;obtain ⟨rfl,rfl⟩:=HER.out k p0 hr;have hq:pdF R=none:=by rw [hr];rfl
  have HQ:=Hd (show (pdF R).isSome=false by rw [hq];rfl);have HQ':=Hd hq;have hk:=jG (HR.out.symm.trans hr);have hr0:=hr;have hpc:((pc:Int) == 0)=false:=by simp;omega
  have hpd:¬ (pc:Int)=0:=by omega
  clear hr hq hk;have HR0:=Hd (HZD.out _ _ hr0);clear hr0;go_wp2_with fail
  (try simp only [Exit.inBlock,Exit.then]);refine bodyPost_ret (ci _ _ gz _ _ _ _ _ (.bool false) rfl rfl (ax HZ.out _ _ _ _ _)) rfl ?_;have oz:Only [gz] w3 (((((w3.setCell ⟨gz,0,none⟩ (.string sn)).setCell ⟨gz,1,none⟩ (.slice a1 l1 c1)).setCell ⟨gz,2,none⟩ (.slice a2 l2 c2)).setCell ⟨gz,3,none⟩ (.slice a3 l3 c3)).setCell ⟨gz,4,none⟩ (.slice a4 l4 c4)):=oc;refine ⟨sn,a1,a2,a3,a4,l1,l2,l3,l4,c1,c2,c3,c4,by rw [HQ.out]<;>rfl,?_,HO.out.trans oz (fun k hk=>.inr (by rw [List.mem_singleton.1 hk,HG.out];exact Nat.le_refl _))⟩;have:=HZL.out;have:=HG.out;rw [HQ'.out,HR0.out];exact dv_zero _ _
 | ok d0=>
  obtain ⟨rfl,rfl,hdv⟩:=HOK.out d0 hr;have HDV:=Hd (hdv.kept HOA.out (by simp) (fun _ h=>h));have HWP:=Hd (show Whole d0∧pB d0.body from ⟨eo (HR.out.symm.trans hr),dz (HR.out.symm.trans hr)⟩);have HR0:=Hd hr;clear hdv hr;have HQ:=Hd (show (pdF R).isSome=true by rw [HR0.out];rfl);have HQ':=Hd (show (pdF R).getD ⟨[],[],[],[],[]⟩=d0 by rw [HR0.out];rfl);go_wp2_with fail
  (try simp only [Exit.inBlock,Exit.then]);refine bodyPost_ret (ci _ _ gz _ _ _ _ _ (.bool true) rfl rfl (ax HZ.out _ _ _ _ _)) rfl ?_;have oz:Only [gz] w3 (((((w3.setCell ⟨gz,0,none⟩ (.string sn)).setCell ⟨gz,1,none⟩ (.slice a1 l1 c1)).setCell ⟨gz,2,none⟩ (.slice a2 l2 c2)).setCell ⟨gz,3,none⟩ (.slice a3 l3 c3)).setCell ⟨gz,4,none⟩ (.slice a4 l4 c4)):=oc;refine ⟨sn,a1,a2,a3,a4,l1,l2,l3,l4,c1,c2,c3,c4,by rw [HQ.out]<;>rfl,?_,HO.out.trans oz (fun k hk=>.inr (by rw [List.mem_singleton.1 hk,HG.out];exact Nat.le_refl _))⟩;have:=HZL.out;have:=HG.out;rw [HQ'.out];have hd:=HDV.out;exact hd.kept oz (fun q hq hB=>by rw [List.mem_singleton.1 hq] at hB;omega) (fun q hq=>by omega)
theorem kg (s:ByteArray) (w:World) (hs:s.size≤9223372036854775807):Calls Tryz.prog 10 #[.string s,.bool false] w (rh w (pdF (bf s.data.toList))):=by
 refine (p6 s w hs).mono ?_;rintro e w' ⟨s,a1,a2,a3,a4,l1,l2,l3,l4,c1,c2,c3,c4,h1,h2,h3⟩;exact ⟨s,a1,a2,a3,a4,l1,l2,l3,l4,c1,c2,c3,c4,h1,fun d hd=>by rw [hd] at h2;exact h2,h3⟩
end Go.Proofs.YtheanmadognhbaaGreatDoor

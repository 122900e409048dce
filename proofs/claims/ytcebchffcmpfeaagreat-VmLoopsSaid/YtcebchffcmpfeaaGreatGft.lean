import Derived.Test.YtcebchffcmpfeaaGreatG19t
import Derived.Deep.CutBlock
namespace Go.Proofs.YtcebchffcmpfeaaGreat
set_option linter.unusedVariables false
set_option linter.unusedSimpArgs false
set_option maxRecDepth 100000
set_option maxHeartbeats 16000000
open Go.RowKit Go.Maps
theorem eO {α:Type} (l0:List α) (s:α) (x:Except Nat (List α×Nat)):ey (l0++·) (ey (s :: ·) x)=ey ((l0++[s])++·) x:=by
 cases x with
 | error k=>rfl
 | ok y=>simp [ey]
section
variable {ts:List Tok}
theorem fD {f i k:Nat} (e:bp ts i=.error k):aS ts (f+1) i=.error k:=by
 conv=>lhs;unfold aS
 rw [e]
theorem ez {f i a:Nat} {s:Sec} (e:bp ts i=.ok (s,a)) (h:isT ts a [44]=false):aS ts (f+1) i=.ok ([s],a):=by
 conv=>lhs;unfold aS
 rw [e];dsimp only;rw [if_neg (by rw [h];decide)]
theorem eA {f i a:Nat} {s:Sec} (e:bp ts i=.ok (s,a)) (h:isT ts a [44]=true):aS ts (f+1) i=ey (s :: ·) (aS ts f (a+1)):=by
 conv=>lhs;unfold aS
 rw [e];dsimp only;rw [if_pos h];cases aS ts f (a+1)<;>rfl
theorem kW {f i:Nat} (h:isT ts i [110,101,101,100]=false):bo ts (f+1) i=.ok ([],i):=by
 conv=>lhs;unfold bo
 rw [if_neg (by rw [h];decide)]
theorem mZ {f i:Nat} (h:isT ts i [110,101,101,100]=true) :
  (∀ k,ba ts (ai (br ts (i+1) 1)) [59]=.error k→bo ts (f+1) i=.error k)∧
  (∀ a,ba ts (ai (br ts (i+1) 1)) [59]=.ok a→∃ e a0,br ts (i+1) 1=.ok (e,a0)∧bo ts (f+1) i=ey (e :: ·) (bo ts f a)):=by
 have hd:bo ts (f+1) i=match br ts (i+1) 1 with
   | .error k=>.error k
   | .ok (e,a)=>match bE ts a [59] with
    | .error k=>.error k
    | .ok a=>match bo ts f a with
     | .error k=>.error k
     | .ok (l,b)=>.ok (e :: l,b):=by
  conv=>lhs;unfold bo
  rw [if_pos h];rfl
 cases he:br ts (i+1) 1 with
 | error k=>
  rw [he] at hd;refine ⟨fun k' e=>?_,fun a e=>(by cases e)⟩;cases e;exact hd
 | ok x=>
  obtain ⟨t,a⟩:=x;rw [he] at hd;dsimp only [ai,ba] at hd⊢;cases h2:bE ts a [59] with
  | error k=>
   rw [h2] at hd;refine ⟨fun k' e=>?_,fun a e=>(by cases e)⟩;cases e;exact hd
  | ok b=>
   rw [h2] at hd;refine ⟨fun k' e=>(by cases e),fun a' e=>?_⟩;cases e;refine ⟨t,a,rfl,?_⟩;rw [hd];dsimp only;cases bo ts f b<;>rfl
theorem f8 {f i:Nat} (h:isT ts i [103,105,118,101]=true∨isT ts i [125]=true):bM ts (f+1) i=.ok ([],i):=by
 conv=>lhs;unfold bM
 rw [if_pos h]
theorem na {f i k:Nat} (h1:isT ts i [103,105,118,101]=false) (h2:isT ts i [125]=false) (e:pz ts i 1=.error k):bM ts (f+1) i=.error k:=by
 conv=>lhs;unfold bM
 rw [if_neg (by rw [h1,h2];decide),e]
theorem q8 {f i a:Nat} {s:St} (h1:isT ts i [103,105,118,101]=false) (h2:isT ts i [125]=false) (e:pz ts i 1=.ok (s,a)):bM ts (f+1) i=ey (s :: ·) (bM ts f a):=by
 conv=>lhs;unfold bM
 rw [if_neg (by rw [h1,h2];decide),e];dsimp only;cases bM ts f a<;>rfl
theorem re {i:Nat} (h:isT ts i [103,105,118,101]=false):fk ts i=.ok ([],i):=by
 unfold fk;rw [if_neg (by rw [h];decide)]
theorem rf {i:Nat} (h:isT ts i [103,105,118,101]=true) :
  ai (fk ts i)=ba ts (ai (br ts (i+1) 1)) [59]∧∀ l a,fk ts i=.ok (l,a)→∃ e a0,br ts (i+1) 1=.ok (e,a0)∧l=[e]:=by
 unfold fk;rw [if_pos h];cases he:br ts (i+1) 1 with
 | error k=>exact ⟨rfl,fun l a e=>(by cases e)⟩
 | ok x=>
  obtain ⟨t,a⟩:=x;dsimp only [ai,ba];cases h2:bE ts a [59] with
  | error k=>exact ⟨rfl,fun l a e=>(by cases e)⟩
  | ok b=>exact ⟨rfl,fun l a' e=>(by cases e;exact ⟨t,a,rfl,rfl⟩)⟩
end
def DD (w wx:World) (s:ByteArray) (v1 v2 v3 v4:Value):Prop:=
 Only [] w wx∧wx.heap[w.heap.size]?=some (.cells #[.string ⟨#[]⟩,.slice none 0 0,.slice none 0 0,.slice none 0 0,.slice none 0 0] 60 (0,0))∧
  wx.heap[w.heap.size+1]?=some (.cells #[.string s,v1,v2,v3,v4] 60 (0,0))
theorem DD.quiet {w wx wy:World} {s:ByteArray} {v1 v2 v3 v4:Value} (h:DD w wx s v1 v2 v3 v4) (ho:Only [] wx wy):DD w wy s v1 v2 v3 v4:=
 ⟨h.1.trans ho (by simp),ho.heap h.2.1 (by simp),ho.heap h.2.2 (by simp)⟩
theorem DD.lt {w wx:World} {s:ByteArray} {v1 v2 v3 v4:Value} (h:DD w wx s v1 v2 v3 v4):w.heap.size+1 < wx.heap.size:=ak h.2.2
theorem DD.past {w wx wy:World} {S:List Nat} {s:ByteArray} {v1 v2 v3 v4:Value} (h:DD w wx s v1 v2 v3 v4) (ho:Only S wx wy) (hs:∀ k∈S,w.heap.size+2≤k):DD w wy s v1 v2 v3 v4:=
 ⟨h.1.trans ho (fun k hk=>.inr (by have:=hs k hk;omega)),ho.heap h.2.1 (fun hk=>by have:=hs _ hk;omega),ho.heap h.2.2 (fun hk=>by have:=hs _ hk;omega)⟩
def gOf (ts:List Tok) (p:Except Nat Nat):Nat:=match p with | .ok i=>ts.length+1 - i | .error _=>0
theorem vf {ts:List Tok} {i:Nat} (hi:i < ts.length) {p:Except Nat Nat} (h:AdvP ts (i+1) p):gOf ts p < gOf ts (.ok i):=by
 cases p with
 | error k=>show 0 < ts.length+1 - i;omega
 | ok a=>
  have:i+1≤a:=h.1;show ts.length+1 - a < ts.length+1 - i;omega
theorem Adv.next1 {α:Type} {ts:List Tok} {i:Nat} (hi:i < ts.length) {r:Except Nat (α×Nat)} (h:Adv ts i r):gOf ts (ai r) < gOf ts (.ok i):=by
 cases r with
 | error k=>show 0 < ts.length+1 - i;omega
 | ok x=>
  obtain ⟨x,a⟩:=x;have:i < a:=h.1;show ts.length+1 - a < ts.length+1 - i;omega
def LPm (ts:List Tok) (rp:Except Nat (List Sec×Nat)) (base:Nat) (wx:World) (p:Except Nat Nat) (fb:Bool) (v1:Value):Prop:=
 (∀ i,p=.ok i→∃ f' l0,ts.length - i≤f'∧l0.length≤i∧ONm wx base v1 l0∧(fb=true∧l0=[]∧rp=cU ts i∨fb=false∧rp=ey (l0++·) (aS ts f' i)))∧(∀ k,p=.error k→rp=.error k)
def LNd (ts:List Tok) (rn:Except Nat (List E×Nat)) (base:Nat) (wx:World) (p:Except Nat Nat) (v2:Value):Prop:=
 (∀ i,p=.ok i→∃ f' l0,ts.length - i≤f'∧l0.length≤i∧OEx wx base v2 l0∧rn=ey (l0++·) (bo ts f' i))∧(∀ k,p=.error k→rn=.error k)
def LBd (ts:List Tok) (rb:Except Nat (List St×Nat)) (base:Nat) (wx:World) (p:Except Nat Nat) (v3:Value):Prop:=
 (∀ i,p=.ok i→∃ f' l0,ts.length - i≤f'∧l0.length≤i∧OSt wx base v3 l0∧rb=ey (l0++·) (bM ts f' i))∧(∀ k,p=.error k→rb=.error k)
section
variable {w w':World} {v:Value} {ts:List Tok}
theorem vh (tmps:Array Value) (w:World) (g:Nat) (v0 v1 v2 v3 v4 z:Value) (h6:tmps.getD 2 undef=.pointer (some ⟨g,0,none⟩)) (h7:tmps.getD 3 undef=z) (h:w.heap[g]?=some (.cells #[v0,v1,v2,v3,v4] 60 (0,0))) :
  (results Tryz.f32 tmps).run Tryz.prog w=.ok (.tuple #[.agg #[v0,v1,v2,v3,v4],z]) w:=by
 have c0:w.cell? ⟨g,0,none⟩=some v0:=ab 0 h;have c1:w.cell? ⟨g,1,none⟩=some v1:=ab 1 h;have c2:w.cell? ⟨g,2,none⟩=some v2:=ab 2 h;have c3:w.cell? ⟨g,3,none⟩=some v3:=ab 3 h;have c4:w.cell? ⟨g,4,none⟩=some v4:=ab 4 h;have hl:(loadVar 60 ⟨g,0,none⟩).run Tryz.prog w=.ok (.agg #[v0,v1,v2,v3,v4]) w:=by
  clear h;simp [go_sem,c0,c1,c2,c3,c4]
 have h6':tmps[2]?.getD undef=.pointer (some ⟨g,0,none⟩):=by simpa using h6
 have h7':tmps[3]?.getD undef=z:=by simpa using h7
 simp [results,Tryz.results32,asAddr,h6',h7',hl]
theorem rdef_any (h:TS w v ts):Calls Tryz.prog 32 #[v] w (RDf w (oV ts)):=by
 obtain ⟨a,cap,rfl⟩:=h.shape;have hlen:=h.len;have H:=Hd h;have hl0:0 < ts.length:=h.ends.pos;obtain ⟨p0,hp0⟩:∃ p,p=ba ts (.ok 0) [111,112]:=⟨_,rfl⟩
 have hk0:aM ts p0:=by rw [hp0];exact cV h.ends (p:=.ok 0) hl0 _
 obtain ⟨rw_,hrw⟩:∃ r,r=dW ts:=⟨_,rfl⟩
 have hrw':fC ts p0=rw_:=by rw [hrw,hp0];rfl
 have hkw:aM ts (ai rw_):=by
  rw [← hrw'];revert hk0;cases p0 with
  | error k=>exact fun h=>h
  | ok i=>exact fun hi=>(bY h.ends hi).next.ok
 obtain ⟨p1,hp1⟩:∃ p,p=ba ts (ai rw_) [40]:=⟨_,rfl⟩
 have hk1:aM ts p1:=by rw [hp1];exact cV h.ends hkw _
 obtain ⟨rp,hrp⟩:∃ r,r=dP ts:=⟨_,rfl⟩
 have hrp':rp=pK ts p1:=by rw [hrp,hp1,hrw];rfl
 have K0:∀ W,Only [] w W→Calls Tryz.prog 58 #[.slice a ts.length cap,.int .i64 0,.string ⟨#[111,112]⟩] W fun e w'=>e=.returned (.int .i64 (zP p0))∧W=w':=fun W ho=>by
  have:=aH (H.out.quiet ho) (.ok 0) hl0 ⟨#[111,112]⟩;rw [show ba ts (.ok 0) (⟨#[111,112]⟩:ByteArray).data.toList=p0 from hp0.symm] at this;exact this
 have KW0:∀ W,Only [] w W→Calls Tryz.prog 57 #[.slice a ts.length cap,.int .i64 (zP p0)] W fun e w'=>e=.returned (.tuple #[.string (aj (iZ rw_)),.int .i64 (zR rw_)])∧W=w':=fun W ho=>by
  have:=eu (H.out.quiet ho) p0 hk0;rw [hrw'] at this;exact this
 have K1:∀ W,Only [] w W→Calls Tryz.prog 58 #[.slice a ts.length cap,.int .i64 (zR rw_),.string ⟨#[40]⟩] W fun e w'=>e=.returned (.int .i64 (zP p1))∧W=w':=fun W ho=>by
  have:=aH (H.out.quiet ho) (ai rw_) hkw ⟨#[40]⟩;rw [← bs,show ba ts (ai rw_) (⟨#[40]⟩:ByteArray).data.toList=p1 from hp1.symm] at this;exact this
 obtain ⟨sn,hsn⟩:∃ sn,sn=aj (iZ rw_):=⟨_,rfl⟩
 rw [← hsn] at KW0;have HSN:=Hd (And.intro hsn hrw);have HK0:=Hd K0;have HKW0:=Hd KW0;have HK1:=Hd K1;have HRP:=Hd hrp;have HRP':=Hd hrp';have HP1:=Hd hk1;clear K0 KW0 K1 h hsn hrw hrw' hkw hp0 hk0 hp1 hk1 hrp hrp';generalize zP p0=z0 at HK0 HKW0;generalize zR rw_=z1 at HKW0 HK1
 go_enter Tryz.func32,Tryz.ntmps32
 go_wp2_with fail
 refine cp (fun w3 hA3 hB3 o3=>?_);have HD:=Hd (show DD w w3 ⟨#[]⟩ _ _ _ _ from ⟨o3,hA3,hB3⟩);clear hA3 hB3 o3;refine (HK0.out _ HD.out.1).mono ?_;rintro e w' ⟨rfl,rfl⟩;go_wp2_with fail
 refine (HKW0.out _ HD.out.1).mono ?_;rintro e w' ⟨rfl,rfl⟩;have b0:w3.cell? ⟨w.heap.size+1,0,none⟩=some (.string ⟨#[]⟩):=ab 0 HD.out.2.2;have gb0:=ae 0 HD.out.2.2;go_wp2_with fail
 have ob:Only [w.heap.size+1] w3 (w3.setCell ⟨w.heap.size+1,0,none⟩ (.string sn)):=oc;have hd4:DD w (w3.setCell ⟨w.heap.size+1,0,none⟩ (.string sn)) sn (.slice none 0 0) (.slice none 0 0) (.slice none 0 0) (.slice none 0 0):=
  ⟨HD.out.1.trans ob (fun k hk=>.inr (by rw [List.mem_singleton.1 hk];omega)),ob.heap HD.out.2.1 (by simp),af (i:=0) (.string sn) HD.out.2.2⟩
 generalize w3.setCell ⟨w.heap.size+1,0,none⟩ (.string sn)=w4 at hd4⊢;replace HD:=Hd hd4;clear b0 gb0 ob hd4;refine (HK1.out _ HD.out.1).mono ?_;rintro e w' ⟨rfl,rfl⟩
 go_upto_block 0 with fail
 go_cut [6] from 29 to 58 (fun s6 wx=>∃ (a1:Option Addr) (l1 c1:Nat),s6=.int .i64 (zP (ai rp))∧Hid (aM ts (ai rp))∧Hid (DD w wx sn (.slice a1 l1 c1) (.slice none 0 0) (.slice none 0 0) (.slice none 0 0))∧Hid (∀ l j,rp=.ok (l,j)→ONm wx (w.heap.size+2) (.slice a1 l1 c1) l))
 case first=>
  go_wp2_with fail
  have HL0:=Hd (show LPm ts rp (w.heap.size+2) w4 p1 true (.slice none 0 0) from by
   refine ⟨fun i e=>⟨ts.length,[],by omega,by simp,ONm.nil _ _,.inl ⟨rfl,rfl,?_⟩⟩,fun k e=>?_⟩
   ·rw [HRP'.out,e];rfl
   ·rw [HRP'.out,e];rfl)
  clear HRP' HK0 HKW0 HK1 HRP HSN
  go_loopg [6,7] (gOf ts p1) (fun g s6 s7 wx=>∃ (p:Except Nat Nat) (fb:Bool) (a1:Option Addr) (l1 c1:Nat),s6=.int .i64 (zP p)∧s7=.bool fb∧g=gOf ts p∧Hid (aM ts p)∧Hid (DD w wx sn (.slice a1 l1 c1) (.slice none 0 0) (.slice none 0 0) (.slice none 0 0))∧Hid (LPm ts rp (w.heap.size+2) wx p fb (.slice a1 l1 c1)))
  case atStart=>exact ⟨p1,true,none,0,0,rfl,rfl,rfl,HP1,HD,HL0⟩
  case round=>
   clear HL0 HP1 HD;obtain ⟨p,fb,a1,l1,c1,rfl,rfl,rfl,HP,HD,HL⟩:=hrel;cases p with
   | error k=>
    obtain ⟨y,hy,hy0,hy1⟩:=mR k;have hre:=HL.out.2 k rfl;have HRE:=Hd (And.intro hre hy);rw [hy];clear hy hy1 hre;go_wp2_with fail
    go_meet
    exact ⟨a1,l1,c1,by rw [HRE.out.1];exact congrArg _ HRE.out.2.symm,Hd (by rw [HRE.out.1];exact HP.out),HD,Hd (fun l j e=>by rw [HRE.out.1] at e;cases e)⟩
   | ok i=>
    have hi:i < ts.length:=HP.out;have i0:(0:Int)≤(i:Int):=by omega
    obtain ⟨f',l0,hf',hll,hon,hcase⟩:=HL.out.1 i rfl;rw [show zP (.ok i)=(i:Int) from rfl];have KI:∀ x:ByteArray,Calls Tryz.prog 59 #[.slice a ts.length cap,.int .i64 (i:Int),.string x] wr fun e w'=>e=.returned (.bool (isT ts i x.data.toList))∧wr=w':=fun x=>bb (H.out.quiet HD.out.1) (.ok i) hi x;have HON:=Hd hon;clear hon HL
    by_cases hx:fb=true∧isT ts i [41]=true
    ·obtain ⟨rfl,hx⟩:=hx;obtain ⟨-,rfl,hrp⟩:true=true∧l0=[]∧rp=cU ts i:=by
      rcases hcase with h1 | h1
      ·exact h1
      ·cases h1.1
     have hre:rp=.ok ([],i):=by
      rw [hrp];unfold cU;rw [if_pos hx]
     have HRE:=Hd hre;clear hrp hre hcase;(go_wp2_with fail);refine (KI _).mono ?_;rintro e w' ⟨rfl,rfl⟩;rw [show isT ts i (⟨#[41]⟩:ByteArray).data.toList=true from hx];go_wp2_with fail
     go_meet
     exact ⟨a1,l1,c1,by rw [HRE.out];rfl,Hd (by rw [HRE.out];exact hi),HD,Hd (fun l j e=>by rw [HRE.out] at e;cases e;exact HON.out)⟩
    ·have hrp:∃ f2,ts.length - i≤f2+1∧rp=ey (l0++·) (aS ts (f2+1) i):=by
      rcases hcase with ⟨rfl,rfl,h1⟩ | ⟨rfl,h1⟩
      ·refine ⟨ts.length,by omega,?_⟩;rw [h1];unfold cU;rw [if_neg (fun e=>hx ⟨rfl,e⟩)];cases aS ts (ts.length+1) i<;>rfl
      ·exact ⟨f' - 1,by omega,by rw [show f' - 1+1=f' by omega];exact h1⟩
     obtain ⟨f2,hf2,hrp⟩:=hrp;clear hcase hf';obtain ⟨r,hr⟩:∃ r,r=bp ts i:=⟨_,rfl⟩
     have had:Adv ts i r:=by rw [hr];exact bY H.out.ends hi
     have KW:∀ W,Only [] w W→Calls Tryz.prog 57 #[.slice a ts.length cap,.int .i64 (i:Int)] W fun e w'=>e=.returned (.tuple #[.string (aj (iZ r)),.int .i64 (zR r)])∧W=w':=fun W ho=>by
      have:=eu (H.out.quiet ho) (.ok i) hi;rw [show fC ts (.ok i)=r from hr.symm] at this;exact this
     have KC:∀ W,Only [] w W→Calls Tryz.prog 59 #[.slice a ts.length cap,.int .i64 (zR r),.string ⟨#[44]⟩] W fun e w'=>e=.returned (.bool (isP ts (ai r) [44]))∧W=w':=fun W ho=>by
      have:=bb (H.out.quiet ho) (ai r) had.next.ok ⟨#[44]⟩;rw [← bs] at this;exact this
     obtain ⟨sx,hsx⟩:∃ sx,sx=aj (iZ r):=⟨_,rfl⟩
     rw [← hsx] at KW;have HSX:=Hd hsx;have HKW:=Hd KW;have HKC:=Hd KC;have HR:=Hd hr;have HAD:=Hd had;have HRP2:=Hd hrp;have HHX:=Hd hx;clear KW KC hr had hrp hsx hx;cases fb
     ·skip
      clear HHX KI;(go_wp2_with fail);refine (HKW.out _ HD.out.1).mono ?_;rintro e w' ⟨rfl,rfl⟩;(go_upto_region 9 with (fail));have b1:wr.cell? ⟨w.heap.size+1,1,none⟩=some (.slice a1 l1 c1):=ab 1 HD.out.2.2;have lD:w.heap.size+1 < wr.heap.size:=HD.out.lt;have nD:w.heap.size+1≠wr.heap.size:=by omega
      have o5:Only [] wr (wr.alloc (.cells #[.string sx] 9)):=(Only.refl _ _).alloc _;have HC:=Hd (fP wr (.string sx) 9);have HON5:=Hd (HON.out.keep o5 (by simp));have HD5:=Hd (HD.out.quiet o5);have hs5:w.heap.size+2≤(wr.alloc (.cells #[.string sx] 9)).heap.size:=by have:=o5.size;omega
      have HS5:=Hd hs5;clear o5 hs5
      go_wp2_with (
       refine eg rfl (.tmp 47) (.tmp 49) rfl (w.heap.size+2) _ l0 (by rfl) HON5.out wr.heap.size 1 (by rfl) (iZ r) (by rw [← HSX.out];exact HC.out) (by omega) HS5.out ?_;intro a8 c8 w7 h7 o7;have hd7:=HD5.out.past o7 (fun k hk=>(HON5.out.lt (by simpa using hk)).1);have b17:w7.cell? ⟨w.heap.size+1,1,none⟩=some (.slice a1 l1 c1):=ab 1 hd7.2.2;have gb17:=ae 1 hd7.2.2;have HW7:=Hd h7;have HD7:=Hd hd7
       clear h7 o7 hd7)
      have oz:Only [w.heap.size+1] w7 (w7.setCell ⟨w.heap.size+1,1,none⟩ (.slice a8 (l0.length+1) c8)):=oc;have hd8:DD w (w7.setCell ⟨w.heap.size+1,1,none⟩ (.slice a8 (l0.length+1) c8)) sn (.slice a8 (l0.length+1) c8) (.slice none 0 0) (.slice none 0 0) (.slice none 0 0):=
       ⟨HD7.out.1.trans oz (fun k hk=>.inr (by rw [List.mem_singleton.1 hk];omega)),oz.heap HD7.out.2.1 (by simp),af (i:=1) _ HD7.out.2.2⟩
      have hw8:=HW7.out.keep oz (fun k hk=>by rw [List.mem_singleton.1 hk];omega);generalize w7.setCell ⟨w.heap.size+1,1,none⟩ (.slice a8 (l0.length+1) c8)=w8 at hd8 hw8⊢;have HD8:=Hd hd8;have HW8:=Hd hw8;clear oz hd8 hw8 b1 lD nD b17 gb17 HD7 HW7 HON5 HD5 HS5 HC;refine (HKC.out _ HD8.out.1).mono ?_;rintro e w' ⟨rfl,rfl⟩;cases hc:isP ts (ai r) [44] with
      | false=>
       have hre:rp=ey (fun s=>l0++[s]) r:=by
        rw [HRP2.out];have hr:=HR.out;revert hc hr;cases r with
        | error k=>intro _ hr;rw [fD hr.symm];rfl
        | ok y=>obtain ⟨s,j⟩:=y;intro hc hr;rw [ez hr.symm hc];rfl
       have HRE:=Hd hre;clear hc hre;go_wp2_with fail
       go_meet
       refine ⟨a8,l0.length+1,c8,?_,Hd ?_,HD8,Hd fun l j e=>?_⟩
       ·rw [HRE.out];cases r with
        | error k=>rfl
        | ok y=>rfl
       ·rw [HRE.out];have had:=HAD.out;revert had;cases r with
        | error k=>exact fun had=>had.2
        | ok y=>exact fun had=>had.2
       ·rw [HRE.out] at e;have hw:=HW8.out;revert e hw;cases r with
        | error k=>intro e;cases e
        | ok y=>intro e hw;cases e;exact hw
      | true=>
       obtain ⟨s,j,hrs⟩:∃ s j,r=.ok (s,j):=by
        cases r with
        | error k=>cases hc
        | ok y=>exact ⟨y.1,y.2,rfl⟩
       subst hrs;have hj:i < j∧j < ts.length:=HAD.out;have hj1:j+1 < ts.length:=aL H.out.ends hj.2 hc;have hre:rp=ey ((l0++[s])++·) (aS ts f2 (j+1)):=by
        rw [HRP2.out,eA HR.out.symm hc,eO]
       have HRE:=Hd hre;rw [show zR (.ok (s,j):Except Nat (Sec×Nat))=(j:Int) from rfl];clear hc hre HRP2 HR HAD;go_wp2_with fail
       go_roundg (gOf ts (.ok (j+1)))
       case measure=>exact vf hi ⟨by omega,hj1⟩
       case rel=>
        refine ⟨.ok (j+1),false,a8,l0.length+1,c8,?_,rfl,rfl,Hd hj1,HD8,Hd ⟨fun i' e=>?_,fun k e=>by cases e⟩⟩
        ·exact congrArg (Value.int .i64) (show (j:Int)+1=((j+1:Nat):Int) by omega)
        ·cases e;exact ⟨f2,l0++[s],by omega,by simp;omega,HW8.out,.inr ⟨rfl,HRE.out⟩⟩
     ·have hx:isT ts i [41]=false:=by
       cases e:isT ts i [41]
       ·rfl
       ·exact absurd ⟨rfl,e⟩ HHX.out
      (go_wp2_with fail);refine (KI _).mono ?_;rintro e w' ⟨rfl,rfl⟩;rw [show isT ts i (⟨#[41]⟩:ByteArray).data.toList=false from hx];clear hx;clear HHX KI;(go_wp2_with fail);refine (HKW.out _ HD.out.1).mono ?_;rintro e w' ⟨rfl,rfl⟩;(go_upto_region 9 with (fail));have b1:wr.cell? ⟨w.heap.size+1,1,none⟩=some (.slice a1 l1 c1):=ab 1 HD.out.2.2;have lD:w.heap.size+1 < wr.heap.size:=HD.out.lt;have nD:w.heap.size+1≠wr.heap.size:=by omega
      have o5:Only [] wr (wr.alloc (.cells #[.string sx] 9)):=(Only.refl _ _).alloc _;have HC:=Hd (fP wr (.string sx) 9);have HON5:=Hd (HON.out.keep o5 (by simp));have HD5:=Hd (HD.out.quiet o5);have hs5:w.heap.size+2≤(wr.alloc (.cells #[.string sx] 9)).heap.size:=by have:=o5.size;omega
      have HS5:=Hd hs5;clear o5 hs5
      go_wp2_with (
       refine eg rfl (.tmp 47) (.tmp 49) rfl (w.heap.size+2) _ l0 (by rfl) HON5.out wr.heap.size 1 (by rfl) (iZ r) (by rw [← HSX.out];exact HC.out) (by omega) HS5.out ?_;intro a8 c8 w7 h7 o7;have hd7:=HD5.out.past o7 (fun k hk=>(HON5.out.lt (by simpa using hk)).1);have b17:w7.cell? ⟨w.heap.size+1,1,none⟩=some (.slice a1 l1 c1):=ab 1 hd7.2.2;have gb17:=ae 1 hd7.2.2;have HW7:=Hd h7;have HD7:=Hd hd7
       clear h7 o7 hd7)
      have oz:Only [w.heap.size+1] w7 (w7.setCell ⟨w.heap.size+1,1,none⟩ (.slice a8 (l0.length+1) c8)):=oc;have hd8:DD w (w7.setCell ⟨w.heap.size+1,1,none⟩ (.slice a8 (l0.length+1) c8)) sn (.slice a8 (l0.length+1) c8) (.slice none 0 0) (.slice none 0 0) (.slice none 0 0):=
       ⟨HD7.out.1.trans oz (fun k hk=>.inr (by rw [List.mem_singleton.1 hk];omega)),oz.heap HD7.out.2.1 (by simp),af (i:=1) _ HD7.out.2.2⟩
      have hw8:=HW7.out.keep oz (fun k hk=>by rw [List.mem_singleton.1 hk];omega);generalize w7.setCell ⟨w.heap.size+1,1,none⟩ (.slice a8 (l0.length+1) c8)=w8 at hd8 hw8⊢;have HD8:=Hd hd8;have HW8:=Hd hw8;clear oz hd8 hw8 b1 lD nD b17 gb17 HD7 HW7 HON5 HD5 HS5 HC;refine (HKC.out _ HD8.out.1).mono ?_;rintro e w' ⟨rfl,rfl⟩;cases hc:isP ts (ai r) [44] with
      | false=>
       have hre:rp=ey (fun s=>l0++[s]) r:=by
        rw [HRP2.out];have hr:=HR.out;revert hc hr;cases r with
        | error k=>intro _ hr;rw [fD hr.symm];rfl
        | ok y=>obtain ⟨s,j⟩:=y;intro hc hr;rw [ez hr.symm hc];rfl
       have HRE:=Hd hre;clear hc hre;go_wp2_with fail
       go_meet
       refine ⟨a8,l0.length+1,c8,?_,Hd ?_,HD8,Hd fun l j e=>?_⟩
       ·rw [HRE.out];cases r with
        | error k=>rfl
        | ok y=>rfl
       ·rw [HRE.out];have had:=HAD.out;revert had;cases r with
        | error k=>exact fun had=>had.2
        | ok y=>exact fun had=>had.2
       ·rw [HRE.out] at e;have hw:=HW8.out;revert e hw;cases r with
        | error k=>intro e;cases e
        | ok y=>intro e hw;cases e;exact hw
      | true=>
       obtain ⟨s,j,hrs⟩:∃ s j,r=.ok (s,j):=by
        cases r with
        | error k=>cases hc
        | ok y=>exact ⟨y.1,y.2,rfl⟩
       subst hrs;have hj:i < j∧j < ts.length:=HAD.out;have hj1:j+1 < ts.length:=aL H.out.ends hj.2 hc;have hre:rp=ey ((l0++[s])++·) (aS ts f2 (j+1)):=by
        rw [HRP2.out,eA HR.out.symm hc,eO]
       have HRE:=Hd hre;rw [show zR (.ok (s,j):Except Nat (Sec×Nat))=(j:Int) from rfl];clear hc hre HRP2 HR HAD;go_wp2_with fail
       go_roundg (gOf ts (.ok (j+1)))
       case measure=>exact vf hi ⟨by omega,hj1⟩
       case rel=>
        refine ⟨.ok (j+1),false,a8,l0.length+1,c8,?_,rfl,rfl,Hd hj1,HD8,Hd ⟨fun i' e=>?_,fun k e=>by cases e⟩⟩
        ·exact congrArg (Value.int .i64) (show (j:Int)+1=((j+1:Nat):Int) by omega)
        ·cases e;exact ⟨f2,l0++[s],by omega,by simp;omega,HW8.out,.inr ⟨rfl,HRE.out⟩⟩
 case rest=>
  obtain ⟨a1,l1,c1,rfl,HP,HD,HV⟩:=hcut;clear HRP' HP1 HK0 HKW0 HK1;have HV1:=Hd (show ∀ l j,rp=.ok (l,j)→NmV wc (fun b=>w.heap.size+2≤b) (.slice a1 l1 c1) l from fun l j e=>(HV.out l j e).nmv);clear HV;obtain ⟨w1,hw1⟩:∃ w1:World,w1=wc:=⟨_,rfl⟩
  rw [← hw1] at HV1;obtain ⟨q1,hq1⟩:∃ q,q=ba ts (ai rp) [41]:=⟨_,rfl⟩
  have hkq1:aM ts q1:=by rw [hq1];exact cV H.out.ends HP.out _
  obtain ⟨q2,hq2⟩:∃ q,q=ba ts q1 [123]:=⟨_,rfl⟩
  have hkq2:aM ts q2:=by rw [hq2];exact cV H.out.ends hkq1 _
  have hdq:dQ ts=q2:=by rw [hq2,hq1,HRP.out];rfl
  obtain ⟨rn,hrn⟩:∃ r,r=dN ts:=⟨_,rfl⟩
  have hrn':rn=u4 ts (ts.length+1) q2:=by rw [hrn,← hdq];rfl
  have K2:∀ W,Only [] w W→Calls Tryz.prog 58 #[.slice a ts.length cap,.int .i64 (zP (ai rp)),.string ⟨#[41]⟩] W fun e w'=>e=.returned (.int .i64 (zP q1))∧W=w':=fun W ho=>by
   have:=aH (H.out.quiet ho) (ai rp) HP.out ⟨#[41]⟩;rw [show ba ts (ai rp) (⟨#[41]⟩:ByteArray).data.toList=q1 from hq1.symm] at this;exact this
  have K3:∀ W,Only [] w W→Calls Tryz.prog 58 #[.slice a ts.length cap,.int .i64 (zP q1),.string ⟨#[123]⟩] W fun e w'=>e=.returned (.int .i64 (zP q2))∧W=w':=fun W ho=>by
   have:=aH (H.out.quiet ho) q1 hkq1 ⟨#[123]⟩;rw [show ba ts q1 (⟨#[123]⟩:ByteArray).data.toList=q2 from hq2.symm] at this;exact this
  have HK2:=Hd K2;have HK3:=Hd K3;have HRN:=Hd hrn;have HRN':=Hd hrn';have HP2:=Hd hkq2;have HW1:=Hd hw1;have hlt1:=Hd HD.out.lt;clear K2 K3 hrn hrn' hkq1 hkq2 hq1 hq2 hdq hw1;generalize zP (ai rp)=y1 at HK2⊢;generalize zP q1=y2 at HK2 HK3;go_wp2_with fail
  refine (HK2.out _ HD.out.1).mono ?_;rintro e w' ⟨rfl,rfl⟩;go_wp2_with fail
  refine (HK3.out _ HD.out.1).mono ?_;rintro e w' ⟨rfl,rfl⟩
  go_upto_block 2 with fail
  go_cut [6] from 64 to 82 (fun s6 wx=>∃ (a2:Option Addr) (l2 c2:Nat),s6=.int .i64 (zP (ai rn))∧Hid (aM ts (ai rn))∧Hid (DD w wx sn (.slice a1 l1 c1) (.slice a2 l2 c2) (.slice none 0 0) (.slice none 0 0))∧Hid (Only [w.heap.size+1] w1 wx)∧Hid (∀ l j,rn=.ok (l,j)→OEx wx w1.heap.size (.slice a2 l2 c2) l))
  case first=>
   go_wp2_with fail
   have HL0:=Hd (show LNd ts rn w1.heap.size wc q2 (.slice none 0 0) from by
    refine ⟨fun i e=>⟨ts.length+1,[],by omega,by simp,OEx.nil _ _,?_⟩,fun k e=>?_⟩
    ·rw [HRN'.out,e];show bo ts (ts.length+1) i=_;cases bo ts (ts.length+1) i<;>rfl
    ·rw [HRN'.out,e];rfl)
   have HOw:=Hd (show Only [w.heap.size+1] w1 wc from by rw [HW1.out];exact Only.refl _ _);have hbase:w.heap.size+2≤w1.heap.size:=by rw [HW1.out];have:=HD.out.lt;omega
   clear HRN' HK2 HK3 HRN HRP HSN HV1 HP HW1 hlt1
   go_loopg [6] (gOf ts q2) (fun g s6 wx=>∃ (p:Except Nat Nat) (a2:Option Addr) (l2 c2:Nat),s6=.int .i64 (zP p)∧g=gOf ts p∧Hid (aM ts p)∧Hid (DD w wx sn (.slice a1 l1 c1) (.slice a2 l2 c2) (.slice none 0 0) (.slice none 0 0))∧Hid (Only [w.heap.size+1] w1 wx)∧Hid (LNd ts rn w1.heap.size wx p (.slice a2 l2 c2)))
   case atStart=>exact ⟨q2,none,0,0,rfl,rfl,HP2,HD,HOw,HL0⟩
   case round=>
    clear HL0 HP2 HD HOw;obtain ⟨p,a2,l2,c2,rfl,rfl,HP,HD,HOw,HL⟩:=hrel;have KI:∀ x:ByteArray,Calls Tryz.prog 59 #[.slice a ts.length cap,.int .i64 (zP p),.string x] wr fun e w'=>e=.returned (.bool (isP ts p x.data.toList))∧wr=w':=fun x=>bb (H.out.quiet HD.out.1) p HP.out x;(go_wp2_with fail);refine (KI _).mono ?_;rintro e w' ⟨rfl,rfl⟩;clear KI;cases hc:isP ts p (⟨#[110,101,101,100]⟩:ByteArray).data.toList with
    | false=>
     have hre:ai rn=p∧∀ l j,rn=.ok (l,j)→OEx wr w1.heap.size (.slice a2 l2 c2) l:=by
      cases p with
      | error k=>rw [HL.out.2 k rfl];exact ⟨rfl,fun l j e=>(by cases e)⟩
      | ok i=>
       obtain ⟨f',l0,hf',hll,hon,hrp⟩:=HL.out.1 i rfl;have hi:i < ts.length:=HP.out;rw [show f'=f' - 1+1 by omega,kW (show isT ts i [110,101,101,100]=false from hc)] at hrp;rw [hrp];exact ⟨rfl,fun l j e=>(by cases e;simpa using hon)⟩
     have HRE:=Hd hre;clear hc hre;go_wp2_with fail
     go_meet
     exact ⟨a2,l2,c2,by rw [HRE.out.1],Hd (by rw [HRE.out.1];exact HP.out),HD,HOw,Hd HRE.out.2⟩
    | true=>
     obtain ⟨i,rfl⟩:∃ i,p=.ok i:=by
      cases p with
      | error k=>cases hc
      | ok i=>exact ⟨i,rfl⟩
     have hi:i < ts.length:=HP.out;have hi1:i+1 < ts.length:=aL H.out.ends hi hc;obtain ⟨f',l0,hf',hll,hon,hrp⟩:=HL.out.1 i rfl;obtain ⟨f2,rfl⟩:∃ f2,f'=f2+1:=⟨f' - 1,by omega⟩
     have hstep:=mZ (f:=f2) (show isT ts i [110,101,101,100]=true from hc);obtain ⟨r,hr⟩:∃ r,r=br ts (i+1) 1:=⟨_,rfl⟩
     rw [← hr] at hstep;have har:Adv ts (i+1) r:=by rw [hr];exact (bi H.out.ends _).1 (i+1) 1 1 hi1
     have KX:∀ W,Only [] w W→Calls Tryz.prog 60 #[.slice a ts.length cap,.int .i64 ((i:Int)+1),.int .i64 1,.int .i64 1] W (RE W r):=fun W ho=>by
      have:=cX (H.out.quiet ho) (p:=.ok (i+1)) hi1 1 (by omega);rw [show g8 ts (.ok (i+1)) 1=r from hr.symm,show zP (.ok (i+1))=(i:Int)+1 from by show ((i+1:Nat):Int)=_;omega] at this;exact this
     obtain ⟨p2,hp2⟩:∃ p,p=ba ts (ai r) [59]:=⟨_,rfl⟩
     have hpa:AdvP ts (i+1) p2:=by rw [hp2];exact har.next.eat H.out.ends _
     have KE:∀ W,Only [] w W→Calls Tryz.prog 58 #[.slice a ts.length cap,.int .i64 (zR r),.string ⟨#[59]⟩] W fun e w'=>e=.returned (.int .i64 (zP p2))∧W=w':=fun W ho=>by
      have:=aH (H.out.quiet ho) (ai r) har.next.ok ⟨#[59]⟩;rw [← bs,show ba ts (ai r) (⟨#[59]⟩:ByteArray).data.toList=p2 from hp2.symm] at this;exact this
     rw [← hp2] at hstep;have HKX:=Hd KX;have HKE:=Hd KE;have HST:=Hd hstep;have HPA:=Hd hpa;have HON:=Hd hon;have HRPn:=Hd hrp;have HRr:=Hd hr;rw [show zP (.ok i)=(i:Int) from rfl];clear KX KE hstep hpa hon hrp hc har hr hp2 HL;(go_wp2_with fail);refine (HKX.out _ HD.out.1).mono ?_;rintro e w5 ⟨k,n,s,a5,l5,c5,p5,rfl,hv,o5⟩;have HVx:=Hd hv;have HO5:=Hd o5;clear hv o5;(go_upto_region 16 with (fail));obtain ⟨w6,q9,o6,hX6,hs6⟩:=nb w5 (.cells #[.int .i64 k,.int .i64 n,.string s,.slice a5 l5 c5,.int .i64 p5] 95);rw [← q9];clear q9;have o06:=HO5.out.trans o6 (by simp);have HD6:=Hd (HD.out.quiet o06);have b2:w6.cell? ⟨w.heap.size+1,2,none⟩=some (.slice a2 l2 c2):=ab 2 HD6.out.2.2;have lD:w.heap.size+1 < w6.heap.size:=HD6.out.lt;have nD:w.heap.size+1≠w6.heap.size:=by omega
     have lX:w5.heap.size < w6.heap.size:=by omega
     have nX:w5.heap.size≠w6.heap.size:=by omega
     have x0:w6.cell? ⟨w5.heap.size,0,none⟩=some (.int .i64 k):=ab 0 hX6;have x1:w6.cell? ⟨w5.heap.size,1,none⟩=some (.int .i64 n):=ab 1 hX6;have x2:w6.cell? ⟨w5.heap.size,2,none⟩=some (.string s):=ab 2 hX6;have x3:w6.cell? ⟨w5.heap.size,3,none⟩=some (.slice a5 l5 c5):=ab 3 hX6;have x4:w6.cell? ⟨w5.heap.size,4,none⟩=some (.int .i64 p5):=ab 4 hX6;have o7:Only [] w6 (w6.alloc (.cells #[.int .i64 k,.int .i64 n,.string s,.slice a5 l5 c5,.int .i64 p5] 95)):=(Only.refl _ _).alloc _;have hY7:=ag w6 (.cells #[.int .i64 k,.int .i64 n,.string s,.slice a5 l5 c5,.int .i64 p5] 95);have o07:=o06.trans o7 (by simp);have HD7:=Hd (HD6.out.quiet o7);obtain ⟨css,hown,hcl,hcs⟩:=HON.out.quiet o07;have HOWN:=Hd hown;have HCS:=Hd (And.intro hcl hcs)
     have HC:=Hd (show ∀ (j:Nat) (u:Value),([.int .i64 k,.int .i64 n,.string s,.slice a5 l5 c5,.int .i64 p5]:List Value)[j]?=some u→(w6.alloc (.cells #[.int .i64 k,.int .i64 n,.string s,.slice a5 l5 c5,.int .i64 p5] 95)).cell? ⟨w6.heap.size,j,none⟩=some u from fun j u hj=>by
      rw [ab _ hY7]
      simpa using hj)
     have hwr1:w1.heap.size≤wr.heap.size:=HOw.out.size;have HSZ:=Hd (show w1.heap.size≤(w6.alloc (.cells #[.int .i64 k,.int .i64 n,.string s,.slice a5 l5 c5,.int .i64 p5] 95)).heap.size from Nat.le_trans hwr1 o07.size);have HO57:=Hd (o6.trans o7 (by simp));have HO07:=Hd o07;clear hown hcl hcs hX6 hY7 o6 o7 o06 o07 hs6
     go_wp2_with (
      refine eh rfl (.tmp 75) (.tmp 77) rfl w1.heap.size _ l0.length css.flatten (by rfl) HOWN.out w6.heap.size 1 (by rfl) k n p5 s a5 l5 c5 HC.out (by omega) HSZ.out ?_;intro a8 c8 w8 how8 ho8 hb8;have hd8:=HD7.out.past ho8 (fun k hk=>Nat.le_trans hbase (HON.out.lt' (by simpa using hk)).1);have b28:w8.cell? ⟨w.heap.size+1,2,none⟩=some (.slice a2 l2 c2):=ab 2 hd8.2.2;have gb28:=ae 2 hd8.2.2;have HW8:=Hd (And.intro how8 (And.intro ho8 hb8));have HD8:=Hd hd8
      clear how8 ho8 hb8 hd8)
     have oz:Only [w.heap.size+1] w8 (w8.setCell ⟨w.heap.size+1,2,none⟩ (.slice a8 (l0.length+1) c8)):=oc;have hd9:DD w (w8.setCell ⟨w.heap.size+1,2,none⟩ (.slice a8 (l0.length+1) c8)) sn (.slice a1 l1 c1) (.slice a8 (l0.length+1) c8) (.slice none 0 0) (.slice none 0 0):=
      ⟨HD8.out.1.trans oz (fun k hk=>.inr (by rw [List.mem_singleton.1 hk];omega)),oz.heap HD8.out.2.1 (by simp),af (i:=2) _ HD8.out.2.2⟩
     have how9:Only [w.heap.size+1] w1 (w8.setCell ⟨w.heap.size+1,2,none⟩ (.slice a8 (l0.length+1) c8)):=((HOw.out.trans HO07.out (by simp)).trans HW8.out.2.1 (fun k hk=>.inr (HON.out.lt' (by simpa using hk)).1)).trans oz (fun k hk=>.inl hk);have hnew:∀ e j,r=.ok (e,j)→OEx (w8.setCell ⟨w.heap.size+1,2,none⟩ (.slice a8 (l0.length+1) c8)) w1.heap.size (.slice a8 (l0.length+1) c8) (l0++[e]):=fun e j he=>by
      refine OEx.keep (S:=[w.heap.size+1]) (OEx.snoc HCS.out.1 HCS.out.2 (EV.kept HO57.out (by simp) (fun b hb=>?_) e _ (EV.lt e _ (HVx.out e j he))) HW8.out.1 HW8.out.2.1 (HW8.out.2.2.imp id fun e=>⟨_,e,Nat.le_refl _⟩)) oz (fun k hk=>by rw [List.mem_singleton.1 hk];omega);have h1:=HO57.out.size;have h2:wr.heap.size≤b:=hb.1;have h3:b < w5.heap.size:=hb.2;refine ⟨by omega,by omega,fun e=>?_⟩;have:=(HON.out.lt' e).2;omega
     generalize w8.setCell ⟨w.heap.size+1,2,none⟩ (.slice a8 (l0.length+1) c8)=w9 at hd9 how9 hnew⊢;have HD9:=Hd hd9;have HO9:=Hd how9;have HN9:=Hd hnew;clear oz hd9 how9 hnew b2 lD nD lX nX x0 x1 x2 x3 x4 b28 gb28 HD8 HW8 HOWN HCS HC HSZ HD7 HD6;refine (HKE.out _ HD9.out.1).mono ?_;rintro e w' ⟨rfl,rfl⟩;go_wp2_with fail
     go_roundg (gOf ts p2)
     case measure=>exact vf hi HPA.out
     case rel=>
      refine ⟨p2,a8,l0.length+1,c8,rfl,rfl,Hd HPA.out.ok,HD9,HO9,Hd ⟨fun i' e=>?_,fun k e=>?_⟩⟩
      ·obtain ⟨t,a0,he,hst⟩:=HST.out.2 i' e;have hpa:=HPA.out;rw [e] at hpa;have hpa:i+1≤i'∧i' < ts.length:=hpa;exact ⟨f2,l0++[t],by omega,by simp;omega,HN9.out t a0 he,by rw [HRPn.out,hst,eO]⟩
      ·rw [HRPn.out,HST.out.1 k e];rfl
  case rest=>
   obtain ⟨a2,l2,c2,rfl,HP,HD,HOw,HV⟩:=hcut;clear HRN' HP2 HK2 HK3;have hbase:w.heap.size+2≤w1.heap.size:=by rw [HW1.out];have:=hlt1.out;omega
   replace HV1:=Hd (show ∀ l j,rp=.ok (l,j)→NmV wc (fun b=>w.heap.size+2≤b) (.slice a1 l1 c1) l from fun l j e=>(HV1.out l j e).kept HOw.out (fun k hk hB=>by rw [List.mem_singleton.1 hk] at hB;exact absurd hB (by omega)) (fun _ h=>h));have HV2:=Hd (show ∀ l j,rn=.ok (l,j)→EsV wc (fun b=>w.heap.size+2≤b) (.slice a2 l2 c2) l from fun l j e=>((HV.out l j e).esv).kept (Only.refl [] wc) (by simp) (fun b hb=>by have:w1.heap.size≤b:=hb;omega));clear HV HOw HW1 hlt1;obtain ⟨w2,hw2⟩:∃ w2:World,w2=wc:=⟨_,rfl⟩
   rw [← hw2] at HV1 HV2;have HW2:=Hd hw2;have hlt2:=Hd HD.out.lt;clear hw2;obtain ⟨q3,hq3⟩:∃ q,q=ai rn:=⟨_,rfl⟩
   rw [← hq3] at HP⊢;obtain ⟨rb,hrb⟩:∃ r,r=dB ts:=⟨_,rfl⟩
   have hrb':rb=bodyP ts (ts.length+1) q3:=by rw [hrb,hq3,HRN.out];rfl
   have HRB:=Hd hrb;have HRB':=Hd hrb';clear hrb hrb' hq3
   go_upto_block 4 with fail
   go_cut [6] from 83 to 109 (fun s6 wx=>∃ (a3:Option Addr) (l3 c3:Nat),s6=.int .i64 (zP (ai rb))∧Hid (aM ts (ai rb))∧Hid (DD w wx sn (.slice a1 l1 c1) (.slice a2 l2 c2) (.slice a3 l3 c3) (.slice none 0 0))∧Hid (Only [w.heap.size+1] w2 wx)∧Hid (∀ l j,rb=.ok (l,j)→OSt wx w2.heap.size (.slice a3 l3 c3) l))
   case first=>
    go_wp2_with fail
    have HL0:=Hd (show LBd ts rb w2.heap.size wc q3 (.slice none 0 0) from by
     refine ⟨fun i e=>⟨ts.length+1,[],by omega,by simp,OSt.nil _ _,?_⟩,fun k e=>?_⟩
     ·rw [HRB'.out,e];show bM ts (ts.length+1) i=_;cases bM ts (ts.length+1) i<;>rfl
     ·rw [HRB'.out,e];rfl)
    have HOw:=Hd (show Only [w.heap.size+1] w2 wc from by rw [HW2.out];exact Only.refl _ _);have hbase2:w.heap.size+2≤w2.heap.size:=by rw [HW2.out];have:=HD.out.lt;omega
    have HP2:=HP;clear HRB' HRB HRN HRP HSN HV1 HV2 HW2 hlt2 HP
    go_loopg [6] (gOf ts q3) (fun g s6 wx=>∃ (p:Except Nat Nat) (a3:Option Addr) (l3 c3:Nat),s6=.int .i64 (zP p)∧g=gOf ts p∧Hid (aM ts p)∧Hid (DD w wx sn (.slice a1 l1 c1) (.slice a2 l2 c2) (.slice a3 l3 c3) (.slice none 0 0))∧Hid (Only [w.heap.size+1] w2 wx)∧Hid (LBd ts rb w2.heap.size wx p (.slice a3 l3 c3)))
    case atStart=>exact ⟨q3,none,0,0,rfl,rfl,HP2,HD,HOw,HL0⟩
    case round=>
     clear HL0 HP2 HD HOw;obtain ⟨p,a3,l3,c3,rfl,rfl,HP,HD,HOw,HL⟩:=hrel;cases p with
     | error k=>
      have hre:=HL.out.2 k rfl;obtain ⟨y,hy,hy0,hy1⟩:=mR k;have HRE:=Hd (And.intro hre hy);rw [hy];clear hre hy hy1;go_wp2_with fail
      go_meet
      exact ⟨a3,l3,c3,by rw [HRE.out.1];exact congrArg _ HRE.out.2.symm,Hd (by rw [HRE.out.1];exact HP.out),HD,HOw,Hd (fun l j e=>by rw [HRE.out.1] at e;cases e)⟩
     | ok i=>
      have hi:i < ts.length:=HP.out;have i0:(0:Int)≤(i:Int):=by omega
      obtain ⟨f',l0,hf',hll,hon,hrp⟩:=HL.out.1 i rfl;obtain ⟨f2,rfl⟩:∃ f2,f'=f2+1:=⟨f' - 1,by omega⟩
      have KI:∀ x:ByteArray,Calls Tryz.prog 59 #[.slice a ts.length cap,.int .i64 (i:Int),.string x] wr fun e w'=>e=.returned (.bool (isT ts i x.data.toList))∧wr=w':=fun x=>bb (H.out.quiet HD.out.1) (.ok i) hi x;rw [show zP (.ok i)=(i:Int) from rfl];have HON:=Hd hon;have HRPn:=Hd hrp;clear hon hrp HL;cases h1:isT ts i [103,105,118,101] with
      | true=>
       have hre:rb=.ok (l0,i):=by
        rw [HRPn.out,f8 (.inl h1)];simp [ey]
       have HRE:=Hd hre;clear hre;(go_wp2_with fail);refine (KI _).mono ?_;rintro e w' ⟨rfl,rfl⟩;rw [show isT ts i (⟨#[103,105,118,101]⟩:ByteArray).data.toList=true from h1];go_wp2_with fail
       go_meet
       exact ⟨a3,l3,c3,by rw [HRE.out];rfl,Hd (by rw [HRE.out];exact hi),HD,HOw,Hd (fun l j e=>by rw [HRE.out] at e;cases e;exact HON.out)⟩
      | false=>
       cases h2:isT ts i [125] with
       | true=>
        have hre:rb=.ok (l0,i):=by
         rw [HRPn.out,f8 (.inr h2)];simp [ey]
        have HRE:=Hd hre;clear hre;(go_wp2_with fail);refine (KI _).mono ?_;rintro e w' ⟨rfl,rfl⟩;rw [show isT ts i (⟨#[103,105,118,101]⟩:ByteArray).data.toList=false from h1];(go_wp2_with fail);refine (KI _).mono ?_;rintro e w' ⟨rfl,rfl⟩;rw [show isT ts i (⟨#[125]⟩:ByteArray).data.toList=true from h2];go_wp2_with fail
        go_meet
        exact ⟨a3,l3,c3,by rw [HRE.out];rfl,Hd (by rw [HRE.out];exact hi),HD,HOw,Hd (fun l j e=>by rw [HRE.out] at e;cases e;exact HON.out)⟩
       | false=>
        obtain ⟨r,hr⟩:∃ r,r=pz ts i 1:=⟨_,rfl⟩
        have har:Adv ts i r:=by rw [hr];exact (dn H.out.ends _).1 i 1 hi
        have KX:∀ W,Only [] w W→Calls Tryz.prog 61 #[.slice a ts.length cap,.int .i64 (i:Int),.int .i64 1] W (RSt W r):=fun W ho=>by
         have:=u2 (H.out.quiet ho) hi 1 (by omega);rw [← hr] at this;exact this
        have HKX:=Hd KX;have HR:=Hd hr;have HAR:=Hd har;clear KX hr har;(go_wp2_with fail);refine (KI _).mono ?_;rintro e w' ⟨rfl,rfl⟩;rw [show isT ts i (⟨#[103,105,118,101]⟩:ByteArray).data.toList=false from h1];(go_wp2_with fail);refine (KI _).mono ?_;rintro e w' ⟨rfl,rfl⟩;rw [show isT ts i (⟨#[125]⟩:ByteArray).data.toList=false from h2];have HH:=Hd (And.intro h1 h2);clear h1 h2 KI;(go_wp2_with fail);refine (HKX.out _ HD.out.1).mono ?_;rintro e w5 ⟨k,n,p5,s,b1,b2,b3,m1,m2,m3,d1,d2,d3,rfl,hv,o5⟩;have HVx:=Hd hv;have HO5:=Hd o5;clear hv o5;(go_upto_region 20 with (fail));obtain ⟨w6,q9,o6,hX6,hs6⟩:=nb w5 (.cells #[.int .i64 k,.string s,.slice b1 m1 d1,.int .i64 n,.slice b2 m2 d2,.slice b3 m3 d3,.int .i64 p5] 113);rw [← q9];clear q9;have o06:=HO5.out.trans o6 (by simp);have HD6:=Hd (HD.out.quiet o06);have b33:w6.cell? ⟨w.heap.size+1,3,none⟩=some (.slice a3 l3 c3):=ab 3 HD6.out.2.2;have lD:w.heap.size+1 < w6.heap.size:=HD6.out.lt;have nD:w.heap.size+1≠w6.heap.size:=by omega
        have lX:w5.heap.size < w6.heap.size:=by omega
        have nX:w5.heap.size≠w6.heap.size:=by omega
        have x0:w6.cell? ⟨w5.heap.size,0,none⟩=some (.int .i64 k):=ab 0 hX6;have x1:w6.cell? ⟨w5.heap.size,1,none⟩=some (.string s):=ab 1 hX6;have x2:w6.cell? ⟨w5.heap.size,2,none⟩=some (.slice b1 m1 d1):=ab 2 hX6;have x3:w6.cell? ⟨w5.heap.size,3,none⟩=some (.int .i64 n):=ab 3 hX6;have x4:w6.cell? ⟨w5.heap.size,4,none⟩=some (.slice b2 m2 d2):=ab 4 hX6;have x5:w6.cell? ⟨w5.heap.size,5,none⟩=some (.slice b3 m3 d3):=ab 5 hX6;have x6:w6.cell? ⟨w5.heap.size,6,none⟩=some (.int .i64 p5):=ab 6 hX6;have o7:Only [] w6 (w6.alloc (.cells #[.int .i64 k,.string s,.slice b1 m1 d1,.int .i64 n,.slice b2 m2 d2,.slice b3 m3 d3,.int .i64 p5] 113)):=(Only.refl _ _).alloc _;have hY7:=ag w6 (.cells #[.int .i64 k,.string s,.slice b1 m1 d1,.int .i64 n,.slice b2 m2 d2,.slice b3 m3 d3,.int .i64 p5] 113);have o07:=o06.trans o7 (by simp);have HD7:=Hd (HD6.out.quiet o7);obtain ⟨css,hown,hcl,hcs⟩:=HON.out.quiet o07;have HOWN:=Hd hown;have HCS:=Hd (And.intro hcl hcs)
        have HC:=Hd (show ∀ (j:Nat) (u:Value),([.int .i64 k,.string s,.slice b1 m1 d1,.int .i64 n,.slice b2 m2 d2,.slice b3 m3 d3,.int .i64 p5]:List Value)[j]?=some u→(w6.alloc (.cells #[.int .i64 k,.string s,.slice b1 m1 d1,.int .i64 n,.slice b2 m2 d2,.slice b3 m3 d3,.int .i64 p5] 113)).cell? ⟨w6.heap.size,j,none⟩=some u from fun j u hj=>by
         rw [ab _ hY7]
         simpa using hj)
        have hwr1:w2.heap.size≤wr.heap.size:=HOw.out.size;have HSZ:=Hd (show w2.heap.size≤(w6.alloc (.cells #[.int .i64 k,.string s,.slice b1 m1 d1,.int .i64 n,.slice b2 m2 d2,.slice b3 m3 d3,.int .i64 p5] 113)).heap.size from Nat.le_trans hwr1 o07.size);have HO57:=Hd (o6.trans o7 (by simp));have HO07:=Hd o07;clear hown hcl hcs hX6 hY7 o6 o7 o06 o07 hs6
        go_wp2_with (
         refine ef rfl (.tmp 104) (.tmp 106) rfl w2.heap.size _ l0.length css.flatten (by rfl) HOWN.out w6.heap.size 1 (by rfl) k n p5 s b1 b2 b3 m1 m2 m3 d1 d2 d3 HC.out (by omega) HSZ.out ?_;intro a8 c8 w8 how8 ho8 hb8;have hd8:=HD7.out.past ho8 (fun k hk=>Nat.le_trans hbase2 (HON.out.lt' (by simpa using hk)).1);have b38:w8.cell? ⟨w.heap.size+1,3,none⟩=some (.slice a3 l3 c3):=ab 3 hd8.2.2;have gb38:=ae 3 hd8.2.2;have HW8:=Hd (And.intro how8 (And.intro ho8 hb8));have HD8:=Hd hd8
         clear how8 ho8 hb8 hd8)
        go_roundg (gOf ts (ai r))
        case measure=>exact Adv.next1 hi HAR.out
        case rel=>
         have oz:Only [w.heap.size+1] w8 (w8.setCell ⟨w.heap.size+1,3,none⟩ (.slice a8 (l0.length+1) c8)):=oc;have hd9:DD w (w8.setCell ⟨w.heap.size+1,3,none⟩ (.slice a8 (l0.length+1) c8)) sn (.slice a1 l1 c1) (.slice a2 l2 c2) (.slice a8 (l0.length+1) c8) (.slice none 0 0):=
          ⟨HD8.out.1.trans oz (fun k hk=>.inr (by rw [List.mem_singleton.1 hk];omega)),oz.heap HD8.out.2.1 (by simp),af (i:=3) _ HD8.out.2.2⟩
         have how9:Only [w.heap.size+1] w2 (w8.setCell ⟨w.heap.size+1,3,none⟩ (.slice a8 (l0.length+1) c8)):=((HOw.out.trans HO07.out (by simp)).trans HW8.out.2.1 (fun k hk=>.inr (HON.out.lt' (by simpa using hk)).1)).trans oz (fun k hk=>.inl hk);have hnew:∀ e j,r=.ok (e,j)→OSt (w8.setCell ⟨w.heap.size+1,3,none⟩ (.slice a8 (l0.length+1) c8)) w2.heap.size (.slice a8 (l0.length+1) c8) (l0++[e]):=fun e j he=>by
          refine OSt.keep (S:=[w.heap.size+1]) (OSt.snoc HCS.out.1 HCS.out.2 (SV.kept HO57.out (by simp) (fun b hb=>?_) e _ (SV.lt e _ (HVx.out e j he))) HW8.out.1 HW8.out.2.1 (HW8.out.2.2.imp id fun e=>⟨_,e,Nat.le_refl _⟩)) oz (fun k hk=>by rw [List.mem_singleton.1 hk];omega);have h1:=HO57.out.size;have h2:wr.heap.size≤b:=hb.1;have h3:b < w5.heap.size:=hb.2;refine ⟨by omega,by omega,fun e=>?_⟩;have:=(HON.out.lt' e).2;omega
         refine ⟨ai r,a8,l0.length+1,c8,congrArg _ (bs r),rfl,Hd HAR.out.next.ok,Hd hd9,Hd how9,Hd ⟨fun i' e=>?_,fun k e=>?_⟩⟩
         ·obtain ⟨t,he⟩:=ic e;have hpa:=HAR.out;rw [he] at hpa;have hpa:i < i'∧i' < ts.length:=hpa;exact ⟨f2,l0++[t],by omega,by simp;omega,hnew t i' he,by rw [HRPn.out,q8 HH.out.1 HH.out.2 (HR.out.symm.trans he),eO]⟩
         ·have he:r=.error k:=by
           cases r with
           | error k'=>cases e;rfl
           | ok y=>cases e
          rw [HRPn.out,na HH.out.1 HH.out.2 (HR.out.symm.trans he)];rfl
   case rest=>
    obtain ⟨a3,l3,c3,rfl,HP,HD,HOw,HV⟩:=hcut;clear HRB';have hbase2:w.heap.size+2≤w2.heap.size:=by rw [HW2.out];have:=hlt2.out;omega
    replace HV1:=Hd (show ∀ l j,rp=.ok (l,j)→NmV wc (fun b=>w.heap.size+2≤b) (.slice a1 l1 c1) l from fun l j e=>(HV1.out l j e).kept HOw.out (fun k hk hB=>by rw [List.mem_singleton.1 hk] at hB;exact absurd hB (by omega)) (fun _ h=>h));replace HV2:=Hd (show ∀ l j,rn=.ok (l,j)→EsV wc (fun b=>w.heap.size+2≤b) (.slice a2 l2 c2) l from fun l j e=>(HV2.out l j e).kept HOw.out (fun k hk hB=>by rw [List.mem_singleton.1 hk] at hB;exact absurd hB (by omega)) (fun _ h=>h));have HV3:=Hd (show ∀ l j,rb=.ok (l,j)→SsV wc (fun b=>w.heap.size+2≤b) (.slice a3 l3 c3) l from fun l j e=>((HV.out l j e).ssv).kept (Only.refl [] wc) (by simp) (fun b hb=>by have:w2.heap.size≤b:=hb;omega));clear HV HOw HW2 hlt2 hbase2 hbase;obtain ⟨p,hp⟩:∃ q,q=ai rb:=⟨_,rfl⟩
    rw [← hp] at HP⊢;obtain ⟨rg,hrg⟩:∃ r,r=dG ts:=⟨_,rfl⟩
    have hrg':rg=giveP ts p:=by rw [hrg,hp,HRB.out];rfl
    have hzc:zR (oV ts)=zP (ba ts (ai rg) [125]):=by rw [defS_z,hrg]
    obtain ⟨zc,hz0⟩:∃ z,z=zP (ba ts (ai rg) [125]):=⟨_,rfl⟩
    rw [← hz0] at hzc;have HZC:=Hd hzc;have HZ0:=Hd hz0;have HRG:=Hd hrg;have HRG':=Hd hrg';clear hzc hz0 hrg hrg' hp;have KI:∀ x:ByteArray,Calls Tryz.prog 59 #[.slice a ts.length cap,.int .i64 (zP p),.string x] wc fun e w'=>e=.returned (.bool (isP ts p x.data.toList))∧wc=w':=fun x=>bb (H.out.quiet HD.out.1) p HP.out x;(go_wp2_with fail);refine (KI _).mono ?_;rintro e w' ⟨rfl,rfl⟩;clear KI;cases hc:isP ts p (⟨#[103,105,118,101]⟩:ByteArray).data.toList with
    | false=>
     have hre:ai rg=p∧∀ l j,rg=.ok (l,j)→l=[]:=by
      rw [HRG'.out];cases p with
      | error k=>exact ⟨rfl,fun l j e=>(by cases e)⟩
      | ok i=>
       show ai (fk ts i)=_∧∀ l j,fk ts i=.ok (l,j)→l=[]
       rw [re hc];exact ⟨rfl,fun l j e=>(by cases e;rfl)⟩
     have KE:∀ W,Only [] w W→Calls Tryz.prog 58 #[.slice a ts.length cap,.int .i64 (zP p),.string ⟨#[125]⟩] W fun e w'=>e=.returned (.int .i64 zc)∧W=w':=fun W ho=>by
      have:=aH (H.out.quiet ho) p HP.out ⟨#[125]⟩;rw [show zP (ba ts p (⟨#[125]⟩:ByteArray).data.toList)=zc from by rw [HZ0.out,hre.1]] at this;exact this
     have HKE:=Hd KE;have HRE:=Hd hre.2;clear KE hre hc;(go_upto_region 26 with (fail));have oD:Only [] wc wc.drew:=(Only.refl [] wc).drew;have HDd:=Hd (HD.out.quiet oD);have HOd:=Hd oD;refine wp_region_held_drew (S:=fun w'=>w'.cell? ⟨w.heap.size+1,0,none⟩=some (.string sn)∧w'.cell? ⟨w.heap.size+1,1,none⟩=some (.slice a1 l1 c1)∧w'.cell? ⟨w.heap.size+1,2,none⟩=some (.slice a2 l2 c2)∧w'.cell? ⟨w.heap.size+1,3,none⟩=some (.slice a3 l3 c3)∧w'.cell? ⟨w.heap.size+1,4,none⟩=some (.slice none 0 0)) (by kernel_rfl) ⟨ab 0 HDd.out.2.2,ab 1 HDd.out.2.2,ab 2 HDd.out.2.2,ab 3 HDd.out.2.2,ab 4 HDd.out.2.2⟩ (fun hH=>?_);clear oD;generalize wc.drew=wd at HDd HOd hH⊢;refine tk 0 hH ?_;refine tk 1 hH ?_;refine tk 2 hH ?_;refine rd 3 (fun K hK=>?_);go_simp;refine (HKE.out _ HDd.out.1).mono ?_;rintro e w' ⟨rfl,rfl⟩;refine hK.out _ _ hH (fun hH=>?_);clear hK K;have s0:wd.cell? ⟨w.heap.size,0,none⟩=some (.string ⟨#[]⟩):=ab 0 HDd.out.2.1;have s1:wd.cell? ⟨w.heap.size,1,none⟩=some (.slice none 0 0):=ab 1 HDd.out.2.1;have s2:wd.cell? ⟨w.heap.size,2,none⟩=some (.slice none 0 0):=ab 2 HDd.out.2.1;have s3:wd.cell? ⟨w.heap.size,3,none⟩=some (.slice none 0 0):=ab 3 HDd.out.2.1;have s4:wd.cell? ⟨w.heap.size,4,none⟩=some (.slice none 0 0):=ab 4 HDd.out.2.1;have gs0:=ae 0 HDd.out.2.1;have gs1:=ae 1 HDd.out.2.1;have gs2:=ae 2 HDd.out.2.1;have gs3:=ae 3 HDd.out.2.1;have gs4:=ae 4 HDd.out.2.1;clear hH;refine rd 4 (fun K hK=>?_);go_simp;have oz:Only [w.heap.size] wd (((((wd.setCell ⟨w.heap.size,0,none⟩ (.string sn)).setCell ⟨w.heap.size,1,none⟩ (.slice a1 l1 c1)).setCell ⟨w.heap.size,2,none⟩ (.slice a2 l2 c2)).setCell ⟨w.heap.size,3,none⟩ (.slice a3 l3 c3)).setCell ⟨w.heap.size,4,none⟩ (.slice none 0 0)):=oc;have hz:=aD HDd.out.2.1 (.string sn) (.slice a1 l1 c1) (.slice a2 l2 c2) (.slice a3 l3 c3) (.slice none 0 0);have hBz:=oz.heap HDd.out.2.2 (by simp);generalize ((((wd.setCell ⟨w.heap.size,0,none⟩ (.string sn)).setCell ⟨w.heap.size,1,none⟩ (.slice a1 l1 c1)).setCell ⟨w.heap.size,2,none⟩ (.slice a2 l2 c2)).setCell ⟨w.heap.size,3,none⟩ (.slice a3 l3 c3)).setCell ⟨w.heap.size,4,none⟩ (.slice none 0 0)=wz at oz hz hBz⊢;have HOz:=Hd oz;have HZ:=Hd hz;refine hK.out _ _ ⟨ab 0 hBz,ab 1 hBz,ab 2 hBz,ab 3 hBz,ab 4 hBz⟩ (fun hH=>?_);clear hK K hz hBz oz s0 s1 s2 s3 s4 gs0 gs1 gs2 gs3 gs4;refine tk 5 hH ?_;refine wpAnyH_done (by kernel_rfl) ?_ _;clear hH;(go_wp2_with fail);(try simp only [Exit.inBlock,Exit.then]);refine bodyPost_ret (vh _ _ w.heap.size _ _ _ _ _ (.int .i64 zc) rfl rfl HZ.out) rfl ?_;refine ⟨sn,a1,a2,a3,none,l1,l2,l3,0,c1,c2,c3,0,by rw [HZC.out],fun d j hd=>?_,HDd.out.1.trans HOz.out (fun k hk=>.inr (by rw [List.mem_singleton.1 hk];exact Nat.le_refl _))⟩;obtain ⟨j1,j2,j3,j4,j5,e1,e2,e3,e4,e5⟩:=u5 ts hd;have hnm:sn=aj d.name:=by rw [HSN.out.1,HSN.out.2,e1];rfl
     refine DV.kept (S:=[w.heap.size]) ((HOd.out.mono (T:=[w.heap.size]) (by simp)).trans HOz.out (fun k hk=>.inl hk)) (B:=fun b=>w.heap.size+2≤b) (fun k hk hB=>by rw [List.mem_singleton.1 hk] at hB;exact absurd hB (by omega)) (fun b hb=>by omega) ⟨_,_,_,_,by rw [hnm],HV1.out d.params j2 (by rw [HRP.out];exact e2),HV2.out d.needs j3 (by rw [HRN.out];exact e3),HV3.out d.body j4 (by rw [HRB.out];exact e4),?_⟩;rw [HRE.out d.give j5 (by rw [HRG.out];exact e5)];exact EsV.nil _ _
    | true=>
     obtain ⟨i,rfl⟩:∃ i,p=.ok i:=by
      cases p with
      | error k=>cases hc
      | ok i=>exact ⟨i,rfl⟩
     have hi:i < ts.length:=HP.out;have hi1:i+1 < ts.length:=aL H.out.ends hi hc;have hstep:=rf (show isT ts i [103,105,118,101]=true from hc);rw [show fk ts i=rg from HRG'.out.symm] at hstep;obtain ⟨r,hr⟩:∃ r,r=br ts (i+1) 1:=⟨_,rfl⟩
     rw [← hr] at hstep;have har:Adv ts (i+1) r:=by rw [hr];exact (bi H.out.ends _).1 (i+1) 1 1 hi1
     have KX:∀ W,Only [] w W→Calls Tryz.prog 60 #[.slice a ts.length cap,.int .i64 ((i:Int)+1),.int .i64 1,.int .i64 1] W (RE W r):=fun W ho=>by
      have:=cX (H.out.quiet ho) (p:=.ok (i+1)) hi1 1 (by omega);rw [show g8 ts (.ok (i+1)) 1=r from hr.symm,show zP (.ok (i+1))=(i:Int)+1 from by show ((i+1:Nat):Int)=_;omega] at this;exact this
     obtain ⟨p2,hp2⟩:∃ p,p=ba ts (ai r) [59]:=⟨_,rfl⟩
     have hpa:aM ts p2:=by rw [hp2];exact (har.next.eat H.out.ends _).ok
     have KE2:∀ W,Only [] w W→Calls Tryz.prog 58 #[.slice a ts.length cap,.int .i64 (zR r),.string ⟨#[59]⟩] W fun e w'=>e=.returned (.int .i64 (zP p2))∧W=w':=fun W ho=>by
      have:=aH (H.out.quiet ho) (ai r) har.next.ok ⟨#[59]⟩;rw [← bs,show ba ts (ai r) (⟨#[59]⟩:ByteArray).data.toList=p2 from hp2.symm] at this;exact this
     rw [← hp2] at hstep;have KE:∀ W,Only [] w W→Calls Tryz.prog 58 #[.slice a ts.length cap,.int .i64 (zP p2),.string ⟨#[125]⟩] W fun e w'=>e=.returned (.int .i64 zc)∧W=w':=fun W ho=>by
      have:=aH (H.out.quiet ho) p2 hpa ⟨#[125]⟩;rw [show zP (ba ts p2 (⟨#[125]⟩:ByteArray).data.toList)=zc from by rw [HZ0.out,hstep.1]] at this;exact this
     have HKE:=Hd KE;have HKX:=Hd KX;have HKE2:=Hd KE2;have HST:=Hd hstep.2;rw [show zP (.ok i)=(i:Int) from rfl];clear KE KX KE2 hstep hpa hc har hr hp2;(go_wp2_with fail);refine (HKX.out _ HD.out.1).mono ?_;rintro e w5 ⟨k,n,s,a5,l5,c5,p5,rfl,hv,o5⟩;have HVx:=Hd hv;have HO5:=Hd o5;clear hv o5;(go_upto_region 24 with (fail));obtain ⟨w6,q9,o6,hX6,hs6⟩:=nb w5 (.cells #[.int .i64 k,.int .i64 n,.string s,.slice a5 l5 c5,.int .i64 p5] 95);rw [← q9];clear q9;have o06:=HO5.out.trans o6 (by simp);have HD6:=Hd (HD.out.quiet o06);have b4:w6.cell? ⟨w.heap.size+1,4,none⟩=some (.slice none 0 0):=ab 4 HD6.out.2.2;have lD:w.heap.size+1 < w6.heap.size:=HD6.out.lt;have nD:w.heap.size+1≠w6.heap.size:=by omega
     have lX:w5.heap.size < w6.heap.size:=by omega
     have nX:w5.heap.size≠w6.heap.size:=by omega
     have x0:w6.cell? ⟨w5.heap.size,0,none⟩=some (.int .i64 k):=ab 0 hX6;have x1:w6.cell? ⟨w5.heap.size,1,none⟩=some (.int .i64 n):=ab 1 hX6;have x2:w6.cell? ⟨w5.heap.size,2,none⟩=some (.string s):=ab 2 hX6;have x3:w6.cell? ⟨w5.heap.size,3,none⟩=some (.slice a5 l5 c5):=ab 3 hX6;have x4:w6.cell? ⟨w5.heap.size,4,none⟩=some (.int .i64 p5):=ab 4 hX6;have o7:Only [] w6 (w6.alloc (.cells #[.int .i64 k,.int .i64 n,.string s,.slice a5 l5 c5,.int .i64 p5] 95)):=(Only.refl _ _).alloc _;have hY7:=ag w6 (.cells #[.int .i64 k,.int .i64 n,.string s,.slice a5 l5 c5,.int .i64 p5] 95);have o07:=o06.trans o7 (by simp);have HD7:=Hd (HD6.out.quiet o7);obtain ⟨css,hown,hcl,hcs⟩:=OEx.nil (w6.alloc (.cells #[.int .i64 k,.int .i64 n,.string s,.slice a5 l5 c5,.int .i64 p5] 95)) wc.heap.size;have HOWN:=Hd hown;have HCS:=Hd (And.intro hcl hcs)
     have HC:=Hd (show ∀ (j:Nat) (u:Value),([.int .i64 k,.int .i64 n,.string s,.slice a5 l5 c5,.int .i64 p5]:List Value)[j]?=some u→(w6.alloc (.cells #[.int .i64 k,.int .i64 n,.string s,.slice a5 l5 c5,.int .i64 p5] 95)).cell? ⟨w6.heap.size,j,none⟩=some u from fun j u hj=>by
      rw [ab _ hY7]
      simpa using hj)
     have hcl2:w.heap.size+2≤wc.heap.size:=by have:=HD.out.lt;omega
     have HSZ:=Hd (show wc.heap.size≤(w6.alloc (.cells #[.int .i64 k,.int .i64 n,.string s,.slice a5 l5 c5,.int .i64 p5] 95)).heap.size from o07.size);have HO57:=Hd (o6.trans o7 (by simp));have HO07:=Hd o07;clear hown hcl hcs hX6 hY7 o6 o7 o06 o07 hs6
     go_wp2_with (
      refine eh rfl (.tmp 121) (.tmp 123) rfl wc.heap.size _ 0 css.flatten (by rfl) HOWN.out w6.heap.size 1 (by rfl) k n p5 s a5 l5 c5 HC.out (by omega) HSZ.out ?_;intro a8 c8 w8 how8 ho8 hb8;have hd8:=HD7.out.past ho8 (fun k hk=>by simp [Value.ownBlock] at hk);have b48:w8.cell? ⟨w.heap.size+1,4,none⟩=some (.slice none 0 0):=ab 4 hd8.2.2;have gb48:=ae 4 hd8.2.2;have HW8:=Hd (And.intro how8 (And.intro ho8 hb8));have HD8:=Hd hd8
      clear how8 ho8 hb8 hd8)
     have oz:Only [w.heap.size+1] w8 (w8.setCell ⟨w.heap.size+1,4,none⟩ (.slice a8 (0+1) c8)):=oc;have hd9:DD w (w8.setCell ⟨w.heap.size+1,4,none⟩ (.slice a8 (0+1) c8)) sn (.slice a1 l1 c1) (.slice a2 l2 c2) (.slice a3 l3 c3) (.slice a8 (0+1) c8):=
      ⟨HD8.out.1.trans oz (fun k hk=>.inr (by rw [List.mem_singleton.1 hk];omega)),oz.heap HD8.out.2.1 (by simp),af (i:=4) _ HD8.out.2.2⟩
     have how9:Only [w.heap.size+1] wc (w8.setCell ⟨w.heap.size+1,4,none⟩ (.slice a8 (0+1) c8)):=(((HO07.out.mono (T:=[w.heap.size+1]) (by simp)).trans HW8.out.2.1 (fun k hk=>by simp [Value.ownBlock] at hk))).trans oz (fun k hk=>.inl hk);have hnew:∀ e j,r=.ok (e,j)→OEx (w8.setCell ⟨w.heap.size+1,4,none⟩ (.slice a8 (0+1) c8)) wc.heap.size (.slice a8 (0+1) c8) ([]++[e]):=fun e j he=>by
      refine OEx.keep (S:=[w.heap.size+1]) (OEx.snoc HCS.out.1 HCS.out.2 (EV.kept HO57.out (by simp) (fun b hb=>?_) e _ (EV.lt e _ (HVx.out e j he))) HW8.out.1 HW8.out.2.1 (HW8.out.2.2.imp id fun e=>⟨_,e,Nat.le_refl _⟩)) oz (fun k hk=>by rw [List.mem_singleton.1 hk];omega);have h1:=HO57.out.size;have h2:wc.heap.size≤b:=hb.1;have h3:b < w5.heap.size:=hb.2;exact ⟨by omega,by omega,fun e=>by simp [Value.ownBlock] at e⟩
     generalize w8.setCell ⟨w.heap.size+1,4,none⟩ (.slice a8 (0+1) c8)=w9 at hd9 how9 hnew⊢;replace HD:=Hd hd9;replace HV1:=Hd (show ∀ l j,rp=.ok (l,j)→NmV w9 (fun b=>w.heap.size+2≤b) (.slice a1 l1 c1) l from fun l j e=>(HV1.out l j e).kept how9 (fun k hk hB=>by rw [List.mem_singleton.1 hk] at hB;exact absurd hB (by omega)) (fun _ h=>h));replace HV2:=Hd (show ∀ l j,rn=.ok (l,j)→EsV w9 (fun b=>w.heap.size+2≤b) (.slice a2 l2 c2) l from fun l j e=>(HV2.out l j e).kept how9 (fun k hk hB=>by rw [List.mem_singleton.1 hk] at hB;exact absurd hB (by omega)) (fun _ h=>h));replace HV3:=Hd (show ∀ l j,rb=.ok (l,j)→SsV w9 (fun b=>w.heap.size+2≤b) (.slice a3 l3 c3) l from fun l j e=>(HV3.out l j e).kept how9 (fun k hk hB=>by rw [List.mem_singleton.1 hk] at hB;exact absurd hB (by omega)) (fun _ h=>h));have HV4:=Hd (show ∀ e j,r=.ok (e,j)→EsV w9 (fun b=>w.heap.size+2≤b) (.slice a8 (0+1) c8) [e] from fun e j he=>((hnew e j he).esv).kept (Only.refl [] w9) (by simp) (fun b hb=>by have:wc.heap.size≤b:=hb;omega));clear oz hd9 how9 hnew b4 lD nD lX nX x0 x1 x2 x3 x4 b48 gb48 HD8 HW8 HOWN HCS HC HSZ HD7 HD6 HVx HO5 HO57 HO07;refine (HKE2.out _ HD.out.1).mono ?_;rintro e w' ⟨rfl,rfl⟩;(go_upto_region 26 with (fail));have oD:Only [] w9 w9.drew:=(Only.refl [] w9).drew;have HDd:=Hd (HD.out.quiet oD);have HOd:=Hd oD;refine wp_region_held_drew (S:=fun w'=>w'.cell? ⟨w.heap.size+1,0,none⟩=some (.string sn)∧w'.cell? ⟨w.heap.size+1,1,none⟩=some (.slice a1 l1 c1)∧w'.cell? ⟨w.heap.size+1,2,none⟩=some (.slice a2 l2 c2)∧w'.cell? ⟨w.heap.size+1,3,none⟩=some (.slice a3 l3 c3)∧w'.cell? ⟨w.heap.size+1,4,none⟩=some (.slice a8 (0+1) c8)) (by kernel_rfl) ⟨ab 0 HDd.out.2.2,ab 1 HDd.out.2.2,ab 2 HDd.out.2.2,ab 3 HDd.out.2.2,ab 4 HDd.out.2.2⟩ (fun hH=>?_);clear oD;generalize w9.drew=wd at HDd HOd hH⊢;refine tk 0 hH ?_;refine tk 1 hH ?_;refine tk 2 hH ?_;refine rd 3 (fun K hK=>?_);go_simp;refine (HKE.out _ HDd.out.1).mono ?_;rintro e w' ⟨rfl,rfl⟩;refine hK.out _ _ hH (fun hH=>?_);clear hK K;have s0:wd.cell? ⟨w.heap.size,0,none⟩=some (.string ⟨#[]⟩):=ab 0 HDd.out.2.1;have s1:wd.cell? ⟨w.heap.size,1,none⟩=some (.slice none 0 0):=ab 1 HDd.out.2.1;have s2:wd.cell? ⟨w.heap.size,2,none⟩=some (.slice none 0 0):=ab 2 HDd.out.2.1;have s3:wd.cell? ⟨w.heap.size,3,none⟩=some (.slice none 0 0):=ab 3 HDd.out.2.1;have s4:wd.cell? ⟨w.heap.size,4,none⟩=some (.slice none 0 0):=ab 4 HDd.out.2.1;have gs0:=ae 0 HDd.out.2.1;have gs1:=ae 1 HDd.out.2.1;have gs2:=ae 2 HDd.out.2.1;have gs3:=ae 3 HDd.out.2.1;have gs4:=ae 4 HDd.out.2.1;clear hH;refine rd 4 (fun K hK=>?_);go_simp;have oz:Only [w.heap.size] wd (((((wd.setCell ⟨w.heap.size,0,none⟩ (.string sn)).setCell ⟨w.heap.size,1,none⟩ (.slice a1 l1 c1)).setCell ⟨w.heap.size,2,none⟩ (.slice a2 l2 c2)).setCell ⟨w.heap.size,3,none⟩ (.slice a3 l3 c3)).setCell ⟨w.heap.size,4,none⟩ (.slice a8 (0+1) c8)):=oc;have hz:=aD HDd.out.2.1 (.string sn) (.slice a1 l1 c1) (.slice a2 l2 c2) (.slice a3 l3 c3) (.slice a8 (0+1) c8);have hBz:=oz.heap HDd.out.2.2 (by simp);generalize ((((wd.setCell ⟨w.heap.size,0,none⟩ (.string sn)).setCell ⟨w.heap.size,1,none⟩ (.slice a1 l1 c1)).setCell ⟨w.heap.size,2,none⟩ (.slice a2 l2 c2)).setCell ⟨w.heap.size,3,none⟩ (.slice a3 l3 c3)).setCell ⟨w.heap.size,4,none⟩ (.slice a8 (0+1) c8)=wz at oz hz hBz⊢;have HOz:=Hd oz;have HZ:=Hd hz;refine hK.out _ _ ⟨ab 0 hBz,ab 1 hBz,ab 2 hBz,ab 3 hBz,ab 4 hBz⟩ (fun hH=>?_);clear hK K hz hBz oz s0 s1 s2 s3 s4 gs0 gs1 gs2 gs3 gs4;refine tk 5 hH ?_;refine wpAnyH_done (by kernel_rfl) ?_ _;clear hH;(go_wp2_with fail);(try simp only [Exit.inBlock,Exit.then]);refine bodyPost_ret (vh _ _ w.heap.size _ _ _ _ _ (.int .i64 zc) rfl rfl HZ.out) rfl ?_;refine ⟨sn,a1,a2,a3,a8,l1,l2,l3,(0+1),c1,c2,c3,c8,by rw [HZC.out],fun d j hd=>?_,HDd.out.1.trans HOz.out (fun k hk=>.inr (by rw [List.mem_singleton.1 hk];exact Nat.le_refl _))⟩;obtain ⟨j1,j2,j3,j4,j5,e1,e2,e3,e4,e5⟩:=u5 ts hd;have hnm:sn=aj d.name:=by rw [HSN.out.1,HSN.out.2,e1];rfl
     refine DV.kept (S:=[w.heap.size]) ((HOd.out.mono (T:=[w.heap.size]) (by simp)).trans HOz.out (fun k hk=>.inl hk)) (B:=fun b=>w.heap.size+2≤b) (fun k hk hB=>by rw [List.mem_singleton.1 hk] at hB;exact absurd hB (by omega)) (fun b hb=>by omega) ⟨_,_,_,_,by rw [hnm],HV1.out d.params j2 (by rw [HRP.out];exact e2),HV2.out d.needs j3 (by rw [HRN.out];exact e3),HV3.out d.body j4 (by rw [HRB.out];exact e4),?_⟩;obtain ⟨t,a0,he,hl⟩:=HST.out d.give j5 (by rw [HRG.out];exact e5);rw [hl];exact HV4.out t a0 he
end
theorem lZ {α β:Type} (g:α→β) (r:Except Nat (α×Nat)):ai (ey g r)=ai r:=by cases r<;>rfl
section
variable {ts:List Tok}
theorem pQ (he:Ends ts):∀ (f i:Nat),i < ts.length→aM ts (ai (aS ts f i)):=by
 intro f
 induction f with
 | zero=>intro i hi;unfold aS;exact hi
 | succ f ih=>
  intro i hi;have had:=bY he hi;cases e:bp ts i with
  | error k=>rw [e] at had;rw [fD e];exact had.2
  | ok x=>
   obtain ⟨s,a⟩:=x;rw [e] at had;have had:i < a∧a < ts.length:=had;cases h:isT ts a [44] with
   | false=>rw [ez e h];exact had.2
   | true=>rw [eA e h,lZ];exact ih (a+1) (aL he had.2 h)
theorem sI (he:Ends ts):∀ (f i:Nat),i < ts.length→aM ts (ai (bo ts f i)):=by
 intro f
 induction f with
 | zero=>intro i hi;unfold bo;exact hi
 | succ f ih=>
  intro i hi;cases h:isT ts i [110,101,101,100] with
  | false=>rw [kW h];exact hi
  | true=>
   have hi1:=aL he hi h;have h1:AdvP ts (i+1) (ba ts (ai (br ts (i+1) 1)) [59]):=(((bi he _).1 (i+1) 1 1 hi1:Adv ts (i+1) (br ts (i+1) 1)).next).eat he _;obtain ⟨h2,h3⟩:=mZ (f:=f) h;cases e:ba ts (ai (br ts (i+1) 1)) [59] with
   | error k=>rw [h2 k e];rw [e] at h1;exact h1.2
   | ok a=>
    obtain ⟨t,a0,_,h4⟩:=h3 a e;rw [h4,lZ];rw [e] at h1;exact ih a h1.2
theorem vi (he:Ends ts):∀ (f i:Nat),i < ts.length→aM ts (ai (bM ts f i)):=by
 intro f
 induction f with
 | zero=>intro i hi;unfold bM;exact hi
 | succ f ih=>
  intro i hi;cases h1:isT ts i [103,105,118,101] with
  | true=>rw [f8 (.inl h1)];exact hi
  | false=>
   cases h2:isT ts i [125] with
   | true=>rw [f8 (.inr h2)];exact hi
   | false=>
    have h3:Adv ts i (pz ts i 1):=(dn he _).1 i 1 hi;cases e:pz ts i 1 with
    | error k=>rw [na h1 h2 e];rw [e] at h3;exact h3.2
    | ok x=>
     obtain ⟨s,a⟩:=x;rw [e] at h3;rw [q8 h1 h2 e,lZ];exact ih a h3.2
theorem vl (he:Ends ts) {i:Nat} (hi:i < ts.length):aM ts (ai (fk ts i)):=by
 cases h:isT ts i [103,105,118,101] with
 | false=>rw [re h];exact hi
 | true=>
  rw [(rf h).1];exact ((((bi he _).1 (i+1) 1 1 (aL he hi h):Adv ts (i+1) (br ts (i+1) 1)).next).eat he _).ok
theorem rh (he:Ends ts):aM ts (ai (oV ts)):=by
 have h0:aM ts (ba ts (.ok 0) [111,112]):=cV he (p:=.ok 0) he.pos _;have h1:aM ts (ai (dW ts)):=by
  unfold dW;revert h0;cases ba ts (.ok 0) [111,112] with
  | error k=>exact fun h=>h
  | ok i=>exact fun hi=>(bY he hi).next.ok
 have h2:aM ts (ai (dP ts)):=by
  have:=cV he h1 [40];unfold dP;revert this;cases ba ts (ai (dW ts)) [40] with
  | error k=>exact fun h=>h
  | ok i=>
   intro hi;show aM ts (ai (cU ts i));unfold cU;split
   ·exact hi
   ·exact pQ he _ i hi
 have h3:aM ts (dQ ts):=cV he (cV he h2 [41]) [123];have h4:aM ts (ai (dN ts)):=by
  unfold dN;revert h3;cases dQ ts with
  | error k=>exact fun h=>h
  | ok i=>exact fun hi=>sI he _ i hi
 have h5:aM ts (ai (dB ts)):=by
  unfold dB;revert h4;cases ai (dN ts) with
  | error k=>exact fun h=>h
  | ok i=>exact fun hi=>vi he _ i hi
 have h6:aM ts (ai (dG ts)):=by
  unfold dG;revert h5;cases ai (dB ts) with
  | error k=>exact fun h=>h
  | ok i=>exact fun hi=>vl he hi
 have h7:=cV he h6 [125];rw [pL];unfold defS;revert h7;cases ba ts (ai (dG ts)) [125] with
 | error k=>exact fun h=>h
 | ok i=>exact fun h=>h
end
theorem kX:∀ (n at_:Nat) (l:Sec) (ts:List Tok),kI n at_ l=.ok ts→∃ us t,ts=us++[t]∧t.kind=4∧t.text=[]∧∀ u∈us,u.kind≠4∧u.text.length≤l.length
 | 0,at_,l,ts,h=>by
  simp only [kI,Except.ok.injEq] at h;exact ⟨[],_,h.symm,rfl,rfl,fun u hu=>by cases hu⟩
 | n+1,at_,l,ts,h=>by
  simp only [kI] at h;split at h
  ·simp only [Except.ok.injEq] at h;exact ⟨[],_,h.symm,rfl,rfl,fun u hu=>by cases hu⟩
  ·split at h
   ·cases h
   ·cases hx:kI n (at_+(al l).2+bh false (l.drop (al l).2)) (l.drop ((al l).2+bh false (l.drop (al l).2))) with
    | error e=>
     rw [hx] at h;cases h
    | ok us=>
     rw [hx] at h;obtain ⟨vs,t,rfl,h1,h2,h3⟩:=kX n _ _ us hx;have e:ts=⟨(al l).1,l.take (al l).2,at_⟩ :: (vs++[t]):=by
      have h':(Except.ok (⟨(al l).1,l.take (al l).2,at_⟩ :: (vs++[t])):Except Nat (List Tok))=.ok ts:=h;exact (Except.ok.inj h').symm
     refine ⟨⟨(al l).1,l.take (al l).2,at_⟩ :: vs,t,e,h1,h2,fun u hu=>?_⟩;rcases List.mem_cons.1 hu with rfl | hu
     ·refine ⟨?_,?_⟩
      ·have:=(pi l).2;show (al l).1≠4;omega
      ·show (l.take (al l).2).length≤l.length;rw [List.length_take];omega
     ·have:=h3 u hu;rw [List.length_drop] at this;exact ⟨this.1,by omega⟩
theorem nc {l:Sec} {ts:List Tok} (h:lex l=.ok ts):∃ us t,ts=us++[t]∧t.kind=4∧t.text=[]∧∀ u∈us,u.kind≠4∧u.text.length≤l.length:=by
 obtain ⟨us,t,h1,h2,h3,h4⟩:=kX _ _ _ _ h;refine ⟨us,t,h1,h2,h3,fun u hu=>⟨(h4 u hu).1,?_⟩⟩;have:=(h4 u hu).2;rw [List.length_drop] at this;omega
theorem i7 {l:Sec} {ts:List Tok} (h:lex l=.ok ts):Ends ts:=by
 obtain ⟨us,t,rfl,h2,h3,h4⟩:=nc h;refine ⟨by simp,?_,fun i hi=>?_⟩
 ·unfold kAt;rw [show (us++[t]).length - 1=us.length by simp,List.getElem?_append_right (Nat.le_refl _)];simp [h2]
 ·have hi:i < us.length:=by simp at hi;omega
  unfold kAt;rw [List.getElem?_append_left hi,List.getElem?_eq_getElem hi];exact (h4 _ (List.getElem_mem hi)).1
theorem ri {l:Sec} {ts:List Tok} (h:lex l=.ok ts) (i:Nat):(xAt ts i).length≤l.length:=by
 obtain ⟨us,t,rfl,h2,h3,h4⟩:=nc h;unfold xAt;rcases Nat.lt_or_ge i us.length with hi | hi
 ·rw [List.getElem?_append_left hi,List.getElem?_eq_getElem hi];exact (h4 _ (List.getElem_mem hi)).2
 ·rw [List.getElem?_append_right hi];rcases Nat.eq_zero_or_pos (i - us.length) with e | e
  ·rw [e];simp [h3]
  ·rw [List.getElem?_eq_none (by simp;omega)];simp
theorem TS.of_own {w:World} {base:Nat} {v:Value} {l:Sec} {ts:List Tok} (h:lex l=.ok ts) (hl:l.length≤480) (ho:OTk w base v ts):TS w v ts:=
 ⟨ho.tv,i7 h,by have:=uD h;omega,fun i=>by have:=ri h i;omega⟩
def cq (l:Sec):Except (Nat×Nat) Df:=
 if 480 < l.length then .error (2,0) else match lex l with
  | .error p=>.error (7,p)
  | .ok ts=>match fV ts with
   | .error p=>.error (8,p)
   | .ok d=>.ok d
def zeroD:List Value:=[.string ⟨#[]⟩,.slice none 0 0,.slice none 0 0,.slice none 0 0,.slice none 0 0]
def PaRes2 (w:World) (r:Except (Nat×Nat) Df) (e:Ending) (w':World):Prop:=
 ∃ (s:ByteArray) (a1 a2 a3 a4:Option Addr) (l1 l2 l3 l4 c1 c2 c3 c4:Nat) (c p:Nat),e=.returned (.tuple #[.agg #[.string s,.slice a1 l1 c1,.slice a2 l2 c2,.slice a3 l3 c3,.slice a4 l4 c4],.int .i64 c,.int .i64 p])∧
  (∀ k q,r=.error (k,q)→c=k∧p=q)∧(∀ d,r=.ok d→c=0∧p=0∧DV w' (fun b=>w.heap.size≤b) d [.string s,.slice a1 l1 c1,.slice a2 l2 c2,.slice a3 l3 c3,.slice a4 l4 c4])∧Only [] w w'∧
  ∀ k q,r=.error (k,q)→([.string s,.slice a1 l1 c1,.slice a2 l2 c2,.slice a3 l3 c3,.slice a4 l4 c4]:List Value)=zeroD
theorem eB (tmps:Array Value) (w:World) (g:Nat) (v0 v1 v2 v3 v4 z y:Value) (h6:tmps.getD 2 undef=.pointer (some ⟨g,0,none⟩)) (h7:tmps.getD 3 undef=z) (h8:tmps.getD 4 undef=y) (h:w.heap[g]?=some (.cells #[v0,v1,v2,v3,v4] 60 (0,0))) :
  (results Tryz.f18 tmps).run Tryz.prog w=.ok (.tuple #[.agg #[v0,v1,v2,v3,v4],z,y]) w:=by
 have c0:w.cell? ⟨g,0,none⟩=some v0:=ab 0 h;have c1:w.cell? ⟨g,1,none⟩=some v1:=ab 1 h;have c2:w.cell? ⟨g,2,none⟩=some v2:=ab 2 h;have c3:w.cell? ⟨g,3,none⟩=some v3:=ab 3 h;have c4:w.cell? ⟨g,4,none⟩=some v4:=ab 4 h;have hl:(loadVar 60 ⟨g,0,none⟩).run Tryz.prog w=.ok (.agg #[v0,v1,v2,v3,v4]) w:=by
  clear h;simp [go_sem,c0,c1,c2,c3,c4]
 have h6':tmps[2]?.getD undef=.pointer (some ⟨g,0,none⟩):=by simpa using h6
 have h7':tmps[3]?.getD undef=z:=by simpa using h7
 have h8':tmps[4]?.getD undef=y:=by simpa using h8
 simp [results,Tryz.results18,asAddr,h6',h7',h8',hl]
theorem sJ (s:ByteArray) (w:World) (hs:s.size≤9223372036854775807):Calls Tryz.prog 18 #[.string s] w (PaRes2 w (cq s.data.toList)):=by
 obtain ⟨R,hR⟩:∃ R,R=cq s.data.toList:=⟨_,rfl⟩
 rw [← hR];have HR:=Hd hR;clear hR;have KT:=pq s (w.alloc (.cells #[.string ⟨#[]⟩,.slice none 0 0,.slice none 0 0,.slice none 0 0,.slice none 0 0] 60)) hs
 go_enter Tryz.func18,Tryz.ntmps18
 go_wp2_with fail
 refine KT.mono ?_;rintro e w1 ⟨v,c,p,rfl,hres,o1⟩;have HA:=Hd (o1.heap (ag w (.cells #[.string ⟨#[]⟩,.slice none 0 0,.slice none 0 0,.slice none 0 0,.slice none 0 0] 60)) (by simp));have HO:=Hd (((Only.refl [] w).alloc (.cells #[.string ⟨#[]⟩,.slice none 0 0,.slice none 0 0,.slice none 0 0,.slice none 0 0] 60)).trans o1 (by simp));clear KT o1;rcases hres with ⟨hl,rfl,rfl,rfl⟩ | ⟨hl,q,hlex,rfl,rfl,rfl⟩ | ⟨hl,ts,hlex,rfl,rfl,hown⟩
 ·have hRR:R=.error (2,0):=by rw [HR.out];unfold cq;rw [if_pos hl]
  have HRR:=Hd hRR;clear hRR hl;have s0:w1.cell? ⟨w.heap.size,0,none⟩=some (.string ⟨#[]⟩):=ab 0 HA.out;have s1:w1.cell? ⟨w.heap.size,1,none⟩=some (.slice none 0 0):=ab 1 HA.out;have s2:w1.cell? ⟨w.heap.size,2,none⟩=some (.slice none 0 0):=ab 2 HA.out;have s3:w1.cell? ⟨w.heap.size,3,none⟩=some (.slice none 0 0):=ab 3 HA.out;have s4:w1.cell? ⟨w.heap.size,4,none⟩=some (.slice none 0 0):=ab 4 HA.out;have gs0:=ae 0 HA.out;have gs1:=ae 1 HA.out;have gs2:=ae 2 HA.out;have gs3:=ae 3 HA.out;have gs4:=ae 4 HA.out;go_wp2_with fail
  have oz:Only [w.heap.size] w1 (((((w1.setCell ⟨w.heap.size,0,none⟩ (.string ⟨#[]⟩)).setCell ⟨w.heap.size,1,none⟩ (.slice none 0 0)).setCell ⟨w.heap.size,2,none⟩ (.slice none 0 0)).setCell ⟨w.heap.size,3,none⟩ (.slice none 0 0)).setCell ⟨w.heap.size,4,none⟩ (.slice none 0 0)):=oc;have hz:=aD HA.out (.string ⟨#[]⟩) (.slice none 0 0) (.slice none 0 0) (.slice none 0 0) (.slice none 0 0);generalize ((((w1.setCell ⟨w.heap.size,0,none⟩ (.string ⟨#[]⟩)).setCell ⟨w.heap.size,1,none⟩ (.slice none 0 0)).setCell ⟨w.heap.size,2,none⟩ (.slice none 0 0)).setCell ⟨w.heap.size,3,none⟩ (.slice none 0 0)).setCell ⟨w.heap.size,4,none⟩ (.slice none 0 0)=wz at oz hz⊢;(try simp only [Exit.inBlock,Exit.then]);refine bodyPost_ret (eB _ _ w.heap.size _ _ _ _ _ (.int .i64 2) (.int .i64 0) rfl rfl rfl hz) rfl ?_;refine ⟨⟨#[]⟩,none,none,none,none,0,0,0,0,0,0,0,0,2,0,rfl,fun k q e=>?_,fun d e=>?_,HO.out.trans (T:=[w.heap.size]) oz (fun k hk=>.inr (by rw [List.mem_singleton.1 hk];exact Nat.le_refl _)),fun _ _ _=>rfl⟩
  ·rw [HRR.out] at e;cases e;exact ⟨rfl,rfl⟩
  ·rw [HRR.out] at e;cases e
 ·have hRR:R=.error (7,q):=by rw [HR.out];unfold cq;rw [if_neg (by omega),hlex]
  have HRR:=Hd hRR;clear hRR hl hlex;have s0:w1.cell? ⟨w.heap.size,0,none⟩=some (.string ⟨#[]⟩):=ab 0 HA.out;have s1:w1.cell? ⟨w.heap.size,1,none⟩=some (.slice none 0 0):=ab 1 HA.out;have s2:w1.cell? ⟨w.heap.size,2,none⟩=some (.slice none 0 0):=ab 2 HA.out;have s3:w1.cell? ⟨w.heap.size,3,none⟩=some (.slice none 0 0):=ab 3 HA.out;have s4:w1.cell? ⟨w.heap.size,4,none⟩=some (.slice none 0 0):=ab 4 HA.out;have gs0:=ae 0 HA.out;have gs1:=ae 1 HA.out;have gs2:=ae 2 HA.out;have gs3:=ae 3 HA.out;have gs4:=ae 4 HA.out;go_wp2_with fail
  have oz:Only [w.heap.size] w1 (((((w1.setCell ⟨w.heap.size,0,none⟩ (.string ⟨#[]⟩)).setCell ⟨w.heap.size,1,none⟩ (.slice none 0 0)).setCell ⟨w.heap.size,2,none⟩ (.slice none 0 0)).setCell ⟨w.heap.size,3,none⟩ (.slice none 0 0)).setCell ⟨w.heap.size,4,none⟩ (.slice none 0 0)):=oc;have hz:=aD HA.out (.string ⟨#[]⟩) (.slice none 0 0) (.slice none 0 0) (.slice none 0 0) (.slice none 0 0);generalize ((((w1.setCell ⟨w.heap.size,0,none⟩ (.string ⟨#[]⟩)).setCell ⟨w.heap.size,1,none⟩ (.slice none 0 0)).setCell ⟨w.heap.size,2,none⟩ (.slice none 0 0)).setCell ⟨w.heap.size,3,none⟩ (.slice none 0 0)).setCell ⟨w.heap.size,4,none⟩ (.slice none 0 0)=wz at oz hz⊢;(try simp only [Exit.inBlock,Exit.then]);refine bodyPost_ret (eB _ _ w.heap.size _ _ _ _ _ (.int .i64 7) (.int .i64 (q:Int)) rfl rfl rfl hz) rfl ?_;refine ⟨⟨#[]⟩,none,none,none,none,0,0,0,0,0,0,0,0,7,q,rfl,fun k q e=>?_,fun d e=>?_,HO.out.trans (T:=[w.heap.size]) oz (fun k hk=>.inr (by rw [List.mem_singleton.1 hk];exact Nat.le_refl _)),fun _ _ _=>rfl⟩
  ·rw [HRR.out] at e;cases e;exact ⟨rfl,rfl⟩
  ·rw [HRR.out] at e;cases e
 ·have ht:=TS.of_own hlex hl hown;have hRR:R=match fV ts with | .error p=>.error (8,p) | .ok d=>.ok d:=by rw [HR.out];unfold cq;rw [if_neg (by omega),hlex]
  obtain ⟨b,cap,rfl,-⟩:=ht.at_ ht.ends.pos;have hbase:w.heap.size+1≤b:=by
   have h9:=(hown.lt (k:=b) rfl).1;have:(w.alloc (.cells #[.string ⟨#[]⟩,.slice none 0 0,.slice none 0 0,.slice none 0 0,.slice none 0 0] 60)).heap.size=w.heap.size+1:=Array.size_push _;omega
  have HT:=Hd ht;have HRR:=Hd hRR;have hpos:=rh ht.ends;have hlen:=ht.len;have HL1:=Hd (show w.heap.size < w1.heap.size from ak HA.out);clear hRR hl hlex hown ht;go_wp2_with fail
  refine (rdef_any HT.out).mono ?_;rintro e w2 ⟨sn,a1,a2,a3,a4,l1,l2,l3,l4,c1,c2,c3,c4,rfl,hv,o2⟩;have HV:=Hd hv;have HO2:=Hd o2;replace HA:=Hd (o2.heap HA.out (by simp));clear hv o2;go_upto_region 5 with (fail)
  obtain ⟨w3,q9,o3,hX,-⟩:=nb w2 (.cells #[.string sn,.slice a1 l1 c1,.slice a2 l2 c2,.slice a3 l3 c3,.slice a4 l4 c4] 60);rw [← q9];clear q9;replace HA:=Hd (o3.heap HA.out (by simp));have HX:=Hd hX;have HO3:=Hd o3;have HO03:=Hd ((HO.out.trans HO2.out (by simp)).trans o3 (by simp));have HT3:=Hd (HT.out.quiet (HO2.out.trans o3 (by simp)));clear o3 hX;obtain ⟨r,hr⟩:∃ r,r=oV ts:=⟨_,rfl⟩
  rw [← hr] at hpos HV⊢;have HRd:=Hd hr;clear hr;cases r with
  | error k=>
   have hk:k < ts.length:=hpos;have hRe:R=.error (8,pAt ts k):=by
    rw [HRR.out];unfold fV;rw [← HRd.out]
   have HRe:=Hd hRe;obtain ⟨y,hy,hy0,hy1⟩:=mR k;rw [show zR (.error k:Except Nat (Df×Nat))=y from hy];have hy2:IntKind.i64.wrap (-1 - y)=(k:Int):=by rw [IntKind.wrap_i64];omega
   clear hy hRe hy1;(go_upto_region 8 with (fail));have hk0:(0:Int)≤((k:Nat):Int):=by omega
   have hk1:((k:Nat):Int) < (ts.length:Int):=by omega
   have oD:Only [] w3 w3.drew:=(Only.refl [] w3).drew;obtain ⟨b',cap',hsl,-,-,c2'⟩:=(HT3.out.quiet oD).at_ hk;cases hsl;obtain ⟨pk,hpk⟩:∃ p,p=pAt ts k:=⟨_,rfl⟩
   rw [← hpk] at c2';have HPK:=Hd hpk;clear hpk;replace HA:=Hd (oD.heap HA.out (by simp));have hbA:b≠w.heap.size:=by omega
   refine wp_region_held_drew (S:=fun w'=>w'.cell? ⟨b,k*3+2,none⟩=some (.int .i64 (pk:Int))) (by kernel_rfl) c2' (fun hH=>?_);have HOd:=Hd oD;clear oD c2';generalize w3.drew=wd at HA HOd hH⊢;refine tk 0 hH ?_;refine tk 1 hH ?_;refine tk 2 hH ?_;refine tk 3 hH ?_;refine tk 4 hH ?_;refine tk 5 hH ?_;refine tk 6 hH ?_;have s0:wd.cell? ⟨w.heap.size,0,none⟩=some (.string ⟨#[]⟩):=ab 0 HA.out;have s1:wd.cell? ⟨w.heap.size,1,none⟩=some (.slice none 0 0):=ab 1 HA.out;have s2:wd.cell? ⟨w.heap.size,2,none⟩=some (.slice none 0 0):=ab 2 HA.out;have s3:wd.cell? ⟨w.heap.size,3,none⟩=some (.slice none 0 0):=ab 3 HA.out;have s4:wd.cell? ⟨w.heap.size,4,none⟩=some (.slice none 0 0):=ab 4 HA.out;have gs0:=ae 0 HA.out;have gs1:=ae 1 HA.out;have gs2:=ae 2 HA.out;have gs3:=ae 3 HA.out;have gs4:=ae 4 HA.out;refine rd 7 (fun K hK=>?_);go_simp;have oz:Only [w.heap.size] wd (((((wd.setCell ⟨w.heap.size,0,none⟩ (.string ⟨#[]⟩)).setCell ⟨w.heap.size,1,none⟩ (.slice none 0 0)).setCell ⟨w.heap.size,2,none⟩ (.slice none 0 0)).setCell ⟨w.heap.size,3,none⟩ (.slice none 0 0)).setCell ⟨w.heap.size,4,none⟩ (.slice none 0 0)):=oc;have hz:=aD HA.out (.string ⟨#[]⟩) (.slice none 0 0) (.slice none 0 0) (.slice none 0 0) (.slice none 0 0);have hcz:(((((wd.setCell ⟨w.heap.size,0,none⟩ (.string ⟨#[]⟩)).setCell ⟨w.heap.size,1,none⟩ (.slice none 0 0)).setCell ⟨w.heap.size,2,none⟩ (.slice none 0 0)).setCell ⟨w.heap.size,3,none⟩ (.slice none 0 0)).setCell ⟨w.heap.size,4,none⟩ (.slice none 0 0)).cell? ⟨b,k*3+2,none⟩=some (.int .i64 (pk:Int)):=ac oz hH (by simpa using hbA);generalize ((((wd.setCell ⟨w.heap.size,0,none⟩ (.string ⟨#[]⟩)).setCell ⟨w.heap.size,1,none⟩ (.slice none 0 0)).setCell ⟨w.heap.size,2,none⟩ (.slice none 0 0)).setCell ⟨w.heap.size,3,none⟩ (.slice none 0 0)).setCell ⟨w.heap.size,4,none⟩ (.slice none 0 0)=wz at oz hz hcz⊢;refine hK.out _ _ hcz (fun hH=>?_);have HZ:=Hd hz;clear hK K hz hcz s0 s1 s2 s3 s4 gs0 gs1 gs2 gs3 gs4;refine tk 8 hH ?_;refine tk 9 hH ?_;refine wpAnyH_done (by kernel_rfl) ?_ _;clear hH;(go_wp2_with fail);(try simp only [Exit.inBlock,Exit.then]);refine bodyPost_ret (eB _ _ w.heap.size _ _ _ _ _ (.int .i64 8) (.int .i64 (pk:Int)) rfl rfl rfl HZ.out) rfl ?_;refine ⟨⟨#[]⟩,none,none,none,none,0,0,0,0,0,0,0,0,8,pk,rfl,fun k q e=>?_,fun d e=>?_,(HO03.out.trans HOd.out (by simp)).trans (T:=[w.heap.size]) oz (fun k hk=>.inr (by rw [List.mem_singleton.1 hk];exact Nat.le_refl _)),fun _ _ _=>rfl⟩
   ·rw [HRe.out] at e;cases e;exact ⟨rfl,HPK.out⟩
   ·rw [HRe.out] at e;cases e
  | ok x=>
   obtain ⟨d,a9⟩:=x;have ha:a9 < ts.length:=hpos;have ha0:(0:Int)≤(a9:Int):=by omega
   have ha1:(a9:Int) < (ts.length:Int):=by omega
   rw [show zR (.ok (d,a9):Except Nat (Df×Nat))=(a9:Int) from rfl];obtain ⟨b',cap',hsl,c0,-,-⟩:=HT3.out.at_ ha;cases hsl;obtain ⟨kk,hkk⟩:∃ k,k=kAt ts a9:=⟨_,rfl⟩
   rw [← hkk] at c0
   by_cases h4:kk=4
   ·have hRe:R=.ok d:=by
     rw [HRR.out];unfold fV;rw [← HRd.out];dsimp only;rw [if_pos (hkk.symm.trans h4)]
    have HRe:=Hd hRe;subst h4;clear hRe hkk;have hn:¬ (a9:Int) < 0:=by omega
    have s0:w3.cell? ⟨w.heap.size,0,none⟩=some (.string ⟨#[]⟩):=ab 0 HA.out;have s1:w3.cell? ⟨w.heap.size,1,none⟩=some (.slice none 0 0):=ab 1 HA.out;have s2:w3.cell? ⟨w.heap.size,2,none⟩=some (.slice none 0 0):=ab 2 HA.out;have s3:w3.cell? ⟨w.heap.size,3,none⟩=some (.slice none 0 0):=ab 3 HA.out;have s4:w3.cell? ⟨w.heap.size,4,none⟩=some (.slice none 0 0):=ab 4 HA.out;have gs0:=ae 0 HA.out;have gs1:=ae 1 HA.out;have gs2:=ae 2 HA.out;have gs3:=ae 3 HA.out;have gs4:=ae 4 HA.out;have x0:w3.cell? ⟨w2.heap.size,0,none⟩=some (.string sn):=ab 0 HX.out;have x1:w3.cell? ⟨w2.heap.size,1,none⟩=some (.slice a1 l1 c1):=ab 1 HX.out;have x2:w3.cell? ⟨w2.heap.size,2,none⟩=some (.slice a2 l2 c2):=ab 2 HX.out;have x3:w3.cell? ⟨w2.heap.size,3,none⟩=some (.slice a3 l3 c3):=ab 3 HX.out;have x4:w3.cell? ⟨w2.heap.size,4,none⟩=some (.slice a4 l4 c4):=ab 4 HX.out;(go_wp2_with fail);have oz:Only [w.heap.size] w3 (((((w3.setCell ⟨w.heap.size,0,none⟩ (.string sn)).setCell ⟨w.heap.size,1,none⟩ (.slice a1 l1 c1)).setCell ⟨w.heap.size,2,none⟩ (.slice a2 l2 c2)).setCell ⟨w.heap.size,3,none⟩ (.slice a3 l3 c3)).setCell ⟨w.heap.size,4,none⟩ (.slice a4 l4 c4)):=oc;have hz:=aD HA.out (.string sn) (.slice a1 l1 c1) (.slice a2 l2 c2) (.slice a3 l3 c3) (.slice a4 l4 c4);generalize ((((w3.setCell ⟨w.heap.size,0,none⟩ (.string sn)).setCell ⟨w.heap.size,1,none⟩ (.slice a1 l1 c1)).setCell ⟨w.heap.size,2,none⟩ (.slice a2 l2 c2)).setCell ⟨w.heap.size,3,none⟩ (.slice a3 l3 c3)).setCell ⟨w.heap.size,4,none⟩ (.slice a4 l4 c4)=wz at oz hz⊢;(try simp only [Exit.inBlock,Exit.then]);refine bodyPost_ret (eB _ _ w.heap.size _ _ _ _ _ (.int .i64 0) (.int .i64 0) rfl rfl rfl hz) rfl ?_;refine ⟨sn,a1,a2,a3,a4,l1,l2,l3,l4,c1,c2,c3,c4,0,0,rfl,fun k q e=>?_,fun d' e=>?_,HO03.out.trans (T:=[w.heap.size]) oz (fun k hk=>.inr (by rw [List.mem_singleton.1 hk];exact Nat.le_refl _)),fun k q e=>by rw [HRe.out] at e;cases e⟩
    ·rw [HRe.out] at e;cases e
    ·rw [HRe.out] at e;cases e;refine ⟨rfl,rfl,((HV.out d a9 rfl).kept HO3.out (by simp) (fun _ h=>h)).kept oz (fun k hk hB=>?_) (fun b hb=>?_)⟩
     ·rw [List.mem_singleton.1 hk] at hB;have h8:=ak HA.out;have h9:=HL1.out;exact absurd (show w1.heap.size≤w.heap.size from hB) (by omega)
     ·have h9:=HL1.out;have:w1.heap.size≤b:=hb;omega
   ·have hRe:R=.error (8,pAt ts a9):=by
     rw [HRR.out];unfold fV;rw [← HRd.out];dsimp only;rw [if_neg (fun e=>h4 (hkk.trans e))]
    have HRe:=Hd hRe;have h4':((kk:Int) != 4)=true:=by simp;omega
    have KB:=bZ a9 (by omega) w3;obtain ⟨y,hy⟩:∃ y:Int,y=-1 - (a9:Int):=⟨_,rfl⟩
    rw [← hy] at KB;have hy0:y < 0:=by omega
    have hy2:IntKind.i64.wrap (-1 - y)=(a9:Int):=by rw [IntKind.wrap_i64];omega
    clear hRe hkk hy;(go_wp2_with fail);refine KB.mono ?_;rintro e w' ⟨rfl,rfl⟩;(go_upto_region 8 with (fail));clear c0 ha0 ha1;have hk0:(0:Int)≤((a9:Nat):Int):=by omega
    have hk1:((a9:Nat):Int) < (ts.length:Int):=by omega
    have oD:Only [] w3 w3.drew:=(Only.refl [] w3).drew;obtain ⟨b',cap',hsl,-,-,c2'⟩:=(HT3.out.quiet oD).at_ ha;cases hsl;obtain ⟨pk,hpk⟩:∃ p,p=pAt ts a9:=⟨_,rfl⟩
    rw [← hpk] at c2';have HPK:=Hd hpk;clear hpk;replace HA:=Hd (oD.heap HA.out (by simp));have hbA:b≠w.heap.size:=by omega
    refine wp_region_held_drew (S:=fun w'=>w'.cell? ⟨b,a9*3+2,none⟩=some (.int .i64 (pk:Int))) (by kernel_rfl) c2' (fun hH=>?_);have HOd:=Hd oD;clear oD c2';generalize w3.drew=wd at HA HOd hH⊢;refine tk 0 hH ?_;refine tk 1 hH ?_;refine tk 2 hH ?_;refine tk 3 hH ?_;refine tk 4 hH ?_;refine tk 5 hH ?_;refine tk 6 hH ?_;have s0:wd.cell? ⟨w.heap.size,0,none⟩=some (.string ⟨#[]⟩):=ab 0 HA.out;have s1:wd.cell? ⟨w.heap.size,1,none⟩=some (.slice none 0 0):=ab 1 HA.out;have s2:wd.cell? ⟨w.heap.size,2,none⟩=some (.slice none 0 0):=ab 2 HA.out;have s3:wd.cell? ⟨w.heap.size,3,none⟩=some (.slice none 0 0):=ab 3 HA.out;have s4:wd.cell? ⟨w.heap.size,4,none⟩=some (.slice none 0 0):=ab 4 HA.out;have gs0:=ae 0 HA.out;have gs1:=ae 1 HA.out;have gs2:=ae 2 HA.out;have gs3:=ae 3 HA.out;have gs4:=ae 4 HA.out;refine rd 7 (fun K hK=>?_);go_simp;have oz:Only [w.heap.size] wd (((((wd.setCell ⟨w.heap.size,0,none⟩ (.string ⟨#[]⟩)).setCell ⟨w.heap.size,1,none⟩ (.slice none 0 0)).setCell ⟨w.heap.size,2,none⟩ (.slice none 0 0)).setCell ⟨w.heap.size,3,none⟩ (.slice none 0 0)).setCell ⟨w.heap.size,4,none⟩ (.slice none 0 0)):=oc;have hz:=aD HA.out (.string ⟨#[]⟩) (.slice none 0 0) (.slice none 0 0) (.slice none 0 0) (.slice none 0 0);have hcz:(((((wd.setCell ⟨w.heap.size,0,none⟩ (.string ⟨#[]⟩)).setCell ⟨w.heap.size,1,none⟩ (.slice none 0 0)).setCell ⟨w.heap.size,2,none⟩ (.slice none 0 0)).setCell ⟨w.heap.size,3,none⟩ (.slice none 0 0)).setCell ⟨w.heap.size,4,none⟩ (.slice none 0 0)).cell? ⟨b,a9*3+2,none⟩=some (.int .i64 (pk:Int)):=ac oz hH (by simpa using hbA);generalize ((((wd.setCell ⟨w.heap.size,0,none⟩ (.string ⟨#[]⟩)).setCell ⟨w.heap.size,1,none⟩ (.slice none 0 0)).setCell ⟨w.heap.size,2,none⟩ (.slice none 0 0)).setCell ⟨w.heap.size,3,none⟩ (.slice none 0 0)).setCell ⟨w.heap.size,4,none⟩ (.slice none 0 0)=wz at oz hz hcz⊢;refine hK.out _ _ hcz (fun hH=>?_);have HZ:=Hd hz;clear hK K hz hcz s0 s1 s2 s3 s4 gs0 gs1 gs2 gs3 gs4;refine tk 8 hH ?_;refine tk 9 hH ?_;refine wpAnyH_done (by kernel_rfl) ?_ _;clear hH;(go_wp2_with fail);(try simp only [Exit.inBlock,Exit.then]);refine bodyPost_ret (eB _ _ w.heap.size _ _ _ _ _ (.int .i64 8) (.int .i64 (pk:Int)) rfl rfl rfl HZ.out) rfl ?_;refine ⟨⟨#[]⟩,none,none,none,none,0,0,0,0,0,0,0,0,8,pk,rfl,fun k q e=>?_,fun d e=>?_,(HO03.out.trans HOd.out (by simp)).trans (T:=[w.heap.size]) oz (fun k hk=>.inr (by rw [List.mem_singleton.1 hk];exact Nat.le_refl _)),fun _ _ _=>rfl⟩
    ·rw [HRe.out] at e;cases e;exact ⟨rfl,HPK.out⟩
    ·rw [HRe.out] at e;cases e
end Go.Proofs.YtcebchffcmpfeaaGreat

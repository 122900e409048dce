import Derived.Test.YtheanmadognhbaaGreatDoorCbt
namespace Go.Proofs.YtheanmadognhbaaGreatDoor
set_option linter.unusedVariables false
set_option linter.unusedSimpArgs false
set_option maxRecDepth 100000
set_option maxHeartbeats 16000000
open Go.RowKit Go.Maps
def uz (l:Sec) (base:Nat) (v:Value) (c p:Int) (w':World):Prop:=
 (480 < l.length∧v=.slice none 0 0∧c=2∧p=0)∨
 (l.length≤480∧∃ q:Nat,lex l=.error q∧v=.slice none 0 0∧c=7∧p=q)∨
 (l.length≤480∧∃ ts,lex l=.ok ts∧c=0∧p=0∧OTk w' base v ts)
theorem rF (L:Sec):lex L=(fq 0 (L.drop 0)).map (([]:List Tok)++·):=by
 rw [tY,List.drop_zero];generalize fq 0 L=x;cases x<;>rfl
theorem all_dig (T:ByteArray) (w:World) (hs:T.size≤65536):Calls Tryz.prog 41 #[.string T,.string ⟨#[48,49,50,51,52,53,54,55,56,57]⟩] w fun e w'=>e=.returned (.bool (uu T.data.toList))∧w=w':=by
 have:=uh T ⟨digitsL.toArray⟩ w (by omega) (by decide)
 rwa [show (⟨digitsL.toArray⟩:ByteArray).data.toList=digitsL from rfl,rB] at this
theorem mT (s:ByteArray) (w:World) (hs:s.size≤9223372036854775807) (h:480 < s.size) :
  Calls Tryz.prog 19 #[.string s] w fun e w'=>∃ v c p,e=.returned (.tuple #[v,.int .i64 c,.int .i64 p])∧uz s.data.toList w.heap.size v c p w'∧Only [] w w':=by
 go_enter Tryz.func19,Tryz.ntmps19
 go_wp2
 go_ret3
 exact ⟨_,_,_,rfl,.inl ⟨by rw [aU];exact h,rfl,rfl,rfl⟩,Only.refl _ _⟩
theorem l7 (s:ByteArray) (w:World) (h:s.size≤480) :
    Calls Tryz.prog 19 #[.string s] w fun e w'=>∃ v c p,e=.returned (.tuple #[v,.int .i64 c,.int .i64 p])∧uz s.data.toList w.heap.size v c p w'∧Only [] w w':=by
  have HL0:=Hd (rF s.data.toList)
  go_enter Tryz.func19,Tryz.ntmps19
  go_wp2
  obtain ⟨wo,hwo⟩:∃ wo:World,wo=w:=⟨_,rfl⟩
  go_loopg [5,6] s.size (fun gk v5 a wr=>∃ (acc:List Tok) (k:Nat),a=.int .i64 k∧k≤s.size∧k+gk=s.size∧acc.length≤k∧Hid (lex s.data.toList=(fq k (s.data.toList.drop k)).map (acc++·))∧Hid (OTk wr wo.heap.size v5 acc)∧Hid (Only [] wo wr))
  case atStart=>exact ⟨[],0,rfl,Nat.zero_le _,by omega,Nat.zero_le _,HL0,Hd (OTk.nil _ _),Hd (by rw [hwo];exact Only.refl _ _)⟩
  case round=>
    clear HL0;obtain ⟨acc,k,rfl,hk,hkg,hak,HL,HW,HO⟩:=hrel
    by_cases hlt:k < s.size
    · have hb:=fX s k hlt
      by_cases hblk:eB s[k]=true
      · have HL2:Hid (lex s.data.toList=(fq (k+1) (s.data.toList.drop (k+1))).map (acc++·)):=Hd (by rw [HL.out,uy hb hblk])
        clear HL hb
        by_cases e1:s[k].toNat=32
        · have f1:((s[k].toNat:Int) == 32)=true:=by simp;omega
          clear e1 hblk;go_wp2_with fail
          go_roundg (s.size - (k+1))
          case measure=>omega
          case rel=>exact ⟨acc,k+1,by go_num,by omega,by omega,by omega,HL2,HW,HO⟩
        · have f1:((s[k].toNat:Int) == 32)=false:=by simp;omega
          by_cases e2:s[k].toNat=9
          · have f2:((s[k].toNat:Int) == 9)=true:=by simp;omega
            clear e1 e2 hblk;go_wp2_with fail
            go_roundg (s.size - (k+1))
            case measure=>omega
            case rel=>exact ⟨acc,k+1,by go_num,by omega,by omega,by omega,HL2,HW,HO⟩
          · have f2:((s[k].toNat:Int) == 9)=false:=by simp;omega
            have e3:s[k].toNat=10:=by simp [eB] at hblk;omega
            have f3:((s[k].toNat:Int) == 10)=true:=by simp;omega
            clear e1 e2 e3 hblk;go_wp2_with fail
            go_roundg (s.size - (k+1))
            case measure=>omega
            case rel=>exact ⟨acc,k+1,by go_num,by omega,by omega,by omega,HL2,HW,HO⟩
      · have hbf:eB s[k]=false:=by simpa using hblk
        have hn:s[k].toNat≠32∧s[k].toNat≠9∧s[k].toNat≠10:=by simp [eB] at hbf;omega
        have f1:((s[k].toNat:Int) == 32)=false:=by simp;omega
        have f2:((s[k].toNat:Int) == 9)=false:=by simp;omega
        have f3:((s[k].toNat:Int) == 10)=false:=by simp;omega
        by_cases e4:s[k].toNat=35
        · have f4:((s[k].toNat:Int) == 35)=true:=by simp;omega
          have hpos:=(kM hb e4).2;have hrl:=gY cj (s.data.toList.drop k);rw [List.length_drop,aU] at hrl;have HL2:Hid (lex s.data.toList=(fq (k+bO cj (s.data.toList.drop k)) (s.data.toList.drop (k+bO cj (s.data.toList.drop k)))).map (acc++·)):=Hd (by rw [HL.out,pb hb e4]);obtain ⟨m,hm⟩:∃ m,m=bO cj (s.data.toList.drop k):=⟨_,rfl⟩
          have hin:∀ j (hj:k+j < s.size),j < m→cj s[k+j]=true:=fun j hj hjm=>lO cj (s.data.toList.drop k) j _ (by rw [← hm];exact hjm) (by rw [List.getElem?_drop];exact fX s _ hj);have hout:∀ (hj:k+m < s.size),cj s[k+m]=false:=fun hj=>qr cj (s.data.toList.drop k) _ (by rw [← hm,List.getElem?_drop];exact fX s _ hj);rw [← hm] at hpos hrl HL2;have HIN:=Hd hin;have HOUT:=Hd hout;clear hin hout hm HL hb e4 hn hbf hblk;(go_wp2_with fail);obtain ⟨wi,hwi⟩:∃ wi:World,wi=wr:=⟨_,rfl⟩
          go_loopg [6] m (fun g2 a wq=>∃ j:Nat,a=.int .i64 (k+j:Nat)∧j+g2=m∧wq=wi)
          case atStart=>exact ⟨0,rfl,by omega,hwi.symm⟩
          case round=>
            obtain ⟨j,rfl,hjg,hwq⟩:=hrel;subst hwq;subst hwi
            by_cases hjm:j < m
            · have hj:k+j < s.size:=by omega
              have hr:=HIN.out j hj hjm;have fr:((s[k+j].toNat:Int) != 10)=true:=by
                simp [cj] at hr;simp;omega
              clear hr f1 f2 f3 f4;generalize hkj:k+j=kj at hj fr⊢;go_wp2_with fail
              go_roundg (m - (j+1))
              case measure=>omega
              case rel=>exact ⟨j+1,by rw [← hkj];go_num,by omega,rfl⟩
            · obtain rfl:j=m:=by omega
              clear f1 f2 f3 f4
              by_cases hend:k+j < s.size
              · have hr:=HOUT.out hend
                have fr:((s[k+j].toNat:Int) != 10)=false:=by
                  simp [cj] at hr;simp;omega
                clear hr;generalize hkj:k+j=kj at hend fr HL2⊢;go_wp2_with fail
                go_roundg (s.size - kj)
                case measure=>omega
                case rel=>exact ⟨acc,kj,rfl,by omega,by omega,by omega,HL2,HW,HO⟩
              · generalize hkj:k+j=kj at hend HL2⊢
                go_wp2_with fail
                go_roundg (s.size - kj)
                case measure=>omega
                case rel=>exact ⟨acc,kj,rfl,by omega,by omega,by omega,HL2,HW,HO⟩
        · have f4:((s[k].toNat:Int) == 35)=false:=by simp;omega
          obtain ⟨hltL,hcL⟩:=List.getElem?_eq_some_iff.1 hb;have hd:s.data.toList.drop k=s[k] :: s.data.toList.drop (k+1):=by rw [List.drop_eq_getElem_cons hltL,hcL]
          have hzl:=uv (s.data.toList.drop k);obtain ⟨z,hz⟩:∃ z,z=endN (s.data.toList.drop k):=⟨_,rfl⟩
          rw [← hz,List.length_drop,aU] at hzl;have habove:∀ e,z < e→e≤s.size - k→ft ((s.data.toList.drop k).take e)=false∧uu ((s.data.toList.drop k).take e)=false∧iJ ((s.data.toList.drop k).take e)=false:=fun e h1 h2=>by
            rw [hd];rw [hd] at hz;exact ux (by rw [← hd,List.length_drop,aU];exact h2) (by rw [← hz];exact h1)
          have hat:=end_at (c:=s[k]) (r:=s.data.toList.drop (k+1)) (z:=z) (by rw [← hd];exact hz);rw [← hd] at hat;have htok:=fun kd (hf:al (s.data.toList.drop k)=(kd,z)) (hz:z≠0)=>rE hb hbf e4 hf hz HL.out;have herr:=fun (hz:(al (s.data.toList.drop k)).2=0)=>(uf hb hbf e4 HL.out).1 hz;have HTOK:=Hd htok;have HERR:=Hd herr;have HAB:=Hd habove;have HAT:=Hd hat;have KL:=fun (e:Nat) (W:World)=>lU (s.extract k (k+e)) W;have hXd:∀ e,(s.extract k (k+e)).data.toList=(s.data.toList.drop k).take e:=fun e=>by rw [Lib.extract_data,Nat.add_sub_cancel_left]
          have HXD:=Hd hXd;clear htok herr habove hat hz hd hcL hltL hb hbf e4 hn hblk KL hXd HL;(go_wp2_with fail);clear f1 f2 f3 f4;obtain ⟨wi,hwi⟩:∃ wi:World,wi=wr:=⟨_,rfl⟩
          go_loopg [7] (s.size - k - z) (fun g2 a wq=>∃ e:Nat,a=.int .i64 (k+e:Nat)∧z+g2=e∧k+e≤s.size∧wq=wi)
          case atStart=>exact ⟨s.size - k,by congr 1;omega,by omega,by omega,hwi.symm⟩
          case round=>
            obtain ⟨e,rfl,hze,hes,hwq⟩:=hrel;subst hwq;subst hwi;have hsl:∀ W,(Instr.slice 9 (.string s) (some (.int .i64 k)) (some (.int .i64 (k+e:Nat))) none).run Tryz.prog W=.ok (.string (s.extract k (k+e))) W:=fun W=>by
              rw [run_slice_string W 9 s .i64 .i64 (k:Int) ((k+e:Nat):Int) Tryz.underlying9 (by omega) (by omega) (by omega)];rfl
            have hX:=HXD.out e;have hXs:(s.extract k (k+e)).size≤480:=by rw [← aU,hX,List.length_take,List.length_drop,aU];omega
            have K1:=fun W=>lU (s.extract k (k+e)) W (by omega);have K2:=fun W=>all_dig (s.extract k (k+e)) W (by omega);have K3:=fun W=>ut (s.extract k (k+e)) W (by omega);rw [hX] at K1 K2 K3
            by_cases hez:z < e
            · obtain ⟨b1,b2,b3⟩:=HAB.out e hez (by omega)
              rw [b1] at K1;rw [b2] at K2;rw [b3] at K3;clear b1 b2 b3 hX hXs;generalize s.extract k (k+e)=X at hsl K1 K2 K3;generalize hkj:k+e=ke at hsl hes⊢
              go_wp2_with (first
                | (go_at_call 40;refine (K1 _).mono ?_;rintro e w' ⟨rfl,rfl⟩)
                | (go_at_call 41;refine (K2 _).mono ?_;rintro e w' ⟨rfl,rfl⟩)
                | (go_at_call 42;refine (K3 _).mono ?_;rintro e w' ⟨rfl,rfl⟩))
              go_roundg (e - 1 - z)
              case measure=>omega
              case rel=>exact ⟨e - 1,by congr 1;omega,by omega,by omega,rfl⟩
            · obtain rfl:e=z:=by omega
              have KW:=fun W=>uk (s.extract k (k+e)) W (by omega);rw [hX] at KW;have hlz:((s.data.toList.drop k).take e).length=e:=by rw [List.length_take,List.length_drop,aU];omega
              have hXe:s.extract k (k+e)=ai ((s.data.toList.drop k).take e):=aJ.2 hX;have HXE:=Hd hXe;have KN:=fun (h0:e≠0) W=>oZ (s.extract k (k+e)) W (by omega) (by rw [← aU,hX,hlz];exact h0);rw [hX] at KN;have hwb:wordB ((s.data.toList.drop k).take e)=(ft ((s.data.toList.drop k).take e) && decide (e≤16)):=by unfold wordB;rw [hlz]
              rw [hwb] at KW;clear hwb hXe hX hez;rcases HAT.out with ⟨z0,hf⟩ | ⟨z0,b1,b2,b3,hx⟩ | ⟨z0,b1,b2,b3,hx⟩ | ⟨z0,b1,b2,b3,hf⟩
              · subst z0
                rw [List.take_zero] at K1 K2 K3 KW;rw [show ft ([]:Sec)=false from rfl] at K1 KW;rw [show iJ ([]:Sec)=false from rfl] at K3;rw [Bool.false_and] at KW;have HER:=Hd (HERR.out hf);generalize s.extract k (k+0)=X at hsl K1 K2 K3 KW;generalize hkj:k+0=ke at hsl hes⊢;have hkk:ke=k:=by omega
                subst hkk;clear HERR HTOK HAT HAB HXE HXD hf hlz
                go_wp2_with (first
                  | (go_at_call 40;refine (K1 _).mono ?_;rintro e w' ⟨rfl,rfl⟩)
                  | (go_at_call 41;refine (K2 _).mono ?_;rintro e w' ⟨rfl,rfl⟩)
                  | (go_at_call 42;refine (K3 _).mono ?_;rintro e w' ⟨rfl,rfl⟩)
                  | (go_at_call 43;refine (KW _).mono ?_;rintro e w' ⟨rfl,rfl⟩))
                go_ret3
                exact ⟨_,_,_,rfl,.inr (.inl ⟨by rw [aU];exact h,_,HER.out,rfl,rfl,rfl⟩),by rw [← hwo];exact HO.out.alloc _⟩
              · rw [b1] at K1 KW
                rw [b2] at K2;rw [b3] at K3;rw [Bool.true_and] at KW;have KN:=KN (by omega);clear b1 b2 b3;rcases hx with ⟨hx,hf⟩ | ⟨hx,hf⟩
                · rw [decide_eq_true hx] at KW
                  have HTK:=Hd (HTOK.out _ hf (by omega));generalize s.extract k (k+e)=X at hsl K1 K2 K3 KW KN HXE;generalize hkj:k+e=ke at hsl hes HTK⊢;have hkl:k < ke:=by omega
                  obtain ⟨t1,t2,t3⟩:=fY (wr.alloc (.cells #[.int .i64 1,.string X,.int .i64 k] 49)) 1 X k;rw [show (wr.alloc (.cells #[.int .i64 1,.string X,.int .i64 k] 49)).heap.size=wr.heap.size+1 by simp] at t1 t2 t3;have HT:=Hd (And.intro t1 (And.intro t2 t3));have o3:Only [] wr ((wr.alloc (.cells #[.int .i64 1,.string X,.int .i64 k] 49)).alloc (.cells #[.int .i64 1,.string X,.int .i64 k] 49)):=((Only.refl [] wr).alloc _).alloc _;have HW3:=Hd (HW.out.quiet o3);have HO3:=Hd (HO.out.trans o3 (by simp));clear t1 t2 t3 HW HO o3 HERR HTOK HAT HAB hf hlz HXD
                  go_wp2_with (first
                    | (go_at_call 40;refine (K1 _).mono ?_;rintro e w' ⟨rfl,rfl⟩)
                    | (go_at_call 41;refine (K2 _).mono ?_;rintro e w' ⟨rfl,rfl⟩)
                    | (go_at_call 42;refine (K3 _).mono ?_;rintro e w' ⟨rfl,rfl⟩)
                    | (go_at_call 43;refine (KW _).mono ?_;rintro e w' ⟨rfl,rfl⟩)
                    | (go_at_call 44;refine (KN _).mono ?_;rintro e w' ⟨rfl,rfl⟩)
                    | (refine bP rfl (.tmp 113) (.tmp 115) rfl wo.heap.size _ acc (by rfl) HW3.out (wr.heap.size+1) 1 (by rfl) ⟨1,(s.data.toList.drop k).take e,k⟩ HT.out.1 (by rw [HT.out.2.1,HXE.out]) HT.out.2.2 (by omega) HO3.out.size ?_
                       intro v6 w4 hown4 ho4;have HW4:=Hd hown4;have HO4:=Hd (show Only [] wo w4 from HO3.out.trans ho4 (fun g hg=>.inr (HW3.out.lt (by simpa using hg)).1))
                       clear hown4 ho4))
                  go_roundg (s.size - ke)
                  case measure=>omega
                  case rel=>exact ⟨acc++[⟨1,(s.data.toList.drop k).take e,k⟩],ke,rfl,by omega,by omega,by simp;omega,HTK,HW4,HO4⟩
                · rw [decide_eq_false (by omega)] at KW
                  have HER:=Hd (HERR.out hf);generalize s.extract k (k+e)=X at hsl K1 K2 K3 KW KN;generalize hkj:k+e=ke at hsl hes⊢;have hkl:k < ke:=by omega
                  clear HERR HTOK HAT HAB HXE HXD hf hlz
                  go_wp2_with (first
                    | (go_at_call 40;refine (K1 _).mono ?_;rintro e w' ⟨rfl,rfl⟩)
                    | (go_at_call 41;refine (K2 _).mono ?_;rintro e w' ⟨rfl,rfl⟩)
                    | (go_at_call 42;refine (K3 _).mono ?_;rintro e w' ⟨rfl,rfl⟩)
                    | (go_at_call 43;refine (KW _).mono ?_;rintro e w' ⟨rfl,rfl⟩))
                  go_ret3
                  exact ⟨_,_,_,rfl,.inr (.inl ⟨by rw [aU];exact h,_,HER.out,rfl,rfl,rfl⟩),by rw [← hwo];exact HO.out.alloc _⟩
              · rw [b1] at K1 KW
                rw [b2] at K2;rw [b3] at K3;rw [Bool.false_and] at KW;have KN:=KN (by omega);clear b1 b2 b3;rcases hx with ⟨hx,hf⟩ | ⟨hx,hf⟩
                · rw [hx] at KN
                  have HTK:=Hd (HTOK.out _ hf (by omega));generalize s.extract k (k+e)=X at hsl K1 K2 K3 KW KN HXE;generalize hkj:k+e=ke at hsl hes HTK⊢;have hkl:k < ke:=by omega
                  obtain ⟨t1,t2,t3⟩:=fY (wr.alloc (.cells #[.int .i64 2,.string X,.int .i64 k] 49)) 2 X k;rw [show (wr.alloc (.cells #[.int .i64 2,.string X,.int .i64 k] 49)).heap.size=wr.heap.size+1 by simp] at t1 t2 t3;have HT:=Hd (And.intro t1 (And.intro t2 t3));have o3:Only [] wr ((wr.alloc (.cells #[.int .i64 2,.string X,.int .i64 k] 49)).alloc (.cells #[.int .i64 2,.string X,.int .i64 k] 49)):=((Only.refl [] wr).alloc _).alloc _;have HW3:=Hd (HW.out.quiet o3);have HO3:=Hd (HO.out.trans o3 (by simp));clear t1 t2 t3 HW HO o3 HERR HTOK HAT HAB hf hlz HXD
                  go_wp2_with (first
                    | (go_at_call 40;refine (K1 _).mono ?_;rintro e w' ⟨rfl,rfl⟩)
                    | (go_at_call 41;refine (K2 _).mono ?_;rintro e w' ⟨rfl,rfl⟩)
                    | (go_at_call 42;refine (K3 _).mono ?_;rintro e w' ⟨rfl,rfl⟩)
                    | (go_at_call 43;refine (KW _).mono ?_;rintro e w' ⟨rfl,rfl⟩)
                    | (go_at_call 44;refine (KN _).mono ?_;rintro e w' ⟨rfl,rfl⟩)
                    | (refine bP rfl (.tmp 113) (.tmp 115) rfl wo.heap.size _ acc (by rfl) HW3.out (wr.heap.size+1) 1 (by rfl) ⟨2,(s.data.toList.drop k).take e,k⟩ HT.out.1 (by rw [HT.out.2.1,HXE.out]) HT.out.2.2 (by omega) HO3.out.size ?_
                       intro v6 w4 hown4 ho4;have HW4:=Hd hown4;have HO4:=Hd (show Only [] wo w4 from HO3.out.trans ho4 (fun g hg=>.inr (HW3.out.lt (by simpa using hg)).1))
                       clear hown4 ho4))
                  go_roundg (s.size - ke)
                  case measure=>omega
                  case rel=>exact ⟨acc++[⟨2,(s.data.toList.drop k).take e,k⟩],ke,rfl,by omega,by omega,by simp;omega,HTK,HW4,HO4⟩
                · rw [hx] at KN
                  have HER:=Hd (HERR.out hf);generalize s.extract k (k+e)=X at hsl K1 K2 K3 KW KN;generalize hkj:k+e=ke at hsl hes⊢;have hkl:k < ke:=by omega
                  clear HERR HTOK HAT HAB HXE HXD hf hlz hx
                  go_wp2_with (first
                    | (go_at_call 40;refine (K1 _).mono ?_;rintro e w' ⟨rfl,rfl⟩)
                    | (go_at_call 41;refine (K2 _).mono ?_;rintro e w' ⟨rfl,rfl⟩)
                    | (go_at_call 42;refine (K3 _).mono ?_;rintro e w' ⟨rfl,rfl⟩)
                    | (go_at_call 43;refine (KW _).mono ?_;rintro e w' ⟨rfl,rfl⟩) | (go_at_call 44;refine (KN _).mono ?_;rintro e w' ⟨rfl,rfl⟩))
                  go_ret3
                  exact ⟨_,_,_,rfl,.inr (.inl ⟨by rw [aU];exact h,_,HER.out,rfl,rfl,rfl⟩),by rw [← hwo];exact HO.out.alloc _⟩
              · rw [b1] at K1 KW
                rw [b2] at K2;rw [b3] at K3;rw [Bool.false_and] at KW;have KN:=KN (by omega);clear b1 b2 b3;have HTK:=Hd (HTOK.out _ hf (by omega));generalize s.extract k (k+e)=X at hsl K1 K2 K3 KW KN HXE;generalize hkj:k+e=ke at hsl hes HTK⊢;have hkl:k < ke:=by omega
                obtain ⟨t1,t2,t3⟩:=fY (wr.alloc (.cells #[.int .i64 3,.string X,.int .i64 k] 49)) 3 X k;rw [show (wr.alloc (.cells #[.int .i64 3,.string X,.int .i64 k] 49)).heap.size=wr.heap.size+1 by simp] at t1 t2 t3;have HT:=Hd (And.intro t1 (And.intro t2 t3));have o3:Only [] wr ((wr.alloc (.cells #[.int .i64 3,.string X,.int .i64 k] 49)).alloc (.cells #[.int .i64 3,.string X,.int .i64 k] 49)):=((Only.refl [] wr).alloc _).alloc _;have HW3:=Hd (HW.out.quiet o3);have HO3:=Hd (HO.out.trans o3 (by simp));clear t1 t2 t3 HW HO o3 HERR HTOK HAT HAB hf hlz HXD
                go_wp2_with (first
                  | (go_at_call 40;refine (K1 _).mono ?_;rintro e w' ⟨rfl,rfl⟩)
                  | (go_at_call 41;refine (K2 _).mono ?_;rintro e w' ⟨rfl,rfl⟩)
                  | (go_at_call 42;refine (K3 _).mono ?_;rintro e w' ⟨rfl,rfl⟩)
                  | (go_at_call 43;refine (KW _).mono ?_;rintro e w' ⟨rfl,rfl⟩)
                  | (go_at_call 44;refine (KN _).mono ?_;rintro e w' ⟨rfl,rfl⟩)
                  | (refine bP rfl (.tmp 113) (.tmp 115) rfl wo.heap.size _ acc (by rfl) HW3.out (wr.heap.size+1) 1 (by rfl) ⟨3,(s.data.toList.drop k).take e,k⟩ HT.out.1 (by rw [HT.out.2.1,HXE.out]) HT.out.2.2 (by omega) HO3.out.size ?_
                     intro v6 w4 hown4 ho4;have HW4:=Hd hown4;have HO4:=Hd (show Only [] wo w4 from HO3.out.trans ho4 (fun g hg=>.inr (HW3.out.lt (by simpa using hg)).1))
                     clear hown4 ho4))
                go_roundg (s.size - ke)
                case measure=>omega
                case rel=>exact ⟨acc++[⟨3,(s.data.toList.drop k).take e,k⟩],ke,rfl,by omega,by omega,by simp;omega,HTK,HW4,HO4⟩
    · obtain rfl:k=s.size:=by omega
      have hend:lex s.data.toList=.ok (acc++[⟨4,[],s.size⟩]):=by
        rw [HL.out,List.drop_of_length_le (by rw [aU];exact Nat.le_refl _),lQ];rfl
      have HEND:=Hd hend;obtain ⟨t1,t2,t3⟩:=fY wr 4 ⟨#[]⟩ s.size;have HT:=Hd (And.intro t1 (And.intro t2 t3));have o3:Only [] wr (wr.alloc (.cells #[.int .i64 4,.string ⟨#[]⟩,.int .i64 s.size] 49)):=(Only.refl [] wr).alloc _;have HW3:=Hd (HW.out.quiet o3);have HO3:=Hd (HO.out.trans o3 (by simp));clear t1 t2 t3 HW HO o3 hend HL
      go_wp2_with (
        refine bP rfl (.tmp 118) (.tmp 122) rfl wo.heap.size _ acc (by rfl) HW3.out wr.heap.size 1 (by rfl) ⟨4,[],s.size⟩ HT.out.1 HT.out.2.1 HT.out.2.2 (by omega) HO3.out.size ?_;intro v6 w4 hown4 ho4;have HW4:=Hd hown4;have HO4:=Hd (show Only [] wo w4 from HO3.out.trans ho4 (fun g hg=>.inr (HW3.out.lt (by simpa using hg)).1))
        clear hown4 ho4)
      go_ret3
      exact ⟨_,_,_,rfl,.inr (.inr ⟨by rw [aU];exact h,_,HEND.out,rfl,rfl,by rw [← hwo];exact HW4.out⟩),by rw [← hwo];exact HO4.out⟩
theorem pd (s:ByteArray) (w:World) (hs:s.size≤9223372036854775807) :
  Calls Tryz.prog 19 #[.string s] w fun e w'=>∃ v c p,e=.returned (.tuple #[v,.int .i64 c,.int .i64 p])∧uz s.data.toList w.heap.size v c p w'∧Only [] w w':=by
 by_cases h:s.size≤480
 ·exact l7 s w h
 ·exact mT s w hs (by omega)
theorem qw:∀ (n at_:Nat) (l:Sec) (ts:List Tok),kL n at_ l=.ok ts→ts.length≤n+1
 | 0,at_,l,ts,h=>by
  simp only [kL,Except.ok.injEq] at h;rw [← h];simp
 | n+1,at_,l,ts,h=>by
  simp only [kL] at h;split at h
  ·simp only [Except.ok.injEq] at h;rw [← h];simp
  ·split at h
   ·cases h
   ·cases hx:kL n (at_+(al l).2+br false (l.drop (al l).2)) (l.drop ((al l).2+br false (l.drop (al l).2))) with
    | error e=>
     rw [hx] at h;cases h
    | ok us=>
     rw [hx] at h;have ih:=qw n _ _ us hx;have e:ts=⟨(al l).1,l.take (al l).2,at_⟩ :: us:=by
      have h':(Except.ok (⟨(al l).1,l.take (al l).2,at_⟩ :: us):Except Nat (List Tok))=.ok ts:=h;exact (Except.ok.inj h').symm
     rw [e,List.length_cons];omega
theorem uA {l:Sec} {ts:List Tok} (h:lex l=.ok ts):ts.length≤l.length+2:=qw _ _ _ _ h
end Go.Proofs.YtheanmadognhbaaGreatDoor

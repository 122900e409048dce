/- Layer 11: with other names in their place an operation's code is the same. -/
import Derived.Test.YtheanmadognhbaaGreatDoorYar
import Derived.Test.YtheanmadognhbaaGreatDoorH26r
import Derived.Test.YtheanmadognhbaaGreatDoorH21r
import Derived.Test.YtheanmadognhbaaGreatDoorUcr
import Derived.Test.YtheanmadognhbaaGreatDoorHCLr
namespace Go.Proofs.YtheanmadognhbaaGreatDoor
open Go.ChangeShapes Go.WideShapes Go.ChangeAt Go.RowKit Go.Maps
open Go.ChangeMaps (open_string shut_string)
set_option linter.unusedSimpArgs false
set_option linter.unusedVariables false
abbrev F1:Nat→Sec:=fun _=>[32]
theorem jb_len2 {ts:List Tok} {M:Nat} (h:∀ t∈ts,t.text.length≤M):∀ i,(jb F1 ts i).length≤i*(M+1)
 | 0=>by simp [jb]
 | i+1=>by
  have ih:=jb_len2 h i
  have h2:((ts[i]?.map Tok.text).getD []).length≤M:=by
   cases e:ts[i]? with
   | none=>simp
   | some t=>simpa using h t (List.mem_of_getElem? e)
  show (jb F1 ts i++(((ts[i]?.map Tok.text).getD [])++[32])).length≤_
  rw [List.length_append,List.length_append,List.length_singleton,Nat.succ_mul]
  omega
theorem rnT_len (t:Tok):t.text.length≤(rnT qn t).text.length∧(rnT qn t).text.length≤t.text.length+2:=by
 unfold rnT qn
 split
 ·dsimp only
  split<;>(simp;try omega)
 ·simp
theorem parseS_ok {l:Sec} {d:Df} (h:parseS l=.ok d):l.length≤480∧∃ ts,lex l=.ok ts∧parseR ts=.ok d:=by
 unfold parseS at h
 split at h
 ·cases h
 ·cases e1:lex l with
  | error q=>rw [e1] at h;cases h
  | ok ts=>
   rw [e1] at h
   dsimp only at h
   cases e2:parseR ts with
   | error q=>rw [e2] at h;cases h
   | ok d'=>
    rw [e2] at h
    cases h
    exact ⟨by omega,ts,rfl,e2⟩
theorem strOf_l (l:Sec):(strOf l).data.toList=l:=by simp [strOf]
def ktT (x:Nat×Sec):Nat×Sec:=(x.1,if x.1=1 then qn x.2 else x.2)
theorem rn_kt (l:List Tok):(l.map (rnT qn)).map (fun t=>(t.kind,t.text))=(l.map (fun t=>(t.kind,t.text))).map ktT:=by
 rw [List.map_map,List.map_map]
 refine List.map_congr_left fun t _=>?_
 show ((rnT qn t).kind,(rnT qn t).text)=ktT (t.kind,t.text)
 unfold rnT ktT
 by_cases h:t.kind=1
 ·rw [if_pos h,if_pos h]
 ·rw [if_neg h,if_neg h]
theorem names_same {ts:List Tok} (hc:Chain ts) (hc2:Chain (ts.map (rnT qn))) {J O:ByteArray} (hJ:J=strOf (jb F1 ts ts.length)) (hO:O=strOf (jb F1 (ts.map (rnT qn)) ts.length)) (h480:O.size≤480) {da:Df} (hp:parseS J.data.toList=.ok da) :
    ∃ db,parseS O.data.toList=.ok db∧codeOf db=codeOf da:=by
  have lJ:J.data.toList=jn F1 ts 0:=by rw [hJ,strOf_l,jb_all]
  have lO:O.data.toList=jn F1 (ts.map (rnT qn)) 0:=by rw [hO,strOf_l,show ts.length=(ts.map (rnT qn)).length by rw [List.length_map],jb_all]
  obtain ⟨ta,a1,a2⟩:=join_lex F1 (fun _=>.inl rfl) ts 0 0 hc
  obtain ⟨tb,b1,b2⟩:=join_lex F1 (fun _=>.inl rfl) (ts.map (rnT qn)) 0 0 hc2
  rw [← lJ,← lex_eq] at a1
  rw [← lO,← lex_eq] at b1
  obtain ⟨-,ta',e1,e2⟩:=parseS_ok hp
  rw [a1] at e1
  obtain rfl:ta=ta':=by injection e1
  have hca:=lex_chain a1
  have htr:TR qn ta tb:=tr_of_map hca (by rw [b2,rn_kt,rn_kt,a2])
  obtain ⟨db,h3,h4⟩:=parseR_same ren_qn htr e2
  have hq:parseS O.data.toList=.ok db:=by
    unfold parseS
    rw [if_neg (by have:O.data.toList.length=O.size:=by rw [hO,strOf_l,strOf_len]
                   omega),b1]
    dsimp only
    rw [h3]
  exact ⟨db,hq,codeOf_ren ren_qn h4 (parse_inc hp) (parse_inc hq)⟩
theorem genD_len {d:Df} (hw:Whole d):(genD d).ins.length≤10000:=by
 unfold genD genC
 dsimp only
 have h1:=needG_len (refV (locN d) (kindN 8 d)) d.needs
 have h2:=giveG_len (refV (locN d) (kindN 8 d)) d.give
 have h3:=(genB_len (refV (locN d) (kindN 8 d)) d.body (needG (refV (locN d) (kindN 8 d)) d.needs).length []).1
 have h4:=hw.size
 rw [List.length_append,List.length_append]
 omega
theorem genD_lps {d:Df} (hw:Whole d):(genD d).loops.length≤10000:=by
 unfold genD genC
 dsimp only
 have h3:=(genB_len (refV (locN d) (kindN 8 d)) d.body (needG (refV (locN d) (kindN 8 d)) d.needs).length []).2
 have h4:=hw.size
 rw [List.length_nil] at h3
 omega
set_option maxRecDepth 100000 in
set_option maxHeartbeats 8000000 in
theorem codeNames_walk (s:ByteArray) (w:World) (hs:s.size≤maxLen) (ht:Tab w):Calls Tryz.prog 6 #[.string s] w fun e w'=>e=.returned (.bool true)∧Only [] w w':=by
 unfold maxLen at hs
 have HNC:=Hd names_any
 have KA:=alive11_any HNC.out w ht
 clear ht
 go_enter Tryz.func6,Tryz.ntmps6
 go_wp2_with fail
 refine KA.mono ?_
 rintro e w1 ⟨rfl,o1⟩
 have HO:=Hd o1
 clear o1 KA
 have K1:=RTokens_any s w1 (by omega)
 go_wp2_with fail
 refine K1.mono ?_
 rintro e w2 ⟨v,cT,pT,rfl,hr,o2⟩
 replace HO:=Hd (HO.out.trans o2 (by simp))
 have HR0:=Hd hr
 clear K1 o2 hr
 rcases Bool.eq_false_or_eq_true (cT != 0) with hc | hc
 ·go_wp2_with fail
  go_ret
  exact ⟨rfl,HO.out⟩
 ·obtain ⟨h480,ts,hlex,rfl,rfl,hown⟩:s.data.toList.length≤480∧∃ ts,lex s.data.toList=.ok ts∧cT=0∧pT=0∧OTk w2 w1.heap.size v ts:=by
   rcases HR0.out with ⟨hl,h1,h2,-⟩ | ⟨h1,q,he,h2,h3,-⟩ | ⟨h1,ts',he,h2,h3,hown⟩
   ·rw [h2] at hc;simp at hc
   ·rw [h3] at hc;simp at hc
   ·exact ⟨h1,ts',he,h2,h3,hown⟩
  have he:True:=trivial
  have HCH:=Hd (lex_chain hlex)
  have htx:=(chain_lex _ 0 s.data.toList ts (Nat.le_refl _) (by rw [← lex_eq];exact hlex)).2
  have HTXT:Hid (∀ t∈ts,t.text.length≤480):=Hd (fun t ht=>by have:=htx t ht;omega)
  have HT:=Hd hown.tv
  have hlen:=lex_len hlex
  obtain ⟨a,cap,hv,hcap,-⟩:=HT.out
  obtain rfl:=hv
  obtain ⟨n,hn⟩:∃ n,n=ts.length:=⟨_,rfl⟩
  rw [← hn] at hlen hcap⊢
  rw [← hn] at HT
  have HN:=Hd hn
  have hn1:n≤482:=by omega
  clear HR0 htx hlex he hown hn
  go_wp2_with fail
  obtain ⟨wo,hwo⟩:∃ wo:World,wo=w2:=⟨_,rfl⟩
  go_loopw [6,7,30] (fun a10 a11 a44 wr=>∃ (i:Nat) (J O:ByteArray),a44=.int .i64 i∧a10=.string J∧a11=.string O∧i≤n∧Hid (J=strOf (jb F1 ts i))∧Hid (O=strOf (jb F1 (ts.map (rnT qn)) i))∧Hid (Only [] wo wr)∧Hid (∀ (j:Nat) t,j < i→ts[j]?=some t→t.kind=1→t.text∉kws→t.text.length≤13)) (fun _ _ i _=>n - (intOf i).toNat)
  case atStart=>exact ⟨0,_,_,rfl,rfl,rfl,Nat.zero_le _,Hd rfl,Hd rfl,Hd (by rw [hwo];exact Only.refl _ _),Hd (fun j t h=>by omega)⟩
  case round=>
   obtain ⟨i,J,O,rfl,rfl,rfl,hi,HJ,HQ,HW,H13⟩:=hrel
   by_cases hlt:i < n
   ·obtain ⟨t,ht⟩:∃ t,ts[i]?=some t:=⟨_,List.getElem?_eq_getElem (by rw [← HN.out];exact hlt)⟩
    obtain ⟨b1,d1,e1,-,p1,p2,p3⟩:=(HT.out.quiet (by rw [← hwo];exact HW.out)).at_ ht
    injection e1 with e1 e1' e1''
    subst e1
    obtain ⟨T,hT⟩:∃ T,T=strOf t.text:=⟨_,rfl⟩
    rw [← hT] at p2
    have hi0:0≤(i:Int):=by omega
    have hin:(i:Int) < (n:Int):=by omega
    have htl:=HTXT.out t (List.mem_of_getElem? ht)
    have htz:T.size=t.text.length:=by rw [hT,strOf_len]
    have hjl:=jb_len2 (M:=480) HTXT.out i
    have hql:=jb_len2 (ts:=ts.map (rnT qn)) (M:=482) (fun x hx=>by
     obtain ⟨y,hy,rfl⟩:=List.mem_map.1 hx
     have:=HTXT.out y hy
     have:=(rnT_len y).2
     omega) i
    have hjs:=jb_succ (f:=F1) ht
    have hqs:=jb_succ (f:=F1) (show (ts.map (rnT qn))[i]?=some (rnT qn t) by rw [List.getElem?_map,ht];rfl)
    have ha1:=fun W=>add_str (a:=t.text) (b:=[32]) (c:=t.text++[32]) rfl (by rw [List.length_append,List.length_singleton];omega) (A:=T) (B:=⟨#[32]⟩) hT rfl rfl W
    have ha2:=fun W=>add_str (a:=jb F1 ts i) (b:=t.text++[32]) (c:=jb F1 ts (i+1)) hjs.symm (by rw [hjs,List.length_append,List.length_append,List.length_singleton];omega) (A:=J) (B:=strOf (t.text++[32])) HJ.out rfl rfl W
    generalize hJ2:strOf (jb F1 ts (i+1))=J2 at ha2
    have HJ2:=Hd hJ2.symm
    have HTX:=Hd hT
    have HTT:=Hd ht
    clear hJ2 hjs hT e1' e1''
    go_upto_region 10 with (fail)
    have o6:=(Only.refl [] wr).alloc (.cells #[.int .i64 t.kind,.string T,.int .i64 t.pos] 49)
    have hK:=heap_new wr (.cells #[.int .i64 t.kind,.string T,.int .i64 t.pos] 49)
    obtain ⟨gt,hgt⟩:∃ g,g=wr.heap.size:=⟨_,rfl⟩
    rw [← hgt] at hK⊢
    generalize wr.alloc (.cells #[.int .i64 t.kind,.string T,.int .i64 t.pos] 49)=w6 at o6 hK⊢
    have HW6:=Hd (HW.out.trans o6 (by simp))
    have r0:w6.cell? ⟨gt,0,none⟩=some (.int .i64 t.kind):=cell_at 0 hK
    have r1:w6.cell? ⟨gt,1,none⟩=some (.string T):=cell_at 1 hK
    clear o6 hK hgt p1 p2 p3
    by_cases hk:t.kind=1
    ·have hk':((t.kind:Int) == 1)=true:=by simp [hk]
     have K5:=RKeyword_any T w6
     by_cases hkw:t.text∈kws
     ·rw [show kws.contains T.data.toList=true by rw [HTX.out,strOf_l];simpa using hkw] at K5
      have hrn:(rnT qn t).text=t.text:=by unfold rnT;rw [if_pos hk];exact qn_key hkw
      rw [hrn] at hqs
      have ha3:=fun W=>add_str (a:=jb F1 (ts.map (rnT qn)) i) (b:=t.text++[32]) (c:=jb F1 (ts.map (rnT qn)) (i+1)) hqs.symm (by rw [hqs,List.length_append,List.length_append,List.length_singleton];omega) (A:=O) (B:=strOf (t.text++[32])) HQ.out rfl rfl W
      generalize hQ2:strOf (jb F1 (ts.map (rnT qn)) (i+1))=O2 at ha3
      have HQ2:=Hd hQ2.symm
      generalize strOf (t.text++[32])=M at ha1 ha2 ha3
      have H132:Hid (∀ (j:Nat) x,j < i+1→ts[j]?=some x→x.kind=1→x.text∉kws→x.text.length≤13):=Hd (fun j x hj hx h1 h2=>by
       by_cases e:j=i
       ·subst e;rw [HTT.out] at hx;cases hx;exact absurd hkw h2
       ·exact H13.out j x (by omega) hx h1 h2)
      clear hQ2 hqs hrn hjl hql ht
      go_wp2_with fail
      refine K5.mono ?_
      rintro e w7 ⟨rfl,rfl⟩
      go_wp2_with fail
      go_roundw
      case rel=>exact ⟨i+1,J2,O2,by go_num,rfl,rfl,by omega,HJ2,HQ2,HW6,H132⟩
      case measure=>simp [intOf];omega
     ·rw [show kws.contains T.data.toList=false by rw [HTX.out,strOf_l];simpa using hkw] at K5
      by_cases h13:13 < T.size
      ·have h13':(13:Int) < (T.size:Int):=by omega
       generalize strOf (t.text++[32])=M at ha1 ha2
       have HOf:=Hd (HO.out.trans (show Only [] w2 w6 by rw [← hwo];exact HW6.out) (by simp))
       clear hqs hjl hql ht
       go_wp2_with fail
       refine K5.mono ?_
       rintro e w7 ⟨rfl,rfl⟩
       go_wp2_with fail
       go_ret
       exact ⟨rfl,HOf.out⟩
      ·have h13':¬ (13:Int) < (T.size:Int):=by omega
       have hrn:(rnT qn t).text=[81,95]++t.text:=by unfold rnT;rw [if_pos hk];exact qn_new hkw
       rw [hrn] at hqs
       have ha3:=fun W=>add_str (a:=[81,95]) (b:=t.text) (c:=[81,95]++t.text) rfl (by rw [List.length_append,show ([81,95]:Sec).length=2 from rfl];omega) (A:=⟨#[81,95]⟩) (B:=T) rfl HTX.out rfl W
       have ha4:=fun W=>add_str (a:=[81,95]++t.text) (b:=[32]) (c:=[81,95]++t.text++[32]) rfl (by rw [List.length_append,List.length_append,show ([81,95]:Sec).length=2 from rfl,List.length_singleton];omega) (A:=strOf ([81,95]++t.text)) (B:=⟨#[32]⟩) rfl rfl rfl W
       have ha5:=fun W=>add_str (a:=jb F1 (ts.map (rnT qn)) i) (b:=[81,95]++t.text++[32]) (c:=jb F1 (ts.map (rnT qn)) (i+1)) hqs.symm (by rw [hqs,List.length_append,List.length_append,List.length_append,show ([81,95]:Sec).length=2 from rfl,List.length_singleton];omega) (A:=O) (B:=strOf ([81,95]++t.text++[32])) HQ.out rfl rfl W
       generalize hQ2:strOf (jb F1 (ts.map (rnT qn)) (i+1))=O2 at ha5
       have HQ2:=Hd hQ2.symm
       generalize strOf (t.text++[32])=M at ha1 ha2
       generalize strOf ([81,95]++t.text++[32])=M3 at ha4 ha5
       generalize strOf ([81,95]++t.text)=M2 at ha3 ha4
       have H132:Hid (∀ (j:Nat) x,j < i+1→ts[j]?=some x→x.kind=1→x.text∉kws→x.text.length≤13):=Hd (fun j x hj hx h1 h2=>by
        by_cases e:j=i
        ·subst e;rw [HTT.out] at hx;cases hx;omega
        ·exact H13.out j x (by omega) hx h1 h2)
       clear hQ2 hqs hrn hjl hql ht
       go_wp2_with fail
       refine K5.mono ?_
       rintro e w7 ⟨rfl,rfl⟩
       go_wp2_with fail
       go_roundw
       case rel=>exact ⟨i+1,J2,O2,by go_num,rfl,rfl,by omega,HJ2,HQ2,HW6,H132⟩
       case measure=>simp [intOf];omega
    ·have hk':((t.kind:Int) == 1)=false:=by simp;omega
     have hrn:(rnT qn t).text=t.text:=by unfold rnT;rw [if_neg hk]
     rw [hrn] at hqs
     have ha3:=fun W=>add_str (a:=jb F1 (ts.map (rnT qn)) i) (b:=t.text++[32]) (c:=jb F1 (ts.map (rnT qn)) (i+1)) hqs.symm (by rw [hqs,List.length_append,List.length_append,List.length_singleton];omega) (A:=O) (B:=strOf (t.text++[32])) HQ.out rfl rfl W
     generalize hQ2:strOf (jb F1 (ts.map (rnT qn)) (i+1))=O2 at ha3
     have HQ2:=Hd hQ2.symm
     generalize strOf (t.text++[32])=M at ha1 ha2 ha3
     have H132:Hid (∀ (j:Nat) x,j < i+1→ts[j]?=some x→x.kind=1→x.text∉kws→x.text.length≤13):=Hd (fun j x hj hx h1 h2=>by
      by_cases e:j=i
      ·subst e;rw [HTT.out] at hx;cases hx;exact absurd h1 hk
      ·exact H13.out j x (by omega) hx h1 h2)
     clear hQ2 hqs hrn hjl hql ht
     go_wp2_with fail
     go_roundw
     case rel=>exact ⟨i+1,J2,O2,by go_num,rfl,rfl,by omega,HJ2,HQ2,HW6,H132⟩
     case measure=>simp [intOf];omega
   ·obtain rfl:i=n:=by omega
    have hge:¬ (i:Int) < (i:Int):=by omega
    have HOr:=Hd (HO.out.trans (show Only [] w2 wr by rw [← hwo];exact HW.out) (by simp))
    clear HO HT
    have HO:=HOr
    have hJ:=HJ.out
    have hO:=HQ.out
    rw [HN.out] at hO hJ
    have hc2:Chain (ts.map (rnT qn)):=chain_ren ts HCH.out (fun t ht h1 h2=>by
     obtain ⟨j,hj,e⟩:=List.getElem_of_mem ht
     exact H13.out j t (by rw [HN.out];exact hj) (by rw [List.getElem?_eq_getElem hj,e]) h1 h2)
    have HSAME:=Hd (fun (da:Df) h4 hp=>names_same HCH.out hc2 hJ hO (da:=da) h4 hp)
    have hbs:J.size≤9223372036854775807∧O.size≤9223372036854775807:=by
     have hjl:=jb_len2 (M:=480) HTXT.out i
     have hql:=jb_len2 (ts:=ts.map (rnT qn)) (M:=482) (fun x hx=>by
      obtain ⟨y,hy,rfl⟩:=List.mem_map.1 hx
      have:=HTXT.out y hy
      have:=(rnT_len y).2
      omega) i
     rw [HJ.out,HQ.out,strOf_len,strOf_len]
     omega
    have KP:=parsedF_any J wr hbs.1
    have HKB:=Hd (fun W=>parsedF_any O W hbs.2)
    obtain ⟨R1,hR1⟩:∃ R,R=pdF (parseS J.data.toList):=⟨_,rfl⟩
    obtain ⟨R2,hR2⟩:∃ R,R=pdF (parseS O.data.toList):=⟨_,rfl⟩
    rw [← hR1] at KP
    rw [← hR2] at HKB
    have HR1:=Hd hR1.symm
    have HR2:=Hd hR2.symm
    obtain ⟨n5,hn5⟩:∃ n,n=O.size:=⟨_,rfl⟩
    have HN5:=Hd hn5
    clear hJ hO hc2 hbs hR1 hR2 hn5 HJ HQ HW H13 HTXT HCH HOr hge
    go_wp2_with fail
    refine KP.mono ?_
    rintro e wra ⟨sn1,a11,a21,a31,a41,l11,l21,l31,l41,c11,c21,c31,c41,rfl,hok,o1⟩
    replace HO:=Hd (HO.out.trans o1 (by simp))
    (try replace HDV1:=Hd (HDV1.out.kept o1 (by simp) (fun _ h=>h)))
    (try replace HDV2:=Hd (HDV2.out.kept o1 (by simp) (fun _ h=>h)))
    (try replace HA1:=Hd (o1.heap HA1.out (by simp)))
    (try replace HA2:=Hd (o1.heap HA2.out (by simp)))
    (try replace HV1:=Hd (HV1.out.quiet o1))
    (try replace HV2:=Hd (HV2.out.quiet o1))
    (try replace HU1:=Hd (HU1.out.quiet o1))
    (try replace HU2:=Hd (HU2.out.quiet o1))
    (try replace HC1:=Hd (o1.heap HC1.out (by simp)))
    (try replace HC2:=Hd (o1.heap HC2.out (by simp)))
    cases R1 with
    | none=>
     clear KP hok o1
     go_upto_region 18 with (fail)
     have oA:=(Only.refl [] wra).alloc (.cells #[.string sn1,.slice a11 l11 c11,.slice a21 l21 c21,.slice a31 l31 c31,.slice a41 l41 c41] 27)
     have hA:=heap_new wra (.cells #[.string sn1,.slice a11 l11 c11,.slice a21 l21 c21,.slice a31 l31 c31,.slice a41 l41 c41] 27)
     obtain ⟨gd1,hgd⟩:∃ g,g=wra.heap.size:=⟨_,rfl⟩
     rw [← hgd] at hA⊢
     generalize wra.alloc (.cells #[.string sn1,.slice a11 l11 c11,.slice a21 l21 c21,.slice a31 l31 c31,.slice a41 l41 c41] 27)=w5 at oA hA⊢
     replace HO:=Hd (HO.out.trans oA (by simp))
     (try replace HDV1:=Hd (HDV1.out.kept oA (by simp) (fun _ h=>h)))
     (try replace HDV2:=Hd (HDV2.out.kept oA (by simp) (fun _ h=>h)))
     (try replace HA1:=Hd (oA.heap HA1.out (by simp)))
     (try replace HA2:=Hd (oA.heap HA2.out (by simp)))
     (try replace HV1:=Hd (HV1.out.quiet oA))
     (try replace HV2:=Hd (HV2.out.quiet oA))
     (try replace HU1:=Hd (HU1.out.quiet oA))
     (try replace HU2:=Hd (HU2.out.quiet oA))
     (try replace HC1:=Hd (oA.heap HC1.out (by simp)))
     (try replace HC2:=Hd (oA.heap HC2.out (by simp)))
     have HA1:=Hd hA
     clear oA hA hgd
     have KP:=HKB.out w5
     go_wp2_with fail
     refine KP.mono ?_
     rintro e w5a ⟨sn2,a12,a22,a32,a42,l12,l22,l32,l42,c12,c22,c32,c42,rfl,hok,o1⟩
     replace HO:=Hd (HO.out.trans o1 (by simp))
     (try replace HDV1:=Hd (HDV1.out.kept o1 (by simp) (fun _ h=>h)))
     (try replace HDV2:=Hd (HDV2.out.kept o1 (by simp) (fun _ h=>h)))
     (try replace HA1:=Hd (o1.heap HA1.out (by simp)))
     (try replace HA2:=Hd (o1.heap HA2.out (by simp)))
     (try replace HV1:=Hd (HV1.out.quiet o1))
     (try replace HV2:=Hd (HV2.out.quiet o1))
     (try replace HU1:=Hd (HU1.out.quiet o1))
     (try replace HU2:=Hd (HU2.out.quiet o1))
     (try replace HC1:=Hd (o1.heap HC1.out (by simp)))
     (try replace HC2:=Hd (o1.heap HC2.out (by simp)))
     clear KP hok o1 HKB
     go_upto_region 19 with (fail)
     have oA:=(Only.refl [] w5a).alloc (.cells #[.string sn2,.slice a12 l12 c12,.slice a22 l22 c22,.slice a32 l32 c32,.slice a42 l42 c42] 27)
     have hA:=heap_new w5a (.cells #[.string sn2,.slice a12 l12 c12,.slice a22 l22 c22,.slice a32 l32 c32,.slice a42 l42 c42] 27)
     obtain ⟨gd2,hgd⟩:∃ g,g=w5a.heap.size:=⟨_,rfl⟩
     rw [← hgd] at hA⊢
     generalize w5a.alloc (.cells #[.string sn2,.slice a12 l12 c12,.slice a22 l22 c22,.slice a32 l32 c32,.slice a42 l42 c42] 27)=w6 at oA hA⊢
     replace HO:=Hd (HO.out.trans oA (by simp))
     (try replace HDV1:=Hd (HDV1.out.kept oA (by simp) (fun _ h=>h)))
     (try replace HDV2:=Hd (HDV2.out.kept oA (by simp) (fun _ h=>h)))
     (try replace HA1:=Hd (oA.heap HA1.out (by simp)))
     (try replace HA2:=Hd (oA.heap HA2.out (by simp)))
     (try replace HV1:=Hd (HV1.out.quiet oA))
     (try replace HV2:=Hd (HV2.out.quiet oA))
     (try replace HU1:=Hd (HU1.out.quiet oA))
     (try replace HU2:=Hd (HU2.out.quiet oA))
     (try replace HC1:=Hd (oA.heap HC1.out (by simp)))
     (try replace HC2:=Hd (oA.heap HC2.out (by simp)))
     have HA2:=Hd hA
     clear oA hA hgd
     cases R2<;>
     ·go_wp2_with fail
      go_ret
      exact ⟨rfl,HO.out⟩
    | some d1=>
     have HDV1:=Hd (hok d1 rfl)
     clear KP hok o1
     go_upto_region 18 with (fail)
     have oA:=(Only.refl [] wra).alloc (.cells #[.string sn1,.slice a11 l11 c11,.slice a21 l21 c21,.slice a31 l31 c31,.slice a41 l41 c41] 27)
     have hA:=heap_new wra (.cells #[.string sn1,.slice a11 l11 c11,.slice a21 l21 c21,.slice a31 l31 c31,.slice a41 l41 c41] 27)
     obtain ⟨gd1,hgd⟩:∃ g,g=wra.heap.size:=⟨_,rfl⟩
     rw [← hgd] at hA⊢
     generalize wra.alloc (.cells #[.string sn1,.slice a11 l11 c11,.slice a21 l21 c21,.slice a31 l31 c31,.slice a41 l41 c41] 27)=w5 at oA hA⊢
     replace HO:=Hd (HO.out.trans oA (by simp))
     (try replace HDV1:=Hd (HDV1.out.kept oA (by simp) (fun _ h=>h)))
     (try replace HDV2:=Hd (HDV2.out.kept oA (by simp) (fun _ h=>h)))
     (try replace HA1:=Hd (oA.heap HA1.out (by simp)))
     (try replace HA2:=Hd (oA.heap HA2.out (by simp)))
     (try replace HV1:=Hd (HV1.out.quiet oA))
     (try replace HV2:=Hd (HV2.out.quiet oA))
     (try replace HU1:=Hd (HU1.out.quiet oA))
     (try replace HU2:=Hd (HU2.out.quiet oA))
     (try replace HC1:=Hd (oA.heap HC1.out (by simp)))
     (try replace HC2:=Hd (oA.heap HC2.out (by simp)))
     have HA1:=Hd hA
     clear oA hA hgd
     have KP:=HKB.out w5
     go_wp2_with fail
     refine KP.mono ?_
     rintro e w5a ⟨sn2,a12,a22,a32,a42,l12,l22,l32,l42,c12,c22,c32,c42,rfl,hok,o1⟩
     replace HO:=Hd (HO.out.trans o1 (by simp))
     (try replace HDV1:=Hd (HDV1.out.kept o1 (by simp) (fun _ h=>h)))
     (try replace HDV2:=Hd (HDV2.out.kept o1 (by simp) (fun _ h=>h)))
     (try replace HA1:=Hd (o1.heap HA1.out (by simp)))
     (try replace HA2:=Hd (o1.heap HA2.out (by simp)))
     (try replace HV1:=Hd (HV1.out.quiet o1))
     (try replace HV2:=Hd (HV2.out.quiet o1))
     (try replace HU1:=Hd (HU1.out.quiet o1))
     (try replace HU2:=Hd (HU2.out.quiet o1))
     (try replace HC1:=Hd (o1.heap HC1.out (by simp)))
     (try replace HC2:=Hd (o1.heap HC2.out (by simp)))
     cases R2 with
     | none=>
      clear KP hok o1 HKB
      go_upto_region 19 with (fail)
      have oA:=(Only.refl [] w5a).alloc (.cells #[.string sn2,.slice a12 l12 c12,.slice a22 l22 c22,.slice a32 l32 c32,.slice a42 l42 c42] 27)
      have hA:=heap_new w5a (.cells #[.string sn2,.slice a12 l12 c12,.slice a22 l22 c22,.slice a32 l32 c32,.slice a42 l42 c42] 27)
      obtain ⟨gd2,hgd⟩:∃ g,g=w5a.heap.size:=⟨_,rfl⟩
      rw [← hgd] at hA⊢
      generalize w5a.alloc (.cells #[.string sn2,.slice a12 l12 c12,.slice a22 l22 c22,.slice a32 l32 c32,.slice a42 l42 c42] 27)=w6 at oA hA⊢
      replace HO:=Hd (HO.out.trans oA (by simp))
      (try replace HDV1:=Hd (HDV1.out.kept oA (by simp) (fun _ h=>h)))
      (try replace HDV2:=Hd (HDV2.out.kept oA (by simp) (fun _ h=>h)))
      (try replace HA1:=Hd (oA.heap HA1.out (by simp)))
      (try replace HA2:=Hd (oA.heap HA2.out (by simp)))
      (try replace HV1:=Hd (HV1.out.quiet oA))
      (try replace HV2:=Hd (HV2.out.quiet oA))
      (try replace HU1:=Hd (HU1.out.quiet oA))
      (try replace HU2:=Hd (HU2.out.quiet oA))
      (try replace HC1:=Hd (oA.heap HC1.out (by simp)))
      (try replace HC2:=Hd (oA.heap HC2.out (by simp)))
      have HA2:=Hd hA
      clear oA hA hgd
      go_wp2_with fail
      go_ret
      exact ⟨rfl,HO.out⟩
     | some d2=>
      have HDV2:=Hd (hok d2 rfl)
      clear KP hok o1 HKB
      go_upto_region 19 with (fail)
      have oA:=(Only.refl [] w5a).alloc (.cells #[.string sn2,.slice a12 l12 c12,.slice a22 l22 c22,.slice a32 l32 c32,.slice a42 l42 c42] 27)
      have hA:=heap_new w5a (.cells #[.string sn2,.slice a12 l12 c12,.slice a22 l22 c22,.slice a32 l32 c32,.slice a42 l42 c42] 27)
      obtain ⟨gd2,hgd⟩:∃ g,g=w5a.heap.size:=⟨_,rfl⟩
      rw [← hgd] at hA⊢
      generalize w5a.alloc (.cells #[.string sn2,.slice a12 l12 c12,.slice a22 l22 c22,.slice a32 l32 c32,.slice a42 l42 c42] 27)=w6 at oA hA⊢
      replace HO:=Hd (HO.out.trans oA (by simp))
      (try replace HDV1:=Hd (HDV1.out.kept oA (by simp) (fun _ h=>h)))
      (try replace HDV2:=Hd (HDV2.out.kept oA (by simp) (fun _ h=>h)))
      (try replace HA1:=Hd (oA.heap HA1.out (by simp)))
      (try replace HA2:=Hd (oA.heap HA2.out (by simp)))
      (try replace HV1:=Hd (HV1.out.quiet oA))
      (try replace HV2:=Hd (HV2.out.quiet oA))
      (try replace HU1:=Hd (HU1.out.quiet oA))
      (try replace HU2:=Hd (HU2.out.quiet oA))
      (try replace HC1:=Hd (oA.heap HC1.out (by simp)))
      (try replace HC2:=Hd (oA.heap HC2.out (by simp)))
      have HA2:=Hd hA
      clear oA hA hgd
      by_cases h5:(480:Int) < (O.size:Int)
      ·go_wp2_with fail
       go_ret
       exact ⟨rfl,HO.out⟩
      ·have hp1:=pdF_some HR1.out
       have hp2:=pdF_some HR2.out
       obtain ⟨db,g1,g2⟩:=HSAME.out d1 (by omega) hp1
       rw [hp2] at g1
       obtain rfl:d2=db:=by injection g1
       have HEQ:=Hd g2
       have HOK1:=Hd (ok_parsed hp1)
       have HOK2:=Hd (ok_parsed hp2)
       clear g1 g2 hp1 hp2
       go_upto_region 21 with (fail)
       clear h5
       have y0:w6.cell? ⟨gd1,0,none⟩=some (.string sn1):=cell_at 0 HA1.out
       have y1:w6.cell? ⟨gd1,1,none⟩=some (.slice a11 l11 c11):=cell_at 1 HA1.out
       have y2:w6.cell? ⟨gd1,2,none⟩=some (.slice a21 l21 c21):=cell_at 2 HA1.out
       have y3:w6.cell? ⟨gd1,3,none⟩=some (.slice a31 l31 c31):=cell_at 3 HA1.out
       have y4:w6.cell? ⟨gd1,4,none⟩=some (.slice a41 l41 c41):=cell_at 4 HA1.out
       have KC:=compile_any HNC.out HDV1.out HOK1.out
       obtain ⟨cd,hco⟩:∃ c,c=codeOf d1:=⟨_,rfl⟩
       rw [← hco] at KC
       obtain ⟨⟨P1,Lo1,is1,ls1⟩,F1⟩:=cd
       unfold CoPost at KC
       dsimp only at KC
       obtain ⟨ev1,hev⟩:∃ v,v=errQ F1:=⟨_,rfl⟩
       rw [← hev] at KC
       have HCO1:=Hd hco
       have HEV1:=Hd hev
       clear hco hev
       go_wp2_with fail
       refine KC.mono ?_
       rintro e w6c ⟨v1,u1,rfl,hv,hu,o1⟩
       replace hv:=hv.rv
       replace hu:=hu.rv
       obtain ⟨va1,vc1,rfl,-⟩:=id hv
       obtain ⟨ua1,uc1,rfl,-⟩:=id hu
       replace HO:=Hd (HO.out.trans o1 (by simp))
       (try replace HDV1:=Hd (HDV1.out.kept o1 (by simp) (fun _ h=>h)))
       (try replace HDV2:=Hd (HDV2.out.kept o1 (by simp) (fun _ h=>h)))
       (try replace HA1:=Hd (o1.heap HA1.out (by simp)))
       (try replace HA2:=Hd (o1.heap HA2.out (by simp)))
       (try replace HV1:=Hd (HV1.out.quiet o1))
       (try replace HV2:=Hd (HV2.out.quiet o1))
       (try replace HU1:=Hd (HU1.out.quiet o1))
       (try replace HU2:=Hd (HU2.out.quiet o1))
       (try replace HC1:=Hd (o1.heap HC1.out (by simp)))
       (try replace HC2:=Hd (o1.heap HC2.out (by simp)))
       obtain ⟨vn1,hvn⟩:∃ n,n=is1.length:=⟨_,rfl⟩
       obtain ⟨un1,hun⟩:∃ n,n=ls1.length:=⟨_,rfl⟩
       rw [← hvn] at hv⊢
       rw [← hun] at hu⊢
       have HV1:=Hd hv
       have HU1:=Hd hu
       have HVN1:=Hd hvn
       have HUN1:=Hd hun
       clear KC o1 hv hu hvn hun y0 y1 y2 y3 y4
       go_upto_region 22 with (fail)
       have oA:=(Only.refl [] w6c).alloc (.cells #[.int .i64 P1,.int .i64 Lo1,.slice va1 vn1 vc1,.slice ua1 un1 uc1] 33)
       have hA:=heap_new w6c (.cells #[.int .i64 P1,.int .i64 Lo1,.slice va1 vn1 vc1,.slice ua1 un1 uc1] 33)
       obtain ⟨gc1,hgc⟩:∃ g,g=w6c.heap.size:=⟨_,rfl⟩
       rw [← hgc] at hA⊢
       generalize w6c.alloc (.cells #[.int .i64 P1,.int .i64 Lo1,.slice va1 vn1 vc1,.slice ua1 un1 uc1] 33)=w7 at oA hA⊢
       replace HO:=Hd (HO.out.trans oA (by simp))
       (try replace HDV1:=Hd (HDV1.out.kept oA (by simp) (fun _ h=>h)))
       (try replace HDV2:=Hd (HDV2.out.kept oA (by simp) (fun _ h=>h)))
       (try replace HA1:=Hd (oA.heap HA1.out (by simp)))
       (try replace HA2:=Hd (oA.heap HA2.out (by simp)))
       (try replace HV1:=Hd (HV1.out.quiet oA))
       (try replace HV2:=Hd (HV2.out.quiet oA))
       (try replace HU1:=Hd (HU1.out.quiet oA))
       (try replace HU2:=Hd (HU2.out.quiet oA))
       (try replace HC1:=Hd (oA.heap HC1.out (by simp)))
       (try replace HC2:=Hd (oA.heap HC2.out (by simp)))
       have HC1:=Hd hA
       clear oA hA hgc
       have y0:w7.cell? ⟨gd2,0,none⟩=some (.string sn2):=cell_at 0 HA2.out
       have y1:w7.cell? ⟨gd2,1,none⟩=some (.slice a12 l12 c12):=cell_at 1 HA2.out
       have y2:w7.cell? ⟨gd2,2,none⟩=some (.slice a22 l22 c22):=cell_at 2 HA2.out
       have y3:w7.cell? ⟨gd2,3,none⟩=some (.slice a32 l32 c32):=cell_at 3 HA2.out
       have y4:w7.cell? ⟨gd2,4,none⟩=some (.slice a42 l42 c42):=cell_at 4 HA2.out
       have KC:=compile_any HNC.out HDV2.out HOK2.out
       obtain ⟨cd,hco⟩:∃ c,c=codeOf d2:=⟨_,rfl⟩
       rw [← hco] at KC
       obtain ⟨⟨P2,Lo2,is2,ls2⟩,F2⟩:=cd
       unfold CoPost at KC
       dsimp only at KC
       obtain ⟨ev2,hev⟩:∃ v,v=errQ F2:=⟨_,rfl⟩
       rw [← hev] at KC
       have HCO2:=Hd hco
       have HEV2:=Hd hev
       clear hco hev
       go_wp2_with fail
       refine KC.mono ?_
       rintro e w7c ⟨v2,u2,rfl,hv,hu,o1⟩
       replace hv:=hv.rv
       replace hu:=hu.rv
       obtain ⟨va2,vc2,rfl,-⟩:=id hv
       obtain ⟨ua2,uc2,rfl,-⟩:=id hu
       replace HO:=Hd (HO.out.trans o1 (by simp))
       (try replace HDV1:=Hd (HDV1.out.kept o1 (by simp) (fun _ h=>h)))
       (try replace HDV2:=Hd (HDV2.out.kept o1 (by simp) (fun _ h=>h)))
       (try replace HA1:=Hd (o1.heap HA1.out (by simp)))
       (try replace HA2:=Hd (o1.heap HA2.out (by simp)))
       (try replace HV1:=Hd (HV1.out.quiet o1))
       (try replace HV2:=Hd (HV2.out.quiet o1))
       (try replace HU1:=Hd (HU1.out.quiet o1))
       (try replace HU2:=Hd (HU2.out.quiet o1))
       (try replace HC1:=Hd (o1.heap HC1.out (by simp)))
       (try replace HC2:=Hd (o1.heap HC2.out (by simp)))
       obtain ⟨vn2,hvn⟩:∃ n,n=is2.length:=⟨_,rfl⟩
       obtain ⟨un2,hun⟩:∃ n,n=ls2.length:=⟨_,rfl⟩
       rw [← hvn] at hv⊢
       rw [← hun] at hu⊢
       have HV2:=Hd hv
       have HU2:=Hd hu
       have HVN2:=Hd hvn
       have HUN2:=Hd hun
       clear KC o1 hv hu hvn hun y0 y1 y2 y3 y4
       go_upto_region 23 with (fail)
       have oA:=(Only.refl [] w7c).alloc (.cells #[.int .i64 P2,.int .i64 Lo2,.slice va2 vn2 vc2,.slice ua2 un2 uc2] 33)
       have hA:=heap_new w7c (.cells #[.int .i64 P2,.int .i64 Lo2,.slice va2 vn2 vc2,.slice ua2 un2 uc2] 33)
       obtain ⟨gc2,hgc⟩:∃ g,g=w7c.heap.size:=⟨_,rfl⟩
       rw [← hgc] at hA⊢
       generalize w7c.alloc (.cells #[.int .i64 P2,.int .i64 Lo2,.slice va2 vn2 vc2,.slice ua2 un2 uc2] 33)=w8 at oA hA⊢
       replace HO:=Hd (HO.out.trans oA (by simp))
       (try replace HDV1:=Hd (HDV1.out.kept oA (by simp) (fun _ h=>h)))
       (try replace HDV2:=Hd (HDV2.out.kept oA (by simp) (fun _ h=>h)))
       (try replace HA1:=Hd (oA.heap HA1.out (by simp)))
       (try replace HA2:=Hd (oA.heap HA2.out (by simp)))
       (try replace HV1:=Hd (HV1.out.quiet oA))
       (try replace HV2:=Hd (HV2.out.quiet oA))
       (try replace HU1:=Hd (HU1.out.quiet oA))
       (try replace HU2:=Hd (HU2.out.quiet oA))
       (try replace HC1:=Hd (oA.heap HC1.out (by simp)))
       (try replace HC2:=Hd (oA.heap HC2.out (by simp)))
       have HC2:=Hd hA
       clear oA hA hgc
       have heq:=HCO2.out.trans (HEQ.out.trans HCO1.out.symm)
       simp only [Prod.mk.injEq,Cd.mk.injEq] at heq
       obtain ⟨⟨e1,e2,e3,e4⟩,e5⟩:=heq
       have HE:=Hd (And.intro e1 (And.intro e2 (And.intro e3 e4)))
       have hlb:is1.length≤10000∧ls1.length≤10000:=by
        have hco:=HCO1.out
        unfold codeOf at hco
        split at hco
        ·simp only [Prod.mk.injEq,Cd.mk.injEq] at hco
         obtain ⟨⟨-,-,h3,h4⟩,-⟩:=hco
         rw [h3,h4]
         simp
        ·simp only [Prod.mk.injEq] at hco
         have h1:=genD_len HOK1.out.whole
         have h2:=genD_lps HOK1.out.whole
         rw [← hco.1] at h1 h2
         exact ⟨h1,h2⟩
       have HLB:=Hd hlb
       have hv1:ev1=.nilIface∨∃ n,ev1=err n:=by
        rw [HEV1.out]
        unfold errQ
        by_cases h0:F1=0
        ·rw [if_pos h0];exact .inl rfl
        ·rw [if_neg h0];exact .inr ⟨F1,rfl⟩
       have hev:ev2=ev1:=by rw [HEV1.out,HEV2.out,e5]
       clear hlb e1 e2 e3 e4 e5
       subst hev
       rcases hv1 with rfl | ⟨n7,rfl⟩
       ·have q7:=nil_nilT
        have oD:Only [] w8 w8.drew:=(Only.refl [] w8).drew
        replace HO:=Hd (HO.out.trans oD (by simp))
        (try replace HDV1:=Hd (HDV1.out.kept oD (by simp) (fun _ h=>h)))
        (try replace HDV2:=Hd (HDV2.out.kept oD (by simp) (fun _ h=>h)))
        (try replace HA1:=Hd (oD.heap HA1.out (by simp)))
        (try replace HA2:=Hd (oD.heap HA2.out (by simp)))
        (try replace HV1:=Hd (HV1.out.quiet oD))
        (try replace HV2:=Hd (HV2.out.quiet oD))
        (try replace HU1:=Hd (HU1.out.quiet oD))
        (try replace HU2:=Hd (HU2.out.quiet oD))
        (try replace HC1:=Hd (oD.heap HC1.out (by simp)))
        (try replace HC2:=Hd (oD.heap HC2.out (by simp)))
        refine wp_region_held_drew (S:=fun w'=>w'.cell? ⟨gc1,0,none⟩=some (.int .i64 P1)∧w'.cell? ⟨gc1,1,none⟩=some (.int .i64 Lo1)∧w'.cell? ⟨gc1,2,none⟩=some (.slice va1 vn1 vc1)∧w'.cell? ⟨gc1,3,none⟩=some (.slice ua1 un1 uc1)∧w'.cell? ⟨gc2,0,none⟩=some (.int .i64 P2)∧w'.cell? ⟨gc2,1,none⟩=some (.int .i64 Lo2)∧w'.cell? ⟨gc2,2,none⟩=some (.slice va2 vn2 vc2)∧w'.cell? ⟨gc2,3,none⟩=some (.slice ua2 un2 uc2)) (by kernel_rfl) ⟨cell_at 0 HC1.out,cell_at 1 HC1.out,cell_at 2 HC1.out,cell_at 3 HC1.out,cell_at 0 HC2.out,cell_at 1 HC2.out,cell_at 2 HC2.out,cell_at 3 HC2.out⟩ (fun hH=>?_)
        clear oD
        generalize w8.drew=wd at HO HC1 HC2 HV1 HV2 HU1 HU2 hH⊢
        refine tk 0 hH ?_
        refine tk 1 hH ?_
        refine rd 2 (fun K hK=>?_)
        go_simp
        refine (same_any (q:=true) HV1.out HU1.out HV2.out HU2.out (by have:=HLB.out;omega) (by have:=HLB.out;omega) (by have:=HLB.out;rw [HE.out.2.2.1];omega) (by have:=HLB.out;rw [HE.out.2.2.2];omega) (by have h:=HE.out;simp [h.1,h.2.1,h.2.2.1,h.2.2.2])).mono ?_
        rintro e w9 ⟨rfl,o9⟩
        replace HO:=Hd (HO.out.trans o9 (by simp))
        (try replace HDV1:=Hd (HDV1.out.kept o9 (by simp) (fun _ h=>h)))
        (try replace HDV2:=Hd (HDV2.out.kept o9 (by simp) (fun _ h=>h)))
        (try replace HA1:=Hd (o9.heap HA1.out (by simp)))
        (try replace HA2:=Hd (o9.heap HA2.out (by simp)))
        (try replace HV1:=Hd (HV1.out.quiet o9))
        (try replace HV2:=Hd (HV2.out.quiet o9))
        (try replace HU1:=Hd (HU1.out.quiet o9))
        (try replace HU2:=Hd (HU2.out.quiet o9))
        (try replace HC1:=Hd (o9.heap HC1.out (by simp)))
        (try replace HC2:=Hd (o9.heap HC2.out (by simp)))
        refine hK.out _ _ ⟨cell_at 0 HC1.out,cell_at 1 HC1.out,cell_at 2 HC1.out,cell_at 3 HC1.out,cell_at 0 HC2.out,cell_at 1 HC2.out,cell_at 2 HC2.out,cell_at 3 HC2.out⟩ (fun hH=>?_)
        clear hK K o9
        refine tk 3 hH ?_
        refine tk 4 hH ?_
        refine tk 5 hH ?_
        refine tk 6 hH ?_
        refine tk 7 hH ?_
        refine tk 8 hH ?_
        refine tk 9 hH ?_
        refine tk 10 hH ?_
        refine wpAnyH_done (by kernel_rfl) ?_ _
        go_wp2_with fail
        go_ret
        exact ⟨rfl,HO.out⟩
       ·have q7:=eql_errT n7
        have oD:Only [] w8 w8.drew:=(Only.refl [] w8).drew
        replace HO:=Hd (HO.out.trans oD (by simp))
        (try replace HDV1:=Hd (HDV1.out.kept oD (by simp) (fun _ h=>h)))
        (try replace HDV2:=Hd (HDV2.out.kept oD (by simp) (fun _ h=>h)))
        (try replace HA1:=Hd (oD.heap HA1.out (by simp)))
        (try replace HA2:=Hd (oD.heap HA2.out (by simp)))
        (try replace HV1:=Hd (HV1.out.quiet oD))
        (try replace HV2:=Hd (HV2.out.quiet oD))
        (try replace HU1:=Hd (HU1.out.quiet oD))
        (try replace HU2:=Hd (HU2.out.quiet oD))
        (try replace HC1:=Hd (oD.heap HC1.out (by simp)))
        (try replace HC2:=Hd (oD.heap HC2.out (by simp)))
        refine wp_region_held_drew (S:=fun w'=>w'.cell? ⟨gc1,0,none⟩=some (.int .i64 P1)∧w'.cell? ⟨gc1,1,none⟩=some (.int .i64 Lo1)∧w'.cell? ⟨gc1,2,none⟩=some (.slice va1 vn1 vc1)∧w'.cell? ⟨gc1,3,none⟩=some (.slice ua1 un1 uc1)∧w'.cell? ⟨gc2,0,none⟩=some (.int .i64 P2)∧w'.cell? ⟨gc2,1,none⟩=some (.int .i64 Lo2)∧w'.cell? ⟨gc2,2,none⟩=some (.slice va2 vn2 vc2)∧w'.cell? ⟨gc2,3,none⟩=some (.slice ua2 un2 uc2)) (by kernel_rfl) ⟨cell_at 0 HC1.out,cell_at 1 HC1.out,cell_at 2 HC1.out,cell_at 3 HC1.out,cell_at 0 HC2.out,cell_at 1 HC2.out,cell_at 2 HC2.out,cell_at 3 HC2.out⟩ (fun hH=>?_)
        clear oD
        generalize w8.drew=wd at HO HC1 HC2 HV1 HV2 HU1 HU2 hH⊢
        refine tk 0 hH ?_
        refine tk 1 hH ?_
        refine rd 2 (fun K hK=>?_)
        go_simp
        refine (same_any (q:=true) HV1.out HU1.out HV2.out HU2.out (by have:=HLB.out;omega) (by have:=HLB.out;omega) (by have:=HLB.out;rw [HE.out.2.2.1];omega) (by have:=HLB.out;rw [HE.out.2.2.2];omega) (by have h:=HE.out;simp [h.1,h.2.1,h.2.2.1,h.2.2.2])).mono ?_
        rintro e w9 ⟨rfl,o9⟩
        replace HO:=Hd (HO.out.trans o9 (by simp))
        (try replace HDV1:=Hd (HDV1.out.kept o9 (by simp) (fun _ h=>h)))
        (try replace HDV2:=Hd (HDV2.out.kept o9 (by simp) (fun _ h=>h)))
        (try replace HA1:=Hd (o9.heap HA1.out (by simp)))
        (try replace HA2:=Hd (o9.heap HA2.out (by simp)))
        (try replace HV1:=Hd (HV1.out.quiet o9))
        (try replace HV2:=Hd (HV2.out.quiet o9))
        (try replace HU1:=Hd (HU1.out.quiet o9))
        (try replace HU2:=Hd (HU2.out.quiet o9))
        (try replace HC1:=Hd (o9.heap HC1.out (by simp)))
        (try replace HC2:=Hd (o9.heap HC2.out (by simp)))
        refine hK.out _ _ ⟨cell_at 0 HC1.out,cell_at 1 HC1.out,cell_at 2 HC1.out,cell_at 3 HC1.out,cell_at 0 HC2.out,cell_at 1 HC2.out,cell_at 2 HC2.out,cell_at 3 HC2.out⟩ (fun hH=>?_)
        clear hK K o9
        refine tk 3 hH ?_
        refine tk 4 hH ?_
        refine tk 5 hH ?_
        refine tk 6 hH ?_
        refine tk 7 hH ?_
        refine tk 8 hH ?_
        refine tk 9 hH ?_
        refine tk 10 hH ?_
        refine wpAnyH_done (by kernel_rfl) ?_ _
        go_wp2_with fail
        go_ret
        exact ⟨rfl,HO.out⟩
set_option maxRecDepth 100000 in
theorem codeNames_lifted (os:Os) (started:os.Started) (H:Type) (enc:TypeId×Value→H) :
  ReturnsInHanded {} Tryz.checked os 6 .any (fun w args=>(Rows.codeNamesSpec.pre enc Tryz.prog Tryz.f6 Rows.codeNamesRow.domain false w args∧laidMet Tryz.prog laid5 w)∧sizedMet enc Tryz.prog Tryz.f6 (OpenSpec.ofChange Rows.codeNamesSpec) false w args)
   (Rows.codeNamesSpec.post enc Tryz.prog Tryz.f6 false true false false):=by
 refine returnsInHanded_of_change_and (C:=Tryz.checked) (X:=(fun w _=>laidMet Tryz.prog laid5 w)) (fun _ _ _ hh h=>h.of_heap hh) law_own started (by kernel_rfl) Tryz.func6
  (ChangeSpec.witness_at (enc:=enc) (C:=Tryz.checked) (os:=os) (X:=(fun w _=>laidMet Tryz.prog laid5 w)) false (laidWorld os) #[.string ⟨#[]⟩] 8 rfl (by kernel_rfl) (by kernel_rfl) (by kernel_rfl) (by kernel_rfl) (by kernel_rfl) (laidWorld_met os _)) ?_
 intro W base args ds gs before hval0 hW hcnd hsz0 hL _
 have hE:=errs_of_laid hL
 have hval:∀ (j:Nat) t v,Tryz.f6.params[j]?=some t→args[j]?=some v→Value.okWide Tryz.prog W .any base t v:=hval0
 have hW':=hW
 obtain ⟨p,q,hA0,hV,rfl,hfz,hnd⟩:=hW'
 have hA:DataW.TrodAll enc Tryz.prog W 0 (fun _=>true) true Tryz.f6.params.toList args.toList ds p:=hA0
 rw [Tryz.params6] at hA hval
 obtain ⟨v0,vs0,d0,ds0,p0,q0,hargs,rfl,rfl,h0,r0⟩:=trodAll_cons hA
 obtain ⟨rfl,rfl,rfl⟩:=trodAll_nil r0
 obtain rfl:args=#[v0]:=by cases args;simp_all
 obtain ⟨rfl,rfl⟩:=trodVars_none hV
 obtain ⟨a0,rfl,rfl,rfl,w0⟩:=open_string Tryz.underlying9 (hval 0 9 v0 rfl rfl) h0
 clear hA0 hval0
 refine (codeNames_walk a0  W w0 hE).mono fun e W' ⟨he,hg⟩=>?_
 subst he
 exact ⟨_,rfl,post_quiet (pa:=([]++[])) (pv:=[]) hW hg (fun _ _ _=>(trodAll_cons_mk (shut_bool Tryz.underlying4 _) trodAll_mk0)) (fun sp hsp=>(trodAll_cons_mk (shut_string Tryz.underlying9 w0) trodAll_mk0)) (fun _ _=>rfl) (by simp) (ok_one (by kernel_rfl) rfl (okWide_bool_mk Tryz.underlying4 _))⟩
theorem codeNames_over:Rows.codeNamesRow.holds Tryz.pinned (OpenSpec.ofChange Rows.codeNamesSpec):=
 OpenClaim.holds_of_wide 6 Tryz.f6 rfl rfl rfl rfl rfl rfl rfl ⟨rfl,rfl,rfl,rfl,rfl⟩ rfl rfl rfl rfl rfl (by kernel_rfl) Tryz.func6 (by kernel_rfl)
  (of_decide_eq_true (by kernel_rfl)) (by unfold Func.isWrapper;first | (rw [if_pos (by decide +kernel)];kernel_rfl) | (rw [if_neg (by decide +kernel)];exact ⟨rfl,rfl⟩))
  (fun os started H enc _=>codeNames_lifted os started H enc)
theorem codeNames_holds:Rows.CodeNamesCardSaid:=
 Claim7.holds_tied_plain_at .later [] [.data,.data,.data] true (true,"15efa5c0b783041a866d390ad58605ebe9e7bd5fb484820fb9a3bda929985d92") true
  codeNames_over (fun _ h=>by cases h) (by kernel_rfl) (fun _ h=>by cases h) codeNames_row_tie rfl ⟨rfl,rfl⟩ (by kernel_rfl) rfl
  (fun f fn hf hfn=>by
   obtain rfl:f=6:=Option.some.inj ((show Tryz.prog.funcNamed Rows.codeNamesRow.func=some 6 by kernel_rfl).symm.trans hf) |>.symm
   obtain rfl:fn=Tryz.f6:=(Option.some.inj (Tryz.func6.symm.trans hfn)).symm
   exact ⟨by kernel_rfl,fun j t ht=>by
    rw [Tryz.params6] at ht
    have h3:t=9:=by
     rcases j with _ | j
     ·simpa using ht.symm
     ·simp at ht
    subst h3
    exact (show Tryz.prog.wantsStandIn 9=false by kernel_rfl)⟩)
  (by kernel_rfl)
#print axioms codeNames_holds
end Go.Proofs.YtheanmadognhbaaGreatDoor

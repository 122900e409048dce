/- Layer 11: an expression without names and cells is one instruction. -/
import Derived.Test.YtheanmadognhbaaGreatDoorFas
import Derived.Test.YtheanmadognhbaaGreatDoorH26s
import Derived.Test.YtheanmadognhbaaGreatDoorUcs
import Derived.Test.YtheanmadognhbaaGreatDoorVas
namespace Go.Proofs.YtheanmadognhbaaGreatDoor
open Go.ChangeShapes Go.WideShapes Go.ChangeAt Go.RowKit Go.Maps
open Go.ChangeMaps (open_string shut_string)
set_option linter.unusedSimpArgs false
set_option linter.unusedVariables false
def NiceT (t:Tok):Prop:=¬ (t.kind=1∧t.text≠[116,114,117,101]∧t.text≠[102,97,108,115,101])∧t.text≠[91]∧t.text≠[59]∧t.text≠[123]∧t.text≠[125]
theorem folds_one {X:Sec} {ts:List Tok} (hlex:lex X=.ok ts) (hn:∀ t∈ts,NiceT t) {d:Df} (hp:parseS (tA++X++tB)=.ok d):OneSet d:=by
 unfold parseS at hp
 split at hp
 ·cases hp
 ·cases e1:lex (tA++X++tB) with
  | error q=>rw [e1] at hp;cases hp
  | ok tf=>
   rw [e1] at hp
   dsimp only at hp
   cases e2:parseR tf with
   | error q=>rw [e2] at hp;cases hp
   | ok d'=>
    rw [e2] at hp
    cases hp
    rw [lex_eq,List.append_assoc,lex_tA] at e1
    cases e3:lexG 15 (X++tB) with
    | error q=>rw [e3] at e1;cases e1
    | ok tq=>
     rw [e3] at e1
     obtain rfl:hd9++tq=tf:=by injection e1
     obtain ⟨us,R,q,rfl,g2,g3⟩:=lex_app _ X 15 tq (Nat.le_refl _) e3
     obtain ⟨vs,v1,v2⟩:=lexG_place 0 g2
     rw [← lex_eq,hlex] at v1
     obtain rfl:ts=vs:=by injection v1
     refine parse_f (fun t ht=>?_) g3 e2
     have hm:kt t∈ts.map kt:=by
      rw [v2,List.map_append]
      exact List.mem_append.2 (.inl (List.mem_map.2 ⟨t,ht,rfl⟩))
     obtain ⟨t',ht',e⟩:=List.mem_map.1 hm
     have h:=hn t' ht'
     have e5:t'.kind=t.kind:=congrArg Prod.fst e
     have e6:t'.text=t.text:=congrArg Prod.snd e
     unfold NiceT at h
     rw [e5,e6] at h
     exact h
theorem ok_zero:DfOk ⟨[],[],[],[],[]⟩:=by
 refine ⟨⟨by unfold wL;trivial,by unfold wB;trivial,by unfold wL;trivial,by simp,?_,by simp,by simp⟩,by unfold pB;trivial,⟨by simp,gL_nil,gB_nil,gL_nil⟩,⟨[],trivial,?_⟩⟩
 ·unfold sizeL sizeSs;decide
 ·unfold declB;exact List.Perm.refl _
set_option maxRecDepth 100000 in
set_option maxHeartbeats 8000000 in
theorem codeFolds_walk (s : ByteArray) (w : World) (hs : s.size ≤ maxLen) (ht : Tab w) : Calls Tryz.prog 5 #[.string s] w fun e w' => e = .returned (.bool true) ∧ Only [] w w' := by
  unfold maxLen at hs
  have HNC := Hd names_any
  have KA := alive11_any HNC.out w ht
  clear ht
  go_enter Tryz.func5,Tryz.ntmps5
  go_wp2_with fail
  refine KA.mono ?_
  rintro e w1 ⟨rfl,o1⟩
  have HO := Hd o1
  clear o1 KA
  have K1 := RTokens_any s w1 (by omega)
  go_wp2_with fail
  refine K1.mono ?_
  rintro e w2 ⟨v,cT,pT,rfl,hr,o2⟩
  replace HO := Hd (HO.out.trans o2 (by simp))
  have HR0 := Hd hr
  clear K1 o2 hr
  rcases Bool.eq_false_or_eq_true (cT != 0) with hc | hc
  · go_wp2_with fail
    go_ret
    exact ⟨rfl,HO.out⟩
  · by_cases h400 : (400 : Int) < (s.size : Int)
    · go_wp2_with fail
      go_ret
      exact ⟨rfl,HO.out⟩
    · obtain ⟨ts,hlex,rfl,rfl,hown⟩ : ∃ ts,lex s.data.toList = .ok ts ∧ cT = 0 ∧ pT = 0 ∧ OTk w2 w1.heap.size v ts := by
        rcases HR0.out with ⟨hl,h1,h2,-⟩ | ⟨h1,q,he,h2,h3,-⟩ | ⟨h1,ts',he,h2,h3,hown⟩
        · rw [h2] at hc;simp at hc
        · rw [h3] at hc;simp at hc
        · exact ⟨ts',he,h2,h3,hown⟩
      have HT := Hd hown.tv
      have HLEX := Hd hlex
      have htx := (chain_lex _ 0 s.data.toList ts (Nat.le_refl _) (by rw [← lex_eq];exact hlex)).2
      have hlen := lex_len hlex
      have hsl : s.data.toList.length ≤ 400 := by have : s.data.toList.length = s.size := by simp
                                                  omega
      obtain ⟨a,cap,hv,hcap,-⟩ := HT.out
      obtain rfl := hv
      obtain ⟨n,hn⟩ : ∃ n,n = ts.length := ⟨_,rfl⟩
      rw [← hn] at hlen hcap ⊢
      rw [← hn] at HT
      have HN := Hd hn
      have hn1 : n ≤ 482 := by omega
      have HSL := Hd hsl
      clear HR0 htx hlex hown hn hsl hlen
      go_wp2_with fail
      go_loopw [29] (fun ix wr => ∃ j : Nat,ix = .int .i64 (j : Int) ∧ j ≤ n ∧ Hid (Only [] w2 wr) ∧ Hid (∀ (j' : Nat) t,j' < j → ts[j']? = some t → NiceT t)) (fun ix _ => n - (intOf ix).toNat)
      case atStart => exact ⟨0,rfl,Nat.zero_le _,Hd (Only.refl _ _),Hd (fun j' t h => by omega)⟩
      case round =>
        obtain ⟨j,rfl,hjn,HOj,HPv⟩ := hrel
        by_cases hlt : j < n
        · obtain ⟨t,ht⟩ : ∃ t,ts[j]? = some t := ⟨_,List.getElem?_eq_getElem (by rw [← HN.out];exact hlt)⟩
          obtain ⟨b1,d1,e1,-,p1,p2,p3⟩ := (HT.out.quiet HOj.out).at_ ht
          injection e1 with e1 e1' e1''
          subst e1
          obtain ⟨T,hT⟩ : ∃ T,T = strOf t.text := ⟨_,rfl⟩
          rw [← hT] at p2
          have hi0 : 0 ≤ (j : Int) := by omega
          have hin : (j : Int) < (n : Int) := by omega
          have HTX := Hd (show T.data.toList = t.text by rw [hT];simp [strOf])
          have HTT := Hd ht
          clear hT e1' e1''
          go_upto_region 9 with (fail)
          have o6 := (Only.refl [] wr).alloc (.cells #[.int .i64 t.kind,.string T,.int .i64 t.pos] 49)
          have hK := heap_new wr (.cells #[.int .i64 t.kind,.string T,.int .i64 t.pos] 49)
          obtain ⟨gt,hgt⟩ : ∃ g,g = wr.heap.size := ⟨_,rfl⟩
          rw [← hgt] at hK ⊢
          generalize wr.alloc (.cells #[.int .i64 t.kind,.string T,.int .i64 t.pos] 49) = w6 at o6 hK ⊢
          replace HOj := Hd (HOj.out.trans o6 (by simp))
          have r0 : w6.cell? ⟨gt,0,none⟩ = some (.int .i64 t.kind) := cell_at 0 hK
          have r1 : w6.cell? ⟨gt,1,none⟩ = some (.string T) := cell_at 1 hK
          clear o6 hK hgt p1 p2 p3 ht
          by_cases hk : t.kind = 1
          · have hk' : ((t.kind : Int) == 1) = true := by simp [hk]
            by_cases h1 : T.data.toList = [116,114,117,101]
            · have HNI := Hd (show NiceT t from ⟨fun h => h.2.1 (HTX.out.symm.trans h1),by rw [← HTX.out,h1];decide,by rw [← HTX.out,h1];decide,by rw [← HTX.out,h1];decide,by rw [← HTX.out,h1];decide⟩)
              clear HTX
              obtain rfl := str_eq_iff.2 h1
              clear h1
              go_wp2_with fail
              go_roundw
              case rel => exact ⟨j + 1,by go_num,by omega,HOj,Hd (fun j' x hj' hx => by
                by_cases e : j' = j
                · rw [e,HTT.out] at hx;cases hx;exact HNI.out
                · exact HPv.out j' x (by omega) hx)⟩
              case measure => simp [intOf];omega
            · by_cases h2 : T.data.toList = [102,97,108,115,101]
              · have HNI := Hd (show NiceT t from ⟨fun h => h.2.2 (HTX.out.symm.trans h2),by rw [← HTX.out,h2];decide,by rw [← HTX.out,h2];decide,by rw [← HTX.out,h2];decide,by rw [← HTX.out,h2];decide⟩)
                clear HTX
                obtain rfl := str_eq_iff.2 h2
                clear h1 h2
                go_wp2_with fail
                go_roundw
                case rel => exact ⟨j + 1,by go_num,by omega,HOj,Hd (fun j' x hj' hx => by
                  by_cases e : j' = j
                  · rw [e,HTT.out] at hx;cases hx;exact HNI.out
                  · exact HPv.out j' x (by omega) hx)⟩
                case measure => simp [intOf];omega
              · have f1 : (T.toList == [116,114,117,101]) = false := str_neq h1
                have f2 : (T.toList == [102,97,108,115,101]) = false := str_neq h2
                have g1 : (T.toList != [116,114,117,101]) = true := by simp [bne,f1]
                have g2 : (T.toList != [102,97,108,115,101]) = true := by simp [bne,f2]
                clear h1 h2
                go_wp2_with fail
                go_ret
                exact ⟨rfl,HO.out.trans HOj.out (by simp)⟩
          · have hk' : ((t.kind : Int) == 1) = false := by simp;omega
            by_cases h1 : T.data.toList = [91]
            · obtain rfl := str_eq_iff.2 h1
              clear h1 HTX
              go_wp2_with fail
              go_ret
              exact ⟨rfl,HO.out.trans HOj.out (by simp)⟩
            · have f1 : (T.toList == [91]) = false := str_neq h1
              by_cases h2 : T.data.toList = [59]
              · obtain rfl := str_eq_iff.2 h2
                clear h1 h2 HTX f1
                go_wp2_with fail
                go_ret
                exact ⟨rfl,HO.out.trans HOj.out (by simp)⟩
              · have f2 : (T.toList == [59]) = false := str_neq h2
                by_cases h3 : T.data.toList = [123]
                · obtain rfl := str_eq_iff.2 h3
                  clear h1 h2 h3 HTX f1 f2
                  go_wp2_with fail
                  go_ret
                  exact ⟨rfl,HO.out.trans HOj.out (by simp)⟩
                · have f3 : (T.toList == [123]) = false := str_neq h3
                  by_cases h4 : T.data.toList = [125]
                  · obtain rfl := str_eq_iff.2 h4
                    clear h1 h2 h3 h4 HTX f1 f2 f3
                    go_wp2_with fail
                    go_ret
                    exact ⟨rfl,HO.out.trans HOj.out (by simp)⟩
                  · have f4 : (T.toList == [125]) = false := str_neq h4
                    have HNI := Hd (show NiceT t from ⟨fun h => hk h.1,fun e => h1 (HTX.out.trans e),fun e => h2 (HTX.out.trans e),fun e => h3 (HTX.out.trans e),fun e => h4 (HTX.out.trans e)⟩)
                    clear h1 h2 h3 h4
                    go_wp2_with fail
                    go_roundw
                    case rel => exact ⟨j + 1,by go_num,by omega,HOj,Hd (fun j' x hj' hx => by
                      by_cases e : j' = j
                      · rw [e,HTT.out] at hx;cases hx;exact HNI.out
                      · exact HPv.out j' x (by omega) hx)⟩
                    case measure => simp [intOf];omega
        · obtain rfl : j = n := by omega
          have hge : ¬ (j : Int) < (j : Int) := by omega
          have HSET := Hd (fun (d : Df) hp => folds_one HLEX.out (fun t ht => by
            obtain ⟨i,hi,e⟩ := List.getElem_of_mem ht
            exact HPv.out i t (by rw [HN.out];exact hi) (by rw [List.getElem?_eq_getElem hi,e])) (d := d) hp)
          replace HO := Hd (HO.out.trans HOj.out (by simp))
          have hsl := HSL.out
          have hss : s = strOf s.data.toList := by cases s;simp [strOf]
          have qa := fun w => add_str (a := tA) (b := s.data.toList) (c := tA ++ s.data.toList) rfl (by rw [List.length_append];simp;omega) (A := ⟨#[111,112,32,111,40,41,32,123,32,91,48,93,32,61,32]⟩) (B := s) rfl hss rfl w
          have qb := fun w => add_str (a := tA ++ s.data.toList) (b := tB) (c := tA ++ s.data.toList ++ tB) rfl (by rw [List.length_append,List.length_append];simp;omega) rfl (B := ⟨#[59,32,125]⟩) rfl rfl w
          have KP := parsedZ_any (strOf (tA ++ s.data.toList ++ tB)) wr (by rw [strOf_len,List.length_append,List.length_append];simp;omega)
          rw [show (strOf (tA ++ s.data.toList ++ tB)).data.toList = tA ++ s.data.toList ++ tB by simp [strOf]] at KP
          obtain ⟨R,hR⟩ : ∃ R,R = pdF (parseS (tA ++ s.data.toList ++ tB)) := ⟨_,rfl⟩
          rw [← hR] at KP
          have HRS := Hd (fun (d : Df) (h : R = some d) => HSET.out d (pdF_some (hR.symm.trans h)))
          have HRO := Hd (show DfOk (R.getD ⟨[],[],[],[],[]⟩) by
            cases hr : R with
            | none => exact ok_zero
            | some d => exact ok_parsed (pdF_some (hR.symm.trans hr)))
          obtain ⟨d1,hd1⟩ : ∃ d,d = R.getD ⟨[],[],[],[],[]⟩ := ⟨_,rfl⟩
          obtain ⟨bo,hbo⟩ : ∃ b,b = R.isSome := ⟨_,rfl⟩
          unfold PdZ at KP
          rw [← hd1,← hbo] at KP
          rw [← hd1] at HRO
          have HD1 := Hd hd1
          have HBO := Hd hbo
          have HOK1 := HRO
          generalize strOf (tA ++ s.data.toList ++ tB) = T2 at qb KP
          generalize strOf (tA ++ s.data.toList) = T1 at qa qb
          clear hsl hss hR hd1 hbo
          go_wp2_with fail
          refine KP.mono ?_
          rintro e wra ⟨sn1,a11,a21,a31,a41,l11,l21,l31,l41,c11,c21,c31,c41,rfl,hok,o1⟩
          replace HO := Hd (HO.out.trans o1 (by simp))
          (try replace HDV1 := Hd (HDV1.out.kept o1 (by simp) (fun _ h => h)))
          (try replace HDV2 := Hd (HDV2.out.kept o1 (by simp) (fun _ h => h)))
          (try replace HA1 := Hd (o1.heap HA1.out (by simp)))
          (try replace HA2 := Hd (o1.heap HA2.out (by simp)))
          (try replace HV1 := Hd (HV1.out.quiet o1))
          (try replace HV2 := Hd (HV2.out.quiet o1))
          (try replace HU1 := Hd (HU1.out.quiet o1))
          (try replace HU2 := Hd (HU2.out.quiet o1))
          (try replace HC1 := Hd (o1.heap HC1.out (by simp)))
          (try replace HC2 := Hd (o1.heap HC2.out (by simp)))
          have HDV1 := Hd hok
          clear KP hok o1 qa qb
          go_upto_region 13 with (fail)
          have oA := (Only.refl [] wra).alloc (.cells #[.string sn1,.slice a11 l11 c11,.slice a21 l21 c21,.slice a31 l31 c31,.slice a41 l41 c41] 27)
          have hA := heap_new wra (.cells #[.string sn1,.slice a11 l11 c11,.slice a21 l21 c21,.slice a31 l31 c31,.slice a41 l41 c41] 27)
          obtain ⟨gd1,hgd⟩ : ∃ g,g = wra.heap.size := ⟨_,rfl⟩
          rw [← hgd] at hA ⊢
          generalize wra.alloc (.cells #[.string sn1,.slice a11 l11 c11,.slice a21 l21 c21,.slice a31 l31 c31,.slice a41 l41 c41] 27) = w3 at oA hA ⊢
          replace HO := Hd (HO.out.trans oA (by simp))
          (try replace HDV1 := Hd (HDV1.out.kept oA (by simp) (fun _ h => h)))
          (try replace HDV2 := Hd (HDV2.out.kept oA (by simp) (fun _ h => h)))
          (try replace HA1 := Hd (oA.heap HA1.out (by simp)))
          (try replace HA2 := Hd (oA.heap HA2.out (by simp)))
          (try replace HV1 := Hd (HV1.out.quiet oA))
          (try replace HV2 := Hd (HV2.out.quiet oA))
          (try replace HU1 := Hd (HU1.out.quiet oA))
          (try replace HU2 := Hd (HU2.out.quiet oA))
          (try replace HC1 := Hd (oA.heap HC1.out (by simp)))
          (try replace HC2 := Hd (oA.heap HC2.out (by simp)))
          have HA1 := Hd hA
          clear oA hA hgd
          have y0 : w3.cell? ⟨gd1,0,none⟩ = some (.string sn1) := cell_at 0 HA1.out
          have y1 : w3.cell? ⟨gd1,1,none⟩ = some (.slice a11 l11 c11) := cell_at 1 HA1.out
          have y2 : w3.cell? ⟨gd1,2,none⟩ = some (.slice a21 l21 c21) := cell_at 2 HA1.out
          have y3 : w3.cell? ⟨gd1,3,none⟩ = some (.slice a31 l31 c31) := cell_at 3 HA1.out
          have y4 : w3.cell? ⟨gd1,4,none⟩ = some (.slice a41 l41 c41) := cell_at 4 HA1.out
          have KC := compile_any HNC.out HDV1.out HOK1.out
          obtain ⟨cd,hco⟩ : ∃ c,c = codeOf d1 := ⟨_,rfl⟩
          rw [← hco] at KC
          obtain ⟨⟨P1,Lo1,is1,ls1⟩,F1⟩ := cd
          unfold CoPost at KC
          dsimp only at KC
          obtain ⟨ev1,hev⟩ : ∃ v,v = errQ F1 := ⟨_,rfl⟩
          rw [← hev] at KC
          have HCO1 := Hd hco
          have HEV1 := Hd hev
          clear hco hev
          go_wp2_with fail
          refine KC.mono ?_
          rintro e w3c ⟨v1,u1,rfl,hv,hu,o1⟩
          replace hv := hv.rv
          replace hu := hu.rv
          obtain ⟨va1,vc1,rfl,-⟩ := id hv
          obtain ⟨ua1,uc1,rfl,-⟩ := id hu
          replace HO := Hd (HO.out.trans o1 (by simp))
          (try replace HDV1 := Hd (HDV1.out.kept o1 (by simp) (fun _ h => h)))
          (try replace HDV2 := Hd (HDV2.out.kept o1 (by simp) (fun _ h => h)))
          (try replace HA1 := Hd (o1.heap HA1.out (by simp)))
          (try replace HA2 := Hd (o1.heap HA2.out (by simp)))
          (try replace HV1 := Hd (HV1.out.quiet o1))
          (try replace HV2 := Hd (HV2.out.quiet o1))
          (try replace HU1 := Hd (HU1.out.quiet o1))
          (try replace HU2 := Hd (HU2.out.quiet o1))
          (try replace HC1 := Hd (o1.heap HC1.out (by simp)))
          (try replace HC2 := Hd (o1.heap HC2.out (by simp)))
          obtain ⟨vn1,hvn⟩ : ∃ n,n = is1.length := ⟨_,rfl⟩
          obtain ⟨un1,hun⟩ : ∃ n,n = ls1.length := ⟨_,rfl⟩
          rw [← hvn] at hv ⊢
          rw [← hun] at hu ⊢
          have HV1 := Hd hv
          have HU1 := Hd hu
          have HVN1 := Hd hvn
          have HUN1 := Hd hun
          clear KC o1 hv hu hvn hun y0 y1 y2 y3 y4
          go_upto_region 14 with (fail)
          have oA := (Only.refl [] w3c).alloc (.cells #[.int .i64 P1,.int .i64 Lo1,.slice va1 vn1 vc1,.slice ua1 un1 uc1] 33)
          have hA := heap_new w3c (.cells #[.int .i64 P1,.int .i64 Lo1,.slice va1 vn1 vc1,.slice ua1 un1 uc1] 33)
          obtain ⟨gc1,hgc⟩ : ∃ g,g = w3c.heap.size := ⟨_,rfl⟩
          rw [← hgc] at hA ⊢
          generalize w3c.alloc (.cells #[.int .i64 P1,.int .i64 Lo1,.slice va1 vn1 vc1,.slice ua1 un1 uc1] 33) = w4 at oA hA ⊢
          replace HO := Hd (HO.out.trans oA (by simp))
          (try replace HDV1 := Hd (HDV1.out.kept oA (by simp) (fun _ h => h)))
          (try replace HDV2 := Hd (HDV2.out.kept oA (by simp) (fun _ h => h)))
          (try replace HA1 := Hd (oA.heap HA1.out (by simp)))
          (try replace HA2 := Hd (oA.heap HA2.out (by simp)))
          (try replace HV1 := Hd (HV1.out.quiet oA))
          (try replace HV2 := Hd (HV2.out.quiet oA))
          (try replace HU1 := Hd (HU1.out.quiet oA))
          (try replace HU2 := Hd (HU2.out.quiet oA))
          (try replace HC1 := Hd (oA.heap HC1.out (by simp)))
          (try replace HC2 := Hd (oA.heap HC2.out (by simp)))
          have HC1 := Hd hA
          clear oA hA hgc
          cases bo with
          | false =>
            go_wp2_with fail
            go_ret
            exact ⟨rfl,HO.out⟩
          | true =>
            have hsome : R = some d1 := by
              have h1 := HBO.out
              have h2 := HD1.out
              cases R with
              | none => cases h1
              | some d => rw [h2];rfl
            have hset := HRS.out d1 hsome
            cases hflt : (opS CS.new d1).flt with
            | some x =>
              have hco := HCO1.out
              unfold codeOf at hco
              rw [hflt,if_pos (show (some x).isSome = true from rfl)] at hco
              simp only [Prod.mk.injEq,Cd.mk.injEq] at hco
              obtain ⟨⟨rfl,rfl,rfl,rfl⟩,rfl⟩ := hco
              obtain rfl : ev1 = err 13 := HEV1.out
              have q1 : ∀ W,(binOp .neq 35 (err 13) .nilIface).run Tryz.prog W = .ok (.bool true) W := fun W => by kernel_rfl
              clear hflt hsome hset
              go_wp2_with fail
              go_ret
              exact ⟨rfl,HO.out⟩
            | none =>
              have hco := HCO1.out
              obtain ⟨v9,hgen⟩ := code_f hset
              unfold codeOf at hco
              rw [hflt,if_neg (show ¬ (none : Option (Int × Int)).isSome = true by decide),hgen] at hco
              simp only [Prod.mk.injEq,Cd.mk.injEq] at hco
              obtain ⟨⟨rfl,rfl,rfl,rfl⟩,rfl⟩ := hco
              obtain rfl : ev1 = .nilIface := HEV1.out
              obtain rfl : vn1 = 3 := HVN1.out
              have q1 := neq_nil0
              obtain ⟨gv,ov,rfl,zc⟩ := HV1.out.at_ (i := 0) (x := (1,0)) rfl
              obtain ⟨gv',ov',e1,zd⟩ := HV1.out.at_ (i := 1) (x := (1,v9)) rfl
              obtain ⟨gv2,ov2,e2,ze⟩ := HV1.out.at_ (i := 2) (x := (5,0)) rfl
              cases e1
              cases e2
              have y0 : w4.cell? ⟨gv,ov,none⟩ = some (.int .i64 1) := by have h : w4.cell? ⟨gv,ov + 0 * 2 + 0,none⟩ = _ := zc 0 _ rfl;simpa using h
              have y1 : w4.cell? ⟨gv,ov + 1,none⟩ = some (.int .i64 0) := by have h : w4.cell? ⟨gv,ov + 0 * 2 + 1,none⟩ = _ := zc 1 _ rfl;simpa using h
              have y2 : w4.cell? ⟨gv,ov + 2,none⟩ = some (.int .i64 1) := by have h : w4.cell? ⟨gv,ov + 1 * 2 + 0,none⟩ = _ := zd 0 _ rfl;simpa using h
              have y4 : w4.cell? ⟨gv,ov + 4,none⟩ = some (.int .i64 5) := by have h : w4.cell? ⟨gv,ov + 2 * 2 + 0,none⟩ = _ := ze 0 _ rfl;simpa using h
              have z1 : w4.cell? ⟨gc1,1,none⟩ = some (.int .i64 0) := cell_at 1 HC1.out
              have z2 : w4.cell? ⟨gc1,2,none⟩ = some (.slice (some ⟨gv,ov,none⟩) 3 vc1) := cell_at 2 HC1.out
              have q9 : ∀ W,(binOp .eql 51 (.agg #[.int .i64 1,.int .i64 0]) (.agg #[.int .i64 1,.int .i64 0])).run Tryz.prog W = .ok (.bool true) W := fun W => eql_instr (1,0) (1,0) W
              clear zc zd ze hflt hgen hsome hset
              go_wp2_with fail
              go_ret
              exact ⟨rfl,HO.out⟩
set_option maxRecDepth 100000 in
theorem codeFolds_lifted (os:Os) (started:os.Started) (H:Type) (enc:TypeId×Value→H) :
  ReturnsInHanded {} Tryz.checked os 5 .any (fun w args=>(Rows.codeFoldsSpec.pre enc Tryz.prog Tryz.f5 Rows.codeFoldsRow.domain false w args∧laidMet Tryz.prog laid5 w)∧sizedMet enc Tryz.prog Tryz.f5 (OpenSpec.ofChange Rows.codeFoldsSpec) false w args)
   (Rows.codeFoldsSpec.post enc Tryz.prog Tryz.f5 false true false false):=by
 refine returnsInHanded_of_change_and (C:=Tryz.checked) (X:=(fun w _=>laidMet Tryz.prog laid5 w)) (fun _ _ _ hh h=>h.of_heap hh) law_own started (by kernel_rfl) Tryz.func5
  (ChangeSpec.witness_at (enc:=enc) (C:=Tryz.checked) (os:=os) (X:=(fun w _=>laidMet Tryz.prog laid5 w)) false (laidWorld os) #[.string ⟨#[]⟩] 8 rfl (by kernel_rfl) (by kernel_rfl) (by kernel_rfl) (by kernel_rfl) (by kernel_rfl) (laidWorld_met os _)) ?_
 intro W base args ds gs before hval0 hW hcnd hsz0 hL _
 have hE:=errs_of_laid hL
 have hval:∀ (j:Nat) t v,Tryz.f5.params[j]?=some t→args[j]?=some v→Value.okWide Tryz.prog W .any base t v:=hval0
 have hW':=hW
 obtain ⟨p,q,hA0,hV,rfl,hfz,hnd⟩:=hW'
 have hA:DataW.TrodAll enc Tryz.prog W 0 (fun _=>true) true Tryz.f5.params.toList args.toList ds p:=hA0
 rw [Tryz.params5] at hA hval
 obtain ⟨v0,vs0,d0,ds0,p0,q0,hargs,rfl,rfl,h0,r0⟩:=trodAll_cons hA
 obtain ⟨rfl,rfl,rfl⟩:=trodAll_nil r0
 obtain rfl:args=#[v0]:=by cases args;simp_all
 obtain ⟨rfl,rfl⟩:=trodVars_none hV
 obtain ⟨a0,rfl,rfl,rfl,w0⟩:=open_string Tryz.underlying9 (hval 0 9 v0 rfl rfl) h0
 clear hA0 hval0
 refine (codeFolds_walk a0  W w0 hE).mono fun e W' ⟨he,hg⟩=>?_
 subst he
 exact ⟨_,rfl,post_quiet (pa:=([]++[])) (pv:=[]) hW hg (fun _ _ _=>(trodAll_cons_mk (shut_bool Tryz.underlying4 _) trodAll_mk0)) (fun sp hsp=>(trodAll_cons_mk (shut_string Tryz.underlying9 w0) trodAll_mk0)) (fun _ _=>rfl) (by simp) (ok_one (by kernel_rfl) rfl (okWide_bool_mk Tryz.underlying4 _))⟩
theorem codeFolds_over:Rows.codeFoldsRow.holds Tryz.pinned (OpenSpec.ofChange Rows.codeFoldsSpec):=
 OpenClaim.holds_of_wide 5 Tryz.f5 rfl rfl rfl rfl rfl rfl rfl ⟨rfl,rfl,rfl,rfl,rfl⟩ rfl rfl rfl rfl rfl (by kernel_rfl) Tryz.func5 (by kernel_rfl)
  (of_decide_eq_true (by kernel_rfl)) (by unfold Func.isWrapper;first | (rw [if_pos (by decide +kernel)];kernel_rfl) | (rw [if_neg (by decide +kernel)];exact ⟨rfl,rfl⟩))
  (fun os started H enc _=>codeFolds_lifted os started H enc)
theorem codeFolds_holds:Rows.CodeFoldsCardSaid:=
 Claim7.holds_tied_plain_at .later [] [.data,.data,.data] true (true,"15efa5c0b783041a866d390ad58605ebe9e7bd5fb484820fb9a3bda929985d92") true
  codeFolds_over (fun _ h=>by cases h) (by kernel_rfl) (fun _ h=>by cases h) codeFolds_row_tie rfl ⟨rfl,rfl⟩ (by kernel_rfl) rfl
  (fun f fn hf hfn=>by
   obtain rfl:f=5:=Option.some.inj ((show Tryz.prog.funcNamed Rows.codeFoldsRow.func=some 5 by kernel_rfl).symm.trans hf) |>.symm
   obtain rfl:fn=Tryz.f5:=(Option.some.inj (Tryz.func5.symm.trans hfn)).symm
   exact ⟨by kernel_rfl,fun j t ht=>by
    rw [Tryz.params5] at ht
    have h3:t=9:=by
     rcases j with _ | j
     ·simpa using ht.symm
     ·simp at ht
    subst h3
    exact (show Tryz.prog.wantsStandIn 9=false by kernel_rfl)⟩)
  (by kernel_rfl)
#print axioms codeFolds_holds
end Go.Proofs.YtheanmadognhbaaGreatDoor

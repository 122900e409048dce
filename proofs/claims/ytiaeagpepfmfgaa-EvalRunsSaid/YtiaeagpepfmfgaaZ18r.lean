import Derived.Test.YtiaeagpepfmfgaaWar
import Derived.Test.YtiaeagpepfmfgaaZdr
import Derived.Test.YtiaeagpepfmfgaaZ8r
namespace Go.Proofs.Ytiaeagpepfmfgaa
open Go.RowKit Go.Maps
set_option linter.unusedSimpArgs false
set_option linter.unusedVariables false
def NoF (env:VE):Prop:=∀ x∈env,x.1≠[102,97,108,115,101]
theorem last_none:∀ {env:VE} {z:Sec},(∀ x∈env,x.1≠z)→lastE env z=none
 | [],z,_=>rfl
 | x :: l,z,h=>by
  unfold lastE
  rw [last_none (fun y hy=>h y (by simp [hy])),if_neg (fun e=>h x (by simp) e.symm)]
theorem nm_last {env:VE} (hf:NoF env) (nm:Sec) (h:nm≠[116,114,117,101]):nmV (lastE env) nm=(lastE env nm).getD 0:=by
 unfold nmV
 rw [if_neg h]
 split
 ·rename_i e
  rw [e,last_none hf]
  rfl
 ·rfl
theorem last_take {env:VE} {z:Sec} {j:Nat} {x:Sec×Int} (hj:env[j]?=some x) (h:lastE env z=lastE (env.take (j+1)) z):lastE env z=if z=x.1 then some x.2 else lastE (env.take j) z:=by
 rw [h,List.take_add_one,hj]
 show lastE (env.take j++[(x.1,x.2)]) z=_
 rw [lastE_snoc]
 rfl
structure CeR (w:World) (v:Value) (c:List Int):Prop where
 ints:IntsV w v c
 cw:CW c
theorem CeR.quiet {w w':World} {v:Value} {c:List Int} (h:CeR w v c) (ho:Only [] w w'):CeR w' v c:=⟨h.ints.kept ho (by intro a n c e h;simp),h.cw⟩
def XR (N:Nat):Prop:=∀ (e:E),sizeE e≤N→∀ (w:World) (cv:Value) (c:List Int) (ev:Value) (env:VE) (cs:List Value) (B:Nat→Prop),CeR w cv c→OVe w ev env→NoF env→NW (lastE env)→env.length≤1000000→wE e→gE e→EV w B e cs→
 Calls Try.prog 24 #[.agg cs.toArray,cv,ev] w fun en w'=>en=.returned (.int .i64 (exV c (lastE env) e))∧Only [] w w'
set_option maxRecDepth 100000 in
set_option maxHeartbeats 8000000 in
theorem rexpr9_step (N : Nat) (IE : XR N) : XR (N + 1) := by
  intro e hN w cv c ev env cs B hce hve hnf hnw hel hw hg hev
  obtain ⟨k,num,nm,ys,p⟩ := e
  unfold wE at hw
  obtain ⟨hi,hnm,hwl⟩ := hw
  unfold gE at hg
  obtain ⟨hnum,hgl⟩ := hg
  have hsz : sizeL ys ≤ N := by unfold sizeE at hN;omega
  unfold EV at hev
  obtain ⟨a,cap,rfl,hcap,hx⟩ := hev
  obtain ⟨R,hR⟩ : ∃ R,R = exV c (lastE env) (.mk k num nm ys p) := ⟨_,rfl⟩
  rw [← hR]
  rw [exV_mk] at hR
  unfold exO at hR
  obtain ⟨sn,hsn⟩ : ∃ sn,sn = strOf nm := ⟨_,rfl⟩
  obtain ⟨L,hL⟩ : ∃ L,L = ys.length := ⟨_,rfl⟩
  rw [← hL] at hcap
  have HX := Hd hx
  have HSN := Hd hsn
  have HL := Hd hL
  rw [← hsn,← hL]
  have o1 : Only [] w (w.alloc (.cells #[.int .i64 k,.int .i64 num,.string sn,.slice a L cap,.int .i64 p] 70)) := (Only.refl _ _).alloc _
  have HY := Hd (heap_new w (.cells #[.int .i64 k,.int .i64 num,.string sn,.slice a L cap,.int .i64 p] 70))
  obtain ⟨w1,hw1⟩ : ∃ w1,w1 = w.alloc (.cells #[.int .i64 k,.int .i64 num,.string sn,.slice a L cap,.int .i64 p] 70) := ⟨_,rfl⟩
  rw [← hw1] at o1 HY
  have HO1 := Hd o1
  have HW := Hd hw1
  have HCE := Hd (hce.quiet o1)
  have HVE := Hd (hve.kept o1 (by simp))
  have HNF := Hd hnf
  have HNW := Hd hnw
  have HNM := Hd hnm
  clear hx hsn hL hN o1 hw1 hnm hce hve hnf hnw
  by_cases h1 : k = 1
  · subst h1
    have hRR : R = num := by rw [hR,if_neg (by decide),if_neg (by decide),if_neg (by decide),if_neg (by decide),if_neg (by decide)]
    have HRR := Hd hRR
    have y1 : w1.cell? ⟨w.heap.size,1,none⟩ = some (.int .i64 num) := cell_at 1 HY.out
    clear hR hRR hi hwl hgl hsz
    go_enter Try.func24,Try.ntmps24
    go_upto_region 3 with (fail)
    rw [← HW.out]
    go_wp2_with fail
    go_ret
    rw [HRR.out]
    exact ⟨rfl,HO1.out⟩
  · have e1 : (k == 1) = false := by simpa using h1
    by_cases h3 : k = 3
    · subst h3
      have hRR : R = getC c ((exVs c (lastE env) ys).getD 0 0) := by rw [hR,if_neg (by decide),if_pos rfl]
      have hlen : ys.length = 1 := by rcases hi with hi | hi | hi <;> omega
      clear hR hi
      obtain ⟨y,rfl⟩ : ∃ y,ys = [y] := by
        rcases ys with _ | ⟨y,_ | ⟨z,zs⟩⟩
        · simp at hlen
        · exact ⟨y,rfl⟩
        · simp at hlen
      obtain ⟨gr,rfl,hgr,hes⟩ : ∃ gr,a = some ⟨gr,0,none⟩ ∧ B gr ∧ EsO w B gr 0 [y] := by
        rcases HX.out with hx | ⟨gr,h1,h2,h3⟩
        · cases hx
        · exact ⟨gr,h1,h2,EsAt.eso [y] 0 0 rfl h3⟩
      obtain ⟨k1,n1,sn1,a1,l1,c1,p1,hev1,hat1⟩ := hes.at5 (j := 0) rfl
      have hat := hat1.kept HO1.out (by simp)
      have hl1 : L = 1 := by rw [HL.out];rfl
      subst hl1
      have z0 : w1.cell? ⟨gr,0,none⟩ = some (.int .i64 k1) := hat.c0
      have z1 : w1.cell? ⟨gr,1,none⟩ = some (.int .i64 n1) := hat.c1
      have z2 : w1.cell? ⟨gr,2,none⟩ = some (.string sn1) := hat.c2
      have z3 : w1.cell? ⟨gr,3,none⟩ = some (.slice a1 l1 c1) := hat.c3
      have z4 : w1.cell? ⟨gr,4,none⟩ = some (.int .i64 p1) := hat.c4
      have y3 : w1.cell? ⟨w.heap.size,3,none⟩ = some (.slice (some ⟨gr,0,none⟩) 1 cap) := cell_at 3 HY.out
      have sy : sizeE y ≤ N := by have : sizeL [y] = sizeE y + 0 := by rw [sizeL_cons,sizeL_nil]
                                  omega
      have wy : wE y := by unfold wL at hwl;exact hwl.1
      have gy : gE y := by unfold gL at hgl;exact hgl.1
      have hev2 : EV w1 B y [.int .i64 k1,.int .i64 n1,.string sn1,.slice a1 l1 c1,.int .i64 p1] := hev1.quiet HO1.out
      have KX := fun (w2 : World) (o2 : Only [] w1 w2) => IE y sy w2 cv c ev env _ B (HCE.out.quiet o2) (HVE.out.kept o2 (by simp)) HNF.out HNW.out hel wy gy (hev2.quiet o2)
      rw [exVs_one] at hRR
      have HRR := Hd hRR
      have HV := Hd (exV_n64 HCE.out.cw HNW.out y gy)
      generalize exV c (lastE env) y = V at KX HRR HV
      have HKX := Hd KX
      clear hRR hat hat1 hev1 hev2 hes sy hwl hgl wy gy KX
      go_enter Try.func24,Try.ntmps24
      go_upto_region 5 with (fail)
      rw [← HW.out]
      go_wp2_with fail
      refine (HKX.out w1 (Only.refl _ _)).mono ?_
      rintro e w3 ⟨rfl,o3⟩
      replace HO1 := Hd (HO1.out.trans o3 (by simp))
      replace HCE := Hd (HCE.out.quiet o3)
      clear o3 y3 z0 z1 z2 z3 z4
      by_cases hc : inC V
      · obtain ⟨j,rfl⟩ : ∃ j : Nat,V = (j : Int) := ⟨V.toNat,by omega⟩
        have hj : j < 60 := by omega
        obtain ⟨z,hz⟩ : ∃ z,c[j]? = some z := ⟨_,List.getElem?_eq_getElem (by rw [HCE.out.cw.len];exact hj)⟩
        have hget : getC c (j : Int) = z := by
          unfold getC
          rw [if_pos hc,List.getD_eq_getElem?_getD]
          show (c[j]?).getD 0 = z
          rw [hz]
          rfl
        obtain ⟨ca,ccap,rfl,hcell⟩ := HCE.out.ints
        obtain ⟨-,cb,coff,rfl,hcz⟩ := hcell j z hz
        rw [HCE.out.cw.len] at *
        have j0 : (0 : Int) ≤ (j : Int) := by omega
        have j1 : (j : Int) < 60 := by omega
        have HG := Hd hget
        clear hcell hz hget
        go_wp2_with fail
        go_ret
        rw [HRR.out,HG.out]
        exact ⟨rfl,HO1.out⟩
      · have hget : getC c V = 0 := by unfold getC;rw [if_neg hc]
        have HG := Hd hget
        clear hget
        by_cases hv0 : V < 0
        · go_wp2_with fail
          go_ret
          rw [HRR.out,HG.out]
          exact ⟨rfl,HO1.out⟩
        · have hv1 : 59 < V := by omega
          go_wp2_with fail
          go_ret
          rw [HRR.out,HG.out]
          exact ⟨rfl,HO1.out⟩
    · have e3 : (k == 3) = false := by simpa using h3
      by_cases h4 : k = 4
      · subst h4
        have hRR : R = tr ((exVs c (lastE env) ys).getD 0 0 = 0) := by rw [hR,if_neg (by decide),if_neg (by decide),if_pos rfl]
        have hlen : ys.length = 1 := by rcases hi with hi | hi | hi <;> omega
        clear hR hi
        obtain ⟨y,rfl⟩ : ∃ y,ys = [y] := by
          rcases ys with _ | ⟨y,_ | ⟨z,zs⟩⟩
          · simp at hlen
          · exact ⟨y,rfl⟩
          · simp at hlen
        obtain ⟨gr,rfl,hgr,hes⟩ : ∃ gr,a = some ⟨gr,0,none⟩ ∧ B gr ∧ EsO w B gr 0 [y] := by
          rcases HX.out with hx | ⟨gr,h1,h2,h3⟩
          · cases hx
          · exact ⟨gr,h1,h2,EsAt.eso [y] 0 0 rfl h3⟩
        obtain ⟨k1,n1,sn1,a1,l1,c1,p1,hev1,hat1⟩ := hes.at5 (j := 0) rfl
        have hat := hat1.kept HO1.out (by simp)
        have hl1 : L = 1 := by rw [HL.out];rfl
        subst hl1
        have z0 : w1.cell? ⟨gr,0,none⟩ = some (.int .i64 k1) := hat.c0
        have z1 : w1.cell? ⟨gr,1,none⟩ = some (.int .i64 n1) := hat.c1
        have z2 : w1.cell? ⟨gr,2,none⟩ = some (.string sn1) := hat.c2
        have z3 : w1.cell? ⟨gr,3,none⟩ = some (.slice a1 l1 c1) := hat.c3
        have z4 : w1.cell? ⟨gr,4,none⟩ = some (.int .i64 p1) := hat.c4
        have y3 : w1.cell? ⟨w.heap.size,3,none⟩ = some (.slice (some ⟨gr,0,none⟩) 1 cap) := cell_at 3 HY.out
        have sy : sizeE y ≤ N := by have : sizeL [y] = sizeE y + 0 := by rw [sizeL_cons,sizeL_nil]
                                    omega
        have wy : wE y := by unfold wL at hwl;exact hwl.1
        have gy : gE y := by unfold gL at hgl;exact hgl.1
        have hev2 : EV w1 B y [.int .i64 k1,.int .i64 n1,.string sn1,.slice a1 l1 c1,.int .i64 p1] := hev1.quiet HO1.out
        have KX := fun (w2 : World) (o2 : Only [] w1 w2) => IE y sy w2 cv c ev env _ B (HCE.out.quiet o2) (HVE.out.kept o2 (by simp)) HNF.out HNW.out hel wy gy (hev2.quiet o2)
        rw [exVs_one] at hRR
        have HRR := Hd hRR
        have HV := Hd (exV_n64 HCE.out.cw HNW.out y gy)
        generalize exV c (lastE env) y = V at KX HRR HV
        have HKX := Hd KX
        clear hRR hat hat1 hev1 hev2 hes sy hwl hgl wy gy KX
        have hT : R = bI (V == 0) := by rw [HRR.out];unfold tr bI;simp
        have HT := Hd hT
        clear hT
        go_enter Try.func24,Try.ntmps24
        go_upto_region 10 with (fail)
        rw [← HW.out]
        go_wp2_with fail
        refine (HKX.out w1 (Only.refl _ _)).mono ?_
        rintro e w3 ⟨rfl,o3⟩
        replace HO1 := Hd (HO1.out.trans o3 (by simp))
        clear o3 y3 z0 z1 z2 z3 z4
        go_wp2_with fail
        refine (rtruth_any _ _).mono ?_
        rintro e w4 ⟨rfl,rfl⟩
        rw [← HT.out]
        go_wp2_with fail
        go_ret
        exact ⟨rfl,HO1.out⟩
      · have e4 : (k == 4) = false := by simpa using h4
        by_cases h5 : k = 5
        · subst h5
          have hRR : R = wrap64 (-((exVs c (lastE env) ys).getD 0 0)) := by rw [hR,if_neg (by decide),if_neg (by decide),if_neg (by decide),if_pos rfl]
          have hlen : ys.length = 1 := by rcases hi with hi | hi | hi <;> omega
          clear hR hi
          obtain ⟨y,rfl⟩ : ∃ y,ys = [y] := by
            rcases ys with _ | ⟨y,_ | ⟨z,zs⟩⟩
            · simp at hlen
            · exact ⟨y,rfl⟩
            · simp at hlen
          obtain ⟨gr,rfl,hgr,hes⟩ : ∃ gr,a = some ⟨gr,0,none⟩ ∧ B gr ∧ EsO w B gr 0 [y] := by
            rcases HX.out with hx | ⟨gr,h1,h2,h3⟩
            · cases hx
            · exact ⟨gr,h1,h2,EsAt.eso [y] 0 0 rfl h3⟩
          obtain ⟨k1,n1,sn1,a1,l1,c1,p1,hev1,hat1⟩ := hes.at5 (j := 0) rfl
          have hat := hat1.kept HO1.out (by simp)
          have hl1 : L = 1 := by rw [HL.out];rfl
          subst hl1
          have z0 : w1.cell? ⟨gr,0,none⟩ = some (.int .i64 k1) := hat.c0
          have z1 : w1.cell? ⟨gr,1,none⟩ = some (.int .i64 n1) := hat.c1
          have z2 : w1.cell? ⟨gr,2,none⟩ = some (.string sn1) := hat.c2
          have z3 : w1.cell? ⟨gr,3,none⟩ = some (.slice a1 l1 c1) := hat.c3
          have z4 : w1.cell? ⟨gr,4,none⟩ = some (.int .i64 p1) := hat.c4
          have y3 : w1.cell? ⟨w.heap.size,3,none⟩ = some (.slice (some ⟨gr,0,none⟩) 1 cap) := cell_at 3 HY.out
          have sy : sizeE y ≤ N := by have : sizeL [y] = sizeE y + 0 := by rw [sizeL_cons,sizeL_nil]
                                      omega
          have wy : wE y := by unfold wL at hwl;exact hwl.1
          have gy : gE y := by unfold gL at hgl;exact hgl.1
          have hev2 : EV w1 B y [.int .i64 k1,.int .i64 n1,.string sn1,.slice a1 l1 c1,.int .i64 p1] := hev1.quiet HO1.out
          have KX := fun (w2 : World) (o2 : Only [] w1 w2) => IE y sy w2 cv c ev env _ B (HCE.out.quiet o2) (HVE.out.kept o2 (by simp)) HNF.out HNW.out hel wy gy (hev2.quiet o2)
          rw [exVs_one] at hRR
          have HRR := Hd hRR
          have HV := Hd (exV_n64 HCE.out.cw HNW.out y gy)
          generalize exV c (lastE env) y = V at KX HRR HV
          have HKX := Hd KX
          clear hRR hat hat1 hev1 hev2 hes sy hwl hgl wy gy KX
          go_enter Try.func24,Try.ntmps24
          go_upto_region 12 with (fail)
          rw [← HW.out]
          go_wp2_with fail
          refine (HKX.out w1 (Only.refl _ _)).mono ?_
          rintro e w3 ⟨rfl,o3⟩
          replace HO1 := Hd (HO1.out.trans o3 (by simp))
          clear o3 y3 z0 z1 z2 z3 z4
          go_wp2_with fail
          go_ret
          rw [HRR.out]
          exact ⟨by first | rfl | rw [neg_wrap] <;> rfl,HO1.out⟩
        · have e5 : (k == 5) = false := by simpa using h5
          by_cases h6 : k = 6
          · subst h6
            have hRR : R = opV nm ((exVs c (lastE env) ys).getD 0 0) ((exVs c (lastE env) ys).getD 1 0) := by rw [hR,if_neg (by decide),if_neg (by decide),if_neg (by decide),if_neg (by decide),if_pos rfl]
            obtain ⟨hlen,hop⟩ : ys.length = 2 ∧ (opr nm).2 ≠ 0 := by rcases hi with hi | hi | hi <;> omega
            have HOP := Hd (show sn.data.toList ∈ ops7 by rw [show sn.data.toList = nm by rw [HSN.out];simp [strOf]];exact opr_mem hop)
            have HSD := Hd (show sn.data.toList = nm by rw [HSN.out];simp [strOf])
            clear hR hi hop
            obtain ⟨y,z,rfl⟩ : ∃ y z,ys = [y,z] := by
              rcases ys with _ | ⟨y,_ | ⟨z,_ | ⟨u,us⟩⟩⟩
              · simp at hlen
              · simp at hlen
              · exact ⟨y,z,rfl⟩
              · simp at hlen
            obtain ⟨gr,rfl,hgr,hes⟩ : ∃ gr,a = some ⟨gr,0,none⟩ ∧ B gr ∧ EsO w B gr 0 [y,z] := by
              rcases HX.out with hx | ⟨gr,h1,h2,h3⟩
              · cases hx
              · exact ⟨gr,h1,h2,EsAt.eso [y,z] 0 0 rfl h3⟩
            obtain ⟨k1,n1,sn1,a1,l1,c1,p1,hev1,hat1⟩ := hes.at5 (j := 0) rfl
            obtain ⟨k2,n2,sn2,a2,l2,c2,p2,hev2,hat2⟩ := hes.at5 (j := 1) rfl
            have hl1 : L = 2 := by rw [HL.out];rfl
            subst hl1
            have q1 := hat1.kept HO1.out (by simp)
            have q2 := hat2.kept HO1.out (by simp)
            have hZ : w1.cell? ⟨w.heap.size,2,none⟩ = some (.string sn) ∧ w1.cell? ⟨w.heap.size,3,none⟩ = some (.slice (some ⟨gr,0,none⟩) 2 cap) ∧ w1.cell? ⟨gr,0,none⟩ = some (.int .i64 k1) ∧ w1.cell? ⟨gr,1,none⟩ = some (.int .i64 n1) ∧ w1.cell? ⟨gr,2,none⟩ = some (.string sn1) ∧ w1.cell? ⟨gr,3,none⟩ = some (.slice a1 l1 c1) ∧ w1.cell? ⟨gr,4,none⟩ = some (.int .i64 p1) ∧ w1.cell? ⟨gr,5,none⟩ = some (.int .i64 k2) ∧ w1.cell? ⟨gr,6,none⟩ = some (.int .i64 n2) ∧ w1.cell? ⟨gr,7,none⟩ = some (.string sn2) ∧ w1.cell? ⟨gr,8,none⟩ = some (.slice a2 l2 c2) ∧ w1.cell? ⟨gr,9,none⟩ = some (.int .i64 p2) :=
              ⟨cell_at 2 HY.out,cell_at 3 HY.out,q1.c0,q1.c1,q1.c2,q1.c3,q1.c4,q2.c0,q2.c1,q2.c2,q2.c3,q2.c4⟩
            have HZ := Hd hZ
            have hsum : sizeE y + sizeE z ≤ N := by
              have : sizeL [y,z] = sizeE y + (sizeE z + 0) := by rw [sizeL_cons,sizeL_cons,sizeL_nil]
              omega
            have wy : wE y ∧ wE z := by unfold wL at hwl;unfold wL at hwl;exact ⟨hwl.1,hwl.2.1⟩
            have gy : gE y ∧ gE z := by unfold gL at hgl;unfold gL at hgl;exact ⟨hgl.1,hgl.2.1⟩
            have HEV1 := Hd (hev1.quiet HO1.out)
            have HEV2 := Hd (hev2.quiet HO1.out)
            have HKX := Hd (fun (w2 : World) (o2 : Only [] w1 w2) => IE y (by omega) w2 cv c ev env _ B (HCE.out.quiet o2) (HVE.out.kept o2 (by simp)) HNF.out HNW.out hel wy.1 gy.1 (HEV1.out.quiet o2))
            have HKY := Hd (fun (w2 : World) (o2 : Only [] w1 w2) => IE z (by omega) w2 cv c ev env _ B (HCE.out.quiet o2) (HVE.out.kept o2 (by simp)) HNF.out HNW.out hel wy.2 gy.2 (HEV2.out.quiet o2))
            rw [exVs_one,exVs_two] at hRR
            have HRR := Hd hRR
            have HV := Hd (exV_n64 HCE.out.cw HNW.out z gy.2)
            generalize exV c (lastE env) y = V1 at HKX HRR
            generalize exV c (lastE env) z = V2 at HKY HRR HV
            clear hRR hat1 hat2 hev1 hev2 hes hlen hwl hgl wy gy q1 q2 hZ hsum hsz
            go_enter Try.func24,Try.ntmps24
            go_upto_region 14 with (fail)
            rw [← HW.out]
            have hZ := HZ.out
            have oD : Only [] w1 w1.drew := (Only.refl [] w1).drew
            refine wp_region_held_drew (S := fun w1 => w1.cell? ⟨w.heap.size,2,none⟩ = some (.string sn) ∧ w1.cell? ⟨w.heap.size,3,none⟩ = some (.slice (some ⟨gr,0,none⟩) 2 cap) ∧ w1.cell? ⟨gr,0,none⟩ = some (.int .i64 k1) ∧ w1.cell? ⟨gr,1,none⟩ = some (.int .i64 n1) ∧ w1.cell? ⟨gr,2,none⟩ = some (.string sn1) ∧ w1.cell? ⟨gr,3,none⟩ = some (.slice a1 l1 c1) ∧ w1.cell? ⟨gr,4,none⟩ = some (.int .i64 p1) ∧ w1.cell? ⟨gr,5,none⟩ = some (.int .i64 k2) ∧ w1.cell? ⟨gr,6,none⟩ = some (.int .i64 n2) ∧ w1.cell? ⟨gr,7,none⟩ = some (.string sn2) ∧ w1.cell? ⟨gr,8,none⟩ = some (.slice a2 l2 c2) ∧ w1.cell? ⟨gr,9,none⟩ = some (.int .i64 p2)) (by kernel_rfl) ⟨cell_kept oD hZ.1 (by simp),cell_kept oD hZ.2.1 (by simp),cell_kept oD hZ.2.2.1 (by simp),cell_kept oD hZ.2.2.2.1 (by simp),cell_kept oD hZ.2.2.2.2.1 (by simp),cell_kept oD hZ.2.2.2.2.2.1 (by simp),cell_kept oD hZ.2.2.2.2.2.2.1 (by simp),cell_kept oD hZ.2.2.2.2.2.2.2.1 (by simp),cell_kept oD hZ.2.2.2.2.2.2.2.2.1 (by simp),cell_kept oD hZ.2.2.2.2.2.2.2.2.2.1 (by simp),cell_kept oD hZ.2.2.2.2.2.2.2.2.2.2.1 (by simp),cell_kept oD hZ.2.2.2.2.2.2.2.2.2.2.2 (by simp)⟩ (fun hH => ?_)
            have HO2 := Hd oD
            clear oD hZ
            generalize w1.drew = wd at HO2 hH ⊢
            refine tk 0 hH ?_
            refine tk 1 hH ?_
            refine tk 2 hH ?_
            refine tk 3 hH ?_
            refine tk 4 hH ?_
            refine tk 5 hH ?_
            refine tk 6 hH ?_
            refine tk 7 hH ?_
            refine tk 9 hH ?_
            refine tk 10 hH ?_
            refine tk 11 hH ?_
            refine tk 12 hH ?_
            refine tk 13 hH ?_
            refine tk 14 hH ?_
            refine rd 8 (fun K hK => ?_)
            go_simp
            refine (HKX.out wd HO2.out).mono ?_
            rintro e w3 ⟨rfl,o3⟩
            replace HO2 := Hd (HO2.out.trans o3 (by simp))
            refine hK.out _ _ ⟨cell_kept o3 hH.1 (by simp),cell_kept o3 hH.2.1 (by simp),cell_kept o3 hH.2.2.1 (by simp),cell_kept o3 hH.2.2.2.1 (by simp),cell_kept o3 hH.2.2.2.2.1 (by simp),cell_kept o3 hH.2.2.2.2.2.1 (by simp),cell_kept o3 hH.2.2.2.2.2.2.1 (by simp),cell_kept o3 hH.2.2.2.2.2.2.2.1 (by simp),cell_kept o3 hH.2.2.2.2.2.2.2.2.1 (by simp),cell_kept o3 hH.2.2.2.2.2.2.2.2.2.1 (by simp),cell_kept o3 hH.2.2.2.2.2.2.2.2.2.2.1 (by simp),cell_kept o3 hH.2.2.2.2.2.2.2.2.2.2.2 (by simp)⟩ (fun hH => ?_)
            clear hK K o3
            refine rd 15 (fun K hK => ?_)
            go_simp
            refine (HKY.out w3 HO2.out).mono ?_
            rintro e w4 ⟨rfl,o3⟩
            replace HO2 := Hd (HO2.out.trans o3 (by simp))
            refine hK.out _ _ ⟨cell_kept o3 hH.1 (by simp),cell_kept o3 hH.2.1 (by simp),cell_kept o3 hH.2.2.1 (by simp),cell_kept o3 hH.2.2.2.1 (by simp),cell_kept o3 hH.2.2.2.2.1 (by simp),cell_kept o3 hH.2.2.2.2.2.1 (by simp),cell_kept o3 hH.2.2.2.2.2.2.1 (by simp),cell_kept o3 hH.2.2.2.2.2.2.2.1 (by simp),cell_kept o3 hH.2.2.2.2.2.2.2.2.1 (by simp),cell_kept o3 hH.2.2.2.2.2.2.2.2.2.1 (by simp),cell_kept o3 hH.2.2.2.2.2.2.2.2.2.2.1 (by simp),cell_kept o3 hH.2.2.2.2.2.2.2.2.2.2.2 (by simp)⟩ (fun hH => ?_)
            clear hK K o3
            have KO := roperate_any sn V1 V2 w4 HV.out HOP.out
            rw [HSD.out,← HRR.out] at KO
            refine rd 16 (fun K hK => ?_)
            go_simp
            refine KO.mono ?_
            rintro e w5 ⟨rfl,o3⟩
            replace HO2 := Hd (HO2.out.trans o3 (by simp))
            refine hK.out _ _ ⟨cell_kept o3 hH.1 (by simp),cell_kept o3 hH.2.1 (by simp),cell_kept o3 hH.2.2.1 (by simp),cell_kept o3 hH.2.2.2.1 (by simp),cell_kept o3 hH.2.2.2.2.1 (by simp),cell_kept o3 hH.2.2.2.2.2.1 (by simp),cell_kept o3 hH.2.2.2.2.2.2.1 (by simp),cell_kept o3 hH.2.2.2.2.2.2.2.1 (by simp),cell_kept o3 hH.2.2.2.2.2.2.2.2.1 (by simp),cell_kept o3 hH.2.2.2.2.2.2.2.2.2.1 (by simp),cell_kept o3 hH.2.2.2.2.2.2.2.2.2.2.1 (by simp),cell_kept o3 hH.2.2.2.2.2.2.2.2.2.2.2 (by simp)⟩ (fun hH => ?_)
            clear hK K KO o3
            refine tk 17 hH ?_
            refine wpAnyH_done (by kernel_rfl) ?_ _
            clear hH
            go_wp2_with fail
            go_ret
            exact ⟨rfl,HO1.out.trans HO2.out (by simp)⟩
          · have e6 : (k == 6) = false := by simpa using h6
            obtain rfl : k = 2 := by rcases hi with hi | hi | hi <;> omega
            have hRR : R = nmV (lastE env) nm := by rw [hR,if_pos rfl]
            have hd : sn.data.toList = nm := by rw [HSN.out];simp [strOf]
            have y2 : w1.cell? ⟨w.heap.size,2,none⟩ = some (.string sn) := cell_at 2 HY.out
            clear hR hi hwl hgl hsz
            by_cases ht : nm = [116,114,117,101]
            · have hR1 : R = 1 := by rw [hRR];unfold nmV;rw [if_pos ht]
              have HR1 := Hd hR1
              obtain rfl := str_eq_iff.2 (hd.trans ht)
              clear hd ht hRR hR1
              go_enter Try.func24,Try.ntmps24
              go_upto_region 15 with (fail)
              rw [← HW.out]
              go_wp2_with fail
              go_ret
              rw [HR1.out]
              exact ⟨rfl,HO1.out⟩
            · have n1 : (sn.toList == [116,114,117,101]) = false := str_neq (fun e => ht (hd.symm.trans e))
              have hR1 : R = (lastE env nm).getD 0 := by rw [hRR,nm_last HNF.out nm ht]
              have HR1 := Hd hR1
              obtain ⟨ea,ec,rfl⟩ := HVE.out.shape
              obtain ⟨m,hm⟩ : ∃ m,m = env.length := ⟨_,rfl⟩
              have HM := Hd hm
              rw [← hm] at HVE hel ⊢
              clear hd ht hRR hR1 hm IE
              go_enter Try.func24,Try.ntmps24
              go_upto_region 15 with (fail)
              rw [← HW.out]
              go_wp2_with fail
              clear y2
              go_loopw [8] (fun ix wz => ∃ q : Nat,q ≤ m ∧ ix = .int .i64 ((q : Int) - 1) ∧ Hid (lastE env nm = lastE (env.take q) nm) ∧ Hid (Only [] w1 wz)) (fun ix _ => (intOf ix + 1).toNat)
              case atStart => exact ⟨m,Nat.le_refl _,by first | rfl | go_num,Hd (by rw [HM.out,List.take_length]),Hd (Only.refl _ _)⟩
              case round =>
                obtain ⟨q,hqm,rfl,HLL,HOz⟩ := hrel
                have b2 : wr.cell? ⟨w.heap.size,2,none⟩ = some (.string sn) := cell_kept HOz.out (cell_at 2 HY.out) (by simp)
                have he := HVE.out.kept HOz.out (by simp)
                by_cases hq : q = 0
                · subst hq
                  have hR2 : R = 0 := by rw [HR1.out,HLL.out];rfl
                  have HR2 := Hd hR2
                  have hneg : ¬ (0 : Int) ≤ (((0 : Nat) : Int) - 1) := by omega
                  clear hR2 he
                  go_wp2_with fail
                  go_ret
                  rw [HR2.out]
                  exact ⟨rfl,HO1.out.trans HOz.out (by simp)⟩
                · obtain ⟨j,rfl⟩ : ∃ j,q = j + 1 := ⟨q - 1,by omega⟩
                  rw [show (((j + 1 : Nat) : Int) - 1) = (j : Int) by omega]
                  have j0 : (0 : Int) ≤ (j : Int) := by omega
                  have jm : (j : Int) < (m : Int) := by omega
                  obtain ⟨y,hy⟩ : ∃ y,env[j]? = some y := ⟨_,List.getElem?_eq_getElem (by rw [← HM.out];omega)⟩
                  obtain ⟨ge,ce,e1',u0,u1⟩ := he.at_ hy
                  injection e1' with e1' _ _
                  subst e1'
                  obtain ⟨Y,hY⟩ : ∃ Y,Y = strOf y.1 := ⟨_,rfl⟩
                  rw [← hY] at u0
                  have heq := strs_eq hY HSN.out
                  have hl := last_take hy HLL.out
                  obtain ⟨yt,hyt⟩ : ∃ yt,yt = y.2 := ⟨_,rfl⟩
                  rw [← hyt] at u1 hl
                  by_cases hye : y.1 = nm
                  · have heq' : (Y.toList == sn.toList) = true := by rw [heq];simpa using hye
                    have hR2 : R = yt := by rw [HR1.out,hl,if_pos hye.symm];rfl
                    have HR2 := Hd hR2
                    clear heq hl hy hye hR2 hY hyt he
                    go_wp2_with fail
                    go_quiet (fail)
                    have od : Only [] wr (wr.drewN nq) := only_drewN' (Only.refl [] wr)
                    have u1' := cell_kept od u1 (by simp)
                    have HO2 := Hd (HOz.out.trans od (by simp))
                    clear u0 u1 b2 od
                    generalize wr.drewN nq = wd at u1' HO2 ⊢
                    go_wp2_with fail
                    go_ret
                    rw [HR2.out]
                    exact ⟨rfl,HO1.out.trans HO2.out (by simp)⟩
                  · have heq' : (Y.toList == sn.toList) = false := by rw [heq];simpa using hye
                    have HL2 := Hd (show lastE env nm = lastE (env.take j) nm by rw [hl,if_neg (fun e => hye e.symm)])
                    clear heq hl hy hye hY hyt he
                    go_wp2_with fail
                    go_quiet (fail)
                    have HO2 := Hd (HOz.out.trans (only_drewN' (n := nq) (Only.refl [] wr)) (by simp))
                    clear u0 u1 b2
                    generalize wr.drewN nq = wd at HO2 ⊢
                    go_wp2_with fail
                    refine ⟨⟨j,by omega,by go_num,HL2,HO2⟩,?_⟩
                    first | (simp [intOf];done) | (simp [intOf];omega)
theorem rexpr9_all:∀ N,XR N
 | 0=>fun e he=>by cases e;unfold sizeE at he;omega
 | N+1=>rexpr9_step N (rexpr9_all N)
theorem rvalue_any {w:World} {cv:Value} {c:List Int} {ev:Value} {env:VE} {cs:List Value} {B:Nat→Prop} {e:E} (hc:CeR w cv c) (he:OVe w ev env) (hf:NoF env) (hn:NW (lastE env)) (hl:env.length≤1000000) (hw:wE e) (hg:gE e) (hev:EV w B e cs) :
  Calls Try.prog 24 #[.agg cs.toArray,cv,ev] w fun en w'=>en=.returned (.int .i64 (exV c (lastE env) e))∧Only [] w w':=
 rexpr9_all _ e (Nat.le_refl _) w cv c ev env cs B hc he hf hn hl hw hg hev
end Go.Proofs.Ytiaeagpepfmfgaa

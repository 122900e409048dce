import Derived.Test.YtagkbbcpbebapaaZcr
namespace Go.Proofs.Ytagkbbcpbebapaa
open Go.RowKit Go.Maps
set_option linter.unusedSimpArgs false
set_option linter.unusedVariables false
structure At5 (w:World) (gr o:Nat) (k n:Int) (sn:ByteArray) (a:Option Addr) (l c:Nat) (p:Int):Prop where
 c0:w.cell? ⟨gr,o,none⟩=some (.int .i64 k)
 c1:w.cell? ⟨gr,o+1,none⟩=some (.int .i64 n)
 c2:w.cell? ⟨gr,o+2,none⟩=some (.string sn)
 c3:w.cell? ⟨gr,o+3,none⟩=some (.slice a l c)
 c4:w.cell? ⟨gr,o+4,none⟩=some (.int .i64 p)
theorem At5.kept {w w':World} {gr o:Nat} {k n:Int} {sn:ByteArray} {a:Option Addr} {l c:Nat} {p:Int} {S:List Nat} (h:At5 w gr o k n sn a l c p) (ho:Only S w w') (hs:gr∉S):At5 w' gr o k n sn a l c p:=
 ⟨cell_kept ho h.c0 hs,cell_kept ho h.c1 hs,cell_kept ho h.c2 hs,cell_kept ho h.c3 hs,cell_kept ho h.c4 hs⟩
theorem EsO.at5 {w:World} {B:Nat→Prop} {gr:Nat} {xs:List E} (h:EsO w B gr 0 xs) {j:Nat} {e:E} (hj:xs[j]?=some e) :
  ∃ k n sn a l c p,EV w B e [.int .i64 k,.int .i64 n,.string sn,.slice a l c,.int .i64 p]∧At5 w gr (j*5) k n sn a l c p:=by
 obtain ⟨cs,hev,hcs⟩:=h j e hj
 obtain ⟨k1,n1,nm1,ys1,p1⟩:=e
 have hev':=hev
 unfold EV at hev'
 obtain ⟨a1,cap1,rfl,-,-⟩:=hev'
 refine ⟨_,_,_,_,_,_,_,hev,?_,?_,?_,?_,?_⟩
 ·have:=hcs 0 _ rfl;rwa [Nat.zero_add] at this
 ·have:=hcs 1 _ rfl;rwa [Nat.zero_add] at this
 ·have:=hcs 2 _ rfl;rwa [Nat.zero_add] at this
 ·have:=hcs 3 _ rfl;rwa [Nat.zero_add] at this
 ·have:=hcs 4 _ rfl;rwa [Nat.zero_add] at this
def XP (N:Nat):Prop:=∀ (e:E),sizeE e≤N→∀ (w:World) (g b:Nat) (L:List Sec) (C:Nat) (n:Int) (s:PS) (cs:List Value) (B:Nat→Prop),RM w g b L C n s→wE e→gE e→EV w B e cs→
 Calls Try.prog 29 #[.pointer (some ⟨g,0,none⟩),.agg cs.toArray] w fun en w'=>en=.returned (.int .i64 (exV s.c s.m e))∧Only [] w w'
theorem exV_mk (c:List Int) (m:Nms) (k n:Int) (nm:Sec) (xs:List E) (p:Int):exV c m (.mk k n nm xs p)=exO c m k n nm (exVs c m xs):=by conv=>lhs;unfold exV
theorem exVs_one (c:List Int) (m:Nms) (x:E) (xs:List E):(exVs c m (x :: xs)).getD 0 0=exV c m x:=by unfold exVs;rfl
theorem exVs_two (c:List Int) (m:Nms) (x y:E) (xs:List E):(exVs c m (x :: y :: xs)).getD 1 0=exV c m y:=by unfold exVs;unfold exVs;rfl
set_option maxRecDepth 100000 in
set_option maxHeartbeats 8000000 in
theorem pexpr_step (N : Nat) (IE : XP N) : XP (N + 1) := by
  intro e hN w g b LL C nn s cs B h hw hg hev
  obtain ⟨k,num,nm,ys,p⟩ := e
  unfold wE at hw
  obtain ⟨hi,hnm,hwl⟩ := hw
  unfold gE at hg
  obtain ⟨hnum,hgl⟩ := hg
  have hsz : sizeL ys ≤ N := by unfold sizeE at hN;omega
  unfold EV at hev
  obtain ⟨a,cap,rfl,hcap,hx⟩ := hev
  obtain ⟨R,hR⟩ : ∃ R,R = exV s.c s.m (.mk k num nm ys p) := ⟨_,rfl⟩
  rw [← hR]
  rw [exV_mk] at hR
  unfold exO at hR
  obtain ⟨sn,hsn⟩ : ∃ sn,sn = strOf nm := ⟨_,rfl⟩
  obtain ⟨L,hL⟩ : ∃ L,L = ys.length := ⟨_,rfl⟩
  rw [← hL] at hcap
  have HX := Hd hx
  have HSN := Hd hsn
  have HL := Hd hL
  rw [← hsn,← hL]
  have o1 : Only [] w (w.alloc (.cells #[.int .i64 k,.int .i64 num,.string sn,.slice a L cap,.int .i64 p] 74)) := (Only.refl _ _).alloc _
  have HY := Hd (heap_new w (.cells #[.int .i64 k,.int .i64 num,.string sn,.slice a L cap,.int .i64 p] 74))
  obtain ⟨w1,hw1⟩ : ∃ w1,w1 = w.alloc (.cells #[.int .i64 k,.int .i64 num,.string sn,.slice a L cap,.int .i64 p] 74) := ⟨_,rfl⟩
  rw [← hw1] at o1 HY
  have HO1 := Hd o1
  have HW := Hd hw1
  have HH := Hd (h.quiet o1)
  have HNM := Hd hnm
  clear h hx hsn hL hN o1 hw1 hnm
  by_cases h2 : k = 2
  · subst h2
    have hRR : R = nmV s.m nm := by rw [hR,if_pos rfl]
    have HRR := Hd hRR
    obtain ⟨cnt,hmap,-⟩ := HH.out.names
    have HM := Hd hmap
    have y2 : w1.cell? ⟨w.heap.size,2,none⟩ = some (.string sn) := cell_at 2 HY.out
    have y61 := HH.out.map
    clear hR hRR hi hwl hgl hsz hmap
    go_enter Try.func29,Try.ntmps29
    go_upto_region 3 with (fail)
    rw [← HW.out]
    have oD : Only [] w1 w1.drew := (Only.refl [] w1).drew
    refine wp_region_held_drew (S := fun w' => w'.cell? ⟨w.heap.size,2,none⟩ = some (.string sn) ∧ w'.cell? ⟨g,61,none⟩ = some (.map (some b))) (by kernel_rfl) ⟨cell_kept oD y2 (by simp),cell_kept oD y61 (by simp)⟩ (fun hH => ?_)
    have HM2 := Hd (HM.out.kept oD (by simp))
    have HO2 := Hd (HO1.out.trans oD (by simp))
    clear oD y2 y61
    generalize w1.drew = wd at HM2 HO2 hH ⊢
    refine tk 0 hH ?_
    refine tk 1 hH ?_
    refine tk 2 hH ?_
    refine tk 3 hH ?_
    refine tk 4 hH ?_
    refine tk 5 hH ?_
    have KN := named_any HM2.out HNM.out
    rw [← HSN.out,← HRR.out] at KN
    refine rd 6 (fun K hK => ?_)
    go_simp
    refine KN.mono ?_
    rintro e w3 ⟨⟨ok,rfl⟩,rfl⟩
    refine hK.out _ _ hH (fun hH => ?_)
    clear hK K KN
    refine tk 7 hH ?_
    refine tk 8 hH ?_
    refine tk 9 hH ?_
    refine tk 10 hH ?_
    refine tk 11 hH ?_
    refine wpAnyH_done (by kernel_rfl) ?_ _
    clear hH
    go_wp2_with fail
    go_ret
    exact ⟨rfl,HO2.out⟩
  · by_cases h3 : k = 3
    · subst h3
      have hRR : R = getC s.c ((exVs s.c s.m ys).getD 0 0) := by rw [hR,if_neg (by decide),if_pos rfl]
      have hlen : ys.length = 1 := by rcases hi with hi | hi | hi <;> omega
      clear hR hi
      obtain ⟨y,rfl⟩ : ∃ y,ys = [y] := by
        rcases ys with _ | ⟨y,_ | ⟨z,zs⟩⟩
        · simp at hlen
        · exact ⟨y,rfl⟩
        · simp at hlen
      obtain ⟨gr,rfl,hgr,hes⟩ : ∃ gr,a = some ⟨gr,0,none⟩ ∧ B gr ∧ EsO w B gr 0 [y] := by
        rcases HX.out with hx | ⟨gr,h1,h2,h3⟩
        · cases hx
        · exact ⟨gr,h1,h2,EsAt.eso [y] 0 0 rfl h3⟩
      obtain ⟨k1,n1,sn1,a1,l1,c1,p1,hev1,hat1⟩ := hes.at5 (j := 0) rfl
      have hat := hat1.kept HO1.out (by simp)
      have hl1 : L = 1 := by rw [HL.out];rfl
      subst hl1
      have z0 : w1.cell? ⟨gr,0,none⟩ = some (.int .i64 k1) := hat.c0
      have z1 : w1.cell? ⟨gr,1,none⟩ = some (.int .i64 n1) := hat.c1
      have z2 : w1.cell? ⟨gr,2,none⟩ = some (.string sn1) := hat.c2
      have z3 : w1.cell? ⟨gr,3,none⟩ = some (.slice a1 l1 c1) := hat.c3
      have z4 : w1.cell? ⟨gr,4,none⟩ = some (.int .i64 p1) := hat.c4
      have y3 : w1.cell? ⟨w.heap.size,3,none⟩ = some (.slice (some ⟨gr,0,none⟩) 1 cap) := cell_at 3 HY.out
      have sy : sizeE y ≤ N := by have : sizeL [y] = sizeE y + 0 := by rw [sizeL_cons,sizeL_nil]
                                  omega
      have wy : wE y := by unfold wL at hwl;exact hwl.1
      have gy : gE y := by unfold gL at hgl;exact hgl.1
      have hev2 : EV w1 B y [.int .i64 k1,.int .i64 n1,.string sn1,.slice a1 l1 c1,.int .i64 p1] := hev1.quiet HO1.out
      have HG := Hd gy
      have HWY := Hd wy
      have HEV := Hd hev2
      have KX := fun (w2 : World) (o2 : Only [] w1 w2) => IE y sy w2 g b LL C nn s _ B (HH.out.quiet o2) wy gy (hev2.quiet o2)
      rw [exVs_one] at hRR
      have HRR := Hd hRR
      have HV := Hd (exV_n64 HH.out.sw.1 HH.out.sw.2 y gy)
      generalize exV s.c s.m y = V at KX HRR HV
      have HKX := Hd KX
      clear hRR hat hat1 hev1 hev2 hes sy hwl hgl wy gy KX
      go_enter Try.func29,Try.ntmps29
      go_upto_region 6 with (fail)
      rw [← HW.out]
      have oD : Only [] w1 w1.drew := (Only.refl [] w1).drew
      refine wp_region_held_drew (S := fun w' => RM w' g b LL C nn s ∧ w'.cell? ⟨w.heap.size,3,none⟩ = some (.slice (some ⟨gr,0,none⟩) 1 cap) ∧ w'.cell? ⟨gr,0,none⟩ = some (.int .i64 k1) ∧ w'.cell? ⟨gr,1,none⟩ = some (.int .i64 n1) ∧ w'.cell? ⟨gr,2,none⟩ = some (.string sn1) ∧ w'.cell? ⟨gr,3,none⟩ = some (.slice a1 l1 c1) ∧ w'.cell? ⟨gr,4,none⟩ = some (.int .i64 p1)) (by kernel_rfl) ⟨HH.out.quiet oD,cell_kept oD y3 (by simp),cell_kept oD z0 (by simp),cell_kept oD z1 (by simp),cell_kept oD z2 (by simp),cell_kept oD z3 (by simp),cell_kept oD z4 (by simp)⟩ (fun hH => ?_)
      have HO2 := Hd oD
      clear oD y3 z0 z1 z2 z3 z4
      generalize w1.drew = wd at HO2 hH ⊢
      refine tk 0 hH ?_
      refine tk 1 hH ?_
      refine tk 2 hH ?_
      refine take_list (i := 3) (v := .agg (ivA (nn :: s.c))) rfl (by kernel_rfl) (by kernel_rfl) (by kernel_rfl) (fun _ _ _ h => h) (Or.inl ⟨by rfl,fun w hw => exec_load_pg hw.1 _ _ _ rfl rfl⟩) hH ?_
      simp only [Act.put,List.setIfInBounds_toArray,List.set_cons_zero,List.set_cons_succ]
      refine tk 4 hH ?_
      refine tk 5 hH ?_
      refine tk 6 hH ?_
      refine tk 7 hH ?_
      refine tk 8 hH ?_
      refine rd 9 (fun K hK => ?_)
      go_simp
      refine (HKX.out wd HO2.out).mono ?_
      rintro e w3 ⟨rfl,o3⟩
      replace HO2 := Hd (HO2.out.trans o3 (by simp))
      refine hK.out _ _ ⟨hH.1.quiet o3,cell_kept o3 hH.2.1 (by simp),cell_kept o3 hH.2.2.1 (by simp),cell_kept o3 hH.2.2.2.1 (by simp),cell_kept o3 hH.2.2.2.2.1 (by simp),cell_kept o3 hH.2.2.2.2.2.1 (by simp),cell_kept o3 hH.2.2.2.2.2.2 (by simp)⟩ (fun hH => ?_)
      clear hK K o3
      have HG2 := Hd (Get_any hH.1.sw.1 nn V HV.out w3)
      rw [← HRR.out] at HG2
      refine rd 10 (fun K hK => ?_)
      go_simp
      refine HG2.out.mono ?_
      rintro e w4 ⟨rfl,o4⟩
      replace HO2 := Hd (HO2.out.trans o4 (by simp))
      refine hK.out _ _ ⟨hH.1.quiet o4,cell_kept o4 hH.2.1 (by simp),cell_kept o4 hH.2.2.1 (by simp),cell_kept o4 hH.2.2.2.1 (by simp),cell_kept o4 hH.2.2.2.2.1 (by simp),cell_kept o4 hH.2.2.2.2.2.1 (by simp),cell_kept o4 hH.2.2.2.2.2.2 (by simp)⟩ (fun hH => ?_)
      clear hK K o4 HG2
      refine tk 11 hH ?_
      refine tk 12 hH ?_
      refine tk 13 hH ?_
      refine tk 14 hH ?_
      refine tk 15 hH ?_
      refine wpAnyH_done (by kernel_rfl) ?_ _
      clear hH
      go_wp2_with fail
      go_ret
      exact ⟨rfl,HO1.out.trans HO2.out (by simp)⟩
    · by_cases h4 : k = 4
      · subst h4
        have hRR : R = tr ((exVs s.c s.m ys).getD 0 0 = 0) := by rw [hR,if_neg (by decide),if_neg (by decide),if_pos rfl]
        have hlen : ys.length = 1 := by rcases hi with hi | hi | hi <;> omega
        clear hR hi
        obtain ⟨y,rfl⟩ : ∃ y,ys = [y] := by
          rcases ys with _ | ⟨y,_ | ⟨z,zs⟩⟩
          · simp at hlen
          · exact ⟨y,rfl⟩
          · simp at hlen
        obtain ⟨gr,rfl,hgr,hes⟩ : ∃ gr,a = some ⟨gr,0,none⟩ ∧ B gr ∧ EsO w B gr 0 [y] := by
          rcases HX.out with hx | ⟨gr,h1,h2,h3⟩
          · cases hx
          · exact ⟨gr,h1,h2,EsAt.eso [y] 0 0 rfl h3⟩
        obtain ⟨k1,n1,sn1,a1,l1,c1,p1,hev1,hat1⟩ := hes.at5 (j := 0) rfl
        have hat := hat1.kept HO1.out (by simp)
        have hl1 : L = 1 := by rw [HL.out];rfl
        subst hl1
        have z0 : w1.cell? ⟨gr,0,none⟩ = some (.int .i64 k1) := hat.c0
        have z1 : w1.cell? ⟨gr,1,none⟩ = some (.int .i64 n1) := hat.c1
        have z2 : w1.cell? ⟨gr,2,none⟩ = some (.string sn1) := hat.c2
        have z3 : w1.cell? ⟨gr,3,none⟩ = some (.slice a1 l1 c1) := hat.c3
        have z4 : w1.cell? ⟨gr,4,none⟩ = some (.int .i64 p1) := hat.c4
        have y3 : w1.cell? ⟨w.heap.size,3,none⟩ = some (.slice (some ⟨gr,0,none⟩) 1 cap) := cell_at 3 HY.out
        have sy : sizeE y ≤ N := by have : sizeL [y] = sizeE y + 0 := by rw [sizeL_cons,sizeL_nil]
                                    omega
        have wy : wE y := by unfold wL at hwl;exact hwl.1
        have gy : gE y := by unfold gL at hgl;exact hgl.1
        have hev2 : EV w1 B y [.int .i64 k1,.int .i64 n1,.string sn1,.slice a1 l1 c1,.int .i64 p1] := hev1.quiet HO1.out
        have HG := Hd gy
        have HWY := Hd wy
        have HEV := Hd hev2
        have KX := fun (w2 : World) (o2 : Only [] w1 w2) => IE y sy w2 g b LL C nn s _ B (HH.out.quiet o2) wy gy (hev2.quiet o2)
        rw [exVs_one] at hRR
        have HRR := Hd hRR
        have HV := Hd (exV_n64 HH.out.sw.1 HH.out.sw.2 y gy)
        generalize exV s.c s.m y = V at KX HRR HV
        have HKX := Hd KX
        clear hRR hat hat1 hev1 hev2 hes sy hwl hgl wy gy KX
        have hT : R = bI (V == 0) := by rw [HRR.out];unfold tr bI;simp
        have HT := Hd hT
        clear hT
        go_enter Try.func29,Try.ntmps29
        go_upto_region 9 with (fail)
        rw [← HW.out]
        go_wp2_with fail
        refine (HKX.out w1 (Only.refl _ _)).mono ?_
        rintro e w3 ⟨rfl,o3⟩
        replace HO1 := Hd (HO1.out.trans o3 (by simp))
        clear o3 y3 z0 z1 z2 z3 z4
        go_wp2_with fail
        refine (truth_any _ _).mono ?_
        rintro e w4 ⟨rfl,rfl⟩
        rw [← HT.out]
        go_wp2_with fail
        go_ret
        exact ⟨rfl,HO1.out⟩
      · by_cases h5 : k = 5
        · subst h5
          have hRR : R = wrap64 (-((exVs s.c s.m ys).getD 0 0)) := by rw [hR,if_neg (by decide),if_neg (by decide),if_neg (by decide),if_pos rfl]
          have hlen : ys.length = 1 := by rcases hi with hi | hi | hi <;> omega
          clear hR hi
          obtain ⟨y,rfl⟩ : ∃ y,ys = [y] := by
            rcases ys with _ | ⟨y,_ | ⟨z,zs⟩⟩
            · simp at hlen
            · exact ⟨y,rfl⟩
            · simp at hlen
          obtain ⟨gr,rfl,hgr,hes⟩ : ∃ gr,a = some ⟨gr,0,none⟩ ∧ B gr ∧ EsO w B gr 0 [y] := by
            rcases HX.out with hx | ⟨gr,h1,h2,h3⟩
            · cases hx
            · exact ⟨gr,h1,h2,EsAt.eso [y] 0 0 rfl h3⟩
          obtain ⟨k1,n1,sn1,a1,l1,c1,p1,hev1,hat1⟩ := hes.at5 (j := 0) rfl
          have hat := hat1.kept HO1.out (by simp)
          have hl1 : L = 1 := by rw [HL.out];rfl
          subst hl1
          have z0 : w1.cell? ⟨gr,0,none⟩ = some (.int .i64 k1) := hat.c0
          have z1 : w1.cell? ⟨gr,1,none⟩ = some (.int .i64 n1) := hat.c1
          have z2 : w1.cell? ⟨gr,2,none⟩ = some (.string sn1) := hat.c2
          have z3 : w1.cell? ⟨gr,3,none⟩ = some (.slice a1 l1 c1) := hat.c3
          have z4 : w1.cell? ⟨gr,4,none⟩ = some (.int .i64 p1) := hat.c4
          have y3 : w1.cell? ⟨w.heap.size,3,none⟩ = some (.slice (some ⟨gr,0,none⟩) 1 cap) := cell_at 3 HY.out
          have sy : sizeE y ≤ N := by have : sizeL [y] = sizeE y + 0 := by rw [sizeL_cons,sizeL_nil]
                                      omega
          have wy : wE y := by unfold wL at hwl;exact hwl.1
          have gy : gE y := by unfold gL at hgl;exact hgl.1
          have hev2 : EV w1 B y [.int .i64 k1,.int .i64 n1,.string sn1,.slice a1 l1 c1,.int .i64 p1] := hev1.quiet HO1.out
          have HG := Hd gy
          have HWY := Hd wy
          have HEV := Hd hev2
          have KX := fun (w2 : World) (o2 : Only [] w1 w2) => IE y sy w2 g b LL C nn s _ B (HH.out.quiet o2) wy gy (hev2.quiet o2)
          rw [exVs_one] at hRR
          have HRR := Hd hRR
          have HV := Hd (exV_n64 HH.out.sw.1 HH.out.sw.2 y gy)
          generalize exV s.c s.m y = V at KX HRR HV
          have HKX := Hd KX
          clear hRR hat hat1 hev1 hev2 hes sy hwl hgl wy gy KX
          go_enter Try.func29,Try.ntmps29
          go_upto_region 11 with (fail)
          rw [← HW.out]
          go_wp2_with fail
          refine (HKX.out w1 (Only.refl _ _)).mono ?_
          rintro e w3 ⟨rfl,o3⟩
          replace HO1 := Hd (HO1.out.trans o3 (by simp))
          clear o3 y3 z0 z1 z2 z3 z4
          go_wp2_with fail
          go_ret
          rw [HRR.out]
          exact ⟨rfl,HO1.out⟩
        · by_cases h6 : k = 6
          · subst h6
            have hRR : R = opV nm ((exVs s.c s.m ys).getD 0 0) ((exVs s.c s.m ys).getD 1 0) := by rw [hR,if_neg (by decide),if_neg (by decide),if_neg (by decide),if_neg (by decide),if_pos rfl]
            obtain ⟨hlen,hop⟩ : ys.length = 2 ∧ (opr nm).2 ≠ 0 := by rcases hi with hi | hi | hi <;> omega
            have HOP := Hd (show sn.data.toList ∈ ops7 by rw [show sn.data.toList = nm by rw [HSN.out];simp [strOf]];exact opr_mem hop)
            have HSD := Hd (show sn.data.toList = nm by rw [HSN.out];simp [strOf])
            clear hR hi hop
            obtain ⟨y,z,rfl⟩ : ∃ y z,ys = [y,z] := by
              rcases ys with _ | ⟨y,_ | ⟨z,_ | ⟨u,us⟩⟩⟩
              · simp at hlen
              · simp at hlen
              · exact ⟨y,z,rfl⟩
              · simp at hlen
            obtain ⟨gr,rfl,hgr,hes⟩ : ∃ gr,a = some ⟨gr,0,none⟩ ∧ B gr ∧ EsO w B gr 0 [y,z] := by
              rcases HX.out with hx | ⟨gr,h1,h2,h3⟩
              · cases hx
              · exact ⟨gr,h1,h2,EsAt.eso [y,z] 0 0 rfl h3⟩
            obtain ⟨k1,n1,sn1,a1,l1,c1,p1,hev1,hat1⟩ := hes.at5 (j := 0) rfl
            obtain ⟨k2,n2,sn2,a2,l2,c2,p2,hev2,hat2⟩ := hes.at5 (j := 1) rfl
            have hl1 : L = 2 := by rw [HL.out];rfl
            subst hl1
            have q1 := hat1.kept HO1.out (by simp)
            have q2 := hat2.kept HO1.out (by simp)
            have y2 : w1.cell? ⟨w.heap.size,2,none⟩ = some (.string sn) := cell_at 2 HY.out
            have y3 : w1.cell? ⟨w.heap.size,3,none⟩ = some (.slice (some ⟨gr,0,none⟩) 2 cap) := cell_at 3 HY.out
            have hZ : w1.cell? ⟨w.heap.size,2,none⟩ = some (.string sn) ∧ w1.cell? ⟨w.heap.size,3,none⟩ = some (.slice (some ⟨gr,0,none⟩) 2 cap) ∧ w1.cell? ⟨gr,0,none⟩ = some (.int .i64 k1) ∧ w1.cell? ⟨gr,1,none⟩ = some (.int .i64 n1) ∧ w1.cell? ⟨gr,2,none⟩ = some (.string sn1) ∧ w1.cell? ⟨gr,3,none⟩ = some (.slice a1 l1 c1) ∧ w1.cell? ⟨gr,4,none⟩ = some (.int .i64 p1) ∧ w1.cell? ⟨gr,5,none⟩ = some (.int .i64 k2) ∧ w1.cell? ⟨gr,6,none⟩ = some (.int .i64 n2) ∧ w1.cell? ⟨gr,7,none⟩ = some (.string sn2) ∧ w1.cell? ⟨gr,8,none⟩ = some (.slice a2 l2 c2) ∧ w1.cell? ⟨gr,9,none⟩ = some (.int .i64 p2) :=
              ⟨y2,y3,q1.c0,q1.c1,q1.c2,q1.c3,q1.c4,q2.c0,q2.c1,q2.c2,q2.c3,q2.c4⟩
            have HZ := Hd hZ
            have hsum : sizeE y + sizeE z ≤ N := by
              have : sizeL [y,z] = sizeE y + (sizeE z + 0) := by rw [sizeL_cons,sizeL_cons,sizeL_nil]
              omega
            have wy : wE y ∧ wE z := by unfold wL at hwl;unfold wL at hwl;exact ⟨hwl.1,hwl.2.1⟩
            have gy : gE y ∧ gE z := by unfold gL at hgl;unfold gL at hgl;exact ⟨hgl.1,hgl.2.1⟩
            have HEV1 := Hd (hev1.quiet HO1.out)
            have HEV2 := Hd (hev2.quiet HO1.out)
            have HKX := Hd (fun (w2 : World) (o2 : Only [] w1 w2) => IE y (by omega) w2 g b LL C nn s _ B (HH.out.quiet o2) wy.1 gy.1 (HEV1.out.quiet o2))
            have HKY := Hd (fun (w2 : World) (o2 : Only [] w1 w2) => IE z (by omega) w2 g b LL C nn s _ B (HH.out.quiet o2) wy.2 gy.2 (HEV2.out.quiet o2))
            rw [exVs_one,exVs_two] at hRR
            have HRR := Hd hRR
            have HV := Hd (exV_n64 HH.out.sw.1 HH.out.sw.2 z gy.2)
            generalize exV s.c s.m y = V1 at HKX HRR
            generalize exV s.c s.m z = V2 at HKY HRR HV
            clear hRR hat1 hat2 hev1 hev2 hes hlen hwl hgl wy gy q1 q2 y2 y3 hZ hsum hsz
            go_enter Try.func29,Try.ntmps29
            go_upto_region 13 with (fail)
            rw [← HW.out]
            have hZ := HZ.out
            have oD : Only [] w1 w1.drew := (Only.refl [] w1).drew
            refine wp_region_held_drew (S := fun w1 => w1.cell? ⟨w.heap.size,2,none⟩ = some (.string sn) ∧ w1.cell? ⟨w.heap.size,3,none⟩ = some (.slice (some ⟨gr,0,none⟩) 2 cap) ∧ w1.cell? ⟨gr,0,none⟩ = some (.int .i64 k1) ∧ w1.cell? ⟨gr,1,none⟩ = some (.int .i64 n1) ∧ w1.cell? ⟨gr,2,none⟩ = some (.string sn1) ∧ w1.cell? ⟨gr,3,none⟩ = some (.slice a1 l1 c1) ∧ w1.cell? ⟨gr,4,none⟩ = some (.int .i64 p1) ∧ w1.cell? ⟨gr,5,none⟩ = some (.int .i64 k2) ∧ w1.cell? ⟨gr,6,none⟩ = some (.int .i64 n2) ∧ w1.cell? ⟨gr,7,none⟩ = some (.string sn2) ∧ w1.cell? ⟨gr,8,none⟩ = some (.slice a2 l2 c2) ∧ w1.cell? ⟨gr,9,none⟩ = some (.int .i64 p2)) (by kernel_rfl) ⟨cell_kept oD hZ.1 (by simp),cell_kept oD hZ.2.1 (by simp),cell_kept oD hZ.2.2.1 (by simp),cell_kept oD hZ.2.2.2.1 (by simp),cell_kept oD hZ.2.2.2.2.1 (by simp),cell_kept oD hZ.2.2.2.2.2.1 (by simp),cell_kept oD hZ.2.2.2.2.2.2.1 (by simp),cell_kept oD hZ.2.2.2.2.2.2.2.1 (by simp),cell_kept oD hZ.2.2.2.2.2.2.2.2.1 (by simp),cell_kept oD hZ.2.2.2.2.2.2.2.2.2.1 (by simp),cell_kept oD hZ.2.2.2.2.2.2.2.2.2.2.1 (by simp),cell_kept oD hZ.2.2.2.2.2.2.2.2.2.2.2 (by simp)⟩ (fun hH => ?_)
            have HO2 := Hd oD
            clear oD hZ
            generalize w1.drew = wd at HO2 hH ⊢
            refine tk 0 hH ?_
            refine tk 1 hH ?_
            refine tk 2 hH ?_
            refine tk 3 hH ?_
            refine tk 4 hH ?_
            refine tk 5 hH ?_
            refine tk 6 hH ?_
            refine tk 8 hH ?_
            refine tk 9 hH ?_
            refine tk 10 hH ?_
            refine tk 11 hH ?_
            refine tk 12 hH ?_
            refine rd 7 (fun K hK => ?_)
            go_simp
            refine (HKX.out wd HO2.out).mono ?_
            rintro e w3 ⟨rfl,o3⟩
            replace HO2 := Hd (HO2.out.trans o3 (by simp))
            refine hK.out _ _ ⟨cell_kept o3 hH.1 (by simp),cell_kept o3 hH.2.1 (by simp),cell_kept o3 hH.2.2.1 (by simp),cell_kept o3 hH.2.2.2.1 (by simp),cell_kept o3 hH.2.2.2.2.1 (by simp),cell_kept o3 hH.2.2.2.2.2.1 (by simp),cell_kept o3 hH.2.2.2.2.2.2.1 (by simp),cell_kept o3 hH.2.2.2.2.2.2.2.1 (by simp),cell_kept o3 hH.2.2.2.2.2.2.2.2.1 (by simp),cell_kept o3 hH.2.2.2.2.2.2.2.2.2.1 (by simp),cell_kept o3 hH.2.2.2.2.2.2.2.2.2.2.1 (by simp),cell_kept o3 hH.2.2.2.2.2.2.2.2.2.2.2 (by simp)⟩ (fun hH => ?_)
            clear hK K o3
            refine rd 13 (fun K hK => ?_)
            go_simp
            refine (HKY.out w3 HO2.out).mono ?_
            rintro e w4 ⟨rfl,o3⟩
            replace HO2 := Hd (HO2.out.trans o3 (by simp))
            refine hK.out _ _ ⟨cell_kept o3 hH.1 (by simp),cell_kept o3 hH.2.1 (by simp),cell_kept o3 hH.2.2.1 (by simp),cell_kept o3 hH.2.2.2.1 (by simp),cell_kept o3 hH.2.2.2.2.1 (by simp),cell_kept o3 hH.2.2.2.2.2.1 (by simp),cell_kept o3 hH.2.2.2.2.2.2.1 (by simp),cell_kept o3 hH.2.2.2.2.2.2.2.1 (by simp),cell_kept o3 hH.2.2.2.2.2.2.2.2.1 (by simp),cell_kept o3 hH.2.2.2.2.2.2.2.2.2.1 (by simp),cell_kept o3 hH.2.2.2.2.2.2.2.2.2.2.1 (by simp),cell_kept o3 hH.2.2.2.2.2.2.2.2.2.2.2 (by simp)⟩ (fun hH => ?_)
            clear hK K o3
            have KO := operate_any sn V1 V2 w4 HV.out HOP.out
            rw [HSD.out,← HRR.out] at KO
            refine rd 14 (fun K hK => ?_)
            go_simp
            refine KO.mono ?_
            rintro e w5 ⟨rfl,rfl⟩
            refine hK.out _ _ hH (fun hH => ?_)
            clear hK K KO
            refine tk 15 hH ?_
            refine tk 16 hH ?_
            refine tk 17 hH ?_
            refine tk 18 hH ?_
            refine tk 19 hH ?_
            refine wpAnyH_done (by kernel_rfl) ?_ _
            clear hH
            go_wp2_with fail
            go_ret
            exact ⟨rfl,HO1.out.trans HO2.out (by simp)⟩
          · have hRR : R = num := by rw [hR,if_neg h2,if_neg h3,if_neg h4,if_neg h5,if_neg h6]
            have HRR := Hd hRR
            have e2 : (k == 2) = false := by simpa using h2
            have e3 : (k == 3) = false := by simpa using h3
            have e4 : (k == 4) = false := by simpa using h4
            have e5 : (k == 5) = false := by simpa using h5
            have e6 : (k == 6) = false := by simpa using h6
            have y1 : w1.cell? ⟨w.heap.size,1,none⟩ = some (.int .i64 num) := cell_at 1 HY.out
            clear hR hRR hi hwl hgl hsz
            go_enter Try.func29,Try.ntmps29
            go_upto_region 15 with (fail)
            rw [← HW.out]
            go_wp2_with fail
            go_ret
            rw [HRR.out]
            exact ⟨rfl,HO1.out⟩
theorem pexpr_all:∀ N,XP N
 | 0=>fun e he=>by cases e;unfold sizeE at he;omega
 | N+1=>pexpr_step N (pexpr_all N)
theorem pexpr_any {w:World} {g b:Nat} {L:List Sec} {C:Nat} {n:Int} {s:PS} {cs:List Value} {B:Nat→Prop} {e:E} (h:RM w g b L C n s) (hw:wE e) (hg:gE e) (hev:EV w B e cs) :
  Calls Try.prog 29 #[.pointer (some ⟨g,0,none⟩),.agg cs.toArray] w fun en w'=>en=.returned (.int .i64 (exV s.c s.m e))∧Only [] w w':=
 pexpr_all _ e (Nat.le_refl _) w g b L C n s cs B h hw hg hev
end Go.Proofs.Ytagkbbcpbebapaa

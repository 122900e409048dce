import Derived.Test.YtcebchffcmpfeaaGreatX1t
namespace Go.Proofs.YtcebchffcmpfeaaGreat
set_option linter.unusedVariables false
set_option linter.unusedSimpArgs false
set_option maxRecDepth 100000
set_option maxHeartbeats 16000000
open Go.RowKit Go.Maps
theorem dO (a:Int) (l:Lp) (w:World):Calls Tryz.prog 82 #[.int .i64 a,.agg #[.int .i64 l.loc,.int .i64 l.n,.int .i64 l.fr,.int .i64 l.lst]] w fun e w'=>e=.returned (.bool (inL a l))∧Only [] w w':=by
 obtain ⟨q1,q2,q3,q4⟩:=l
 by_cases h1:q3≤a
 ·by_cases h2:a≤q4<;>
  ·dsimp only
   go_enter Tryz.func82,Tryz.ntmps82
   (go_wp2_with fail);go_ret;exact ⟨am (by simp [inL]<;>omega),(Only.refl [] w).alloc _⟩
 ·dsimp only
  go_enter Tryz.func82,Tryz.ntmps82
  go_wp2_with fail
  go_ret;exact ⟨am (by simp [inL]<;>omega),(Only.refl [] w).alloc _⟩
theorem jU (c:Cd) (x y:Value) (n:Int) (w:World):Calls Tryz.prog 78 #[.agg #[.int .i64 c.params,.int .i64 c.locals,x,y],.int .i64 n] w fun e w'=>e=.returned (.bool (wG c n))∧Only [] w w':=by
 obtain ⟨q1,q2,q3,q4⟩:=c
 by_cases h1:0≤n
 ·by_cases h2:n < q2<;>
  ·dsimp only
   go_enter Tryz.func78,Tryz.ntmps78
   (go_wp2_with fail);go_ret;exact ⟨am (by simp [wG]<;>omega),(Only.refl [] w).alloc _⟩
 ·dsimp only
  go_enter Tryz.func78,Tryz.ntmps78
  go_wp2_with fail
  go_ret;exact ⟨am (by simp [wG]<;>omega),(Only.refl [] w).alloc _⟩
theorem wH (k:Int) (h1:1≤k) (h2:k≤16) (w:World):Calls Tryz.prog 84 #[.int .i64 k] w fun e w'=>e=.returned (.tuple #[.int .i64 (mvs k).1,.int .i64 (mvs k).2])∧w=w':=by
 have:k=1∨k=2∨k=3∨k=4∨k=5∨k=6∨k=7∨k=8∨k=9∨k=10∨k=11∨k=12∨k=13∨k=14∨k=15∨k=16:=by omega
 rcases this with rfl | rfl | rfl | rfl | rfl | rfl | rfl | rfl | rfl | rfl | rfl | rfl | rfl | rfl | rfl | rfl<;>
 ·go_enter Tryz.func84,Tryz.ntmps84
  go_wp2
  go_ret2
  exact ⟨rfl,rfl⟩
theorem iI (a b:Lp) (w:World) (h0:2≤a.fr) (h1:a.fr≤65536):Calls Tryz.prog 81 #[.agg #[.int .i64 a.loc,.int .i64 a.n,.int .i64 a.fr,.int .i64 a.lst],.agg #[.int .i64 b.loc,.int .i64 b.n,.int .i64 b.fr,.int .i64 b.lst]] w fun e w'=>e=.returned (.bool (stIn a b))∧Only [] w w':=by
 have KA:=fun w=>dO (a.fr - 2) b w;have KB:=fun w=>dO a.lst b w;have HS:=Hd (show stIn a b=(inL (a.fr - 2) b && inL a.lst b) from rfl);obtain ⟨q1,q2,q3,q4⟩:=a;obtain ⟨p1,p2,p3,p4⟩:=b;dsimp only at *;generalize inL (q3 - 2) ⟨p1,p2,p3,p4⟩=A at KA HS;generalize inL q4 ⟨p1,p2,p3,p4⟩=B at KB HS
 go_enter Tryz.func81,Tryz.ntmps81
 go_upto_region 1 with (fail)
 obtain ⟨w1,q9,o1,hY1,s1⟩:=nb w (.cells #[.int .i64 q1,.int .i64 q2,.int .i64 q3,.int .i64 q4] 54);rw [← q9];obtain ⟨w2,q9,o2,hY2,-⟩:=nb w1 (.cells #[.int .i64 p1,.int .i64 p2,.int .i64 p3,.int .i64 p4] 54);rw [← q9];clear q9;rw [s1] at hY2;obtain ⟨g2,hg2⟩:∃ g,g=w.heap.size+1:=⟨_,rfl⟩
 obtain ⟨g1,hg1⟩:∃ g,g=w.heap.size:=⟨_,rfl⟩
 have hne:g1 < g2:=by omega
 rw [← hg2] at hY2⊢;rw [← hg1] at hY1⊢;have hY1':=o2.heap hY1 (by simp);have x2:w2.cell? ⟨g1,2,none⟩=some (.int .i64 q3):=ab 2 hY1';have y0:w2.cell? ⟨g2,0,none⟩=some (.int .i64 p1):=ab 0 hY2;have y1:w2.cell? ⟨g2,1,none⟩=some (.int .i64 p2):=ab 1 hY2;have y2:w2.cell? ⟨g2,2,none⟩=some (.int .i64 p3):=ab 2 hY2;have y3:w2.cell? ⟨g2,3,none⟩=some (.int .i64 p4):=ab 3 hY2;have HO:=Hd (o1.trans o2 (by simp));have HY1:=Hd hY1';have HY2:=Hd hY2;clear o1 o2 hY1 hY1' hY2 hg1 hg2 s1;go_wp2_with fail
 refine (KA _).mono ?_;rintro e w3 ⟨rfl,o3⟩;have x3:w3.cell? ⟨g1,3,none⟩=some (.int .i64 q4):=ab 3 (o3.heap HY1.out (by simp));have hY3:=o3.heap HY2.out (by simp);have y0:w3.cell? ⟨g2,0,none⟩=some (.int .i64 p1):=ab 0 hY3;have y1:w3.cell? ⟨g2,1,none⟩=some (.int .i64 p2):=ab 1 hY3;have y2:w3.cell? ⟨g2,2,none⟩=some (.int .i64 p3):=ab 2 hY3;have y3:w3.cell? ⟨g2,3,none⟩=some (.int .i64 p4):=ab 3 hY3;replace HO:=Hd (HO.out.trans o3 (by simp));clear o3 hY3;cases A with
 | false=>
  go_wp2_with fail
  go_ret;exact ⟨by rw [HS.out];rfl,HO.out⟩
 | true=>
  go_wp2_with fail
  refine (KB _).mono ?_;rintro e w4 ⟨rfl,o4⟩;go_wp2_with fail
  go_ret;exact ⟨by rw [HS.out];rfl,HO.out.trans o4 (by simp)⟩
end Go.Proofs.YtcebchffcmpfeaaGreat

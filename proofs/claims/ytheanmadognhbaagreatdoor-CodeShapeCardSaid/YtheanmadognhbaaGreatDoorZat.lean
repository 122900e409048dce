import Derived.Test.YtheanmadognhbaaGreatDoorKbt
import Derived.ChangeKeysEq
namespace Go.Proofs.YtheanmadognhbaaGreatDoor
set_option linter.unusedVariables false
set_option linter.unusedSimpArgs false
set_option maxRecDepth 100000
set_option maxHeartbeats 16000000
open Go.RowKit Go.Maps
def aM:List Int:=List.replicate 60 0
def ivA (l:List Int):Array Value:=(iv l).toArray
theorem ivA_size (l:List Int):(ivA l).size=l.length:=by simp [ivA,iv]
theorem ivA_get (l:List Int) (i:Nat):(ivA l)[i]?=(l[i]?).map (Value.int .i64):=by simp [ivA,iv]
theorem ivA_set (l:List Int) (i:Nat) (z:Int):(ivA l).setIfInBounds i (.int .i64 z)=ivA (l.set i z):=by simp [ivA,iv,List.map_set]
def PB (w:World) (g:Nat) (t:TypeId) (l:List Int):Prop:=w.heap[g]?=some (.cells (ivA l) t (0,0))
section
variable {w w':World} {g:Nat} {t:TypeId} {l:List Int}
theorem PB.kept {S:List Nat} (h:PB w g t l) (ho:Only S w w') (hn:g∉S):PB w' g t l:=ho.heap h hn
theorem PB.lt (h:PB w g t l):g < w.heap.size:=am h
theorem PB.cell (h:PB w g t l) {i:Nat} {z:Int} (hi:l[i]?=some z):w.cell? ⟨g,i,none⟩=some (.int .i64 z):=by
 rw [ab i h,ivA_get,hi];rfl
theorem PB.free (h:PB w g t l) (i:Nat):w.frozen? ⟨g,i,none⟩=false:=ac i h
theorem PB.new (w:World) (t:TypeId) (l:List Int):PB (w.alloc (.cells (ivA l) t)) w.heap.size t l:=ag w _
theorem PB.set (h:PB w g t l) (i:Nat) (z:Int):PB (w.setCell ⟨g,i,none⟩ (.int .i64 z)) g t (l.set i z):=by
 have:=af (i:=i) (.int .i64 z) h;rw [ivA_set] at this;exact this
theorem PB.row (h:PB w g t l) (m:List Int):PB (w.setRow g (ivA m)) g t m:=qo _ h
end
theorem vD (l:List Int) (h:l.length=61):(Tryz.prog.info? 159).map (·.size)=some (ivA l).size:=by
 rw [ivA_size,h];kernel_rfl
section
variable {w:World} {ops:Array Oper} {rest:List Oper} {o:Oper} {a:Act} {Q:Exit→Act→World→Prop}
theorem jE (hg:o.guard=none) (x:Operand) (hop:o.op=.box 159 x) (l:List Int) (hx:a.eval x=.agg (ivA l))
  (h:∀ w' g,PB w' g 159 l→w.heap.size≤g→Only [] w w'→wpList Tryz.prog ops Q rest (a.put o.dst (.pointer (some ⟨g,0,none⟩))) w'):wpList Tryz.prog ops Q (o :: rest) a w:=by
 refine rq hg (.pointer (some ⟨w.heap.size,0,none⟩)) ?_ (h (w.alloc (.cells (ivA l) 159)) _ (PB.new _ _ _) (Nat.le_refl _) ((Only.refl [] w).alloc _));simp [execOp,hop,hx,Instr.box,newVar,newRow,newObj,Value.cells,Result.andThen];rfl
theorem iM (hgd:o.guard=none) (x:Operand) (ho:o.op=.load 159 x) (g:Nat) (hx:a.eval x=.pointer (some ⟨g,0,none⟩)) (l:List Int) (hb:PB w g 159 l) (hl:l.length=61)
  (h:wpList Tryz.prog ops Q rest (a.put o.dst (.agg (ivA l))) w):wpList Tryz.prog ops Q (o :: rest) a w:=
 wpList_load_row hgd _ x ho g hx _ _ _ _ hb Tryz.underlying159 rfl (vD l hl) h
end
section
variable {w:World} {ops:Array Oper} {rest:List Oper} {o:Oper} {a:Act} {Q:Exit→Act→World→Prop}
end
def n64 (z:Int):Prop:=-9223372036854775808≤z∧z≤9223372036854775807
theorem ml (z:Int):n64 (wrap64 z):=by unfold n64 wrap64;omega
theorem bR:n64 0:=by unfold n64;omega
theorem vE:n64 1:=by unfold n64;omega
theorem qQ {z:Int} (h:n64 z):(Lit.int .i64 z).wf=true:=by
 unfold n64 at h;simp only [Lit.wf,Bool.and_eq_true,decide_eq_true_eq];exact h
def tr (p:Prop) [Decidable p]:Int:=if p then 1 else 0
def opV (nm:Sec) (a b:Int):Int:=
 if nm=[43] then wrap64 (a+b) else if nm=[45] then wrap64 (a - b) else if nm=[42] then wrap64 (a*b)
 else if nm=[47] then (if b=0 then 0 else wrap64 (a.tdiv b)) else if nm=[37] then (if b=0 then 0 else wrap64 (a.tmod b))
 else if nm=[60] then tr (a < b) else if nm=[60,61] then tr (a≤b) else if nm=[62] then tr (b < a) else if nm=[62,61] then tr (b≤a)
 else if nm=[61,61] then tr (a=b) else if nm=[33,61] then tr (a≠b)
 else if nm=[38,38] then tr (a≠0∧b≠0) else if nm=[124,124] then tr (a≠0∨b≠0) else 0
theorem vF (a:Int) {b:Int} (hb:n64 b) (h:b≠0):wrap64 (a.tmod b)=a.tmod b:=by
 have h1:(a.tmod b).natAbs < b.natAbs:=by rw [Int.natAbs_tmod];exact Nat.mod_lt _ (by omega)
 unfold n64 at hb;unfold wrap64;omega
def bI (b:Bool):Int:=if b=true then 1 else 0
theorem bo (b:Bool) (w:World):Calls Tryz.prog 132 #[.bool b] w fun e w'=>e=.returned (.int .i64 (bI b))∧w=w':=by
 cases b
 ·go_enter Tryz.func132,Tryz.ntmps132
  go_wp2
  go_ret;exact ⟨rfl,rfl⟩
 ·go_enter Tryz.func132,Tryz.ntmps132
  go_wp2
  go_ret;exact ⟨rfl,rfl⟩
theorem opV_add (a b:Int):opV [43] a b=wrap64 (a+b):=by simp [opV]
theorem opV_sub (a b:Int):opV [45] a b=wrap64 (a - b):=by simp [opV]
theorem opV_mul (a b:Int):opV [42] a b=wrap64 (a*b):=by simp [opV]
theorem opV_div0 (a:Int):opV [47] a 0=0:=by simp [opV]
theorem opV_div (a:Int) {b:Int} (h:b≠0):opV [47] a b=wrap64 (a.tdiv b):=by simp [opV,h]
theorem opV_mod0 (a:Int):opV [37] a 0=0:=by simp [opV]
theorem opV_mod (a:Int) {b:Int} (h:b≠0):opV [37] a b=wrap64 (a.tmod b):=by simp [opV,h]
theorem opV_lt (a b:Int):opV [60] a b=bI (decide (a < b)):=by simp [opV,tr,bI]
theorem opV_le (a b:Int):opV [60,61] a b=bI (decide (a≤b)):=by simp [opV,tr,bI]
theorem opV_gt (a b:Int):opV [62] a b=bI (decide (b < a)):=by simp [opV,tr,bI]
theorem opV_ge (a b:Int):opV [62,61] a b=bI (decide (b≤a)):=by simp [opV,tr,bI]
theorem opV_eq (a b:Int):opV [61,61] a b=bI (a == b):=by simp [opV,tr,bI]
theorem opV_ne (a b:Int):opV [33,61] a b=bI (a != b):=by simp [opV,tr,bI]
theorem vG (a b:Int):opV [38,38] a b=bI (a != 0 && b != 0):=by simp [opV,tr,bI]
theorem opV_or (a b:Int):opV [124,124] a b=bI (a != 0 || b != 0):=by simp [opV,tr,bI]
theorem jF (s:ByteArray) (a b:Int) (w:World) (hn:n64 b) (hs:s.data.toList∈oM) :
  Calls Tryz.prog 133 #[.string s,.int .i64 a,.int .i64 b] w fun e w'=>e=.returned (.tuple #[.int .i64 (opV s.data.toList a b),.bool true])∧w=w':=by
 simp only [oM,List.mem_cons,List.not_mem_nil,or_false] at hs;rcases hs with h | h | h | h | h | h | h | h | h | h | h | h | h<;>obtain rfl:=aJ.2 h<;>clear h
 ·by_cases ha:a=0
  ·subst ha;have hv:opV [124,124] 0 b=bI (b != 0):=by rw [opV_or,show ((0:Int) != 0)=false from rfl,Bool.false_or]
   generalize opV _ _ _=T at hv⊢
   go_enter Tryz.func133,Tryz.ntmps133
   (go_wp2_with fail);refine (bo _ _).mono ?_;rintro e w1 ⟨rfl,rfl⟩;rw [← hv];clear hv;go_wp2_with fail
   go_ret2
   exact ⟨rfl,rfl⟩
  ·have ha':(a != 0)=true:=by simpa using ha
   have hv:opV [124,124] a b=bI true:=by rw [opV_or,ha',Bool.true_or]
   generalize opV _ _ _=T at hv⊢
   go_enter Tryz.func133,Tryz.ntmps133
   (go_wp2_with fail);refine (bo _ _).mono ?_;rintro e w1 ⟨rfl,rfl⟩;rw [← hv];clear hv;go_wp2_with fail
   go_ret2
   exact ⟨rfl,rfl⟩
 ·by_cases ha:a=0
  ·subst ha;have hv:opV [38,38] 0 b=bI false:=by rw [vG,show ((0:Int) != 0)=false from rfl,Bool.false_and]
   generalize opV _ _ _=T at hv⊢
   go_enter Tryz.func133,Tryz.ntmps133
   (go_wp2_with fail);refine (bo _ _).mono ?_;rintro e w1 ⟨rfl,rfl⟩;rw [← hv];clear hv;go_wp2_with fail
   go_ret2
   exact ⟨rfl,rfl⟩
  ·have ha':(a != 0)=true:=by simpa using ha
   have hv:opV [38,38] a b=bI (b != 0):=by rw [vG,ha',Bool.true_and]
   generalize opV _ _ _=T at hv⊢
   go_enter Tryz.func133,Tryz.ntmps133
   (go_wp2_with fail);refine (bo _ _).mono ?_;rintro e w1 ⟨rfl,rfl⟩;rw [← hv];clear hv;go_wp2_with fail
   go_ret2
   exact ⟨rfl,rfl⟩
 ·have hv:=opV_lt a b;generalize opV _ _ _=T at hv⊢
  go_enter Tryz.func133,Tryz.ntmps133
  go_wp2_with fail
  refine (bo _ _).mono ?_;rintro e w1 ⟨rfl,rfl⟩;rw [← hv];clear hv;go_wp2_with fail
  go_ret2
  exact ⟨rfl,rfl⟩
 ·have hv:=opV_le a b;generalize opV _ _ _=T at hv⊢
  go_enter Tryz.func133,Tryz.ntmps133
  go_wp2_with fail
  refine (bo _ _).mono ?_;rintro e w1 ⟨rfl,rfl⟩;rw [← hv];clear hv;go_wp2_with fail
  go_ret2
  exact ⟨rfl,rfl⟩
 ·have hv:=opV_gt a b;generalize opV _ _ _=T at hv⊢
  go_enter Tryz.func133,Tryz.ntmps133
  go_wp2_with fail
  refine (bo _ _).mono ?_;rintro e w1 ⟨rfl,rfl⟩;rw [← hv];clear hv;go_wp2_with fail
  go_ret2
  exact ⟨rfl,rfl⟩
 ·have hv:=opV_ge a b;generalize opV _ _ _=T at hv⊢
  go_enter Tryz.func133,Tryz.ntmps133
  go_wp2_with fail
  refine (bo _ _).mono ?_;rintro e w1 ⟨rfl,rfl⟩;rw [← hv];clear hv;go_wp2_with fail
  go_ret2
  exact ⟨rfl,rfl⟩
 ·have hv:=opV_eq a b;generalize opV _ _ _=T at hv⊢
  go_enter Tryz.func133,Tryz.ntmps133
  go_wp2_with fail
  refine (bo _ _).mono ?_;rintro e w1 ⟨rfl,rfl⟩;rw [← hv];clear hv;go_wp2_with fail
  go_ret2
  exact ⟨rfl,rfl⟩
 ·have hv:=opV_ne a b;generalize opV _ _ _=T at hv⊢
  go_enter Tryz.func133,Tryz.ntmps133
  go_wp2_with fail
  refine (bo _ _).mono ?_;rintro e w1 ⟨rfl,rfl⟩;rw [← hv];clear hv;go_wp2_with fail
  go_ret2
  exact ⟨rfl,rfl⟩
 ·have hv:=opV_add a b
  go_enter Tryz.func133,Tryz.ntmps133
  go_wp2_with fail
  go_ret2
  exact ⟨by rw [hv]<;>rfl,rfl⟩
 ·have hv:=opV_sub a b
  go_enter Tryz.func133,Tryz.ntmps133
  go_wp2_with fail
  go_ret2
  exact ⟨by rw [hv]<;>rfl,rfl⟩
 ·have hv:=opV_mul a b
  go_enter Tryz.func133,Tryz.ntmps133
  go_wp2_with fail
  go_ret2
  exact ⟨by rw [hv]<;>rfl,rfl⟩
 ·by_cases hb:b=0
  ·subst hb;have hv:=opV_div0 a
   go_enter Tryz.func133,Tryz.ntmps133
   go_wp2_with fail
   go_ret2
   exact ⟨by rw [hv]<;>rfl,rfl⟩
  ·have hv:=opV_div a hb;have hb':(b == 0)=false:=by simpa using hb
   go_enter Tryz.func133,Tryz.ntmps133
   go_wp2_with fail
   go_ret2
   exact ⟨by rw [hv]<;>rfl,rfl⟩
 ·by_cases hb:b=0
  ·subst hb;have hv:=opV_mod0 a
   go_enter Tryz.func133,Tryz.ntmps133
   go_wp2_with fail
   go_ret2
   exact ⟨by rw [hv]<;>rfl,rfl⟩
  ·have hv:=opV_mod a hb;rw [vF a hn hb] at hv;have hb':(b == 0)=false:=by simpa using hb
   go_enter Tryz.func133,Tryz.ntmps133
   go_wp2_with fail
   go_ret2
   exact ⟨by rw [hv]<;>rfl,rfl⟩
end Go.Proofs.YtheanmadognhbaaGreatDoor

import Derived.Test.YtcebchffcmpfeaaGreatGbt
namespace Go.Proofs.YtcebchffcmpfeaaGreat
set_option linter.unusedVariables false
set_option linter.unusedSimpArgs false
open Go.RowKit Go.Maps
theorem info_st:(Tryz.prog.info? 113).map (fun i=>(i.zero,i.size,i.bytes))=some (some (.agg #[.int .i64 0,.string ⟨#[]⟩,.slice none 0 0,.int .i64 0,.slice none 0 0,.slice none 0 0,.int .i64 0]),7,112):=by kernel_rfl
theorem info_ex:(Tryz.prog.info? 95).map (fun i=>(i.zero,i.size,i.bytes))=some (some (.agg #[.int .i64 0,.int .i64 0,.string ⟨#[]⟩,.slice none 0 0,.int .i64 0]),5,64):=by kernel_rfl
def OSt (w:World) (base:Nat) (v:Value) (l:List St):Prop:=
 ∃ css:List (List Value),w.ownsRow base 113 7 v l.length css.flatten∧css.length=l.length∧∀ (i:Nat) (s:St) (cs:List Value),l[i]?=some s→css[i]?=some cs→SV w (fun b=>base≤b∧b < w.heap.size∧v.ownBlock≠some b) s cs
theorem OSt.nil (w:World) (base:Nat):OSt w base (.slice none 0 0) []:=⟨[],World.ownsRow_nil w base _ 7,rfl,fun i s cs h=>by simp at h⟩
theorem sA {css:List (List Value)} (h:∀ cs∈css,cs.length=7):∀ (i:Nat) (cs:List Value) (j:Nat),css[i]?=some cs→j < 7→css.flatten[i*7+j]?=cs[j]?:=by
 induction css with
 | nil=>intro i cs j hi;simp at hi
 | cons c css ih=>
  intro i cs j hi hj;have hc:=h c (by simp);cases i with
  | zero=>
   simp at hi;subst hi;rw [List.flatten_cons,List.getElem?_append_left (by omega)];simp
  | succ i=>
   simp at hi;rw [List.flatten_cons,List.getElem?_append_right (by omega),show (i+1)*7+j - c.length=i*7+j by omega];exact ih (fun x hx=>h x (by simp [hx])) i cs j hi hj
theorem OSt.lens {w:World} {base:Nat} {v:Value} {l:List St} {css:List (List Value)} (h2:css.length=l.length) (h3:∀ (i:Nat) (s:St) (cs:List Value),l[i]?=some s→css[i]?=some cs→SV w (fun b=>base≤b∧b < w.heap.size∧v.ownBlock≠some b) s cs):∀ cs∈css,cs.length=7:=by
 intro cs hcs;obtain ⟨i,hi,rfl⟩:=List.mem_iff_getElem.1 hcs;exact (h3 i l[i] css[i] (List.getElem?_eq_getElem (by omega)) (List.getElem?_eq_getElem hi)).len
theorem OSt.quiet {w w':World} {base:Nat} {v:Value} {l:List St} (h:OSt w base v l) (ho:Only [] w w'):OSt w' base v l:=by
 obtain ⟨css,h1,h2,h3⟩:=h;refine ⟨css,⟨h1.1,?_⟩,h2,fun i s cs hi hc=>SV.kept ho (by simp) (fun b hb=>⟨hb.1,by have:=ho.size;omega,hb.2.2⟩) s cs (h3 i s cs hi hc)⟩;rcases h1.2 with hn | ⟨g,cap,cur,rfl,hb,hg,r⟩
 ·exact .inl hn
 ·exact .inr ⟨g,cap,cur,rfl,hb,ho.heap hg (by simp),r⟩
theorem SsAt.of {w:World} {B:Nat→Prop} {g:Nat}:∀ (l:List St) (i:Nat) (css:List (List Value)),css.length=l.length→(∀ (j:Nat) (s:St) (cs:List Value),l[j]?=some s→css[j]?=some cs→SV w B s cs∧∀ k,k < 7→w.cell? ⟨g,(i+j)*7+k,none⟩=cs[k]?)→SsAt w B g i l:=by
 intro l
 induction l with
 | nil=>intro i css _ _;unfold SsAt;trivial
 | cons s l ih=>
  intro i css hl h;cases css with
  | nil=>simp at hl
  | cons c css=>
   unfold SsAt;refine ⟨⟨c,?_⟩,ih (i+1) css (by simpa using hl) (fun j s cs hs hc=>?_)⟩
   ·have:=h 0 s c (by simp) (by simp);simpa using this
   ·have:=h (j+1) s cs (by simpa using hs) (by simpa using hc);rw [show i+1+j=i+(j+1) by omega];exact this
theorem OSt.ssv {w:World} {base:Nat} {v:Value} {l:List St} (h:OSt w base v l):SsV w (fun b=>base≤b) v l:=by
 obtain ⟨css,h1,h2,h3⟩:=h;have hl:=OSt.lens h2 h3;rcases h1.2 with ⟨rfl,hn⟩ | ⟨g,cap,cur,rfl,hb,hg,hc,_,hz,ht⟩
 ·obtain rfl:l=[]:=List.eq_nil_of_length_eq_zero hn;exact SsV.nil _ _
 ·refine ⟨_,cap,rfl,hc,.inr ⟨g,rfl,hb,SsAt.of l 0 css h2 (fun j s cs hs hcs=>⟨SV.kept (Only.refl [] w) (by simp) (fun b hb=>hb.1) s cs (h3 j s cs hs hcs),fun k hk=>?_⟩)⟩⟩;have hj:j < l.length:=(List.getElem?_eq_some_iff.1 hs).1;have hf:=sA hl j cs k hcs hk;rw [← ht,List.getElem?_take_of_lt (by omega)] at hf;rw [← hf,ab _ hg,Nat.zero_add];simp
theorem OSt.snoc {w w':World} {base:Nat} {v v':Value} {l:List St} {css:List (List Value)} {s:St} {cs:List Value} (h2:css.length=l.length)
  (h3:∀ (i:Nat) (s:St) (cs:List Value),l[i]?=some s→css[i]?=some cs→SV w (fun b=>base≤b∧b < w.heap.size∧v.ownBlock≠some b) s cs) (hs:SV w (fun b=>base≤b∧b < w.heap.size∧v.ownBlock≠some b) s cs)
  (ho:w'.ownsRow base 113 7 v' (l.length+1) (css.flatten++cs)) (hw:Only v.ownBlock.toList w w') (hv:v'.ownBlock=v.ownBlock∨∃ g,v'.ownBlock=some g∧w.heap.size≤g):OSt w' base v' (l++[s]):=by
 have hB:∀ (s:St) (cs:List Value),SV w (fun b=>base≤b∧b < w.heap.size∧v.ownBlock≠some b) s cs→SV w' (fun b=>base≤b∧b < w'.heap.size∧v'.ownBlock≠some b) s cs:=by
  intro s cs h;refine SV.kept hw (fun k hk hB=>hB.2.2 (by simpa using hk)) (fun b hb=>⟨hb.1,by have:=hw.size;omega,?_⟩) s cs h;rcases hv with e | ⟨g,e,hg⟩
  ·rw [e];exact hb.2.2
  ·rw [e];intro e2;have:=Option.some.inj e2;omega
 refine ⟨css++[cs],by simpa using ho,by simp [h2],fun i s' cs' hi hc=>?_⟩;rcases Nat.lt_or_ge i l.length with hlt | hge
 ·rw [List.getElem?_append_left hlt] at hi;rw [List.getElem?_append_left (by omega)] at hc;exact hB _ _ (h3 i s' cs' hi hc)
 ·rw [List.getElem?_append_right hge] at hi;rw [List.getElem?_append_right (by omega)] at hc;have e0:i - l.length=0:=by
   rcases Nat.eq_zero_or_pos (i - l.length) with e | e
   ·exact e
   ·rw [List.getElem?_eq_none (by simp;omega)] at hi;cases hi
  rw [e0] at hi;rw [h2,e0] at hc;simp at hi hc;subst hi hc;exact hB _ _ hs
def OEx (w:World) (base:Nat) (v:Value) (l:List E):Prop:=
 ∃ css:List (List Value),w.ownsRow base 95 5 v l.length css.flatten∧css.length=l.length∧∀ (i:Nat) (s:E) (cs:List Value),l[i]?=some s→css[i]?=some cs→EV w (fun b=>base≤b∧b < w.heap.size∧v.ownBlock≠some b) s cs
theorem OEx.nil (w:World) (base:Nat):OEx w base (.slice none 0 0) []:=⟨[],World.ownsRow_nil w base _ 5,rfl,fun i s cs h=>by simp at h⟩
theorem uS {css:List (List Value)} (h:∀ cs∈css,cs.length=5):∀ (i:Nat) (cs:List Value) (j:Nat),css[i]?=some cs→j < 5→css.flatten[i*5+j]?=cs[j]?:=by
 induction css with
 | nil=>intro i cs j hi;simp at hi
 | cons c css ih=>
  intro i cs j hi hj;have hc:=h c (by simp);cases i with
  | zero=>
   simp at hi;subst hi;rw [List.flatten_cons,List.getElem?_append_left (by omega)];simp
  | succ i=>
   simp at hi;rw [List.flatten_cons,List.getElem?_append_right (by omega),show (i+1)*5+j - c.length=i*5+j by omega];exact ih (fun x hx=>h x (by simp [hx])) i cs j hi hj
theorem OEx.lens {w:World} {base:Nat} {v:Value} {l:List E} {css:List (List Value)} (h2:css.length=l.length) (h3:∀ (i:Nat) (s:E) (cs:List Value),l[i]?=some s→css[i]?=some cs→EV w (fun b=>base≤b∧b < w.heap.size∧v.ownBlock≠some b) s cs):∀ cs∈css,cs.length=5:=by
 intro cs hcs;obtain ⟨i,hi,rfl⟩:=List.mem_iff_getElem.1 hcs;exact (h3 i l[i] css[i] (List.getElem?_eq_getElem (by omega)) (List.getElem?_eq_getElem hi)).len
theorem OEx.quiet {w w':World} {base:Nat} {v:Value} {l:List E} (h:OEx w base v l) (ho:Only [] w w'):OEx w' base v l:=by
 obtain ⟨css,h1,h2,h3⟩:=h;refine ⟨css,⟨h1.1,?_⟩,h2,fun i s cs hi hc=>EV.kept ho (by simp) (fun b hb=>⟨hb.1,by have:=ho.size;omega,hb.2.2⟩) s cs (h3 i s cs hi hc)⟩;rcases h1.2 with hn | ⟨g,cap,cur,rfl,hb,hg,r⟩
 ·exact .inl hn
 ·exact .inr ⟨g,cap,cur,rfl,hb,ho.heap hg (by simp),r⟩
theorem EsAt.of {w:World} {B:Nat→Prop} {g:Nat}:∀ (l:List E) (i:Nat) (css:List (List Value)),css.length=l.length→(∀ (j:Nat) (s:E) (cs:List Value),l[j]?=some s→css[j]?=some cs→EV w B s cs∧∀ k,k < 5→w.cell? ⟨g,(i+j)*5+k,none⟩=cs[k]?)→EsAt w B g i l:=by
 intro l
 induction l with
 | nil=>intro i css _ _;unfold EsAt;trivial
 | cons s l ih=>
  intro i css hl h;cases css with
  | nil=>simp at hl
  | cons c css=>
   unfold EsAt;refine ⟨⟨c,?_⟩,ih (i+1) css (by simpa using hl) (fun j s cs hs hc=>?_)⟩
   ·have:=h 0 s c (by simp) (by simp);simpa using this
   ·have:=h (j+1) s cs (by simpa using hs) (by simpa using hc);rw [show i+1+j=i+(j+1) by omega];exact this
theorem OEx.esv {w:World} {base:Nat} {v:Value} {l:List E} (h:OEx w base v l):EsV w (fun b=>base≤b) v l:=by
 obtain ⟨css,h1,h2,h3⟩:=h;have hl:=OEx.lens h2 h3;rcases h1.2 with ⟨rfl,hn⟩ | ⟨g,cap,cur,rfl,hb,hg,hc,_,hz,ht⟩
 ·obtain rfl:l=[]:=List.eq_nil_of_length_eq_zero hn;exact EsV.nil _ _
 ·refine ⟨_,cap,rfl,hc,.inr ⟨g,rfl,hb,EsAt.of l 0 css h2 (fun j s cs hs hcs=>⟨EV.kept (Only.refl [] w) (by simp) (fun b hb=>hb.1) s cs (h3 j s cs hs hcs),fun k hk=>?_⟩)⟩⟩;have hj:j < l.length:=(List.getElem?_eq_some_iff.1 hs).1;have hf:=uS hl j cs k hcs hk;rw [← ht,List.getElem?_take_of_lt (by omega)] at hf;rw [← hf,ab _ hg,Nat.zero_add];simp
theorem OEx.snoc {w w':World} {base:Nat} {v v':Value} {l:List E} {css:List (List Value)} {s:E} {cs:List Value} (h2:css.length=l.length)
  (h3:∀ (i:Nat) (s:E) (cs:List Value),l[i]?=some s→css[i]?=some cs→EV w (fun b=>base≤b∧b < w.heap.size∧v.ownBlock≠some b) s cs) (hs:EV w (fun b=>base≤b∧b < w.heap.size∧v.ownBlock≠some b) s cs)
  (ho:w'.ownsRow base 95 5 v' (l.length+1) (css.flatten++cs)) (hw:Only v.ownBlock.toList w w') (hv:v'.ownBlock=v.ownBlock∨∃ g,v'.ownBlock=some g∧w.heap.size≤g):OEx w' base v' (l++[s]):=by
 have hB:∀ (s:E) (cs:List Value),EV w (fun b=>base≤b∧b < w.heap.size∧v.ownBlock≠some b) s cs→EV w' (fun b=>base≤b∧b < w'.heap.size∧v'.ownBlock≠some b) s cs:=by
  intro s cs h;refine EV.kept hw (fun k hk hB=>hB.2.2 (by simpa using hk)) (fun b hb=>⟨hb.1,by have:=hw.size;omega,?_⟩) s cs h;rcases hv with e | ⟨g,e,hg⟩
  ·rw [e];exact hb.2.2
  ·rw [e];intro e2;have:=Option.some.inj e2;omega
 refine ⟨css++[cs],by simpa using ho,by simp [h2],fun i s' cs' hi hc=>?_⟩;rcases Nat.lt_or_ge i l.length with hlt | hge
 ·rw [List.getElem?_append_left hlt] at hi;rw [List.getElem?_append_left (by omega)] at hc;exact hB _ _ (h3 i s' cs' hi hc)
 ·rw [List.getElem?_append_right hge] at hi;rw [List.getElem?_append_right (by omega)] at hc;have e0:i - l.length=0:=by
   rcases Nat.eq_zero_or_pos (i - l.length) with e | e
   ·exact e
   ·rw [List.getElem?_eq_none (by simp;omega)] at hi;cases hi
  rw [e0] at hi;rw [h2,e0] at hc;simp at hi hc;subst hi hc;exact hB _ _ hs
end Go.Proofs.YtcebchffcmpfeaaGreat

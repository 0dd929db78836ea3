/-
  Texts of the proof.
-/
import Derived.Test.YtpbaobmegomfpabGreatDoorG17
set_option linter.unusedVariables false
set_option linter.unusedSimpArgs false
set_option maxRecDepth 100000
set_option maxHeartbeats 16000000
open List renaming getElem_toArray→aE,getElem_cons_zero→aB,getElem_cons_succ→aC,setIfInBounds_toArray→aH,set_cons_zero→aG,set_cons_succ→aF,getD_cons_zero→aS,getD_cons_succ→aT,getElem?_eq_getElem→dP,getD_eq_getElem?_getD→eU,length_map→dR,mem_cons_self→gJ,length_cons→fC,mem_cons_of_mem→iZ
open Nat renaming le_refl→aI,le_trans→bL,le_of_lt→dM
open Go.Lib renaming hid→aA
open Go.RowKit.Below renaming refl→aD
open And renaming intro→aJ
open Go.Act renaming put→aQ
open Classical renaming byContradiction→gP
open Bool renaming and_eq_true→eB,or_eq_true→fO
namespace Go.Proofs.YtpbaobmegomfpabGreatDoor
open Go Go.RowKit
section
variable {P:Program}{ops:Array Oper}{Q:Exit->Go.Act->World->Prop}{md:Region.Mode}{z:Nat}
def fB (md:Region.Mode)(ops:Array Oper)(i:Nat):List Nat:=match ops[i]? with
 |some o=>(o.after.toList.filter fun e=>Region.binds md e).map (·.on)
 |none=>[]
def mI (md:Region.Mode)(ops:Array Oper):Nat->List Nat->List Nat
 |0,L=>L
 |k+1,L=>mI md ops k ((List.range ops.size).filter fun j=>L.contains j||L.any fun i=>(fB md ops i).contains j)
theorem rE {D:Nat->Prop}(hD: ∀i,D i-> ∀j∈fB md ops i,D j): ∀(k:Nat) (L:List Nat),(∀i∈L,D i)-> ∀i∈mI md ops k L,D i
 |0,L,h=>h
 |k+1,L,h=>rE hD k _ fun i hi=>by
  have:=(List.mem_filter.1 hi).2;simp only[fO,List.any_eq_true]at this;rcases this with h1|⟨x,hx,h1⟩
  ·exact h i (by simpa using h1)
  ·exact hD x (h x hx) i (by simpa using h1)
def aN (A:Go.Act)(vals:Nat->Value):List (Nat×Nat)->Go.Act
 |[]=>A
 |(j,d)::l=>aN (A.put (some d) (vals j)) vals l
theorem xAz (vals:Nat->Value): ∀(l:List (Nat×Nat)) (A:Go.Act),(aN A vals l).defers=A.defers
 |[],A=>rfl
 |(j,d)::l,A=>by show(aN (A.put (some d) (vals j)) vals l).defers=_;rw[xAz vals l];rfl
theorem uE (vals:Nat->Value){t:Nat}: ∀(l:List (Nat×Nat)) (A:Go.Act),(∀x∈l,x.2≠t)->(aN A vals l).tmps[t]? =A.tmps[t]?
 |[],A,_=>rfl
 |(j,d)::l,A,h=>by
  show(aN (A.put (some d) (vals j)) vals l).tmps[t]? =_;rw[uE vals l _ (fun x hx=>h x (iZ _ hx))];have hne:d≠t:=h (j,d) gJ;simp[aQ,Array.getElem?_setIfInBounds_ne hne]
theorem xZ (vals:Nat->Value){j t:Nat}: ∀(l:List (Nat×Nat)) (A:Go.Act),t<A.tmps.size->(∀x∈l,x.2=t->x.1=j)->(∃x∈l,x.2=t)->(aN A vals l).tmps[t]? =some (vals j)
 |[],A,_,_,h=>by obtain⟨x,hx,_⟩:=h;cases hx
 |(i,d)::l,A,hs,hu,h=>by
  show(aN (A.put (some d) (vals i)) vals l).tmps[t]? =_
  by_cases hl: ∃x∈l,x.2=t
  ·exact xZ vals l _ (by simpa [aQ] using hs) (fun x hx=>hu x (iZ _ hx)) hl
  ·rw[uE vals l _ (fun x hx e=>hl ⟨x,hx,e⟩)];obtain⟨x,hx,e⟩:=h;rcases List.mem_cons.1 hx with rfl|hx
   ·obtain rfl:d=t:=e;have:=hu (i,d) gJ rfl;obtain rfl:i=j:=this;simp[aQ,hs]
   ·exact absurd ⟨x,hx,e⟩ hl
def rF (md:Region.Mode)(ops:Array Oper)(z:Nat)(fol:List Nat)(kill bef:List (Nat×Nat))(D:List (Nat×Nat))(pre:List (List (Nat×Nat)))(n:Nat):Bool:=
 Region.noSelect ops&&D.map (·.1)==List.range D.length&&decide (D.length<=ops.size)&&pre.length==D.length&&
 (D.all fun x=>decide (x.2<n)&&(D.all fun y=>y.2 !=x.2||y.1==x.1))&&
 ((List.range D.length).all fun i => match ops[i]?, D[i]?, pre[i]? with
  |some o,some x,some p=>o.dst==some x.2&&((fB md ops i).all fun j=>decide (j<i))&&(p.all fun y=>D.contains y&&(fB md ops i).contains y.1)&&(D.all fun y=>!(o.looksAt ops).contains y.2||p.contains y)
  | _, _, _ => false) &&
 ((List.range ops.size).all fun i=>decide (i<D.length)||(List.range D.length).all fun j=>(mI md ops D.length (fB md ops i)).contains j||fol.contains j&&(fB md ops j).all fun y=>(mI md ops D.length (fB md ops i)).contains y)&&
 (fol.all fun f=>decide (f<D.length)&&f !=z&&gX md ops z f&&Region.free md ops ((List.range ops.size).map fun j=>(mI md ops D.length (fB md ops f)).contains j).toArray f)&&
 (kill.all fun x=>!fol.contains x.1&&(List.range D.length).all fun k=>k==x.1||!((pre.getD k []).any fun y=>y.1==x.2)||(mI md ops D.length (fB md ops x.1)).contains k)&&
 (bef.all fun x=>(mI md ops D.length (fB md ops x.2)).contains x.1)
def ObF (P:Program)(ops:Array Oper)(V:Nat->Value->World->Prop)(Tr:Nat->World->World->Prop)(A:Go.Act)(i:Nat)(w:World):Prop:=
 ∃ o, ops[i]? = some o ∧ ((Region.wanted o (yielded ops A.tmps) = true ∧ ((∃ v w', (execOp A.eval o).run P w = .ok (.value v) w' ∧ V i v w' ∧ Tr i w w') ∨
  ∃ g args, (execOp A.eval o).run P w = .ok (.enter g args) w ∧ Calls P g args w fun e w' => ∃ v, e = .returned v ∧ V i v w' ∧ Tr i w w')) ∨
  (Region.wanted o (yielded ops A.tmps) = false ∧ V i undef w))
def ObL (P:Program)(ops:Array Oper)(V:Nat->Value->World->Prop)(A:Go.Act)(i:Nat)(w:World):Prop:=
 ∃o v,ops[i]? =some o/\Region.wanted o (yielded ops A.tmps)=true/\(∀w',(execOp A.eval o).run P w'= .ok (.value v) w')/\V i v w
theorem dAu {md:Region.Mode}{ops:Array Oper}{l0 listed:Array Bool}{i:Nat}(hl: ∀j,j<ops.size->l0.getD j true=true->listed.getD j true=true)(h:Region.free md ops l0 i=true):Region.free md ops listed i=true:=by
 unfold Region.free at*
 cases ho:ops[i]? with
 |none=>rw[ho]at h;cases h
 |some oi=>
  rw[ho]at h;simp only[List.all_eq_true,List.mem_range,fO]at h ⊢;intro j hj;rcases h j hj with(h1|h1)|h1
  ·exact .inl (.inl h1)
  ·exact .inl (.inr (hl j hj h1))
  ·exact .inr h1
structure FJ (md:Region.Mode)(ops:Array Oper)(kill D:List (Nat×Nat))(V:Nat->Value->World->Prop)(R:World->Prop)(A0:Go.Act)(listed:Array Bool)(a:Go.Act)(w:World)(vals:Nat->Value):Prop where
 sz:listed.size=ops.size
 hi: ∀i,D.length<=i->listed.getD i false=false
 cl: ∀i,listed.getD i false=true-> ∀j∈fB md ops i,listed.getD j false=true
 tm: ∀x∈D,listed.getD x.1 false=true->a.tmps[x.2]? =some (vals x.1)
 rest: ∀t,(∀x∈D,listed.getD x.1 false=true->x.2≠t)->a.tmps[t]? =A0.tmps[t]?
 df:a.defers=A0.defers
 fact: ∀i,listed.getD i false=true->(∀k,(k,i)∈kill->listed.getD k false=false)->V i (vals i) w
 r:R w
def rG (listed:Array Bool)(m:Nat):Nat:=(List.range m).countP fun i=>!listed.getD i false
theorem yA0 {f g:Nat->Bool}{i:Nat}: ∀(l:List Nat),l.Nodup->i∈l->f i=true->g i=false->(∀j,j≠i->g j=f j)->l.countP g+1=l.countP f
 |[],_,h,_,_,_=>by cases h
 |x::l,hn,h,hf,hg,he=>by
  have hn':=List.nodup_cons.1 hn;rcases List.mem_cons.1 h with rfl|h
  ·rw[List.countP_cons_of_neg (by simp[hg]),List.countP_cons_of_pos hf]
   congr 1
   exact List.countP_congr fun j hj=>by rw[he j (fun e=>hn'.1 (e▸hj))]
  ·have hne:x≠i:=fun e=>hn'.1 (e▸h)
   have ih:=yA0 l hn'.2 h hf hg he;rw[List.countP_cons,List.countP_cons,he x hne];omega
theorem uF {l:Array Bool}{i:Nat}(h:i<l.size)(d d':Bool):l.getD i d=l.getD i d':=by
 rw[Array.getD_eq_getD_getElem?,Array.getD_eq_getD_getElem?,Array.getElem?_eq_getElem h];rfl
theorem uG {l:Array Bool}{i:Nat}(h:i<l.size)(d:Bool):(l.setIfInBounds i true).getD i d=true:=by
 rw[Array.getD_eq_getD_getElem?,Array.getElem?_setIfInBounds_self_of_lt h];rfl
def rH (m n:Nat):Array Bool:=(List.replicate m true++List.replicate (n-m) false).toArray
theorem dAv {a b:Go.Act}(h1: ∀t:Nat,a.tmps[t]? =b.tmps[t]?)(h2:a.defers=b.defers):a=b:=by
 obtain⟨x,y⟩:=a;obtain⟨u,v⟩:=b;simp only at h1 h2;rw[h2,Array.ext_getElem? h1]
theorem dAw {fol:List Nat}{kill bef D:List (Nat×Nat)}{pre:List (List (Nat×Nat))}{A0:Go.Act}(hchk:rF md ops z fol kill bef D pre A0.tmps.size=true)(hQ: ∀c (a:Go.Act) w (d:Nat) v,Q (.panic c) (a.put (some d) v) w->Q (.panic c) a w)(V:Nat->Value->World->Prop)(Tr:Nat->World->World->Prop)(R:World->Prop)(n0:Nat)(Tr0: ∀i w,Tr i w w)
  (mono: ∀k i v w w',(k,i)∉ kill->(k,i)∉ bef->k≠i->V i v w->Tr k w w'->V i v w') (monoR: ∀k w w',R w->Tr k w w'->R w')
  (obl: ∀i,i<D.length->i ∉ fol-> ∀(vals:Nat->Value) w,R w->(∀x∈pre.getD i [],V x.1 (vals x.1) w)->ObF P ops V Tr (aN A0 vals (pre.getD i [])) i w)
  (obf: ∀i∈fol,∀(vals:Nat->Value) w,R w->(∀x∈pre.getD i [],V x.1 (vals x.1) w)->ObL P ops V (aN A0 vals (pre.getD i [])) i w)
  (fin: ∀(vals:Nat->Value) w,R w->(∀i<D.length,(∀k,(k,i)∉ kill)->V i (vals i) w)->cQ P md ops Q (fun _=>True) z n0 (rH D.length ops.size) (aN A0 vals D) w):
  ∀(k:Nat) (listed:Array Bool) (a:Go.Act) (w:World) (vals:Nat->Value),rG listed D.length=k->FJ md ops kill D V R A0 listed a w vals->cQ P md ops Q (fun _=>True) z (n0+k) listed a w:=by
 unfold rF at hchk;simp only[eB,decide_eq_true_eq,beq_iff_eq]at hchk;obtain⟨⟨⟨⟨⟨⟨⟨⟨⟨hsel,hD⟩,hm⟩,hpl⟩,hd⟩,hop⟩,htail⟩,hfol⟩,hkill⟩,hbef⟩:=hchk;have hsel':=Region.noSelect_spec hsel
 have hdx: ∀x∈D,x.2<A0.tmps.size/\ ∀y∈D,y.2=x.2->y.1=x.1:=fun x hx=>by
  have:=List.all_eq_true.1 hd x hx;simp only[eB,decide_eq_true_eq]at this;refine⟨this.1,fun y hy e=>?_⟩;have:=List.all_eq_true.1 this.2 y hy
  simpa [e] using this
 have hD1: ∀i,i<D.length-> ∃x,D[i]? =some x/\x.1=i:=fun i hi=>by
  refine⟨D[i],dP hi,?_⟩;have h1:(D.map (·.1))[i]? =(List.range D.length)[i]? :=by rw[hD]
  rw[List.getElem?_map,dP hi,List.getElem?_range hi]at h1
  simpa using h1
 have hDx: ∀x∈D,x.1<D.length/\D[x.1]? =some x:=fun x hx=>by
  obtain⟨i,hi,rfl⟩:=List.mem_iff_getElem.1 hx;obtain⟨y,hy,e⟩:=hD1 i hi;rw[dP hi]at hy;injection hy with hy;subst hy;rw[e];exact⟨hi,dP hi⟩
 have hops: ∀i,i<D.length-> ∃o x p,ops[i]? =some o/\D[i]? =some x/\pre[i]? =some p/\o.dst=some x.2/\(∀j∈fB md ops i,j<i)/\(∀y∈p,y∈D/\y.1∈fB md ops i)/\ ∀y∈D,y.2∈o.looksAt ops->y∈p:=fun i hi=>by
  have:=List.all_eq_true.1 hop i (List.mem_range.2 hi)
  split at this
  ·rename_i o x p h1 h2 h3
   simp only[eB,beq_iff_eq,List.all_eq_true,decide_eq_true_eq,List.contains_iff_mem,fO,Bool.not_eq_true']at this;refine⟨o,x,p,h1,h2,h3,this.1.1.1,this.1.1.2,this.1.2,fun y hy hl=>?_⟩;rcases this.2 y hy with h|h
   ·have:=List.contains_iff_mem.2 hl;rw[this]at h;cases h
   ·exact h
  ·cases this
 intro k
 induction k with
 |zero=>
  intro listed a w vals hk h
  have hall: ∀i,i<D.length->listed.getD i false=true:=fun i hi=>by
   have:=List.countP_eq_zero.1 hk i (List.mem_range.2 hi)
   simpa using this
  have e1:listed=rH D.length ops.size:=by
   refine Array.ext_getElem? fun i=>?_
   unfold rH;show _=(List.replicate D.length true++List.replicate (ops.size-D.length) false).toArray[i]?;simp only[List.getElem?_toArray];have hlt':listed.toList[i]? =listed[i]? :=by simp
   try rw[hlt']
   rcases Nat.lt_or_ge i listed.size with hlt|hge
   ·have hb:listed[i]? =some (listed.getD i false):=(by rw[Array.getD_eq_getD_getElem?,Array.getElem?_eq_getElem hlt];rfl);rw[hb];rcases Nat.lt_or_ge i D.length with h1|h1
    ·rw[hall i h1,List.getElem?_append_left (by simpa using h1),List.getElem?_replicate,if_pos h1]
    ·rw[h.hi i h1,List.getElem?_append_right (by simpa using h1),List.getElem?_replicate,if_pos (by have:=h.sz;simp;omega)]
   ·rw[Array.getElem?_eq_none hge,List.getElem?_eq_none];have:=h.sz;simp;omega
  have e2:a=aN A0 vals D:=by
   refine dAv (fun t=>?_) (by rw[h.df,xAz])
   by_cases ht: ∃x∈D,x.2=t
   ·obtain⟨x,hx,rfl⟩:=ht;rw[h.tm x hx (hall _ (hDx x hx).1),xZ (j:=x.1) vals D A0 (hdx x hx).1 (fun y hy e=>(hdx x hx).2 y hy e) ⟨x,hx,rfl⟩]
   ·rw[h.rest t (fun x hx _ e=>ht ⟨x,hx,e⟩),uE vals D A0 (fun x hx e=>ht ⟨x,hx,e⟩)]
  rw[e1,e2];exact fin vals w h.r (fun i hi hk=>h.fact i (hall i hi) (fun k hk'=>absurd hk' (hk k)))
 |succ k ih=>
  intro listed a w vals hk h
  have hex: ∃i,i<D.length/\listed.getD i false=false:=by
   apply gP
   intro hno
   have:rG listed D.length=0:=List.countP_eq_zero.2 fun i hi=>by
    cases hb:listed.getD i false with
    |true=>simp
    |false=>exact absurd ⟨i,List.mem_range.1 hi,hb⟩ hno
   rw[this]at hk;cases hk
  have prl: ∀i∈Region.ready md ops listed,∀x∈fB md ops i,listed.getD x false=true:=fun i hi x hx=>by
   obtain⟨_,o,ho,haf⟩:=mem_ready.1 hi;unfold fB at hx;rw[ho]at hx;obtain⟨e,he,rfl⟩:=List.mem_map.1 hx;have he2:=List.mem_filter.1 he;exact haf e (by simpa using he2.1) (by simpa using he2.2)
  have ready_small:(∀f∈fol,f ∉ Region.ready md ops listed)-> ∀i∈Region.ready md ops listed,i<D.length:=fun hnf i hi=>by
   apply gP
   intro hge;obtain⟨hun,o,ho,haf⟩:=mem_ready.1 hi;have hlt:=(Array.getElem?_eq_some_iff.1 ho).1;have:=List.all_eq_true.1 htail i (List.mem_range.2 hlt);simp only[fO,decide_eq_true_eq,hge,false_or]at this;obtain⟨j,hj,hjf⟩:=hex;have hjc:=List.all_eq_true.1 this j (List.mem_range.2 hj)
   have hpr: ∀x∈fB md ops i,listed.getD x false=true:=fun x hx=>by
    unfold fB at hx;rw[ho]at hx;obtain⟨e,he,rfl⟩:=List.mem_map.1 hx;have he2:=List.mem_filter.1 he;exact haf e (by simpa using he2.1) (by simpa using he2.2)
   have hclo:=rE (D:=fun i=>listed.getD i false=true) h.cl D.length (fB md ops i) hpr;rcases fO _ _▸hjc with hjc|hjc
   ·have:=hclo j (by simpa using hjc);rw[hjf]at this;cases this
   ·simp only[eB,List.contains_iff_mem,List.all_eq_true]at hjc;obtain⟨oj,xj,pj,hj1,_⟩:=hops j hj;refine hnf j hjc.1 (mem_ready.2 ⟨by rw[uF (by rw[h.sz];omega) true false];exact hjf,oj,hj1,fun e he hb=>hclo _ (hjc.2 e.on ?_)⟩);unfold fB;rw[hj1];exact List.mem_map.2 ⟨e,List.mem_filter.2 ⟨by simpa using he,by simpa using hb⟩,rfl⟩
  have at_i: ∀i,i<D.length->i∈Region.ready md ops listed-> ∃o,ops[i]? =some o/\execOp a.eval o=execOp (aN A0 vals (pre.getD i [])).eval o/\Region.wanted o (yielded ops a.tmps)=Region.wanted o (yielded ops (aN A0 vals (pre.getD i [])).tmps)/\
    (∀x∈pre.getD i [],V x.1 (vals x.1) w)/\ ∀v w',V i v w'->Tr i w w'->(∃d,o.dst=some d)/\cQ P md ops Q (fun _=>True) z (n0+k) (listed.setIfInBounds i true) (a.put o.dst v) w':=fun i him hi=>by
   obtain⟨o,x,p,h1,h2,h3,h4,h5,h6,h7⟩:=hops i him;have hxD:x∈D:=List.mem_of_getElem? h2
   have hx1:x.1=i:=by
    obtain⟨y,hy,e⟩:=hD1 i him;rw[h2]at hy;injection hy with hy;rw[hy];exact e
   have hpre:pre.getD i []=p:=by rw[eU,h3];rfl
   have hilt:i<listed.size:=by rw[h.sz];omega
   have hifalse:listed.getD i false=false:=by
    rw[<-uF hilt true false];exact(mem_ready.1 hi).1
   have hlive: ∀y∈p,∀k,(k,y.1)∈kill->listed.getD k false=false:=fun y hy k hk=>by
    have h0:=List.all_eq_true.1 hkill (k,y.1) hk;simp only[eB,List.all_eq_true,fO,beq_iff_eq]at h0;have hi':=h0.2 i (List.mem_range.2 him)
    cases hb:listed.getD k false with
    |false=>rfl
    |true=>
     exfalso
     rcases hi' with(hi'|hi')|hi'
     ·rw[<-hi',hifalse]at hb;cases hb
     ·rw[hpre]at hi';have:(p.any fun u=>u.1==y.1)=true:=List.any_eq_true.2 ⟨y,hy,by simp⟩;rw[this]at hi';cases hi'
     ·have:=rE (D:=fun i=>listed.getD i false=true) h.cl D.length (fB md ops k) (h.cl k hb) i (by simpa using hi');rw[hifalse]at this;cases this
   -- the frame at hand and the one in which the operation was looked at
   have hsame: ∀t,t∈o.looksAt ops->a.tmps[t]? =(aN A0 vals p).tmps[t]? :=fun t ht=>by
    by_cases hin: ∃y∈D,y.2=t
    ·obtain⟨y,hy,rfl⟩:=hin;have hyp:=h7 y hy ht;rw[h.tm y hy (prl i hi _ (h6 y hyp).2),xZ (j:=y.1) vals p A0 (hdx y hy).1 (fun u hu e=>(hdx y hy).2 u (h6 u hu).1 e) ⟨y,hyp,rfl⟩]
    ·rw[h.rest t (fun y hy _ e=>hin ⟨y,hy,e⟩),uE vals p A0 (fun y hy e=>hin ⟨y,(h6 y hy).1,e⟩)]
   have hexec:execOp a.eval o=execOp (aN A0 vals p).eval o:=execOp_congr o (fun cs b=>hsel' i o cs b h1) fun y hy=>by
    cases y with
    |tmp t=>
     have ht:t∈o.looksAt ops:=List.mem_append_left _ (List.mem_filterMap.2 ⟨.tmp t,by simpa using hy,rfl⟩);show a.tmps.getD t undef=(aN A0 vals p).tmps.getD t undef;rw[Array.getD_eq_getD_getElem?,Array.getD_eq_getD_getElem?,hsame t ht]
    |const _=>rfl
    |global _=>rfl
    |func _=>rfl
   have hwant:Region.wanted o (yielded ops a.tmps)=Region.wanted o (yielded ops (aN A0 vals p).tmps):=by
    unfold Region.wanted
    cases hg:o.guard with
    |none=>rfl
    |some gw=>
     obtain⟨g,want⟩:=gw
     have hy:yielded ops a.tmps g=yielded ops (aN A0 vals p).tmps g:=by
      unfold yielded
      cases ht:(ops[g]?).bind (·.dst)with
      |none=>rfl
      |some t=>
       have:=hsame t (List.mem_append_right _ (by rw[hg];simp[ht]));simp only[Option.bind_some,this]
     simp only[hy]
   -- behind it
   have next: ∀v w',V i v w'->Tr i w w'->cQ P md ops Q (fun _=>True) z (n0+k) (listed.setIfInBounds i true) (a.put o.dst v) w':=fun v w' hv hb=>by
    refine ih (listed.setIfInBounds i true) (a.put o.dst v) w' (fun j=>if j=i then v else vals j) ?_ ?_
    ·have:=yA0 (f:=fun j=>!listed.getD j false) (g:=fun j=>!(listed.setIfInBounds i true).getD j false) (i:=i) (List.range D.length) List.nodup_range (List.mem_range.2 him) (by simp only[hifalse];rfl) (by rw[uG hilt];rfl) (fun j hj=>by rw[getD_set_ne false (Ne.symm hj)]);unfold rG at hk ⊢;omega
    ·have hset: ∀j,(listed.setIfInBounds i true).getD j false=true->j=i\/listed.getD j false=true:=fun j hj=>by
      by_cases e:j=i
      ·exact .inl e
      ·rw[getD_set_ne false (Ne.symm e)]at hj;exact .inr hj
     have hup: ∀j,listed.getD j false=true->(listed.setIfInBounds i true).getD j false=true:=fun j hj=>by
      by_cases e:j=i
      ·subst e;exact uG hilt false
      ·rw[getD_set_ne false (Ne.symm e)];exact hj
     have hin:i≠i->False:=fun h=>h rfl
     refine⟨by simpa using h.sz,fun j hj=>?_,fun j hj y hy=>?_,fun y hy hl=>?_,fun t ht=>?_,?_,fun j hj hjk=>?_,monoR i w w' h.r hb⟩
     ·rw[getD_set_ne false (show i≠j by omega)];exact h.hi j hj
     ·rcases hset j hj with rfl|hj
      ·exact hup y (prl _ hi y hy)
      ·exact hup y (h.cl j hj y hy)
     ·rw[h4]
      by_cases e:y.1=i
      ·rw[e];simp only[if_true]
       have hyx:y=x:=by
        have:=(hDx y hy).2;rw[e,h2]at this;injection this with this;exact this.symm
       rw[hyx]
       have htm:x.2<a.tmps.size:=by
        apply gP
        intro hge
        have h0 := h.rest x.2 (fun u hu hl' e' => by
         have:=(hdx x hxD).2 u hu e'
         rw [this, hx1, hifalse] at hl'; cases hl')
        rw[Array.getElem?_eq_none (by omega),Array.getElem?_eq_getElem (hdx x hxD).1]at h0
        cases h0
       simp[aQ,htm]
      ·rw[if_neg e];have hl':listed.getD y.1 false=true:=(hset _ hl).resolve_left e;have hne:x.2≠y.2:=fun e'=>e (by rw[<-hx1];exact(hdx x hxD).2 y hy e'.symm)
       have:=h.tm y hy hl';simp[aQ,Array.getElem?_setIfInBounds_ne hne,this]
     ·rw[h4];have hne:x.2≠t:=ht x hxD (by rw[hx1];exact uG hilt false);have:=h.rest t (fun y hy hl=>ht y hy (hup _ hl));simp[aQ,Array.getElem?_setIfInBounds_ne hne,this]
     ·rw[h4];exact h.df
     ·by_cases e:j=i
      ·subst e;simp only[if_true];exact hv
      ·simp only [if_neg e]; exact mono i j _ _ _ (fun hm => by have := hjk i hm; rw [uG hilt] at this; cases this) (fun hm => by
        have h0:=List.all_eq_true.1 hbef (i,j) hm;have:=rE (D:=fun i=>listed.getD i false=true) h.cl D.length (fB md ops j) (h.cl j ((hset j hj).resolve_left e)) i (by simpa using h0)
        rw [hifalse] at this; cases this) (Ne.symm e) (h.fact j ((hset j hj).resolve_left e) (fun k hk => by
        cases hb':listed.getD k false with
        |false=>rfl
        | true => have := hjk k hk; rw [hup k hb'] at this; cases this)) hb
   rw[hpre];exact⟨o,h1,hexec,hwant,fun y hy=>h.fact _ (prl i hi _ (h6 y hy).2) (hlive y hy),fun v w' h1' h2'=>⟨⟨_,h4⟩,next v w' h1' h2'⟩⟩
  by_cases hff: ∃f∈fol,f∈Region.ready md ops listed
  ·obtain⟨f,hf,hfr⟩:=hff;have hc:=List.all_eq_true.1 hfol f hf;simp only[eB,decide_eq_true_eq,bne_iff_ne]at hc;obtain⟨o,h1,hexec,hwant,hpv,next⟩:=at_i f hc.1.1.1 hfr;obtain⟨o',v,h1',hw,hrun,hv⟩:=obf f hf vals w h.r hpv;rw[h1]at h1';injection h1' with h1';subst h1'
   exact iI (fuel := n0 + k) h1 hsel (dAu (fun j hj hlj => by
    have e:((List.range ops.size).map fun j=>(mI md ops D.length (fB md ops f)).contains j).toArray.getD j true=(mI md ops D.length (fB md ops f)).contains j:=by
     rw[Array.getD_eq_getD_getElem?,List.getElem?_toArray,List.getElem?_map,List.getElem?_range hj];rfl
    rw[e]at hlj;have hl2:=rE (D:=fun i=>listed.getD i false=true) h.cl D.length (fB md ops f) (prl f hfr) j (by simpa using hlj)
    rw [uF (by rw [h.sz]; exact hj) true false]; exact hl2) hc.2) (by simpa using hfr) (by simp [hc.1.2, hc.1.1.2]) (fun c a' w1 => by obtain ⟨d, hd'⟩ := (next v w hv (Tr0 _ _)).1; rw [hd']; exact hQ c a' w1 d _) (Or.inl ⟨by rw [hwant]; exact hw, fun w' _ => by rw [hexec]; exact hrun w'⟩) trivial (next v w hv (Tr0 _ _)).2
  have hnf: ∀f∈fol,f ∉ Region.ready md ops listed:=fun f hf hr=>hff ⟨f,hf,hr⟩
  show cQ P md ops Q (fun _=>True) z ((n0+k)+1) listed a w;refine⟨fun hr=>?_,fun i hi=>?_⟩
  ·exfalso
   have: ∀i,i<D.length->listed.getD i false=true:=fun i=>by
    induction i using Nat.strongRecOn with
    |_ i ihh=>
     intro hi;obtain⟨o,x,p,h1,_,_,_,hlt,_⟩:=hops i hi
     apply gP
     intro hne
     have hmem : i ∈ Region.ready md ops listed := mem_ready.2 ⟨by rw [uF (by rw [h.sz]; omega) true false]; simpa using hne, o, h1, fun e he hb => by
      have hin:e.on∈fB md ops i:=by
       unfold fB;rw[h1];exact List.mem_map.2 ⟨e,List.mem_filter.2 ⟨by simpa using he,by simpa using hb⟩,rfl⟩
      exact ihh e.on (hlt _ hin) (Nat.lt_trans (hlt _ hin) hi)⟩
     rw[hr]at hmem;cases hmem
   obtain⟨i,hi,hf⟩:=hex;rw[this i hi]at hf;cases hf
  ·have him:=ready_small hnf i hi;have hnfi:i ∉ fol:=fun hf=>hnf i hf hi
   obtain⟨o,h1,hexec,hwant,hpv,next⟩:=at_i i him hi;obtain⟨o',ho',hOb⟩:=obl i him hnfi vals w h.r hpv;rw[h1]at ho';injection ho' with ho';subst ho';unfold wpOp;rw[h1];simp only;rw[hwant];rcases hOb with⟨hw,hr⟩|⟨hw,hv⟩
   ·rw[if_pos hw];refine .inl ?_;unfold Oper.wp;rw[hexec];rcases hr with⟨v,w',hrun,hv,hb⟩|⟨g,args,hrun,hc⟩
    ·rw[hrun];exact⟨fun _=>trivial,(next v w' hv hb).2⟩
    ·rw[hrun];refine Calls.mono hc ?_;rintro e w' ⟨v,rfl,hv,hb⟩;exact⟨fun _=>trivial,(next v w' hv hb).2⟩
   ·rw[if_neg (by rw[hw];simp)];exact⟨fun _=>trivial,(next undef w hv (Tr0 _ _)).2⟩
theorem mJ (z:Nat)(fol:List Nat)(kill bef D:List (Nat×Nat))(pre:List (List (Nat×Nat)))(V:Nat->Value->World->Prop)(Tr:Nat->World->World->Prop)(R:World->Prop)(n0:Nat){id:Nat}{A0:Go.Act}{w:World}(hm:P.follows .mixedOrders=true)(hn:ops.size=n0+D.length)
  (hchk:rF .any ops z fol kill bef D pre A0.tmps.size=true) (hQ: ∀c (a:Go.Act) w (d:Nat) v,Q (.panic c) (a.put (some d) v) w->Q (.panic c) a w) (hR:R w.drew) (Tr0: ∀i w,Tr i w w)
  (mono: ∀k i v w w',(k,i)∉ kill->(k,i)∉ bef->k≠i->V i v w->Tr k w w'->V i v w') (monoR: ∀k w w',R w->Tr k w w'->R w')
  (obl: ∀i,i<D.length->i ∉ fol-> ∀(vals:Nat->Value) w,R w->(∀x∈pre.getD i [],V x.1 (vals x.1) w)->ObF P ops V Tr (aN A0 vals (pre.getD i [])) i w)
  (obf: ∀i∈fol,∀(vals:Nat->Value) w,R w->(∀x∈pre.getD i [],V x.1 (vals x.1) w)->ObL P ops V (aN A0 vals (pre.getD i [])) i w)
  (fin: ∀(vals:Nat->Value) w,R w->(∀i<D.length,(∀k,(k,i)∉ kill)->V i (vals i) w)->cQ P .any ops Q (fun _=>True) z n0 (rH D.length ops.size) (aN A0 vals D) w):(Code.region id ops true).wp P Q A0 w:=by
 refine wp_region_any hm (uV (S:=fun _=>True) (z:=z) _ _ _ _ ?_)
 have hf: ∀i,(Array.replicate ops.size false).getD i false=false:=fun i=>by
  rw[Array.getD_eq_getD_getElem?,Array.getElem?_replicate];split<;>rfl
 have hu:rG (Array.replicate ops.size false) D.length=D.length:=by
  unfold rG;rw[List.countP_eq_length.2 (fun i _=>by rw[hf];rfl),List.length_range]
 have:=dAw (z:=z) (Q:=Q) hchk hQ V Tr R n0 Tr0 mono monoR obl obf fin D.length (Array.replicate ops.size false) A0 w.drew (fun _=>undef) hu
  ⟨by simp,fun i _=>hf i,(fun i hi=>by rw[hf]at hi;cases hi),(fun x _ hl=>by rw[hf]at hl;cases hl),fun t _=>rfl,rfl,(fun i hi _=>by rw[hf]at hi;cases hi),hR⟩
 rw[<-hn]at this;exact this
end
section
variable {P:Program}{ops:Array Oper}{Q:Exit->Go.Act->World->Prop}
theorem yA {f g:Nat->Value}: ∀(l:List (Nat×Nat)) (A:Go.Act),(∀x∈l,f x.1=g x.1)->aN A f l=aN A g l
 |[],A,_=>rfl
 |(j,d)::l,A,h=>by
  show aN (A.put (some d) (f j)) f l=aN (A.put (some d) (g j)) g l;rw[show f j=g j from h (j,d) gJ];exact yA l _ (fun x hx=>h x (iZ _ hx))
def ObX (P:Program)(ops:Array Oper)(X:List Value)(Tr:Nat->World->World->Prop)(A:Go.Act)(i:Nat)(w:World):Prop:=
 ∃ o, ops[i]? = some o ∧ Region.wanted o (yielded ops A.tmps) = true ∧ ((execOp A.eval o).run P w = .ok (.value (X.getD i undef)) w ∨
  ∃ g args, (execOp A.eval o).run P w = .ok (.enter g args) w ∧ Calls P g args w fun e w' => e = .returned (X.getD i undef) ∧ Tr i w w')
theorem fU {X:List Value}{Tr:Nat->World->World->Prop}{A:Go.Act}{i:Nat}{w:World}{o:Oper}(ho:ops[i]? =some o:=by rfl)(hw:Region.wanted o (yielded ops A.tmps)=true:=by(try simp only[aN,List.getD_cons_succ,List.getD_cons_zero,Go.Act.put,List.setIfInBounds_toArray,List.set_cons_zero,List.set_cons_succ]);try rfl)(hr:(execOp A.eval o).run P w= .ok (.value (X.getD i undef)) w:=by(try simp only[aN,List.getD_cons_succ,List.getD_cons_zero,Go.Act.put,List.setIfInBounds_toArray,List.set_cons_zero,List.set_cons_succ]);go_simp;try rfl):ObX P ops X Tr A i w:=⟨o,ho,hw,Or.inl hr⟩
theorem fV (z:Nat)(D:List (Nat×Nat))(pre:List (List (Nat×Nat)))(X:List Value)(Tr:Nat->World->World->Prop)(R:World->Prop)(n0:Nat){id:Nat}{A0:Go.Act}{w:World}(hm:P.follows .mixedOrders=true)(hn:ops.size=n0+D.length)
  (hchk:rF .any ops z [] [] [] D pre A0.tmps.size=true) (hQ: ∀c (a:Go.Act) w (d:Nat) v,Q (.panic c) (a.put (some d) v) w->Q (.panic c) a w) (hR:R w.drew) (Tr0: ∀i w,Tr i w w)
  (monoR: ∀k w w',R w->Tr k w w'->R w')
  (obl: ∀i,i<D.length-> ∀w,R w->ObX P ops X Tr (aN A0 (fun j=>X.getD j undef) (pre.getD i [])) i w)
  (fin: ∀w,R w->cQ P .any ops Q (fun _=>True) z n0 (rH D.length ops.size) (aN A0 (fun j=>X.getD j undef) D) w):(Code.region id ops true).wp P Q A0 w:=by
 refine mJ z [] [] [] D pre (fun i v _=>v=X.getD i undef) Tr R n0 hm hn hchk hQ hR Tr0 (fun k i v w w' _ _ _ h _=>h) monoR (fun i hi _ vals wc hR hV=>?_) (fun i hi=>by cases hi) (fun vals wf hR hV=>?_)
 ·obtain⟨o,ho,hw,hr⟩:=obl i hi wc hR;rw[yA (g:=fun j=>X.getD j undef) _ _ hV];refine⟨o,ho,Or.inl ⟨hw,hr.imp (fun h=>⟨_,_,h,rfl,Tr0 _ _⟩) ?_⟩⟩;rintro⟨g,args,h1,h2⟩;exact⟨g,args,h1,h2.mono fun e w' h=>⟨_,h.1,rfl,h.2⟩⟩
 ·have hx: ∀x∈D,x.1<D.length:=fun x hx=>by
   unfold rF at hchk;simp only[eB,decide_eq_true_eq,beq_iff_eq]at hchk;have hD:=hchk.1.1.1.1.1.1.1.1.2;have:x.1∈D.map (·.1):=List.mem_map.2 ⟨x,hx,rfl⟩;rw[hD]at this;exact List.mem_range.1 this
  rw[yA (g:=fun j=>X.getD j undef) D A0 (fun x hxD=>hV x.1 (hx x hxD) (fun k hk=>by cases hk))];exact fin wf hR
end
end Go.Proofs.YtpbaobmegomfpabGreatDoor
namespace Go.Proofs.YtpbaobmegomfpabGreatDoor
open Go.RowKit
theorem dAx (x:ByteArray)(w:World)(hs:x.size<=60)(e1:x.toList.isEmpty=true):
  Calls Tryz.prog 103 #[.agg #[.int .i64 1,.string x,.int .i64 0]] w fun e w'=>e= .returned (.tuple #[.string (bM 1 0 x),.int .i64 0])/\Below w.heap.size w w':=by
 have ht:=aA (show bM 1 0 x=(⟨#[73]⟩:ByteArray)++(⟨#[111,107]⟩:ByteArray) by unfold bM;rw[pS e1];rfl);have d5:decide (60<(x.size:Int))=false:=aY (by omega);go_enter Tryz.func103,Tryz.ntmps103;go_wp2_with fail;refine(dO _ _ _ _ (by omega)).mono ?_;rintro e w1 ⟨rfl,rfl⟩;go_wp2_with fail;refine(dO _ _ _ _ (by omega)).mono ?_;rintro e w2 ⟨rfl,rfl⟩;go_wp2
 go_ret2
 exact⟨by rw[ht.out];rfl,(aD _ _).alloc (aI _) _⟩
theorem dAy (x:ByteArray)(w:World)(hs:x.size<=60)(e1:x.toList.isEmpty=true):
  Calls Tryz.prog 103 #[.agg #[.int .i64 1,.string x,.int .i64 1]] w fun e w'=>e= .returned (.tuple #[.string (bM 1 1 x),.int .i64 0])/\Below w.heap.size w w':=by
 have ht:=aA (show bM 1 1 x=(⟨#[84]⟩:ByteArray)++(⟨#[111,107]⟩:ByteArray) by unfold bM;rw[pS e1];rfl);have d5:decide (60<(x.size:Int))=false:=aY (by omega);go_enter Tryz.func103,Tryz.ntmps103;go_wp2_with fail;refine(dO _ _ _ _ (by omega)).mono ?_;rintro e w1 ⟨rfl,rfl⟩;go_wp2_with fail;refine(dO _ _ _ _ (by omega)).mono ?_;rintro e w2 ⟨rfl,rfl⟩;go_wp2
 go_ret2
 exact⟨by rw[ht.out];rfl,(aD _ _).alloc (aI _) _⟩
theorem dAz (x:ByteArray)(w:World)(hs:x.size<=60)(e1:x.toList.isEmpty=true):
  Calls Tryz.prog 103 #[.agg #[.int .i64 1,.string x,.int .i64 2]] w fun e w'=>e= .returned (.tuple #[.string (bM 1 2 x),.int .i64 0])/\Below w.heap.size w w':=by
 have ht:=aA (show bM 1 2 x=(⟨#[70]⟩:ByteArray)++(⟨#[111,107]⟩:ByteArray) by unfold bM;rw[pS e1];rfl);have d5:decide (60<(x.size:Int))=false:=aY (by omega);go_enter Tryz.func103,Tryz.ntmps103;go_wp2_with fail;refine(dO _ _ _ _ (by omega)).mono ?_;rintro e w1 ⟨rfl,rfl⟩;go_wp2_with fail;refine(dO _ _ _ _ (by omega)).mono ?_;rintro e w2 ⟨rfl,rfl⟩;go_wp2
 go_ret2
 exact⟨by rw[ht.out];rfl,(aD _ _).alloc (aI _) _⟩
theorem cA0 (x:ByteArray)(w:World)(hs:x.size<=60)(e1:x.toList.isEmpty=false):
  Calls Tryz.prog 103 #[.agg #[.int .i64 2,.string x,.int .i64 0]] w fun e w'=>e= .returned (.tuple #[.string (bM 2 0 x),.int .i64 0])/\Below w.heap.size w w':=by
 have ht:=aA (show bM 2 0 x=((⟨#[73]⟩:ByteArray)++(⟨#[61]⟩:ByteArray))++x from rfl);have d5:decide (60<(x.size:Int))=false:=aY (by omega);go_enter Tryz.func103,Tryz.ntmps103;go_wp2_with fail;refine(dO _ _ _ _ (by omega)).mono ?_;rintro e w1 ⟨rfl,rfl⟩;go_wp2_with fail;refine(dO _ _ _ _ (by omega)).mono ?_;rintro e w2 ⟨rfl,rfl⟩;go_wp2
 go_ret2
 exact⟨by rw[ht.out];rfl,(aD _ _).alloc (aI _) _⟩
theorem cA1 (x:ByteArray)(w:World)(hs:x.size<=60)(e1:x.toList.isEmpty=false):
  Calls Tryz.prog 103 #[.agg #[.int .i64 2,.string x,.int .i64 1]] w fun e w'=>e= .returned (.tuple #[.string (bM 2 1 x),.int .i64 0])/\Below w.heap.size w w':=by
 have ht:=aA (show bM 2 1 x=((⟨#[84]⟩:ByteArray)++(⟨#[61]⟩:ByteArray))++x from rfl);have d5:decide (60<(x.size:Int))=false:=aY (by omega);go_enter Tryz.func103,Tryz.ntmps103;go_wp2_with fail;refine(dO _ _ _ _ (by omega)).mono ?_;rintro e w1 ⟨rfl,rfl⟩;go_wp2_with fail;refine(dO _ _ _ _ (by omega)).mono ?_;rintro e w2 ⟨rfl,rfl⟩;go_wp2
 go_ret2
 exact⟨by rw[ht.out];rfl,(aD _ _).alloc (aI _) _⟩
theorem cA2 (x:ByteArray)(w:World)(hs:x.size<=60)(e1:x.toList.isEmpty=false):
  Calls Tryz.prog 103 #[.agg #[.int .i64 2,.string x,.int .i64 2]] w fun e w'=>e= .returned (.tuple #[.string (bM 2 2 x),.int .i64 0])/\Below w.heap.size w w':=by
 have ht:=aA (show bM 2 2 x=((⟨#[70]⟩:ByteArray)++(⟨#[61]⟩:ByteArray))++x from rfl);have d5:decide (60<(x.size:Int))=false:=aY (by omega);go_enter Tryz.func103,Tryz.ntmps103;go_wp2_with fail;refine(dO _ _ _ _ (by omega)).mono ?_;rintro e w1 ⟨rfl,rfl⟩;go_wp2_with fail;refine(dO _ _ _ _ (by omega)).mono ?_;rintro e w2 ⟨rfl,rfl⟩;go_wp2
 go_ret2
 exact⟨by rw[ht.out];rfl,(aD _ _).alloc (aI _) _⟩
theorem cA3 (x:ByteArray)(w:World)(hs:x.size<=60)(e1:x.toList.isEmpty=true):
  Calls Tryz.prog 103 #[.agg #[.int .i64 3,.string x,.int .i64 0]] w fun e w'=>e= .returned (.tuple #[.string (bM 3 0 x),.int .i64 0])/\Below w.heap.size w w':=by
 have ht:=aA (show bM 3 0 x=(⟨#[73]⟩:ByteArray)++(⟨#[110,111,110,101]⟩:ByteArray) by unfold bM;rw[pS e1];rfl);have d5:decide (60<(x.size:Int))=false:=aY (by omega);go_enter Tryz.func103,Tryz.ntmps103;go_wp2_with fail;refine(dO _ _ _ _ (by omega)).mono ?_;rintro e w1 ⟨rfl,rfl⟩;go_wp2_with fail;refine(dO _ _ _ _ (by omega)).mono ?_;rintro e w2 ⟨rfl,rfl⟩;go_wp2
 go_ret2
 exact⟨by rw[ht.out];rfl,(aD _ _).alloc (aI _) _⟩
theorem cA4 (x:ByteArray)(w:World)(hs:x.size<=60)(e1:x.toList.isEmpty=true):
  Calls Tryz.prog 103 #[.agg #[.int .i64 3,.string x,.int .i64 1]] w fun e w'=>e= .returned (.tuple #[.string (bM 3 1 x),.int .i64 0])/\Below w.heap.size w w':=by
 have ht:=aA (show bM 3 1 x=(⟨#[84]⟩:ByteArray)++(⟨#[110,111,110,101]⟩:ByteArray) by unfold bM;rw[pS e1];rfl);have d5:decide (60<(x.size:Int))=false:=aY (by omega);go_enter Tryz.func103,Tryz.ntmps103;go_wp2_with fail;refine(dO _ _ _ _ (by omega)).mono ?_;rintro e w1 ⟨rfl,rfl⟩;go_wp2_with fail;refine(dO _ _ _ _ (by omega)).mono ?_;rintro e w2 ⟨rfl,rfl⟩;go_wp2
 go_ret2
 exact⟨by rw[ht.out];rfl,(aD _ _).alloc (aI _) _⟩
theorem cA5 (x:ByteArray)(w:World)(hs:x.size<=60)(e1:x.toList.isEmpty=true):
  Calls Tryz.prog 103 #[.agg #[.int .i64 3,.string x,.int .i64 2]] w fun e w'=>e= .returned (.tuple #[.string (bM 3 2 x),.int .i64 0])/\Below w.heap.size w w':=by
 have ht:=aA (show bM 3 2 x=(⟨#[70]⟩:ByteArray)++(⟨#[110,111,110,101]⟩:ByteArray) by unfold bM;rw[pS e1];rfl);have d5:decide (60<(x.size:Int))=false:=aY (by omega);go_enter Tryz.func103,Tryz.ntmps103;go_wp2_with fail;refine(dO _ _ _ _ (by omega)).mono ?_;rintro e w1 ⟨rfl,rfl⟩;go_wp2_with fail;refine(dO _ _ _ _ (by omega)).mono ?_;rintro e w2 ⟨rfl,rfl⟩;go_wp2
 go_ret2
 exact⟨by rw[ht.out];rfl,(aD _ _).alloc (aI _) _⟩
theorem cA6 (x:ByteArray)(w:World)(hs:x.size<=60)(e1:x.toList.isEmpty=false):
  Calls Tryz.prog 103 #[.agg #[.int .i64 4,.string x,.int .i64 0]] w fun e w'=>e= .returned (.tuple #[.string (bM 4 0 x),.int .i64 0])/\Below w.heap.size w w':=by
 have ht:=aA (show bM 4 0 x=((⟨#[73]⟩:ByteArray)++(⟨#[33]⟩:ByteArray))++x from rfl);have d5:decide (60<(x.size:Int))=false:=aY (by omega);go_enter Tryz.func103,Tryz.ntmps103;go_wp2_with fail;refine(dO _ _ _ _ (by omega)).mono ?_;rintro e w1 ⟨rfl,rfl⟩;go_wp2_with fail;refine(dO _ _ _ _ (by omega)).mono ?_;rintro e w2 ⟨rfl,rfl⟩;go_wp2
 go_ret2
 exact⟨by rw[ht.out];rfl,(aD _ _).alloc (aI _) _⟩
theorem cA7 (x:ByteArray)(w:World)(hs:x.size<=60)(e1:x.toList.isEmpty=false):
  Calls Tryz.prog 103 #[.agg #[.int .i64 4,.string x,.int .i64 1]] w fun e w'=>e= .returned (.tuple #[.string (bM 4 1 x),.int .i64 0])/\Below w.heap.size w w':=by
 have ht:=aA (show bM 4 1 x=((⟨#[84]⟩:ByteArray)++(⟨#[33]⟩:ByteArray))++x from rfl);have d5:decide (60<(x.size:Int))=false:=aY (by omega);go_enter Tryz.func103,Tryz.ntmps103;go_wp2_with fail;refine(dO _ _ _ _ (by omega)).mono ?_;rintro e w1 ⟨rfl,rfl⟩;go_wp2_with fail;refine(dO _ _ _ _ (by omega)).mono ?_;rintro e w2 ⟨rfl,rfl⟩;go_wp2
 go_ret2
 exact⟨by rw[ht.out];rfl,(aD _ _).alloc (aI _) _⟩
theorem cA8 (x:ByteArray)(w:World)(hs:x.size<=60)(e1:x.toList.isEmpty=false):
  Calls Tryz.prog 103 #[.agg #[.int .i64 4,.string x,.int .i64 2]] w fun e w'=>e= .returned (.tuple #[.string (bM 4 2 x),.int .i64 0])/\Below w.heap.size w w':=by
 have ht:=aA (show bM 4 2 x=((⟨#[70]⟩:ByteArray)++(⟨#[33]⟩:ByteArray))++x from rfl);have d5:decide (60<(x.size:Int))=false:=aY (by omega);go_enter Tryz.func103,Tryz.ntmps103;go_wp2_with fail;refine(dO _ _ _ _ (by omega)).mono ?_;rintro e w1 ⟨rfl,rfl⟩;go_wp2_with fail;refine(dO _ _ _ _ (by omega)).mono ?_;rintro e w2 ⟨rfl,rfl⟩;go_wp2
 go_ret2
 exact⟨by rw[ht.out];rfl,(aD _ _).alloc (aI _) _⟩
theorem cA9 (k st:Nat)(x:ByteArray)(w:World)(h: ¬((k:Int)<1\/4<(k:Int)\/(st:Int)<0\/2<(st:Int)))(h2: ¬((decide ((k:Int)=2\/(k:Int)=4)==x.toList.isEmpty)=true\/60<x.size)):
  Calls Tryz.prog 103 #[.agg #[.int .i64 k,.string x,.int .i64 st]] w fun e w'=>e= .returned (.tuple #[.string (bM k st x),.int .i64 0])/\Below w.heap.size w w':=by
 have hs:x.size<=60:=by
  by_cases hl:60<x.size
  ·exact absurd (.inr hl) h2
  ·omega
 have hq:(decide ((k:Int)=2\/(k:Int)=4)==x.toList.isEmpty)=false:=by
  cases hq:(decide ((k:Int)=2\/(k:Int)=4)==x.toList.isEmpty)
  ·rfl
  ·exact absurd (.inl hq) h2
 have hst:st=0\/st=1\/st=2:=by omega
 have hk:k=1\/k=2\/k=3\/k=4:=by omega
 clear h h2;rcases hk with rfl|rfl|rfl|rfl
 ·have e1:x.toList.isEmpty=true:=by simpa using hq
  rcases hst with rfl|rfl|rfl
  ·exact dAx x w hs e1
  ·exact dAy x w hs e1
  ·exact dAz x w hs e1
 ·have e1:x.toList.isEmpty=false:=by simpa using hq
  rcases hst with rfl|rfl|rfl
  ·exact cA0 x w hs e1
  ·exact cA1 x w hs e1
  ·exact cA2 x w hs e1
 ·have e1:x.toList.isEmpty=true:=by simpa using hq
  rcases hst with rfl|rfl|rfl
  ·exact cA3 x w hs e1
  ·exact cA4 x w hs e1
  ·exact cA5 x w hs e1
 ·have e1:x.toList.isEmpty=false:=by simpa using hq
  rcases hst with rfl|rfl|rfl
  ·exact cA6 x w hs e1
  ·exact cA7 x w hs e1
  ·exact cA8 x w hs e1
theorem cAa (k:UInt8)(s:ByteArray)(w:World)(hs:s.size<=120):
  Calls Tryz.prog 104 #[.int .u8 k.toNat,.string s] w fun e w'=>e= .returned (.tuple #[.string (lS k s),.int .i64 0])/\Below w.heap.size w w':=by
 have hcv:=qAz k s.size (by omega) w;have hd:decide (120<(s.size:Int))=false:=aY (by omega);go_enter Tryz.func104,Tryz.ntmps104;go_wp2
 go_ret2
 exact⟨rfl,(aD _ _).alloc (aI _) _⟩
theorem cAb (s:ByteArray)(w:World)(hs:s.size<=maxLen)(h2:2<=s.size)(h:2+s[1].toNat<=s.size):
  Calls Tryz.prog 29 #[.string s] w fun e w'=>e= .returned (.tuple #[.int .u8 s[0].toNat,.string (s.extract 2 (2+s[1].toNat)),.int .i64 ((2:Int)+(s[1].toNat:Int))])/\ ∃n,w'=w.drewN n:=by
 unfold maxLen at hs;have hby:s[1].toNat<256:=s[1].toNat_lt;have hd:decide ((s.size:Int)<2)=false:=aY (by omega);have hd2:decide ((s.size:Int)-2<(s[1].toNat:Int))=false:=aY (by omega);have h0:0<s.size:=by omega
 have h0':(0:Int)<(s.size:Int):=by omega
 have h3:(0:Int)<=(2:Int)+(s[1].toNat:Int):=by omega
 have h4:(2:Int)<=(2:Int)+(s[1].toNat:Int):=by omega
 have h5:(2:Int)+(s[1].toNat:Int)<=(s.size:Int):=by omega
 have h6:IntKind.i64.wrap ((2:Int)+(s[1].toNat:Int))=(2:Int)+(s[1].toNat:Int):=IntWalk.i64_in _ (by omega);have h7:((2:Int)+(s[1].toNat:Int)).toNat=2+s[1].toNat:=by omega
 go_enter Tryz.func29,Tryz.ntmps29;go_wp2
 go_quiet (fail)
 go_wp2
 go_ret3
 exact⟨rfl,nq,rfl⟩
theorem cAc (s:ByteArray)(w:World)(h2:s.size<2):
  Calls Tryz.prog 29 #[.string s] w fun e w'=>e= .returned (.tuple #[.int .u8 0,.string ⟨#[]⟩,.int .i64 0])/\w=w':=by
 have hd:decide ((s.size:Int)<2)=true:=cF (by omega);go_enter Tryz.func29,Tryz.ntmps29;go_wp2
 go_ret3
 exact⟨rfl,rfl⟩
theorem cAd (s:ByteArray)(w:World)(hs:s.size<=maxLen)(h2:2<=s.size)(h:s.size<2+s[1].toNat):
  Calls Tryz.prog 29 #[.string s] w fun e w'=>e= .returned (.tuple #[.int .u8 0,.string ⟨#[]⟩,.int .i64 0])/\w=w':=by
 unfold maxLen at hs;have hby:s[1].toNat<256:=s[1].toNat_lt;have hd:decide ((s.size:Int)<2)=false:=aY (by omega);go_enter Tryz.func29,Tryz.ntmps29;go_wp2
 go_ret3
 exact⟨rfl,rfl⟩
structure HRel (m:Mach Wd)(q:Nat->List Ask)(ow:List Int):Prop where
 wait: ∀c,c<6->(m.get c).wait=(q c).map Ask.req
 good: ∀c,c<6-> ∀a∈q c,a.ok=true->a.r.ok
 own:ow.length=m.busy.length
 free: ∀s (h:s<ow.length),(ow[s]= -1 ↔ m.busy[s]? =some false)
def HP (w:World)(base H A S:Nat)(mode:Int)(m:Mach Wd)(q:Nat->List Ask)(ow:List Int)(e:Ending)(w':World):Prop:= ∃f g G,e= .returned (.tuple #[])/\HMem 0 w' base H A S f g G mode m q ow/\Below base w w'
section
variable {w:World}{base H A S:Nat}{f g:Nat->Value}{G:Nat->Option Nat}{mode:Int}{m:Mach Wd}{q:Nat->List Ask}{ow:List Int}
theorem HMem.bH (h:HMem 0 w base H A S f g G mode m q ow):base<=H/\base<=A/\base<=w.heap.size:=⟨(h.lo 0 H h.g0).1,(h.lo 1 A h.g1).1,bL (h.lo 0 H h.g0).1 (dM (h.lo 0 H h.g0).2)⟩
theorem HMem.tell (h:HMem 0 w base H A S f g G mode m q ow)(hs6:m.sent.length=6){c:Nat}(hc:c<6)(a:cU)(st:Int):
  HMem 0 (w.setCell ⟨A,c*4+3,none⟩ (.string (m.sent.getD c ⟨#[]⟩++eZ a st))) base H A S f (aL g (c*4+3) (.string (m.sent.getD c ⟨#[]⟩++eZ a st))) G mode (m.tell c a st) q ow:=by
 refine h.cellA _ _ (fun k _ _ _=>by omega) rfl (fun _ _ _ _=>rfl) (fun d hd=>?_) (fun d hd=>?_) (fun d hd=>?_)
 ·rw[aP (by omega)];exact h.bytes d hd
 ·rw[aP (by omega)];exact h.srv d hd
 ·unfold Mach.tell;simp only;rw[jW]
  by_cases e:c=d
  ·subst e;rw[dQ,if_pos ⟨rfl,by omega⟩]
  ·rw[aP (by omega),if_neg (fun h=>e h.1)];exact h.sent d hd
theorem cAe (a:cU)(st:Int)(w:World)(h:fZ a/\0<=st/\st<=2):
  Calls Tryz.prog 103 #[.agg #[.int .i64 a.kind,.string a.text,.int .i64 st]] w fun e w'=>e= .returned (.tuple #[.string (bM a.kind.toNat st.toNat a.text),.int .i64 0])/\Below w.heap.size w w':=by
 obtain⟨hk,hk'⟩:(a.kind.toNat:Int)=a.kind/\(st.toNat:Int)=st:=⟨by have:=h.1.lo;omega,by omega⟩;have h1:=cA9 a.kind.toNat st.toNat a.text w (by rw[hk,hk'];have:=h.1.lo;have:=h.1.hi;omega) (by rw[hk];rw[h.1.ne];have:=h.1.len;simp;omega);rw[hk,hk']at h1;exact h1
theorem yA1 (w:World)(h:HMem 0 w base H A S f g G mode m q ow)(hs6:m.sent.length=6)(c:Nat)(hc:c<6)(a:cU)(st:Int)(ha:fZ a/\0<=st/\st<=2)(hsm:(m.sent.getD c ⟨#[]⟩).size<=100000000):
  Calls Tryz.prog 80 #[.pointer (some ⟨H,0,none⟩),.int .i64 c,.agg #[.int .i64 a.kind,.string a.text,.int .i64 st]] w fun e w'=>HP w base H A S mode (m.tell c a st) q ow e w'/\Only A w w':=by
 have nb:=(aD w.heap.size w).alloc (aI _) (.cells #[.int .i64 a.kind,.string a.text,.int .i64 st] 46);have HT:=aA (fun wc=>cAe a st wc ha);have hsz:=xA2 (a:=a) (st:=st) ha.1 ha.2;have he:eZ a st=lS 82 (bM a.kind.toNat st.toNat a.text):=rfl;rw[he,rO]at hsz;have HPK:=aA (fun wc=>cAa 82 (bM a.kind.toNat st.toNat a.text) wc (by omega));have HM:=aA (h.below nb);have HN:=aA nb;have HB:=aA (aJ (nb.mono h.bH.2.2) (aJ h.bH (aJ hs6 he)));have hcI:(c:Int)<6:=by omega
 have hm122:(lS 82 (bM a.kind.toNat st.toNat a.text)).size<=122:=by rw[rO];omega
 clear h ha nb hs6 hsz he;generalize(bM a.kind.toNat st.toNat a.text)=tt at*;go_enter Tryz.func80,Tryz.ntmps80;go_wp2_with fail;refine(HT.out _).mono ?_;rintro e w1 ⟨rfl,hb1⟩;go_wp2_with fail;refine(HPK.out _).mono ?_;rintro e w2 ⟨rfl,hb2⟩;have hb:=aR hb1 hb2 hb1.size;have hM:=HM.out.below hb;have HN2:=aA (aR HN.out hb HN.out.size);have HM2:=aA (aJ hM ((HB.out.1).trans (hb.mono (bL HB.out.2.1.2.2 HB.out.1.size))));have h4:w2.cell? ⟨H,4,none⟩=some (.slice (some ⟨A,0,none⟩) 6 6):=by rw[hM.h.cell (by omega),hM.f4]
 have ga:=hM.a.cell (j:=c*4+3) (by omega);rw[hM.sent c hc]at ga;have hHl:=hM.h.lt;have hAl:=hM.a.lt;have gf:=hM.a.frozen (c*4+3);obtain⟨s0,HS0⟩: ∃x,Hid (m.sent.getD c ⟨#[]⟩=x):=⟨_,aA rfl⟩;rw[HS0.out]at ga hsm;obtain⟨t0,HT0⟩: ∃x,Hid (lS 82 tt=x):=⟨_,aA rfl⟩;rw[HT0.out]at hm122;have hsum:=fun W=>run_string_add_sum (P:=Tryz.prog) W s0 t0 (by omega)
 clear hb1 hb2 hb hM HM HT HPK;go_wp2_with fail;rw[HT0.out];refine fV 17 [(0,20),(1,21),(2,22),(3,23),(4,24),(5,25),(6,26),(7,27),(8,28),(9,29),(10,30),(11,31),(12,32),(13,33),(14,34),(15,35),(16,36)] [[],[(0,20)],[(1,21)],[(2,22)],[],[],[(5,25)],[(6,26)],[(7,27)],[],[(8,28),(9,29)],[(10,30)],[(11,31)],[],[(12,32),(13,33)],[(3,23),(4,24)],[(15,35)]] [.pointer (some ⟨H,0,none⟩),.pointer (some ⟨H,0,none⟩),.pointer (some ⟨H,4,none⟩),.slice (some ⟨A,0,none⟩) 6 6,.int .i64 c,.pointer (some ⟨H,0,none⟩),.pointer (some ⟨H,0,none⟩),.pointer (some ⟨H,4,none⟩),.slice (some ⟨A,0,none⟩) 6 6,.int .i64 c,.pointer (some ⟨A,c*4,none⟩),.pointer (some ⟨A,c*4+3,none⟩),.string s0,.string t0,.string (s0++t0),.pointer (some ⟨A,c*4,none⟩),.pointer (some ⟨A,c*4+3,none⟩)] (fun _ w w'=>Below w.heap.size w w') (fun wc=>Below w2.heap.size w2 wc) 1 (by kernel_rfl) (by rfl) (by kernel_rfl) (fun _ _ _ _ _ h=>h) (aD _ _).drew (fun _ _=>aD _ _) (fun k w w' h hb=>bU h hb) ?ntob ?ntfi
 case ntob=>
  intro i hi wc hR;have h4':=(hR.cell (p:=⟨H,4,none⟩) hHl).trans h4;have ga':=(hR.cell (p:=⟨A,c*4+3,none⟩) hAl).trans ga;rcases i with _|_|_|_|_|_|_|_|_|_|_|_|_|_|_|_|_|i
  all_goals (first|contradiction|exact fU|exact absurd hi (by simp))
 case ntfi=>
  intro wf hR;have hS:=True.intro
  (try simp only[aN,aT,aS,aQ,aH,aG,aF])
  have HMf:=aA (aJ (HM2.out.1.below hR) (HM2.out.2.trans (hR.mono (bL HB.out.2.1.2.2 HM2.out.2.size))));have gaf:=(hR.cell (p:=⟨A,c*4+3,none⟩) hAl).trans ga;have gff:=HMf.out.1.a.frozen (c*4+3);have HN3:=aA (aR HN2.out hR HN2.out.size);clear hR h4 ga gf hHl hAl;refine bY (fun K hK=>?_)
  (try simp only[aE,aB,aC])
  go_simp;refine hK.out _ _ ?_;clear hK K
  (try simp only[aE,aB,aC,aQ,aH,aG,aF])
  go_wp2;go_end0;have hF:=HMf.out.1.tell HB.out.2.2.1 hc a st;rw[HB.out.2.2.2,HS0.out,HT0.out]at hF;exact⟨⟨_,_,_,rfl,hF,HMf.out.2.setCell HB.out.2.1.2.1 _⟩,by rw[cT];exact HN3.out.size,fun b hb hne=>(cM _ _ _ _ _ hne).trans (HN3.out.block b hb)⟩
theorem yA2 (w:World)(h:HMem 0 w base H A S f g G mode m q ow)(hs6:m.sent.length=6)(c:Nat)(hc:c<6)(a:cU)(st:Int)(ha:fZ a/\0<=st/\st<=2)(hsm:(m.sent.getD c ⟨#[]⟩).size<=100000000):
  Calls Tryz.prog 80 #[.pointer (some ⟨H,0,none⟩),.int .i64 c,.agg #[.int .i64 a.kind,.string a.text,.int .i64 st]] w (HP w base H A S mode (m.tell c a st) q ow):=(yA1 w h hs6 c hc a st ha hsm).mono fun _ _ h=>h.1
theorem yA3 (w:World)(h:HMem 0 w base H A S f g G mode m q ow)(c:Nat)(hc:c<6)(a:Ask)(l:List Ask)(hq:q c=a::l)(hg:a.ok=true->a.r.ok):
  Calls Tryz.prog 52 #[.pointer (some ⟨H,0,none⟩),.int .i64 c] w fun e w'=>e= .returned (.bool (eJ mode a.req))/\Below w.heap.size w w':=by
 have h0:w.cell? ⟨H,0,none⟩=some (.int .i64 mode):=by rw[h.h.cell (by omega),h.md]
 have h4:w.cell? ⟨H,4,none⟩=some (.slice (some ⟨A,0,none⟩) 6 6):=by rw[h.h.cell (by omega),h.f4]
 have ga:=h.a.cell (j:=c*4+1) (by omega);have hsl:=h.sl (c+3) (by omega) (by omega) (by omega);have e1:hV f g (c+3)=g (c*4+1):=by unfold hV;rw[if_pos (by omega),Nat.add_sub_cancel]
 have e2:hI m q ow (c+3)=(q c).map fT:=by unfold hI;rw[if_pos (by omega),Nat.add_sub_cancel]
 have e3:hZ (c+3)=4:=by unfold hZ;rw[if_pos (by omega)]
 rw[e1,e2,e3,hq]at hsl;obtain⟨b,off,cap,hb1,hv,hcap,hcell⟩:=hsl.at (by simp);have hbl:=hsl.lt hb1;rw[hv]at ga;have k0:=hcell 0 (by simp[fT]);have k1:=hcell 1 (by simp[fT]);have k2:=hcell 2 (by simp[fT]);have k3:=hcell 3 (by simp[fT]);simp only[List.map_cons,List.flatten_cons,fT,List.cons_append,aB,aC,Nat.add_zero,fC,dR]at k0 k1 k2 k3 ga hcap;have hHl:=h.h.lt;have hAl:=h.a.lt;have hcI:(c:Int)<6:=by omega
 have nb:=aA ((aD w.heap.size w).alloc (aI _) (.cells #[.int .i64 a.r.k,.string a.r.key,.string a.r.val,.bool a.ok] 100));clear hsl e1 e2 e3 hcell hv;have HG:=aA hg;obtain⟨r,ok⟩:=a;simp only at k0 k1 k2 k3 nb;clear hg h
 cases ok with
 |false=>
  have hr:eJ mode (Ask.req ⟨r,false⟩)=true:=by unfold eJ Ask.req Req.none_;simp
  rw[hr];go_enter Tryz.func52,Tryz.ntmps52;go_wp2;go_ret;exact⟨rfl,nb.out⟩
 |true=>
  have hr:eJ mode (Ask.req ⟨r,true⟩)=decide (r.k=1/\mode=3):=by
   have hk:1<=r.k:=(kE (HG.out rfl)).lo;unfold eJ Ask.req;rw[if_pos rfl];simp only[decide_eq_decide];omega
  rw[hr]
  by_cases h3:mode=3
  ·have t0:(mode==3)=true:=beq_iff_eq.2 h3
   by_cases h1:r.k=1
   ·have t1:(r.k==1)=true:=beq_iff_eq.2 h1;rw[show decide (r.k=1/\mode=3)=true from cF ⟨h1,h3⟩];clear h1 h3 hr;go_enter Tryz.func52,Tryz.ntmps52;go_wp2;go_ret;exact⟨rfl,nb.out⟩
   ·have t1:(r.k==1)=false:=bJ.2 h1;rw[show decide (r.k=1/\mode=3)=false from aY (fun h=>h1 h.1)];clear h1 h3 hr;go_enter Tryz.func52,Tryz.ntmps52;go_wp2;go_ret;exact⟨rfl,nb.out⟩
  ·have t0:(mode==3)=false:=bJ.2 h3;rw[show decide (r.k=1/\mode=3)=false from aY (fun h=>h3 h.2)];clear h3 hr;go_enter Tryz.func52,Tryz.ntmps52;go_wp2;go_ret;exact⟨rfl,nb.out⟩
end
end Go.Proofs.YtpbaobmegomfpabGreatDoor

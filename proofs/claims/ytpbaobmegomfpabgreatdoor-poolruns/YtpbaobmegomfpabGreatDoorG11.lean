/-
  Texts of the proof.
-/
import Derived.Test.YtpbaobmegomfpabGreatDoorG10
import Derived.Deep.AppendLies
import Derived.Lib.AppendStr
import Derived.Lib.AppendZeros
set_option linter.unusedVariables false
set_option linter.unusedSimpArgs false
set_option maxRecDepth 100000
set_option maxHeartbeats 16000000
open List renaming getElem_toArray→aE,getElem_cons_zero→aB,getElem_cons_succ→aC,setIfInBounds_toArray→aH,set_cons_zero→aG,set_cons_succ→aF,getElem?_eq_getElem→dP,getElem?_eq_some_iff→fN,length_append→eN,length_map→dR,length_set→fI,take_of_length_le→jR
open Nat renaming le_refl→aI,lt_of_lt_of_le→bD,le_trans→bL,le_of_lt→dM,zero_add→cW
open Go.Lib renaming hid→aA
open Go.RowKit.Below renaming refl→aD,heap_setCell→bF
open Go.World renaming cell?_of_block→aV,frozen?_of_block→iR,setCell→cE,cell?_setCell_other→jS
open And renaming intro→aJ
open Go.Act renaming put→aQ
open Go renaming bodyPost_ret→bE,below_drewN→aZ
namespace Go.Proofs.YtpbaobmegomfpabGreatDoor
open Go Go.RowKit
def pt (b:Nat):Value:= .pointer (some ⟨b,0,none⟩)
def fr (dp dq:Nat)(a:Go.Act):Option Nat->Option Nat->Go.Act
 |none,none=>a
 |some b,none=>a.put (some dp) (pt b)
 |none,some c=>a.put (some dq) (pt c)
 |some b,some c=>(a.put (some dp) (pt b)).put (some dq) (pt c)
def zs (lo:Nat)(t:TypeId)(zc:Array Value)(x:Option Nat)(w:World):Prop:= ∀b,x=some b->lo<=b/\w.heap[b]? =some (.cells zc t (0,0))
theorem qAt (lo:Nat)(t:TypeId)(zc:Array Value)(w:World):zs lo t zc none w:=fun _ h=>by cases h
theorem tL {lo:Nat}{t:TypeId}{zc:Array Value}{x:Option Nat}{w:World}(h:zs lo t zc x w)(o:Obj):zs lo t zc x (w.alloc o):=fun b hb=>by
 have:=h b hb;rw[Below.heap_alloc _ _ _ (Array.getElem?_eq_some_iff.1 this.2).1];exact this
theorem pC {lo:Nat}(t:TypeId)(zc:Array Value)(w:World)(h:lo<=w.heap.size):zs lo t zc (some w.heap.size) (w.alloc (.cells zc t)):=fun b hb=>by
 injection hb with hb;subst hb;exact⟨h,heap_alloc_new w _⟩
theorem tM {lo:Nat}{t:TypeId}{zc:Array Value}{b:Nat}{w:World}(h:zs lo t zc (some b) w):RowTo w b t zc.size zc.toList:=⟨zc,(h b rfl).2,rfl,by rw[jR (by simp)]⟩
theorem qAu {lo:Nat}{t:TypeId}{zc:Array Value}{x:Option Nat}{w w':World}(h:zs lo t zc x w)(hb:Below w.heap.size w w'):zs lo t zc x w':=fun b e=>by
 have:=h b e;exact⟨this.1,(hb.block b (Array.getElem?_eq_some_iff.1 this.2).1).trans this.2⟩
theorem pc {a:Go.Act}{d e:Nat}(h:d≠e)(v u:Value):(a.put (some d) v).put (some e) u=(a.put (some e) u).put (some d) v:=Go.Act.put_comm a v u (fun x hx hy=>by injection hx with hx;injection hy with hy;exact h (hx.trans hy.symm))
theorem hAg {dp dq d:Nat}(h1:d≠dp)(h2:d≠dq)(a:Go.Act)(x y:Option Nat)(v:Value):(fr dp dq a x y).put (some d) v=fr dp dq (a.put (some d) v) x y:=by
 cases x<;>cases y<;>simp only[fr]
 ·rw[pc (Ne.symm h2)]
 ·rw[pc (Ne.symm h1)]
 ·rw[pc (Ne.symm h2),pc (Ne.symm h1)]
section
variable {P:Program}{ops:Array Oper}{Q:Exit->Go.Act->World->Prop}{md:Region.Mode}{S:World->Prop}{z:Nat}
theorem lL {i:Nat}{o:Oper}{K:Go.Act->World->Prop}{a:Go.Act}{w:World}(ho:ops[i]? =some o)(hg:o.guard=none)(h:o.wp P a w K Q):wpOp P ops Q i K a w:=by
 unfold wpOp;simp only[ho];rw[if_pos (by simp[Region.wanted,hg])];exact .inl h
theorem pD {o:Oper}{a:Go.Act}{w:World}{K:Go.Act->World->Prop}{g:FuncId}{args:Array Value}(hr:(execOp a.eval o).run P w= .ok (.enter g args) w)
  (h:Calls P g args w fun e w'=> ∃v,e= .returned v/\K (a.put o.dst v) w'):o.wp P a w K Q:=by
 unfold Oper.wp;rw[hr];refine Calls.mono h fun e w' he=>?_
 obtain⟨v,rfl,hk⟩:=he;exact hk
theorem mZ {o:Oper}{a:Go.Act}{w w':World}{K:Go.Act->World->Prop}{v:Value}(hr:(execOp a.eval o).run P w= .ok (.value v) w')(h:K (a.put o.dst v) w'):o.wp P a w K Q:=by
 unfold Oper.wp;rw[hr];exact h
structure qAv (P:Program)(md:Region.Mode)(ops:Array Oper)(C:Nat)(cop dst:Nat->Nat)(p q dp dq:Nat)(tp tq:TypeId)(zp zq:Array Value)(Lst:Nat->Bool->Bool->Array Bool)(Lst':Bool->Bool->Array Bool):Prop where
 op: ∃o,ops[p]? =some o/\o.guard=none/\o.dst=some dp/\ ∀(ev:Operand->Value) w,(execOp ev o).run P w= .ok (.value (pt w.heap.size)) (w.alloc (.cells zp tp))
 oq: ∃o,ops[q]? =some o/\o.guard=none/\o.dst=some dq/\ ∀(ev:Operand->Value) w,(execOp ev o).run P w= .ok (.value (pt w.heap.size)) (w.alloc (.cells zq tq))
 ne:dp≠dq
 dn: ∀c,c<C->dst c≠dp/\dst c≠dq
 ready: ∀c x y,c<C->Region.ready md ops (Lst c x y)=cop c::((if x then []else [p])++(if y then []else [q]))
 ready': ∀x y,(x&&y)=false->Region.ready md ops (Lst' x y)=(if x then []else [p])++(if y then []else [q])
 setc: ∀c x y,c<C->(Lst c x y).setIfInBounds (cop c) true=Lst (c+1) x y
 setp: ∀c y,c<C->(Lst c false y).setIfInBounds p true=Lst c true y
 setq: ∀c x,c<C->(Lst c x false).setIfInBounds q true=Lst c x true
 setp': ∀y,(Lst' false y).setIfInBounds p true=Lst' true y
 setq': ∀x,(Lst' x false).setIfInBounds q true=Lst' x true
variable {C:Nat}{cop dst:Nat->Nat}{p q dp dq:Nat}{tp tq:TypeId}{zp zq:Array Value}{Lst:Nat->Bool->Bool->Array Bool}{Lst':Bool->Bool->Array Bool}
theorem hAh (G:qAv P md ops C cop dst p q dp dq tp tq zp zq Lst Lst')(J:Nat->Go.Act->World->Prop)(J':Go.Act->World->Prop)(n0 k0 lo:Nat)
  (hJ: ∀c a w o,J c a w->J c a (w.alloc o)) (hJ': ∀a w o,J' a w->J' a (w.alloc o)) (hS: ∀c a w,J c a w->S w) (hS': ∀a w,J' a w->S w) (hl: ∀c a w,J c a w->lo<=w.heap.size) (hl': ∀a w,J' a w->lo<=w.heap.size)
  (hcall: ∀c a w x y,c<C->J c a w->zs lo tp zp x w->zs lo tq zq y w->wpOp P ops Q (cop c) (fun a' w'=> ∃v,a'=(fr dp dq a x y).put (some (dst c)) v/\J (c+1) (a.put (some (dst c)) v) w'/\zs lo tp zp x w'/\zs lo tq zq y w') (fr dp dq a x y) w)
  (htake: ∀a w x y n,J C a w->zs lo tp zp x w->zs lo tq zq y w->(∀a',J' a' w->cQ P md ops Q S z n (Lst' x.isSome y.isSome) (fr dp dq a' x y) w)->cQ P md ops Q S z (n+k0) (Lst C x.isSome y.isSome) (fr dp dq a x y) w)
  (hfin: ∀a w b c,J' a w->zs lo tp zp (some b) w->zs lo tq zq (some c) w->cQ P md ops Q S z n0 (Lst' true true) (fr dp dq a (some b) (some c)) w):
  ∀a w,J 0 a w->cQ P md ops Q S z (n0+2+k0+C) (Lst 0 false false) a w:=by
 obtain⟨o1,p1,p2,p3,p4⟩:=G.op;obtain⟨o2,q1,q2,q3,q4⟩:=G.oq
 have ap: ∀(a:Go.Act) (y:Option Nat) (w:World) (K:Go.Act->World->Prop),K (fr dp dq a (some w.heap.size) y) (w.alloc (.cells zp tp))->wpOp P ops Q p K (fr dp dq a none y) w:=fun a y w K h=>by
  refine lL p1 p2 (mZ (p4 _ w) ?_);rw[p3]
  cases y with
  |none=>exact h
  |some c=>
   have e:(fr dp dq a none (some c)).put (some dp) (pt w.heap.size)=fr dp dq a (some w.heap.size) (some c):=by simp only[fr];rw[pc (Ne.symm G.ne)]
   rw[e];exact h
 have aq: ∀(a:Go.Act) (x:Option Nat) (w:World) (K:Go.Act->World->Prop),K (fr dp dq a x (some w.heap.size)) (w.alloc (.cells zq tq))->wpOp P ops Q q K (fr dp dq a x none) w:=fun a x w K h=>by
  refine lL q1 q2 (mZ (q4 _ w) ?_);rw[q3]
  cases x<;>exact h
 -- behind the chain
 have last: ∀(x y:Option Nat) (a:Go.Act) (w:World),J' a w->zs lo tp zp x w->zs lo tq zq y w->cQ P md ops Q S z (n0+(!x.isSome).toNat+(!y.isSome).toNat) (Lst' x.isSome y.isSome) (fr dp dq a x y) w:=by
  have tt: ∀b c a w,J' a w->zs lo tp zp (some b) w->zs lo tq zq (some c) w->cQ P md ops Q S z n0 (Lst' true true) (fr dp dq a (some b) (some c)) w:=fun b c a w=>hfin a w b c
  have ft: ∀c a w,J' a w->zs lo tq zq (some c) w->cQ P md ops Q S z (n0+1) (Lst' false true) (fr dp dq a none (some c)) w:=fun c a w hj hy=>by
   refine⟨fun h0=>(by rw[G.ready' false true rfl]at h0;cases h0),fun i hi=>?_⟩;rw[G.ready' false true rfl]at hi;obtain rfl:i=p:=by simpa using hi
   refine ap a _ w _ ⟨fun _=>hS' _ _ (hJ' _ _ _ hj),?_⟩;rw[G.setp'];exact tt _ _ _ _ (hJ' _ _ _ hj) (pC _ _ _ (hl' _ _ hj)) (tL hy _)
  have tf: ∀b a w,J' a w->zs lo tp zp (some b) w->cQ P md ops Q S z (n0+1) (Lst' true false) (fr dp dq a (some b) none) w:=fun b a w hj hx=>by
   refine⟨fun h0=>(by rw[G.ready' true false rfl]at h0;cases h0),fun i hi=>?_⟩;rw[G.ready' true false rfl]at hi;obtain rfl:i=q:=by simpa using hi
   refine aq a _ w _ ⟨fun _=>hS' _ _ (hJ' _ _ _ hj),?_⟩;rw[G.setq'];exact tt _ _ _ _ (hJ' _ _ _ hj) (tL hx _) (pC _ _ _ (hl' _ _ hj))
  intro x y a w hj hx hy
  cases x with
  |some b=>
   cases y with
   |some c=>exact tt b c a w hj hx hy
   |none=>exact tf b a w hj hx
  |none=>
   cases y with
   |some c=>exact ft c a w hj hy
   |none=>
    refine⟨fun h0=>(by rw[show Lst' (none:Option Nat).isSome (none:Option Nat).isSome=Lst' false false from rfl,G.ready' false false rfl]at h0;cases h0),fun i hi=>?_⟩;rw[show Lst' (none:Option Nat).isSome (none:Option Nat).isSome=Lst' false false from rfl,G.ready' false false rfl]at hi;have hi2:i=p\/i=q:=by simpa using hi
    rcases hi2 with rfl|rfl
    ·refine ap a _ w _ ⟨fun _=>hS' _ _ (hJ' _ _ _ hj),?_⟩;show cQ P md ops Q S z (n0+1) ((Lst' false false).setIfInBounds i true) _ _;rw[G.setp'];exact tf _ _ _ (hJ' _ _ _ hj) (pC _ _ _ (hl' _ _ hj))
    ·refine aq a _ w _ ⟨fun _=>hS' _ _ (hJ' _ _ _ hj),?_⟩;show cQ P md ops Q S z (n0+1) ((Lst' false false).setIfInBounds i true) _ _;rw[G.setq'];exact ft _ _ _ (hJ' _ _ _ hj) (pC _ _ _ (hl' _ _ hj))
 -- along the chain
 have main: ∀(m c:Nat) (x y:Option Nat) (a:Go.Act) (w:World),c<=C->m=(C-c)+(!x.isSome).toNat+(!y.isSome).toNat->J c a w->zs lo tp zp x w->zs lo tq zq y w->cQ P md ops Q S z (n0+k0+m) (Lst c x.isSome y.isSome) (fr dp dq a x y) w:=by
  intro m
  induction m with
  |zero=>
   intro c x y a w hc hm hj hx hy;have hcC:c=C:=by omega
   subst hcC;have hxs:(!x.isSome).toNat=0:=by omega
   have hys:(!y.isSome).toNat=0:=by omega
   have:=htake a w x y n0 hj hx hy (fun a' hj'=>by have:=last x y a' w hj' hx hy;rw[hxs,hys]at this;exact this);exact this
  |succ m ih=>
   intro c x y a w hc hm hj hx hy
   by_cases hcC:c=C
   ·subst hcC;have:=htake a w x y (n0+(!x.isSome).toNat+(!y.isSome).toNat) hj hx hy (fun a' hj'=>last x y a' w hj' hx hy);rw[show n0+k0+(m+1)=n0+(!x.isSome).toNat+(!y.isSome).toNat+k0 by omega];exact this
   ·have hlt:c<C:=(by omega);rw[show n0+k0+(m+1)=(n0+k0+m)+1 by omega];refine⟨fun h0=>(by rw[G.ready c _ _ hlt]at h0;cases h0),fun i hi=>?_⟩;rw[G.ready c _ _ hlt]at hi;rcases List.mem_cons.1 hi with rfl|hi
    ·refine wpOp_mono (fun a' w' h=>?_) (hcall c a w x y hlt hj hx hy);obtain⟨v,rfl,h1,h2,h3⟩:=h;refine⟨fun _=>hS _ _ _ h1,?_⟩;rw[G.setc c _ _ hlt,hAg (G.dn c hlt).1 (G.dn c hlt).2];exact ih (c+1) x y _ w' (by omega) (by omega) h1 h2 h3
    ·rcases List.mem_append.1 hi with hi|hi
     ·cases x with
      |some b=>simp at hi
      |none=>
       obtain rfl:i=p:=by simpa using hi
       refine ap a _ w _ ⟨fun _=>hS _ _ _ (hJ _ _ _ _ hj),?_⟩;rw[show Lst c (none:Option Nat).isSome y.isSome=Lst c false y.isSome from rfl,G.setp c _ hlt];exact ih c (some w.heap.size) y a _ hc (by simp at hm ⊢;omega) (hJ _ _ _ _ hj) (pC _ _ _ (hl _ _ _ hj)) (tL hy _)
     ·cases y with
      |some b=>simp at hi
      |none=>
       obtain rfl:i=q:=by simpa using hi
       refine aq a _ w _ ⟨fun _=>hS _ _ _ (hJ _ _ _ _ hj),?_⟩;rw[show Lst c x.isSome (none:Option Nat).isSome=Lst c x.isSome false from rfl,G.setq c _ hlt];exact ih c x (some w.heap.size) a _ hc (by simp at hm ⊢;omega) (hJ _ _ _ _ hj) (tL hx _) (pC _ _ _ (hl _ _ _ hj))
 intro a w hj;have:=main (C+1+1) 0 none none a w (Nat.zero_le _) (by simp) hj (qAt _ _ _ _) (qAt _ _ _ _);rw[show n0+2+k0+C=n0+k0+(C+1+1) by omega];exact this
theorem qAw {A0:Go.Act}{w0:World}(G:qAv P md ops C cop dst p q dp dq tp tq zp zq Lst Lst')(J:Go.Act->Nat->Go.Act->World->Prop)(J':Go.Act->Go.Act->World->Prop)(n0 k0 lo:Nat)
  (hJ: ∀c a w o,J A0 c a w->J A0 c a (w.alloc o)) (hJ': ∀a w o,J' A0 a w->J' A0 a (w.alloc o)) (hS: ∀c a w,J A0 c a w->S w) (hS': ∀a w,J' A0 a w->S w) (hl: ∀c a w,J A0 c a w->lo<=w.heap.size) (hl': ∀a w,J' A0 a w->lo<=w.heap.size)
  (hcall: ∀c a w x y,c<C->J A0 c a w->zs lo tp zp x w->zs lo tq zq y w->wpOp P ops Q (cop c) (fun a' w'=> ∃v,a'=(fr dp dq a x y).put (some (dst c)) v/\J A0 (c+1) (a.put (some (dst c)) v) w'/\zs lo tp zp x w'/\zs lo tq zq y w') (fr dp dq a x y) w)
  (htake: ∀a w x y n,J A0 C a w->zs lo tp zp x w->zs lo tq zq y w->(∀a',J' A0 a' w->cQ P md ops Q S z n (Lst' x.isSome y.isSome) (fr dp dq a' x y) w)->cQ P md ops Q S z (n+k0) (Lst C x.isSome y.isSome) (fr dp dq a x y) w)
  (hfin: ∀a w b c,J' A0 a w->zs lo tp zp (some b) w->zs lo tq zq (some c) w->cQ P md ops Q S z n0 (Lst' true true) (fr dp dq a (some b) (some c)) w)
  (h0:J A0 0 A0 w0):cQ P md ops Q S z (n0+2+k0+C) (Lst 0 false false) A0 w0:=hAh G (J A0) (J' A0) n0 k0 lo hJ hJ' hS hS' hl hl' hcall htake hfin A0 w0 h0
end
end Go.Proofs.YtpbaobmegomfpabGreatDoor
namespace Go.Proofs.YtpbaobmegomfpabGreatDoor
open Go.RowKit
theorem cH {w:World}{p q:Addr}{u v:Value}(hp:p.block≠q.block)(h:w.cell? q=some v):(w.setCell p u).cell? q=some v:=(jS _ _ _ _ (fun e=>hp (by rw[e]))).trans h
theorem WldP.off {w w':World}{P:Nat->Prop}{R:Nat}{r s:Value}{W:Wd}(h:WldP w P r s W)(h2:lI w R)(hs:oV w R)(hz:w'.heap.size=w.heap.size)(hk: ∀b,b≠R->w'.heap[b]? =w.heap[b]?):WldP w' P r s W:=by
 have hw:Wld w' w'.heap.size r s W:=by rw[hz];exact h.wld.off h2 hs hk
 refine⟨hw,h.rows,fun hn b off n c e=>⟨(h.ses hn b off n c e).1,fun k j v hk' hj hv=>?_⟩⟩;obtain⟨b',off',c',e',hb,hc⟩:=h.wld.sess.cells hn;have he:b=b'/\off=off':=by rw[e]at e';injection e' with e';injection e' with e';injection e' with e1 e2;exact⟨e1,e2⟩
 obtain⟨rfl,rfl⟩:=he
 have hne:b≠R:=by
  rintro rfl;obtain⟨v1,v2,v3,v4,q⟩:=hc 0 hn;obtain⟨A,c',hv',_⟩:=q.l1.form;have:=q.c1;rw[hv']at this;exact hs _ _ _ _ _ q.c0 this
 rw[aV (hk b hne)]at hv;exact(h.ses hn b off n c e).2 k j v hk' hj hv
theorem hAi {w:World}{S n:Nat}(h:RowTo w S 115 (n*5) (madeCells #[.int .i64 0,.slice none 0 0,.slice none 0 0,.slice none 0 0,.slice none 0 0] (n*5)).toList)(hn:n<=8):Sss w w.heap.size (.slice (some ⟨S,0,none⟩) n n) (List.replicate n Sess.zero):=by
 refine⟨⟨some ⟨S,0,none⟩,n,by simp,by simp⟩,by simp;omega,fun hp=>⟨S,0,n,by simp,h.lt,fun i hi=>?_⟩⟩;simp only[List.length_replicate]at hi;have hlen:(madeCells #[Value.int .i64 0,.slice none 0 0,.slice none 0 0,.slice none 0 0,.slice none 0 0] (n*5)).toList.length=n*5:=by simp[madeCells]
 have c: ∀j,j<5->w.cell? ⟨S,0+i*5+j,none⟩=[Value.int .i64 0,.slice none 0 0,.slice none 0 0,.slice none 0 0,.slice none 0 0][j]? :=fun j hj=>by
  have hlt:0+i*5+j<(madeCells #[Value.int .i64 0,.slice none 0 0,.slice none 0 0,.slice none 0 0,.slice none 0 0] (n*5)).toList.length:=by rw[hlen];omega
  rw[h.cell hlt];have e:(0+i*5+j)%5=j:=by omega
  simp only[madeCells,Array.toList_ofFn,List.getElem_ofFn]
  match j,hj,e with
  |0,_,e=>simp[e]
  |1,_,e=>simp[e]
  |2,_,e=>simp[e]
  |3,_,e=>simp[e]
  |4,_,e=>simp[e]
 simp only[List.getElem_replicate];exact⟨_,_,_,_,c 0 (by omega),c 1 (by omega),c 2 (by omega),c 3 (by omega),c 4 (by omega),Lst.none_ _ _,Lst.none_ _ _,Lst.none_ _ _,Lst.none_ _ _⟩
section
variable {wr:World}{c:Value}{x:Value×Value×Value}{V:Wd}{an:cU}{st:Int}{A0:Go.Act}
end
structure hAj (wr w9:World)(b1 c1:Nat)(V:Wd)(a:cU)(st:Int)(r2 s2:Value):Prop where
 b:RowTo w9 b1 39 2 [r2,s2]
 c:RowTo w9 c1 46 3 [.int .i64 a.kind,.string a.text,.int .i64 st]
 wld:WldP w9 (fun b=>wr.heap.size<=b) r2 s2 V
 bel:Below wr.heap.size wr w9
 lb:wr.heap.size<=b1
 lc:wr.heap.size<=c1
 ne:b1≠c1
theorem hAk {wr wc:World}{b1 c1:Nat}{V:Wd}{a:cU}{st:Int}{r2 s2:Value}(hX:RowTo wc b1 39 2 [.slice none 0 0,.slice none 0 0])(hY:RowTo wc c1 46 3 [.int .i64 0,.string ⟨#[]⟩,.int .i64 0])(hw:WldP wc (fun b=>wr.heap.size<=b) r2 s2 V)(hb:Below wr.heap.size wr wc)(lb:wr.heap.size<=b1)(lc:wr.heap.size<=c1)(hbc:b1≠c1):
  hAj wr (((((wc.setCell ⟨b1,0,none⟩ r2).setCell ⟨b1,1,none⟩ s2).setCell ⟨c1,0,none⟩ (.int .i64 a.kind)).setCell ⟨c1,1,none⟩ (.string a.text)).setCell ⟨c1,2,none⟩ (.int .i64 st)) b1 c1 V a st r2 s2:=by
 have Y1:=hY.oth2 hbc r2 s2;refine⟨(hX.set2 r2 s2).oth3 (Ne.symm hbc) _ _ _,Y1.set3 _ _ _,?_,mE (uAj hb lb _ _) lc _ _ _,lb,lc,hbc⟩;refine WldP.off (R:=c1) (w:=(wc.setCell ⟨b1,0,none⟩ r2).setCell ⟨b1,1,none⟩ s2) ?_ (mT Y1) (wR Y1) (by simp[cE]) (fun b hb=>by rw[bF _ _ _ _ hb,bF _ _ _ _ hb,bF _ _ _ _ hb]);exact hw.off (nU hX) (qA5 hX) (by simp[cE]) (fun b hb=>by rw[bF _ _ _ _ hb,bF _ _ _ _ hb])
def nC (A0:Go.Act)(vs:Nat->Nat×Value):Nat->Go.Act
 |0=>A0
 |c+1=>(nC A0 vs c).put (some (vs c).1) (vs c).2
def DJ (wr:World)(C:Nat)(vs:Nat->Nat×Value)(dl:Nat)(res:Value->Value->Value)(Post:Value->Value->World->Prop)(A0:Go.Act)(c:Nat)(f:Go.Act)(wc:World):Prop:=
 Below wr.heap.size wr wc/\(c<=C->f=nC A0 vs c)/\(C<c-> ∃r2 s2,f=(nC A0 vs C).put (some dl) (res r2 s2)/\Post r2 s2 wc)
def xE (wr:World)(F:Go.Act->Value->Value->Go.Act)(Post:Value->Value->World->Prop)(A0:Go.Act)(f:Go.Act)(wc:World):Prop:=
 Below wr.heap.size wr wc/\ ∃r2 s2,f=F A0 r2 s2/\Post r2 s2 wc
section
variable {wr:World}{C:Nat}{vs:Nat->Nat×Value}{dl:Nat}{res:Value->Value->Value}{Post:Value->Value->World->Prop}{F:Go.Act->Value->Value->Go.Act}{A0:Go.Act}
theorem hAm (hP: ∀r s w o,Post r s w->Post r s (w.alloc o))(c:Nat)(f:Go.Act)(w:World)(o:Obj)(h:DJ wr C vs dl res Post A0 c f w):DJ wr C vs dl res Post A0 c f (w.alloc o):=
 ⟨h.1.alloc h.1.size o,h.2.1,fun hc=>by obtain⟨r2,s2,h1,h2⟩:=h.2.2 hc;exact⟨r2,s2,h1,hP _ _ _ _ h2⟩⟩
theorem hAn (hP: ∀r s w o,Post r s w->Post r s (w.alloc o))(f:Go.Act)(w:World)(o:Obj)(h:xE wr F Post A0 f w):xE wr F Post A0 f (w.alloc o):=by
 obtain⟨h0,r2,s2,h1,h2⟩:=h;exact⟨h0.alloc h0.size o,r2,s2,h1,hP _ _ _ _ h2⟩
end
theorem qAx {P:Nat->Prop}{V:Wd}(r s:Value)(w:World)(o:Obj)(h:WldP w P r s V):WldP (w.alloc o) P r s V:=h.below ((aD w.heap.size w).alloc (aI _) o)
theorem PMem.off {X:Nat}{w w':World}{base P R:Nat}{f:Nat->Value}{G:Nat->Option Nat}{mode:Int}{m:Mach PE}(h:PMem X w base P f G mode m)(h2:lI w R)(hs:oV w R)(hG: ∀i,G i≠some R)(hz:w'.heap.size=w.heap.size)(hk: ∀b,b≠R->w'.heap[b]? =w.heap[b]?):PMem X w' base P f G mode m:=by
 have hP:P≠R:=fun e=>hG 0 (by rw[h.p0,e])
 have ll: ∀{v:Value} {l:PL},Lst w w.heap.size v l/\InP (cX G) v l->Lst w' w'.heap.size v l/\InP (cX G) v l:=fun a=>⟨by rw[hz];exact a.1.offN h2 hk,a.2⟩
 exact⟨h.row.same (hk P hP),h.p0,fun i b hb=>by rw[hz];exact h.lo i b hb,h.inj,fun k a b c=>(h.sl k a b c).keep fun g hg=>hk g (fun e=>hG k (by rw[hg,e])),h.md,h.wld.off h2 hs hz hk,h.bytes,h.has,h.srv,fun c hc=>ll (h.set c hc),fun c hc=>ll (h.prep c hc)⟩
theorem PMem.ans3 {X:Nat}{w:World}{base P R:Nat}{f:Nat->Value}{G:Nat->Option Nat}{mode:Int}{m:Mach PE}{x y:Int}{s:ByteArray}(h:PMem X w base P f G mode m)(hR:RowTo w R 46 3 [.int .i64 x,.string s,.int .i64 y])(hG: ∀i,G i≠some R)(a b c:Value):PMem X (((w.setCell ⟨R,0,none⟩ a).setCell ⟨R,1,none⟩ b).setCell ⟨R,2,none⟩ c) base P f G mode m:=
 h.off (mT hR) (wR hR) hG (by simp[cE]) fun b' hb=>by rw[bF _ _ _ _ hb,bF _ _ _ _ hb,bF _ _ _ _ hb]
structure Leads (w:World):Prop where
 room:0<w.heap.size
 cell: ∀k,k<=4->w.cell? ⟨0,k,none⟩=some (.string (dJ k))
theorem Leads.below {w w':World}(h:Leads w)(hb:Below w.heap.size w w'):Leads w':=
 ⟨bD h.room hb.size,fun k hk=>(hb.cell (p:=⟨0,k,none⟩) h.room).trans (h.cell k hk)⟩
theorem Leads.alloc {w:World}(h:Leads w)(o:Obj):Leads (w.alloc o):=h.below ((aD _ _).alloc (aI _) _)
theorem jZ: ∀st,st<=2->(⟨#[73,84,70]⟩:ByteArray).extract st (st+1)=tA st:=by decide
theorem hAo: ∀st,st<=2->((⟨#[73,84,70]⟩:ByteArray).extract st (st+1)).size=1:=by decide
theorem qAy: ∀k,k<=4->(dJ k).size<=4:=by decide
theorem kA (st k:Nat)(hst:st<=2)(hk:k<=4)(x:ByteArray)(hs:x.size<=60):
  ((⟨#[73,84,70]⟩:ByteArray).extract st (st+1)).size+(dJ k).size<=9223372036854775807/\((⟨#[73,84,70]⟩:ByteArray).extract st (st+1)++dJ k).size+x.size<=9223372036854775807:=by
 have h1:=hAo st hst;have h2:=qAy k hk;rw[ByteArray.size_append];omega
theorem hAp (x:ByteArray)(w:World)(hL:Leads w)(hs:x.size<=60)(e1:x.toList.isEmpty=true):
  Calls Tryz.prog 13 #[.agg #[.int .i64 1,.string x,.int .i64 0]] w fun e w'=>e= .returned (.tuple #[.string (bM 1 0 x),.int .i64 0])/\Below w.heap.size w w':=by
 have ht:=aA (show bM 1 0 x=((⟨#[73,84,70]⟩:ByteArray).extract 0 1++dJ 1)++x by unfold bM;rw[<-jZ 0 (by omega)]);have hz:=kA 0 1 (by omega) (by omega) x hs;have a1:=fun W=>run_string_add_sum (P:=Tryz.prog) W ((⟨#[73,84,70]⟩:ByteArray).extract 0 1) (dJ 1) hz.1
 have a2:=fun W=>run_string_add_sum (P:=Tryz.prog) W ((⟨#[73,84,70]⟩:ByteArray).extract 0 1++dJ 1) x hz.2
 have d5:decide (60<(x.size:Int))=false:=aY (by omega);have hc:=hL.cell 1 (by omega);have hroom:=hL.room;have hroom':0≠w.heap.size:=by omega
 have g1:IntKind.i64.wrap 1=1:=rfl;clear hL hz;go_enter Tryz.func13,Tryz.ntmps13;go_wp2
 go_quiet (fail)
 go_wp2
 go_ret2
 exact⟨by rw[ht.out];rfl,aZ ((aD _ _).alloc (aI _) _) nq⟩
theorem hAq (x:ByteArray)(w:World)(hL:Leads w)(hs:x.size<=60)(e1:x.toList.isEmpty=true):
  Calls Tryz.prog 13 #[.agg #[.int .i64 1,.string x,.int .i64 1]] w fun e w'=>e= .returned (.tuple #[.string (bM 1 1 x),.int .i64 0])/\Below w.heap.size w w':=by
 have ht:=aA (show bM 1 1 x=((⟨#[73,84,70]⟩:ByteArray).extract 1 2++dJ 1)++x by unfold bM;rw[<-jZ 1 (by omega)]);have hz:=kA 1 1 (by omega) (by omega) x hs;have a1:=fun W=>run_string_add_sum (P:=Tryz.prog) W ((⟨#[73,84,70]⟩:ByteArray).extract 1 2) (dJ 1) hz.1
 have a2:=fun W=>run_string_add_sum (P:=Tryz.prog) W ((⟨#[73,84,70]⟩:ByteArray).extract 1 2++dJ 1) x hz.2
 have d5:decide (60<(x.size:Int))=false:=aY (by omega);have hc:=hL.cell 1 (by omega);have hroom:=hL.room;have hroom':0≠w.heap.size:=by omega
 have g1:IntKind.i64.wrap 2=2:=rfl;clear hL hz;go_enter Tryz.func13,Tryz.ntmps13;go_wp2
 go_quiet (fail)
 go_wp2
 go_ret2
 exact⟨by rw[ht.out];rfl,aZ ((aD _ _).alloc (aI _) _) nq⟩
theorem hAr (x:ByteArray)(w:World)(hL:Leads w)(hs:x.size<=60)(e1:x.toList.isEmpty=true):
  Calls Tryz.prog 13 #[.agg #[.int .i64 1,.string x,.int .i64 2]] w fun e w'=>e= .returned (.tuple #[.string (bM 1 2 x),.int .i64 0])/\Below w.heap.size w w':=by
 have ht:=aA (show bM 1 2 x=((⟨#[73,84,70]⟩:ByteArray).extract 2 3++dJ 1)++x by unfold bM;rw[<-jZ 2 (by omega)]);have hz:=kA 2 1 (by omega) (by omega) x hs;have a1:=fun W=>run_string_add_sum (P:=Tryz.prog) W ((⟨#[73,84,70]⟩:ByteArray).extract 2 3) (dJ 1) hz.1
 have a2:=fun W=>run_string_add_sum (P:=Tryz.prog) W ((⟨#[73,84,70]⟩:ByteArray).extract 2 3++dJ 1) x hz.2
 have d5:decide (60<(x.size:Int))=false:=aY (by omega);have hc:=hL.cell 1 (by omega);have hroom:=hL.room;have hroom':0≠w.heap.size:=by omega
 have g1:IntKind.i64.wrap 3=3:=rfl;clear hL hz;go_enter Tryz.func13,Tryz.ntmps13;go_wp2
 go_quiet (fail)
 go_wp2
 go_ret2
 exact⟨by rw[ht.out];rfl,aZ ((aD _ _).alloc (aI _) _) nq⟩
theorem hAs (x:ByteArray)(w:World)(hL:Leads w)(hs:x.size<=60)(e1:x.toList.isEmpty=false):
  Calls Tryz.prog 13 #[.agg #[.int .i64 2,.string x,.int .i64 0]] w fun e w'=>e= .returned (.tuple #[.string (bM 2 0 x),.int .i64 0])/\Below w.heap.size w w':=by
 have ht:=aA (show bM 2 0 x=((⟨#[73,84,70]⟩:ByteArray).extract 0 1++dJ 2)++x by unfold bM;rw[<-jZ 0 (by omega)]);have hz:=kA 0 2 (by omega) (by omega) x hs;have a1:=fun W=>run_string_add_sum (P:=Tryz.prog) W ((⟨#[73,84,70]⟩:ByteArray).extract 0 1) (dJ 2) hz.1
 have a2:=fun W=>run_string_add_sum (P:=Tryz.prog) W ((⟨#[73,84,70]⟩:ByteArray).extract 0 1++dJ 2) x hz.2
 have d5:decide (60<(x.size:Int))=false:=aY (by omega);have hc:=hL.cell 2 (by omega);have hroom:=hL.room;have hroom':0≠w.heap.size:=by omega
 have g1:IntKind.i64.wrap 1=1:=rfl;clear hL hz;go_enter Tryz.func13,Tryz.ntmps13;go_wp2
 go_quiet (fail)
 go_wp2
 go_ret2
 exact⟨by rw[ht.out];rfl,aZ ((aD _ _).alloc (aI _) _) nq⟩
theorem hAt (x:ByteArray)(w:World)(hL:Leads w)(hs:x.size<=60)(e1:x.toList.isEmpty=false):
  Calls Tryz.prog 13 #[.agg #[.int .i64 2,.string x,.int .i64 1]] w fun e w'=>e= .returned (.tuple #[.string (bM 2 1 x),.int .i64 0])/\Below w.heap.size w w':=by
 have ht:=aA (show bM 2 1 x=((⟨#[73,84,70]⟩:ByteArray).extract 1 2++dJ 2)++x by unfold bM;rw[<-jZ 1 (by omega)]);have hz:=kA 1 2 (by omega) (by omega) x hs;have a1:=fun W=>run_string_add_sum (P:=Tryz.prog) W ((⟨#[73,84,70]⟩:ByteArray).extract 1 2) (dJ 2) hz.1
 have a2:=fun W=>run_string_add_sum (P:=Tryz.prog) W ((⟨#[73,84,70]⟩:ByteArray).extract 1 2++dJ 2) x hz.2
 have d5:decide (60<(x.size:Int))=false:=aY (by omega);have hc:=hL.cell 2 (by omega);have hroom:=hL.room;have hroom':0≠w.heap.size:=by omega
 have g1:IntKind.i64.wrap 2=2:=rfl;clear hL hz;go_enter Tryz.func13,Tryz.ntmps13;go_wp2
 go_quiet (fail)
 go_wp2
 go_ret2
 exact⟨by rw[ht.out];rfl,aZ ((aD _ _).alloc (aI _) _) nq⟩
theorem hAu (x:ByteArray)(w:World)(hL:Leads w)(hs:x.size<=60)(e1:x.toList.isEmpty=false):
  Calls Tryz.prog 13 #[.agg #[.int .i64 2,.string x,.int .i64 2]] w fun e w'=>e= .returned (.tuple #[.string (bM 2 2 x),.int .i64 0])/\Below w.heap.size w w':=by
 have ht:=aA (show bM 2 2 x=((⟨#[73,84,70]⟩:ByteArray).extract 2 3++dJ 2)++x by unfold bM;rw[<-jZ 2 (by omega)]);have hz:=kA 2 2 (by omega) (by omega) x hs;have a1:=fun W=>run_string_add_sum (P:=Tryz.prog) W ((⟨#[73,84,70]⟩:ByteArray).extract 2 3) (dJ 2) hz.1
 have a2:=fun W=>run_string_add_sum (P:=Tryz.prog) W ((⟨#[73,84,70]⟩:ByteArray).extract 2 3++dJ 2) x hz.2
 have d5:decide (60<(x.size:Int))=false:=aY (by omega);have hc:=hL.cell 2 (by omega);have hroom:=hL.room;have hroom':0≠w.heap.size:=by omega
 have g1:IntKind.i64.wrap 3=3:=rfl;clear hL hz;go_enter Tryz.func13,Tryz.ntmps13;go_wp2
 go_quiet (fail)
 go_wp2
 go_ret2
 exact⟨by rw[ht.out];rfl,aZ ((aD _ _).alloc (aI _) _) nq⟩
theorem hAv (x:ByteArray)(w:World)(hL:Leads w)(hs:x.size<=60)(e1:x.toList.isEmpty=true):
  Calls Tryz.prog 13 #[.agg #[.int .i64 3,.string x,.int .i64 0]] w fun e w'=>e= .returned (.tuple #[.string (bM 3 0 x),.int .i64 0])/\Below w.heap.size w w':=by
 have ht:=aA (show bM 3 0 x=((⟨#[73,84,70]⟩:ByteArray).extract 0 1++dJ 3)++x by unfold bM;rw[<-jZ 0 (by omega)]);have hz:=kA 0 3 (by omega) (by omega) x hs;have a1:=fun W=>run_string_add_sum (P:=Tryz.prog) W ((⟨#[73,84,70]⟩:ByteArray).extract 0 1) (dJ 3) hz.1
 have a2:=fun W=>run_string_add_sum (P:=Tryz.prog) W ((⟨#[73,84,70]⟩:ByteArray).extract 0 1++dJ 3) x hz.2
 have d5:decide (60<(x.size:Int))=false:=aY (by omega);have hc:=hL.cell 3 (by omega);have hroom:=hL.room;have hroom':0≠w.heap.size:=by omega
 have g1:IntKind.i64.wrap 1=1:=rfl;clear hL hz;go_enter Tryz.func13,Tryz.ntmps13;go_wp2
 go_quiet (fail)
 go_wp2
 go_ret2
 exact⟨by rw[ht.out];rfl,aZ ((aD _ _).alloc (aI _) _) nq⟩
theorem hAx (x:ByteArray)(w:World)(hL:Leads w)(hs:x.size<=60)(e1:x.toList.isEmpty=true):
  Calls Tryz.prog 13 #[.agg #[.int .i64 3,.string x,.int .i64 1]] w fun e w'=>e= .returned (.tuple #[.string (bM 3 1 x),.int .i64 0])/\Below w.heap.size w w':=by
 have ht:=aA (show bM 3 1 x=((⟨#[73,84,70]⟩:ByteArray).extract 1 2++dJ 3)++x by unfold bM;rw[<-jZ 1 (by omega)]);have hz:=kA 1 3 (by omega) (by omega) x hs;have a1:=fun W=>run_string_add_sum (P:=Tryz.prog) W ((⟨#[73,84,70]⟩:ByteArray).extract 1 2) (dJ 3) hz.1
 have a2:=fun W=>run_string_add_sum (P:=Tryz.prog) W ((⟨#[73,84,70]⟩:ByteArray).extract 1 2++dJ 3) x hz.2
 have d5:decide (60<(x.size:Int))=false:=aY (by omega);have hc:=hL.cell 3 (by omega);have hroom:=hL.room;have hroom':0≠w.heap.size:=by omega
 have g1:IntKind.i64.wrap 2=2:=rfl;clear hL hz;go_enter Tryz.func13,Tryz.ntmps13;go_wp2
 go_quiet (fail)
 go_wp2
 go_ret2
 exact⟨by rw[ht.out];rfl,aZ ((aD _ _).alloc (aI _) _) nq⟩
theorem hAy (x:ByteArray)(w:World)(hL:Leads w)(hs:x.size<=60)(e1:x.toList.isEmpty=true):
  Calls Tryz.prog 13 #[.agg #[.int .i64 3,.string x,.int .i64 2]] w fun e w'=>e= .returned (.tuple #[.string (bM 3 2 x),.int .i64 0])/\Below w.heap.size w w':=by
 have ht:=aA (show bM 3 2 x=((⟨#[73,84,70]⟩:ByteArray).extract 2 3++dJ 3)++x by unfold bM;rw[<-jZ 2 (by omega)]);have hz:=kA 2 3 (by omega) (by omega) x hs;have a1:=fun W=>run_string_add_sum (P:=Tryz.prog) W ((⟨#[73,84,70]⟩:ByteArray).extract 2 3) (dJ 3) hz.1
 have a2:=fun W=>run_string_add_sum (P:=Tryz.prog) W ((⟨#[73,84,70]⟩:ByteArray).extract 2 3++dJ 3) x hz.2
 have d5:decide (60<(x.size:Int))=false:=aY (by omega);have hc:=hL.cell 3 (by omega);have hroom:=hL.room;have hroom':0≠w.heap.size:=by omega
 have g1:IntKind.i64.wrap 3=3:=rfl;clear hL hz;go_enter Tryz.func13,Tryz.ntmps13;go_wp2
 go_quiet (fail)
 go_wp2
 go_ret2
 exact⟨by rw[ht.out];rfl,aZ ((aD _ _).alloc (aI _) _) nq⟩
theorem hAz (x:ByteArray)(w:World)(hL:Leads w)(hs:x.size<=60)(e1:x.toList.isEmpty=false):
  Calls Tryz.prog 13 #[.agg #[.int .i64 4,.string x,.int .i64 0]] w fun e w'=>e= .returned (.tuple #[.string (bM 4 0 x),.int .i64 0])/\Below w.heap.size w w':=by
 have ht:=aA (show bM 4 0 x=((⟨#[73,84,70]⟩:ByteArray).extract 0 1++dJ 4)++x by unfold bM;rw[<-jZ 0 (by omega)]);have hz:=kA 0 4 (by omega) (by omega) x hs;have a1:=fun W=>run_string_add_sum (P:=Tryz.prog) W ((⟨#[73,84,70]⟩:ByteArray).extract 0 1) (dJ 4) hz.1
 have a2:=fun W=>run_string_add_sum (P:=Tryz.prog) W ((⟨#[73,84,70]⟩:ByteArray).extract 0 1++dJ 4) x hz.2
 have d5:decide (60<(x.size:Int))=false:=aY (by omega);have hc:=hL.cell 4 (by omega);have hroom:=hL.room;have hroom':0≠w.heap.size:=by omega
 have g1:IntKind.i64.wrap 1=1:=rfl;clear hL hz;go_enter Tryz.func13,Tryz.ntmps13;go_wp2
 go_quiet (fail)
 go_wp2
 go_ret2
 exact⟨by rw[ht.out];rfl,aZ ((aD _ _).alloc (aI _) _) nq⟩
theorem gA0 (x:ByteArray)(w:World)(hL:Leads w)(hs:x.size<=60)(e1:x.toList.isEmpty=false):
  Calls Tryz.prog 13 #[.agg #[.int .i64 4,.string x,.int .i64 1]] w fun e w'=>e= .returned (.tuple #[.string (bM 4 1 x),.int .i64 0])/\Below w.heap.size w w':=by
 have ht:=aA (show bM 4 1 x=((⟨#[73,84,70]⟩:ByteArray).extract 1 2++dJ 4)++x by unfold bM;rw[<-jZ 1 (by omega)]);have hz:=kA 1 4 (by omega) (by omega) x hs;have a1:=fun W=>run_string_add_sum (P:=Tryz.prog) W ((⟨#[73,84,70]⟩:ByteArray).extract 1 2) (dJ 4) hz.1
 have a2:=fun W=>run_string_add_sum (P:=Tryz.prog) W ((⟨#[73,84,70]⟩:ByteArray).extract 1 2++dJ 4) x hz.2
 have d5:decide (60<(x.size:Int))=false:=aY (by omega);have hc:=hL.cell 4 (by omega);have hroom:=hL.room;have hroom':0≠w.heap.size:=by omega
 have g1:IntKind.i64.wrap 2=2:=rfl;clear hL hz;go_enter Tryz.func13,Tryz.ntmps13;go_wp2
 go_quiet (fail)
 go_wp2
 go_ret2
 exact⟨by rw[ht.out];rfl,aZ ((aD _ _).alloc (aI _) _) nq⟩
theorem gA1 (x:ByteArray)(w:World)(hL:Leads w)(hs:x.size<=60)(e1:x.toList.isEmpty=false):
  Calls Tryz.prog 13 #[.agg #[.int .i64 4,.string x,.int .i64 2]] w fun e w'=>e= .returned (.tuple #[.string (bM 4 2 x),.int .i64 0])/\Below w.heap.size w w':=by
 have ht:=aA (show bM 4 2 x=((⟨#[73,84,70]⟩:ByteArray).extract 2 3++dJ 4)++x by unfold bM;rw[<-jZ 2 (by omega)]);have hz:=kA 2 4 (by omega) (by omega) x hs;have a1:=fun W=>run_string_add_sum (P:=Tryz.prog) W ((⟨#[73,84,70]⟩:ByteArray).extract 2 3) (dJ 4) hz.1
 have a2:=fun W=>run_string_add_sum (P:=Tryz.prog) W ((⟨#[73,84,70]⟩:ByteArray).extract 2 3++dJ 4) x hz.2
 have d5:decide (60<(x.size:Int))=false:=aY (by omega);have hc:=hL.cell 4 (by omega);have hroom:=hL.room;have hroom':0≠w.heap.size:=by omega
 have g1:IntKind.i64.wrap 3=3:=rfl;clear hL hz;go_enter Tryz.func13,Tryz.ntmps13;go_wp2
 go_quiet (fail)
 go_wp2
 go_ret2
 exact⟨by rw[ht.out];rfl,aZ ((aD _ _).alloc (aI _) _) nq⟩
theorem gA2 (k st:Nat)(x:ByteArray)(w:World)(hL:Leads w)(h: ¬((k:Int)<1\/4<(k:Int)\/(st:Int)<0\/2<(st:Int)))(h2: ¬((decide ((k:Int)=2\/(k:Int)=4)==x.toList.isEmpty)=true\/60<x.size)):
  Calls Tryz.prog 13 #[.agg #[.int .i64 k,.string x,.int .i64 st]] w fun e w'=>e= .returned (.tuple #[.string (bM k st x),.int .i64 0])/\Below w.heap.size w w':=by
 have hs:x.size<=60:=by
  by_cases hl:60<x.size
  ·exact absurd (.inr hl) h2
  ·omega
 have hq:(decide ((k:Int)=2\/(k:Int)=4)==x.toList.isEmpty)=false:=by
  cases hq:(decide ((k:Int)=2\/(k:Int)=4)==x.toList.isEmpty)
  ·rfl
  ·exact absurd (.inl hq) h2
 have hst:st=0\/st=1\/st=2:=by omega
 have hk:k=1\/k=2\/k=3\/k=4:=by omega
 clear h h2;rcases hk with rfl|rfl|rfl|rfl
 ·have e1:x.toList.isEmpty=true:=by simpa using hq
  rcases hst with rfl|rfl|rfl
  ·exact hAp x w hL hs e1
  ·exact hAq x w hL hs e1
  ·exact hAr x w hL hs e1
 ·have e1:x.toList.isEmpty=false:=by simpa using hq
  rcases hst with rfl|rfl|rfl
  ·exact hAs x w hL hs e1
  ·exact hAt x w hL hs e1
  ·exact hAu x w hL hs e1
 ·have e1:x.toList.isEmpty=true:=by simpa using hq
  rcases hst with rfl|rfl|rfl
  ·exact hAv x w hL hs e1
  ·exact hAx x w hL hs e1
  ·exact hAy x w hL hs e1
 ·have e1:x.toList.isEmpty=false:=by simpa using hq
  rcases hst with rfl|rfl|rfl
  ·exact hAz x w hL hs e1
  ·exact gA0 x w hL hs e1
  ·exact gA1 x w hL hs e1
end Go.Proofs.YtpbaobmegomfpabGreatDoor
namespace Go.Proofs.YtpbaobmegomfpabGreatDoor
open Go.RowKit
structure Tabs (w:World)(base:Nat):Prop where
 wo:Words w
 le:Leads w
 l1:1<base
 l2:0<base
theorem Tabs.below {w w':World}{base:Nat}(h:Tabs w base)(hb:Below base w w'):Tabs w' base:=
 ⟨⟨bD h.wo.room hb.size,fun k hk=>(hb.cell (p:=⟨1,k,none⟩) h.l1).trans (h.wo.cell k hk)⟩,⟨bD h.le.room hb.size,fun k hk=>(hb.cell (p:=⟨0,k,none⟩) h.l2).trans (h.le.cell k hk)⟩,h.l1,h.l2⟩
def Only (P:Nat)(w w':World):Prop:=w.heap.size<=w'.heap.size/\ ∀b,b<w.heap.size->b≠P->w'.heap[b]? =w.heap[b]?
section
variable {P R:Nat}{w w' w2:World}
theorem Only.refl (P:Nat)(w:World):Only P w w:=⟨aI _,fun _ _ _=>rfl⟩
theorem Only.trans (h:Only P w w')(h2:Only P w' w2):Only P w w2:=⟨bL h.1 h2.1,fun b hb hne=>(h2.2 b (bD hb h.1) hne).trans (h.2 b hb hne)⟩
theorem Only.below (h:Below w.heap.size w w'):Only P w w':=⟨h.size,fun b hb _=>h.block b hb⟩
theorem Only.set (h:Only P w w')(j:Nat)(v:Value):Only P w (w'.setCell ⟨P,j,none⟩ v):=⟨by rw[cT];exact h.1,fun b hb hne=>(cM _ P j v b hne).trans (h.2 b hb hne)⟩
theorem Only.new (h:Only P w w')(hR:w.heap.size<=R)(j:Nat)(v:Value):Only P w (w'.setCell ⟨R,j,none⟩ v):=⟨by rw[cT];exact h.1,fun b hb hne=>(cM _ R j v b (by omega)).trans (h.2 b hb hne)⟩
theorem Only.lst {v:Value}{l:PL}(h:Only P w w')(hl:Lst w w.heap.size v l)(hp:InP (fun b=>b≠P) v l):Lst w' w'.heap.size v l:=hl.keepP (gM hl hp) (fun b hb=>h.2 b hb.2 hb.1) (fun b hb=>bD hb.2 h.1)
end
section
variable {base P:Nat}{f:Nat->Value}{G:Nat->Option Nat}{mode:Int}{m:Mach PE}
theorem pE (w:World)(h:PMem 0 w base P f G mode m)(hT:Tabs w base)(hok:bX m.e.w)(s:Nat)(hs:s<m.e.w.ss.length)(r:Req)(hr:r.ok):
  Calls Tryz.prog 75 #[cC P 0,.int .i64 s,.agg #[.int .i64 r.k,.string r.key,.string r.val]] w fun e w'=> ∃f',e= .returned (.agg #[.int .i64 (fL m.e.w s r).2.kind,.string (fL m.e.w s r).2.text,.int .i64 ((fL m.e.w s r).1.at s).st])/\
   PMem 0 w' base P f' G mode {m with e:=⟨(fL m.e.w s r).1,m.e.kept⟩}/\Below base w w'/\Only P w w':=by
 have hP:=h.row.lt;have hbP:=(h.lo 0 P h.p0).1;obtain⟨A1,c1',hf2,_⟩:=h.wld.wld.sess.form;obtain⟨D1,d1,hf1,_⟩:=h.wld.wld.rows.form;have n0:=((aD w.heap.size w).alloc (aI _) (.cells #[.int .i64 r.k,.string r.key,.string r.val] 41)).alloc (by simp) (.cells #[.int .i64 0,.string ⟨#[]⟩,.int .i64 0] 46);have a0:=(n0.cell (p:=⟨P,1,none⟩) hP).trans (h.row.cell (j:=1) (by omega));have a1:=(n0.cell (p:=⟨P,2,none⟩) hP).trans (h.row.cell (j:=2) (by omega));rw[hf1]at a0;rw[hf2]at a1;have X1:=(RowTo.whole w #[.int .i64 r.k,.string r.key,.string r.val] 41).alloc (.cells #[.int .i64 0,.string ⟨#[]⟩,.int .i64 0] 46);have HR1:=aA (RowTo.whole (w.alloc (.cells #[.int .i64 r.k,.string r.key,.string r.val] 41)) #[.int .i64 0,.string ⟨#[]⟩,.int .i64 0] 46);simp only[World.size_alloc]at HR1;obtain⟨x0,x1,x2⟩:=bA X1;have hW1:=h.wld.wld.step n0;rw[hf1,hf2]at hW1;have HW1:=aA hW1;have HWo:=aA (hT.wo.below n0);have HH:=aA (h.below n0);have HN0:=aA n0;have HB0:=aA (n0.mono (bL hbP (dM hP)));have HDO:=aA (fun(v1 v2:Value) (wc:World) (h1:Wld wc wc.heap.size v1 v2 m.e.w) (h2:Words wc)=>hAe v1 v2 m.e.w s r.k r.key r.val wc h1 h2 hok hs hr);obtain⟨R,hR⟩: ∃R,fL m.e.w s r=R:=⟨_,rfl⟩;have hR':doM m.e.w s r.k r.key r.val=R:=hR;rw[hR']at HDO;rw[hR];obtain⟨st,HST⟩: ∃st,Hid ((R.1.at s).st=st):=⟨_,aA rfl⟩;rw[HST.out]at HDO ⊢;have hAl:P<((w.alloc (.cells #[.int .i64 r.k,.string r.key,.string r.val] 41)).alloc (.cells #[.int .i64 0,.string ⟨#[]⟩,.int .i64 0] 46)).heap.size:=by simp;omega
 have hXl:=X1.lt;generalize m.e.w.rows.length=n1 at*;generalize m.e.w.ss.length=n2 at*;have HLO:=aA (fun i b (hi:G i=some b)=>(h.lo i b hi).2);clear hR hR' hok hs hr hT X1 n0 hf1 hf2 h HST hW1;unfold cC;go_enter Tryz.func75,Tryz.ntmps75;go_wp2_with fail;generalize hwr:(w.alloc (.cells #[.int .i64 r.k,.string r.key,.string r.val] 41)).alloc (.cells #[.int .i64 0,.string ⟨#[]⟩,.int .i64 0] 46)=wr at*;have hsz:wr.heap.size=w.heap.size+1+1:=by rw[<-hwr];simp
 clear hwr;refine eF 15 (fun wx=>wx.cell? ⟨P,1,none⟩=some (.slice D1 n1 d1)/\wx.cell? ⟨P,2,none⟩=some (.slice A1 n2 c1')/\wx.cell? ⟨w.heap.size,0,none⟩=some (.int .i64 r.k)/\wx.cell? ⟨w.heap.size,1,none⟩=some (.string r.key)/\wx.cell? ⟨w.heap.size,2,none⟩=some (.string r.val)) (by kernel_rfl) (show wr.drew.cell? ⟨P,1,none⟩=some (.slice D1 n1 d1)/\wr.drew.cell? ⟨P,2,none⟩=some (.slice A1 n2 c1')/\wr.drew.cell? ⟨w.heap.size,0,none⟩=some (.int .i64 r.k)/\wr.drew.cell? ⟨w.heap.size,1,none⟩=some (.string r.key)/\wr.drew.cell? ⟨w.heap.size,2,none⟩=some (.string r.val)from⟨a0,a1,x0,x1,x2⟩) (fun hS=>?_);refine dF [(0,[]),(1,[]),(2,[]),(3,[]),(4,[]),(5,[])] ?_
 iterate 6
  refine dH (v:=?_) hS ?_ ?_;rotate_left
  ·(intro w hSw;(try dsimp only at hSw);(try simp only[aE,aB,aC]);go_simp;try with_reducible rfl)
  (try simp only[aE,aB,aC,aQ,aH,aG,aF])
 refine dG ?_
 refine qAw (C:=1) (cop:=fun c=>6) (dst:=fun c=>17) (p:=11) (q:=12) (dp:=7) (dq:=8) (tp:=39) (tq:=46) (zp:=#[.slice none 0 0,.slice none 0 0]) (zq:=#[.int .i64 0,.string ⟨#[]⟩,.int .i64 0])
  (Lst:=fun c x y=>#[true,true,true,true,true,true,decide (0<c),false,false,false,false,x,y,false,false,false]) (Lst':=fun x y=>#[true,true,true,true,true,true,true,true,true,true,true,x,y,false,false,false]) ?gG (DJ wr 0 (fun _=>(0,.int .i64 0)) 17 (fun r2 s2=>iV r2 s2 R.2 st) (fun r2 s2 wc=>WldP wc (fun b=>wr.heap.size<=b) r2 s2 R.1)) (xE wr (fun A0 r2 s2=>(((((nC A0 (fun _=>(0,.int .i64 0)) 0).put (some 17) (iV r2 s2 R.2 st)).put (some 10) (iV r2 s2 R.2 st)).put (some 18) (.agg #[r2,s2])).put (some 19) (.agg #[.int .i64 R.2.kind,.string R.2.text,.int .i64 st])).put (some 20) (.int .i64 0)) (fun r2 s2 wc=>WldP wc (fun b=>wr.heap.size<=b) r2 s2 R.1)) 3 4 wr.heap.size (hAm (fun r s w o h=>qAx r s w o h)) (hAn (fun r s w o h=>qAx r s w o h)) ?g3 ?g4 (fun c a w h=>h.1.size) (fun a w h=>h.1.size) ?g5 ?g6 ?g7 ⟨(aD _ _).drew,fun _=>rfl,fun h=>absurd h (by omega)⟩
 case gG=>
  refine⟨⟨_,rfl,rfl,rfl,fun ev w=>(by go_simp;rfl)⟩,⟨_,rfl,rfl,rfl,fun ev w=>(by go_simp;rfl)⟩,(by decide),fun c h=>(by(repeat' split)<;>decide),fun c x y h=>?_,fun x y h=>(match x,y,h with|false,false,_=>(by kernel_rfl)|false,true,_=>(by kernel_rfl)|true,false,_=>(by kernel_rfl)|true,true,h=>(by cases h)),fun c x y h=>?_,fun c y h=>rfl,fun c x h=>rfl,fun y=>rfl,fun x=>rfl⟩
  ·match c,h with
   |0,_=>cases x<;>cases y<;>(show _=_;kernel_rfl)
  ·match c,h with
   |0,_=>rfl
 case g3=>exact fun c a wc h=>⟨(h.1.cell (p:=⟨P,1,none⟩) hAl).trans a0,(h.1.cell (p:=⟨P,2,none⟩) hAl).trans a1,(h.1.cell (p:=⟨w.heap.size,0,none⟩) hXl).trans x0,(h.1.cell (p:=⟨w.heap.size,1,none⟩) hXl).trans x1,(h.1.cell (p:=⟨w.heap.size,2,none⟩) hXl).trans x2⟩
 case g4=>exact fun a wc h=>⟨(h.1.cell (p:=⟨P,1,none⟩) hAl).trans a0,(h.1.cell (p:=⟨P,2,none⟩) hAl).trans a1,(h.1.cell (p:=⟨w.heap.size,0,none⟩) hXl).trans x0,(h.1.cell (p:=⟨w.heap.size,1,none⟩) hXl).trans x1,(h.1.cell (p:=⟨w.heap.size,2,none⟩) hXl).trans x2⟩
 case g5=>
  intro c0 a wc x' y hc0 hj hx hy
  match c0,hc0,hj with
  |0,_,hj=>
   obtain⟨hb,hf,_⟩:=hj;obtain rfl:=hf (by omega);refine lL rfl rfl (pD (g:=23) (args:=#[.agg #[.slice D1 n1 d1,.slice A1 n2 c1'],.int .i64 s,.agg #[.int .i64 r.k,.string r.key,.string r.val]]) ?_ ?_)
   ·cases x'<;>cases y<;>(simp only[fr,pt,iV,sY,nC,aQ,aH,aG,aF];go_simp;try rfl)
   ·refine(HDO.out _ _ wc (HW1.out.step hb) (HWo.out.below hb)).mono ?_;rintro e w3 ⟨r2,s2,rfl,hw3,hb3⟩;exact⟨_,rfl,_,rfl,⟨aR hb hb3 hb.size,fun h=>absurd h (by omega),fun _=>⟨r2,s2,rfl,hw3.mono (fun b hq=>bL hb.size hq)⟩⟩,qAu hx hb3,qAu hy hb3⟩
 case g6=>
  intro a wc x' y n' hj hx hy hk';obtain⟨hb,_,hj⟩:=hj;obtain⟨r2,s2,rfl,hw3⟩:=hj (by omega);have hS:wc.cell? ⟨P,1,none⟩=some (.slice D1 n1 d1)/\wc.cell? ⟨P,2,none⟩=some (.slice A1 n2 c1')/\wc.cell? ⟨w.heap.size,0,none⟩=some (.int .i64 r.k)/\wc.cell? ⟨w.heap.size,1,none⟩=some (.string r.key)/\wc.cell? ⟨w.heap.size,2,none⟩=some (.string r.val):=⟨(hb.cell (p:=⟨P,1,none⟩) hAl).trans a0,(hb.cell (p:=⟨P,2,none⟩) hAl).trans a1,(hb.cell (p:=⟨w.heap.size,0,none⟩) hXl).trans x0,(hb.cell (p:=⟨w.heap.size,1,none⟩) hXl).trans x1,(hb.cell (p:=⟨w.heap.size,2,none⟩) hXl).trans x2⟩;have hk':=hk' _ ⟨hb,r2,s2,rfl,hw3⟩;clear hx hy hw3
  cases x'<;>cases y
  all_goals
   simp only[fr,pt,iV,sY,nC,aQ,aH,aG,aF];simp only[fr,pt,iV,sY,nC,aQ,aH,aG,aF]at hk';refine gQ (i:=7) (v:=?_) ?_ hS ?_;rotate_left
   ·(intro w hSw;(try dsimp only at hSw);(try simp only[aE,aB,aC]);go_simp;try with_reducible rfl)
   (try simp only[aE,aB,aC,aQ,aH,aG,aF])
   refine gQ (i:=8) (v:=?_) ?_ hS ?_;rotate_left
   ·(intro w hSw;(try dsimp only at hSw);(try simp only[aE,aB,aC]);go_simp;try with_reducible rfl)
   (try simp only[aE,aB,aC,aQ,aH,aG,aF])
   refine gQ (i:=9) (v:=?_) ?_ hS ?_;rotate_left
   ·(intro w hSw;(try dsimp only at hSw);(try simp only[aE,aB,aC]);go_simp;try with_reducible rfl)
   (try simp only[aE,aB,aC,aQ,aH,aG,aF])
   refine gQ (i:=10) (v:=?_) ?_ hS ?_;rotate_left
   ·(intro w hSw;(try dsimp only at hSw);(try simp only[aE,aB,aC]);go_simp;try with_reducible rfl)
   (try simp only[aE,aB,aC,aQ,aH,aG,aF])
   exact hk'
 case g7=>
  intro a wc b1 c1 hj hx hy;obtain⟨hb,r2,s2,rfl,hw3⟩:=hj;have hS:wc.cell? ⟨P,1,none⟩=some (.slice D1 n1 d1)/\wc.cell? ⟨P,2,none⟩=some (.slice A1 n2 c1')/\wc.cell? ⟨w.heap.size,0,none⟩=some (.int .i64 r.k)/\wc.cell? ⟨w.heap.size,1,none⟩=some (.string r.key)/\wc.cell? ⟨w.heap.size,2,none⟩=some (.string r.val):=⟨(hb.cell (p:=⟨P,1,none⟩) hAl).trans a0,(hb.cell (p:=⟨P,2,none⟩) hAl).trans a1,(hb.cell (p:=⟨w.heap.size,0,none⟩) hXl).trans x0,(hb.cell (p:=⟨w.heap.size,1,none⟩) hXl).trans x1,(hb.cell (p:=⟨w.heap.size,2,none⟩) hXl).trans x2⟩;have hB1:=(hx b1 rfl).1;have hC1:=(hy c1 rfl).1;have hX1:=tM hx;have hY1:=tM hy;have hbc:b1≠c1:=fun e=>by have h1:=(hx b1 rfl).2;have h2:=(hy c1 rfl).2;rw[e,h2]at h1;injection h1 with h1;injection h1 with _ h1 _;exact absurd h1 (by decide)
  obtain⟨A2,c2,rfl,_⟩:=hw3.wld.sess.form;obtain⟨D2,d2',rfl,_⟩:=hw3.wld.rows.form;have HX1:=aA hX1;have HY1:=aA hY1;have HW3:=aA hw3;have HBL:=aA hb;obtain⟨z0,z1⟩:=bR hX1;have f0:=hX1.frozen 0;have f1:=hX1.frozen 1;have HY2:=aA (hY1.oth2 hbc (.slice D2 R.1.rows.length d2') (.slice A2 R.1.ss.length c2));have nb0:b1≠P:=by omega
  have nc0:c1≠P:=by omega
  have nb1:b1≠w.heap.size:=by omega
  have nc1:c1≠w.heap.size:=by omega
  clear hX1 hY1 hx hy hw3;simp only[fr,pt,iV,sY,nC,aQ,aH,aG,aF];refine cK (i:=13) (fun K hK=>?_)
  (try simp only[aE,aB,aC])
  go_simp;have hS2:=(show((wc.setCell ⟨b1,0,none⟩ (.slice D2 R.1.rows.length d2')).setCell ⟨b1,1,none⟩ (.slice A2 R.1.ss.length c2)).cell? ⟨P,1,none⟩=some (.slice D1 n1 d1)/\((wc.setCell ⟨b1,0,none⟩ (.slice D2 R.1.rows.length d2')).setCell ⟨b1,1,none⟩ (.slice A2 R.1.ss.length c2)).cell? ⟨P,2,none⟩=some (.slice A1 n2 c1')/\((wc.setCell ⟨b1,0,none⟩ (.slice D2 R.1.rows.length d2')).setCell ⟨b1,1,none⟩ (.slice A2 R.1.ss.length c2)).cell? ⟨w.heap.size,0,none⟩=some (.int .i64 r.k)/\((wc.setCell ⟨b1,0,none⟩ (.slice D2 R.1.rows.length d2')).setCell ⟨b1,1,none⟩ (.slice A2 R.1.ss.length c2)).cell? ⟨w.heap.size,1,none⟩=some (.string r.key)/\((wc.setCell ⟨b1,0,none⟩ (.slice D2 R.1.rows.length d2')).setCell ⟨b1,1,none⟩ (.slice A2 R.1.ss.length c2)).cell? ⟨w.heap.size,2,none⟩=some (.string r.val)from⟨cH (p:=⟨b1,1,none⟩) nb0 (cH (p:=⟨b1,0,none⟩) nb0 hS.1),cH (p:=⟨b1,1,none⟩) nb0 (cH (p:=⟨b1,0,none⟩) nb0 hS.2.1),cH (p:=⟨b1,1,none⟩) nb1 (cH (p:=⟨b1,0,none⟩) nb1 hS.2.2.1),cH (p:=⟨b1,1,none⟩) nb1 (cH (p:=⟨b1,0,none⟩) nb1 hS.2.2.2.1),cH (p:=⟨b1,1,none⟩) nb1 (cH (p:=⟨b1,0,none⟩) nb1 hS.2.2.2.2)⟩);refine hK.out _ _ hS2 ?_;clear hK K hS;have hS:=hS2;clear hS2
  (try simp only[aE,aB,aC,aQ,aH,aG,aF])
  obtain⟨p0,p1,p2⟩:=bA HY2.out;have g0:=HY2.out.frozen 0;have g1:=HY2.out.frozen 1;have g2:=HY2.out.frozen 2;refine cK (i:=14) (fun K hK=>?_)
  (try simp only[aE,aB,aC])
  go_simp;have hS2:=(show(((((wc.setCell ⟨b1,0,none⟩ (.slice D2 R.1.rows.length d2')).setCell ⟨b1,1,none⟩ (.slice A2 R.1.ss.length c2)).setCell ⟨c1,0,none⟩ (.int .i64 R.2.kind)).setCell ⟨c1,1,none⟩ (.string R.2.text)).setCell ⟨c1,2,none⟩ (.int .i64 st)).cell? ⟨P,1,none⟩=some (.slice D1 n1 d1)/\(((((wc.setCell ⟨b1,0,none⟩ (.slice D2 R.1.rows.length d2')).setCell ⟨b1,1,none⟩ (.slice A2 R.1.ss.length c2)).setCell ⟨c1,0,none⟩ (.int .i64 R.2.kind)).setCell ⟨c1,1,none⟩ (.string R.2.text)).setCell ⟨c1,2,none⟩ (.int .i64 st)).cell? ⟨P,2,none⟩=some (.slice A1 n2 c1')/\(((((wc.setCell ⟨b1,0,none⟩ (.slice D2 R.1.rows.length d2')).setCell ⟨b1,1,none⟩ (.slice A2 R.1.ss.length c2)).setCell ⟨c1,0,none⟩ (.int .i64 R.2.kind)).setCell ⟨c1,1,none⟩ (.string R.2.text)).setCell ⟨c1,2,none⟩ (.int .i64 st)).cell? ⟨w.heap.size,0,none⟩=some (.int .i64 r.k)/\(((((wc.setCell ⟨b1,0,none⟩ (.slice D2 R.1.rows.length d2')).setCell ⟨b1,1,none⟩ (.slice A2 R.1.ss.length c2)).setCell ⟨c1,0,none⟩ (.int .i64 R.2.kind)).setCell ⟨c1,1,none⟩ (.string R.2.text)).setCell ⟨c1,2,none⟩ (.int .i64 st)).cell? ⟨w.heap.size,1,none⟩=some (.string r.key)/\(((((wc.setCell ⟨b1,0,none⟩ (.slice D2 R.1.rows.length d2')).setCell ⟨b1,1,none⟩ (.slice A2 R.1.ss.length c2)).setCell ⟨c1,0,none⟩ (.int .i64 R.2.kind)).setCell ⟨c1,1,none⟩ (.string R.2.text)).setCell ⟨c1,2,none⟩ (.int .i64 st)).cell? ⟨w.heap.size,2,none⟩=some (.string r.val)from⟨cH (p:=⟨c1,2,none⟩) nc0 (cH (p:=⟨c1,1,none⟩) nc0 (cH (p:=⟨c1,0,none⟩) nc0 hS.1)),cH (p:=⟨c1,2,none⟩) nc0 (cH (p:=⟨c1,1,none⟩) nc0 (cH (p:=⟨c1,0,none⟩) nc0 hS.2.1)),cH (p:=⟨c1,2,none⟩) nc1 (cH (p:=⟨c1,1,none⟩) nc1 (cH (p:=⟨c1,0,none⟩) nc1 hS.2.2.1)),cH (p:=⟨c1,2,none⟩) nc1 (cH (p:=⟨c1,1,none⟩) nc1 (cH (p:=⟨c1,0,none⟩) nc1 hS.2.2.2.1)),cH (p:=⟨c1,2,none⟩) nc1 (cH (p:=⟨c1,1,none⟩) nc1 (cH (p:=⟨c1,0,none⟩) nc1 hS.2.2.2.2))⟩);refine hK.out _ _ hS2 ?_;clear hK K hS;have hS:=hS2;clear hS2
  (try simp only[aE,aB,aC,aQ,aH,aG,aF])
  refine bY (fun K hK=>?_)
  (try simp only[aE,aB,aC])
  go_simp;refine hK.out _ _ ?_;clear hK K
  (try simp only[aE,aB,aC,aQ,aH,aG,aF])
  have H9:=aA (hAk (a:=R.2) (st:=st) HX1.out HY1.out HW3.out HBL.out hB1 hC1 hbc);clear hS z0 z1 f0 f1 p0 p1 p2 g0 g1 g2 HY2 nb0 nc0 nb1 nc1 hbc hB1 hC1 HX1 HY1 HW3 HBL hb a0 a1 x0 x1 x2;generalize(((((wc.setCell ⟨b1,0,none⟩ (.slice D2 R.1.rows.length d2')).setCell ⟨b1,1,none⟩ (.slice A2 R.1.ss.length c2)).setCell ⟨c1,0,none⟩ (.int .i64 R.2.kind)).setCell ⟨c1,1,none⟩ (.string R.2.text)).setCell ⟨c1,2,none⟩ (.int .i64 st))=W9 at*;clear hS;obtain⟨b0,b1'⟩:=bR H9.out.b;obtain⟨a0,a1,a2⟩:=bA H9.out.c;have hM9:=HH.out.below H9.out.bel;have f0:=hM9.row.frozen 1;have f1:=hM9.row.frozen 2;have p0:=hM9.row.cell (j:=1) (by omega);have p1:=hM9.row.cell (j:=2) (by omega);have hB9:=HB0.out.trans (H9.out.bel.mono (bL hbP (by omega)));have hw9:=H9.out.wld.mono (Q:=cX G) (fun b hb i hi=>by have:=(HH.out.lo i b hi).2;omega);have HF:=aA (aJ (hM9.setWorld hw9) ((hB9.setCell (p:=⟨P,1,none⟩) hbP (.slice D2 R.1.rows.length d2')).setCell (p:=⟨P,2,none⟩) hbP (.slice A2 R.1.ss.length c2)));have hPc:P≠c1:=by have:=H9.out.lc;omega
  have C9:=(H9.out.c.other (p:=⟨P,1,none⟩) hPc (.slice D2 R.1.rows.length d2')).other (p:=⟨P,2,none⟩) hPc (.slice A2 R.1.ss.length c2);obtain⟨e0,e1,e2⟩:=bA C9;have hlb:=H9.out.b.lt;have hlc:=H9.out.c.lt;have hz9:=H9.out.bel.size;have R9:=((HR1.out.below H9.out.bel (by omega)).other (p:=⟨P,1,none⟩) (by show P≠w.heap.size+1;omega) (.slice D2 R.1.rows.length d2')).other (p:=⟨P,2,none⟩) (by show P≠w.heap.size+1;omega) (.slice A2 R.1.ss.length c2);obtain⟨r0,r1,r2'⟩:=bA R9;have g0:=R9.frozen 0;have g1:=R9.frozen 1;have g2:=R9.frozen 2;have hGR: ∀i,G i≠some (w.heap.size+1):=fun i hi=>by have:=(HLO.out i _ hi);omega
  have HF2:=aA (aJ (HF.out.1.ans3 R9 hGR (.int .i64 R.2.kind) (.string R.2.text) (.int .i64 st)) (mE HF.out.2 (show base<=w.heap.size+1 by omega) (.int .i64 R.2.kind) (.string R.2.text) (.int .i64 st)));have HO:=aA ((((((Only.below (P:=P) (HN0.out.trans (H9.out.bel.mono (by omega)))).set 1 (.slice D2 R.1.rows.length d2')).set 2 (.slice A2 R.1.ss.length c2)).new (R:=w.heap.size+1) (by omega) 0 (.int .i64 R.2.kind)).new (R:=w.heap.size+1) (by omega) 1 (.string R.2.text)).new (R:=w.heap.size+1) (by omega) 2 (.int .i64 st));clear hM9 hB9 hw9 C9 H9 HH HN0 HB0 HW1 HWo HDO HF R9 hGR HR1 HLO;go_wp2;refine bE (v:= .agg #[.int .i64 R.2.kind,.string R.2.text,.int .i64 st]) (by simp[results,Tryz.results75,go_sem,r0,r1,r2']) rfl ⟨_,rfl,HF2.out.1,HF2.out.2,HO.out⟩
end
end Go.Proofs.YtpbaobmegomfpabGreatDoor
namespace Go.Proofs.YtpbaobmegomfpabGreatDoor
open Go.RowKit Go.Lib
theorem Sl.appendStr {P:Program}{w:World}{t n:Nat}{v:Value}{g:Option Nat}{xs:List Value}(h:Sl w t 1 v g n xs)(ts u ty:TypeId)(i:TypeInfo)(ht:P.underlying ts=some (.slice t))(hu:P.underlying u=some .string)(hi:P.info? t=some i)(hz:i.zero=some (.int .u8 0))
  (hsize:i.size=1) (hby:i.bytes=1) (s:ByteArray) (hs:0<s.size) (h63:n+s.size<=maxLen) (hbytes:n+s.size<=140737488355328):
  ∃b off cap w',(Builtin.append_ #[ts,u] ty #[v,.string s]).run P w= .ok (.slice (some ⟨b,off,none⟩) (n+s.size) cap) w'/\Sl w' t 1 (.slice (some ⟨b,off,none⟩) (n+s.size) cap) (some b) (n+s.size) (xs++strCells s)/\
   w.grownBy w' g/\(g=some b\/(w.heap.size<=b/\b<w'.heap.size)):=by
 have hxl:xs.length=n:=by simpa using h.len
 rcases h.form with⟨rfl,rfl,rfl⟩|⟨b,off,cap,eM,rfl,rfl,hc,hr,hfit,hcell⟩
 ·have hx:xs=[]:=List.eq_nil_of_length_eq_zero (by simpa using h.len);subst hx;obtain⟨v',w',hrun,hown,hgr,_⟩:=run_append_own_string (P:=P) w w.heap.size ts u ty t i ht hu hi hz hsize hby _ 0 [] (World.ownsRow_nil w w.heap.size t 1) s h63 hbytes (aI _);obtain⟨b,cap,rfl,hb,hlt,hsl⟩:=qR hown (by omega);exact⟨b,0,cap,w',hrun,hsl,hgr,.inr ⟨hb,hlt⟩⟩
 ·by_cases hroom:n+s.size<=cap
  ·have hfit0:=hfit;have hfit:=hfit.resolve_left (by omega);have hin: ∀j,j<(strCells s).length->off+n+0+j<eM:=fun j hj=>by rw[strCells_length]at hj;omega
   have hst:=run_storeCells_cells (P:=P) b (off+n) (strCells s) 0 w (fun j hj=>by obtain⟨x,hx⟩:=hr.any (hin j hj);rw[hx];rfl) (fun j hj=>hr.frozen _) (strCells_oneCell s);simp only[Nat.add_zero]at hst;have hf:=run_firstCells_string (P:=P) w 1 s
   have hrun:(Builtin.append_ #[ts,u] ty #[.slice (some ⟨b,off,none⟩) n cap,.string s]).run P w= .ok (.slice (some ⟨b,off,none⟩) (n+s.size) cap) (w.setCells b (off+n) (strCells s)):=by
    simp[Builtin.append_,run_underlying ht,run_underlying hu,sizeOf,typeInfo,hi,hsize,Builtin.lenOf,hroom,hf,Addr.add_lit,hst]
   refine⟨b,off,cap,_,hrun,⟨?_,.inr ⟨b,off,cap,eM,rfl,rfl,hroom,tG hr,hfit0,fun j hj=>?_⟩⟩,⟨(jX b _ _ w).1,(jX b _ _ w).2.1,(jX b _ _ w).2.2.1,Nat.le_of_eq (jX b _ _ w).2.2.2.symm,fun k hk hne=>?_⟩,.inl rfl⟩
   ·rw[eN,hxl,strCells_length,Nat.mul_one]
   ·by_cases hj':j<xs.length
    ·rw[World.cell?_setCells_out b _ _ _ _ (fun _ _=>Or.inl (by show off+j<off+n;omega)),hcell j hj',List.getElem_append_left hj']
    ·have hj2:j-xs.length<(strCells s).length:=(by rw[eN]at hj;omega);have:=World.cell?_setCells_in b (strCells s) (off+n) w (fun k hk=>by obtain⟨x,hx⟩:=hr.any (j:=off+n+k) (hin k hk);rw[hx];rfl) (j-xs.length) hj2;rw[show off+n+(j-xs.length)=off+j by omega]at this;rw[this,List.getElem_append_right (by omega)]
   ·exact World.heap_setCells_other w b _ _ hk (fun e=>hne (by rw[e]))
  ·have hrun := run_append_grow_string (P := P) w ts u ty t i _ ht hu hi hz ⟨b, off, none⟩ n cap xs (by rw [hsize]; exact h.len) (fun j x hx => by
    have hj:=(fN.1 hx).1;rw[Addr.add_lit,hcell j hj];rw[dP hj]at hx
    exact hx) s (by omega) (by unfold maxLen at h63; omega) (by rw [hby]; exact growslice_fits (bytes := 1) (by omega) (by omega))
   have hge:=grownCap_ge w (n+s.size) cap t
   have hnew:RowTo (w.drew.alloc (.cells (xs.toArray++(strCells s).toArray++Builtin.zeroCells (Value.int .u8 0).cells (grownCap w (n+s.size) cap t-(n+s.size))) t)) w.heap.size t (grownCap w (n+s.size) cap t) (xs++strCells s):=by
    refine⟨_,heap_alloc_new w.drew _,?_,?_⟩
    ·have hz1:(Builtin.zeroCells (Value.int .u8 0).cells (grownCap w (n+s.size) cap t-(n+s.size))).size=grownCap w (n+s.size) cap t-(n+s.size):=(by rw[size_zeroCells];simp[Value.cells]);simp only[Array.size_append,List.size_toArray,hz1,strCells_length,hxl];omega
    ·simp only[Array.toList_append,List.append_assoc];rw[<-List.append_assoc];exact List.take_left
   refine⟨w.heap.size,0,_,_,hrun,⟨by rw[eN,hxl,strCells_length,Nat.mul_one],.inr ⟨w.heap.size,0,_,_,rfl,rfl,hge,hnew.nil,.inr (by omega),fun j hj=>by rw[cW];exact hnew.cell hj⟩⟩,⟨rfl,rfl,rfl,by simp,fun k hk _=>Below.heap_alloc w.drew _ k hk⟩,.inr ⟨aI _,by simp⟩⟩
end Go.Proofs.YtpbaobmegomfpabGreatDoor
namespace Go.Proofs.YtpbaobmegomfpabGreatDoor
open Go.RowKit
theorem gA3 {n:Nat}(h:n<=255):((UInt8.ofNat n).toNat:Int)=n:=by
 rw[UInt8.toNat_ofNat',Nat.mod_eq_of_lt (by omega)]
theorem qAz (k:UInt8)(n:Nat)(hn:n<=255)(w:World):
  (convert 80 9 (.slice (some ⟨w.heap.size,0,none⟩) 2 2)).run Tryz.prog (w.alloc (.cells #[.int .u8 k.toNat,.int .u8 n] 5))= .ok (.string ⟨#[k,UInt8.ofNat n]⟩) (w.alloc (.cells #[.int .u8 k.toNat,.int .u8 n] 5)):=by
 refine run_convert_bytes_back (P:=Tryz.prog) (w.alloc (.cells #[.int .u8 k.toNat,.int .u8 n] 5)) 80 9 5 ⟨w.heap.size,0,none⟩ 2 [k,UInt8.ofNat n] Tryz.underlying80 Tryz.underlying5 Tryz.underlying9 ?_;intro j hj
 match j,hj with
 |0,_=>simp only[aB,Addr.add];go_simp
 |1,_=>simp only[aC,aB,Addr.add];rw[gA3 hn];go_simp
theorem gA4 (k:UInt8)(s:ByteArray)(w:World)(hs:s.size<=120):
  Calls Tryz.prog 36 #[.int .u8 k.toNat,.string s] w fun e w'=>e= .returned (.tuple #[.string (lS k s),.int .i64 0])/\Below w.heap.size w w':=by
 have hcv:=qAz k s.size (by omega) w;have hd:decide (120<(s.size:Int))=false:=aY (by omega);go_enter Tryz.func36,Tryz.ntmps36;go_wp2
 go_ret2
 exact⟨rfl,(aD _ _).alloc (aI _) _⟩
theorem gA5 (s:ByteArray)(w:World)(hs:s.size<=maxLen)(h2:2<=s.size)(h:2+s[1].toNat<=s.size):
  Calls Tryz.prog 37 #[.string s] w fun e w'=>e= .returned (.tuple #[.int .u8 s[0].toNat,.string (s.extract 2 (2+s[1].toNat)),.int .i64 ((2:Int)+(s[1].toNat:Int))])/\Below w.heap.size w w':=by
 unfold maxLen at hs;have hby:s[1].toNat<256:=s[1].toNat_lt;have hd:decide ((s.size:Int)<2)=false:=aY (by omega);have h0:0<s.size:=by omega
 have h0':(0:Int)<(s.size:Int):=by omega
 have hsz:(s.extract 2 (2+s[1].toNat)).size<=281474976710656:=by simp;omega
 have h3:(0:Int)<=(2:Int)+(s[1].toNat:Int):=by omega
 have h4:(2:Int)<=(2:Int)+(s[1].toNat:Int):=by omega
 have h5:(2:Int)+(s[1].toNat:Int)<=(s.size:Int):=by omega
 have h7:((2:Int)+(s[1].toNat:Int)).toNat=2+s[1].toNat:=by omega
 go_enter Tryz.func37,Tryz.ntmps37;go_wp2;go_region_held3 (fun w'=>Below w.heap.size w w') (first|exact aD _ _|exact(aD _ _).drew|assumption) (first|(go_at_call 46;refine(jT _ _ hsz).mono ?_;rintro e w1 ⟨rfl,hb⟩;have hb':Below w.heap.size w w1:=⟨hb.os,hb.tape,hb.output,hb.size,hb.block⟩))
 all_goals go_wp2
 all_goals go_ret3
 all_goals exact⟨rfl,hb'⟩
theorem gA6 (s:ByteArray)(w:World)(h2:s.size<2):
  Calls Tryz.prog 37 #[.string s] w fun e w'=>e= .returned (.tuple #[.int .u8 0,.string ⟨#[]⟩,.int .i64 0])/\w=w':=by
 have hd:decide ((s.size:Int)<2)=true:=cF (by omega);go_enter Tryz.func37,Tryz.ntmps37;go_wp2
 go_ret3
 exact⟨rfl,rfl⟩
theorem gA7 (s:ByteArray)(w:World)(hs:s.size<=maxLen)(h2:2<=s.size)(h:s.size<2+s[1].toNat):
  Calls Tryz.prog 37 #[.string s] w fun e w'=>e= .returned (.tuple #[.int .u8 0,.string ⟨#[]⟩,.int .i64 0])/\w=w':=by
 unfold maxLen at hs;have hby:s[1].toNat<256:=s[1].toNat_lt;have hd:decide ((s.size:Int)<2)=false:=aY (by omega);go_enter Tryz.func37,Tryz.ntmps37;go_wp2
 go_ret3
 exact⟨rfl,rfl⟩
end Go.Proofs.YtpbaobmegomfpabGreatDoor
namespace Go.Proofs.YtpbaobmegomfpabGreatDoor
open Go.RowKit
theorem gA8:(Tryz.prog.info? 5).map (fun i=>(i.zero,i.size,i.bytes))=some (some (.int .u8 0),1,1):=by kernel_rfl
theorem tN (m:Mach PE){c:Nat}(hc:c<6):cG m (9+c)=(m.sent.getD c ⟨#[]⟩).data.toList.map (fun b=>[.int .u8 b.toNat]):=by
 unfold cG;rw[if_neg (by omega),if_neg (by omega),if_neg (by omega),if_pos (by omega),show 9+c-9=c by omega]
theorem xF (l:List UInt8):(l.map (fun b=>[Value.int .u8 (b.toNat:Int)])).flatten=l.map (fun b=>Value.int .u8 (b.toNat:Int)):=by
 induction l with
 |nil=>rfl
 |cons a l ih=>simp[ih]
theorem gA9 (k st:Nat)(x:ByteArray)(hx:x.size<=60)(hk:k<=4)(hst:st<=2):(bM k st x).size<=120:=by
 unfold bM;have h1:=qAy k hk
 have h2:(tA st).size<=1:=by
  obtain rfl|rfl|rfl:st=0\/st=1\/st=2:=by omega
  all_goals decide
 rw[ByteArray.size_append,ByteArray.size_append];omega
def KeepF (G:Nat->Option Nat)(w w':World):Prop:=w.heap.size<=w'.heap.size/\ ∀b,b<w.heap.size->cX G b->w'.heap[b]? =w.heap[b]?
theorem KeepF.refl (G:Nat->Option Nat)(w:World):KeepF G w w:=⟨aI _,fun _ _ _=>rfl⟩
theorem KeepF.trans {G:Nat->Option Nat}{w w' w2:World}(h:KeepF G w w')(h2:KeepF G w' w2):KeepF G w w2:=⟨bL h.1 h2.1,fun b hb hf=>(h2.2 b (bD hb h.1) hf).trans (h.2 b hb hf)⟩
theorem KeepF.below {G:Nat->Option Nat}{w w':World}(h:Below w.heap.size w w'):KeepF G w w':=⟨h.size,fun b hb _=>h.block b hb⟩
theorem KeepF.grown {G:Nat->Option Nat}{w w' w2:World}{k:Nat}(h:KeepF G w w')(hg:w'.grownBy w2 (G k)):KeepF G w w2:=⟨bL h.1 hg.size,fun b hb hf=>(hg.block b (bD hb h.1) (fun e=>hf k e.symm)).trans (h.2 b hb hf)⟩
theorem KeepF.set {G:Nat->Option Nat}{w w':World}{k R:Nat}(h:KeepF G w w')(hR:G k=some R)(j:Nat)(v:Value):KeepF G w (w'.setCell ⟨R,j,none⟩ v):=⟨by rw[cT];exact h.1,fun b hb hf=>(cM _ R j v b (fun e=>hf k (by rw[hR,e]))).trans (h.2 b hb hf)⟩
section
variable {base P:Nat}{f:Nat->Value}{G:Nat->Option Nat}{mode:Int}{m:Mach PE}
theorem PMem.told {w w1:World}{b off cap n:Nat}{a:cU}{st:Int}(h:PMem 0 w base P f G mode m)(hs6:m.sent.length=6){c:Nat}(hc:c<6)(hn:n=(m.sent.getD c ⟨#[]⟩).size)(hg:w.grownBy w1 (G (9+c)))
  (hs:Sl w1 5 1 (.slice (some ⟨b,off,none⟩) (n+(eZ a st).size) cap) (some b) (n+(eZ a st).size) (((m.sent.getD c ⟨#[]⟩).data.toList.map (fun b=>Value.int .u8 (b.toNat:Int)))++Lib.strCells (eZ a st))) (hb:G (9+c)=some b\/(w.heap.size<=b/\b<w1.heap.size)):
  PMem 0 (w1.setCell ⟨P,41+c,none⟩ (.slice (some ⟨b,off,none⟩) (n+(eZ a st).size) cap)) base P (aL f (41+c) (.slice (some ⟨b,off,none⟩) (n+(eZ a st).size) cap)) (aL G (9+c) (some b)) mode (m.tell c a st):=by
 have e1:cO (9+c)=41+c:=by unfold cO;rw[if_neg (by omega),if_neg (by omega),if_neg (by omega),if_pos (by omega)];omega
 have e2:iG (9+c)=5:=by unfold iG;rw[if_neg (by omega),if_neg (by omega),if_neg (by omega),if_pos (by omega)]
 have e3:fR (9+c)=1:=by unfold fR;rw[if_neg (by omega),if_neg (by omega),if_pos (by omega)]
 have e4:(m.tell c a st).sent.getD c ⟨#[]⟩=m.sent.getD c ⟨#[]⟩++eZ a st:=by
  unfold Mach.tell;simp only;rw[jW,if_pos ⟨rfl,by omega⟩]
 have hbase:base<=w.heap.size:=bL (h.lo 0 P h.p0).1 (dM (h.lo 0 P h.p0).2)
 have:=h.grow (k:=9+c) (m':=m.tell c a st) (n':=n+(eZ a st).size) (v:= .slice (some ⟨b,off,none⟩) (n+(eZ a st).size) cap) (xs:=((m.sent.getD c ⟨#[]⟩).data.toList.map (fun b=>Value.int .u8 (b.toNat:Int)))++Lib.strCells (eZ a st)) (b:=b) (by omega) (by omega) hbase hg (by rw[e2,e3];exact hs) hb
  (by rw[tN _ hc,e4,hn,dR,Array.length_toList];show _=(m.sent.getD c ⟨#[]⟩++eZ a st).size;rw[ByteArray.size_append]) (by rw[tN _ hc,xF,e4];simp[Lib.strCells]) (fun k hk=>?_) rfl (fun _=>rfl) (fun _=>rfl)
 ·rw[e1]at this;exact this
 ·unfold cG
  by_cases h1:k=1
  ·rw[if_pos h1,if_pos h1];rfl
  ·rw[if_neg h1,if_neg h1]
   by_cases h2:k<8
   ·rw[if_pos h2,if_pos h2];rfl
   ·rw[if_neg h2,if_neg h2]
    by_cases h3:k=8
    ·rw[if_pos h3,if_pos h3];rfl
    ·rw[if_neg h3,if_neg h3]
     by_cases h4:k<15
     ·rw[if_pos h4,if_pos h4]
      have:(m.tell c a st).sent.getD (k-9) ⟨#[]⟩=m.sent.getD (k-9) ⟨#[]⟩:=by
       unfold Mach.tell;simp only;rw[jW,if_neg (by omega)]
      rw[this]
     ·rw[if_neg h4,if_neg h4];rfl
theorem tO (w:World)(h:PMem 0 w base P f G mode m)(hT:Tabs w base)(hs6:m.sent.length=6)(c:Nat)(hc:c<6)(a:cU)(st:Int)(ha:fZ a)(hst:0<=st/\st<=2)(hsm:(m.sent.getD c ⟨#[]⟩).size<=100000000):
  Calls Tryz.prog 119 #[cC P 0,.int .i64 c,.agg #[.int .i64 a.kind,.string a.text,.int .i64 st]] w fun e w'=> ∃f' G',e= .returned (.tuple #[])/\PMem 0 w' base P f' G' mode (m.tell c a st)/\Below base w w'/\KeepF G w w':=by
 have hP:=h.row.lt;have hbP:=(h.lo 0 P h.p0).1;have n0:=(aD w.heap.size w).alloc (aI _) (.cells #[.int .i64 a.kind,.string a.text,.int .i64 st] 46);obtain⟨k,hk⟩: ∃k:Nat,a.kind=k:=⟨a.kind.toNat,by have:=ha.lo;omega⟩;obtain⟨s,hs⟩: ∃s:Nat,st=s:=⟨st.toNat,by omega⟩;have hk4:1<=k/\k<=4:=by have:=ha.lo;have:=ha.hi;omega
 have HTE := aA (fun wc (hL : Leads wc) => gA2 k s a.text wc hL (by omega) (by
  have:=ha.ne;rw[hk]at this;intro hh;rcases hh with hh|hh
  ·rw[hh]at this;cases this
  ·have := ha.len; omega))
 have hts:=gA9 k s a.text ha.len (by omega) (by omega);have HPA:=aA (fun wc=>gA4 82 (bM k s a.text) wc hts);have hmsg:lS 82 (bM k s a.text)=eZ a st:=by unfold eZ;rw[hk,hs];simp
 rw[hmsg]at HPA;have hms:0<(eZ a st).size/\(eZ a st).size<=122:=by rw[<-hmsg,rO];omega
 generalize bM k s a.text=tt at*;have HT:=aA hT;have HH:=aA h;obtain⟨i0,hi,hz0,hz1,hz2⟩:=info_parts gA8;have HI:=aA (aJ hi (aJ hz0 (aJ hz1 hz2)));have HB0:=aA (n0.mono (bL hbP (dM hP)));have HN0:=aA n0;subst hs;rw[hk];have HMS:=aA hms;have HPA2:Hid (∀(wc:World),Calls Tryz.prog 36 #[.int .u8 82,.string tt] wc fun e w'=>e= .returned (.tuple #[.string (eZ a s),.int .i64 0])/\Below wc.heap.size wc w'):=aA fun wc=>HPA.out wc
 have hcI:(c:Int)<6:=by omega
 rw[hk]at HN0 HB0;have HSM:=aA hsm;have HS6:=aA hs6;have X1:=RowTo.whole w #[.int .i64 (k:Int),.string a.text,.int .i64 (s:Int)] 46;obtain⟨x0,x1,x2⟩:=bA X1;have hPw:P<(w.alloc (.cells #[.int .i64 (k:Int),.string a.text,.int .i64 (s:Int)] 46)).heap.size:=by simp;omega
 obtain⟨mm,HMM⟩: ∃x,Hid (eZ a s=x):=⟨_,aA rfl⟩;rw[HMM.out]at HPA2 HMS;clear h hT ha hst hsm hs6 n0 hts hmsg hms HPA hi hz0 hz1 hz2 hk hk4 X1;unfold cC;go_enter Tryz.func119,Tryz.ntmps119;go_wp2_with fail;refine(HTE.out _ (HT.out.le.below HN0.out)).mono ?_;rintro e w1 ⟨rfl,hb1⟩;have HB1:=aA (aR HN0.out hb1 HN0.out.size);clear hb1 x0 x1 x2 HTE;go_wp2_with fail;refine(HPA2.out _).mono ?_;rintro e w2 ⟨rfl,hb2⟩;have HB2:=aA (aR HB1.out hb2 HB1.out.size);clear hb2 HPA2 HB1;go_wp2_with fail;have M2:=HH.out.below HB2.out;have s0:=M2.row.cell (j:=41+c) (by omega);have e1:cO (9+c)=41+c:=by unfold cO;rw[if_neg (by omega),if_neg (by omega),if_neg (by omega),if_pos (by omega)];omega
 have e2:iG (9+c)=5:=by unfold iG;rw[if_neg (by omega),if_neg (by omega),if_neg (by omega),if_pos (by omega)]
 have e3:fR (9+c)=1:=by unfold fR;rw[if_neg (by omega),if_neg (by omega),if_pos (by omega)]
 have hsl:=M2.sl (9+c) (by omega) (by omega) (by omega);rw[e1,e2,e3,tN _ hc,xF,dR]at hsl;have hsl2:Sl w2.drew 5 1 (f (41+c)) (G (9+c)) (m.sent.getD c ⟨#[]⟩).size ((m.sent.getD c ⟨#[]⟩).data.toList.map (fun b=>Value.int .u8 (b.toNat:Int))):=hsl.keep (fun _ _=>rfl);obtain⟨b,off,cap,w3,hrun,hs3,hg3,hb3⟩:=hsl2.appendStr (P:=Tryz.prog) 80 9 80 i0 Tryz.underlying80 Tryz.underlying9 HI.out.1 HI.out.2.1 HI.out.2.2.1 HI.out.2.2.2 mm HMS.out.1 (by have:=HSM.out;have:=HMS.out;unfold maxLen;omega) (by have:=HSM.out;have:=HMS.out;omega);have hPg:some P≠G (9+c):=fun e=>M2.noP (by omega) e.symm
 have hP3:w3.heap[P]? =w2.heap[P]? :=hg3.block P M2.row.lt hPg;have p0:w3.cell? ⟨P,41+c,none⟩=some (f (41+c)):=(aV (a:=⟨P,41+c,none⟩) hP3).trans s0;have fz:w3.frozen? ⟨P,41+c,none⟩=false:=(iR (a:=⟨P,41+c,none⟩) hP3).trans (M2.row.frozen _);have M2d:PMem 0 w2.drew base P f G mode m:=M2.below (aD _ _).drew
 have hFin:PMem 0 (w3.setCell ⟨P,41+c,none⟩ (.slice (some ⟨b,off,none⟩) ((m.sent.getD c ⟨#[]⟩).size+mm.size) cap)) base P (aL f (41+c) (.slice (some ⟨b,off,none⟩) ((m.sent.getD c ⟨#[]⟩).size+mm.size) cap)) (aL G (9+c) (some b)) mode (m.tell c a s):=by
  have:=HMM.out;subst this;exact M2d.told HS6.out hc rfl hg3 hs3 hb3
 have hBF:Below base w (w3.setCell ⟨P,41+c,none⟩ (.slice (some ⟨b,off,none⟩) ((m.sent.getD c ⟨#[]⟩).size+mm.size) cap)):=by
  have hb0:base<=w.heap.size:=by omega
  have h2:Below base w w2.drew:=(HB2.out.mono hb0).drew;exact(h2.grown hg3 (bL hb0 h2.size) (fun x hx=>(M2d.lo _ _ hx).1)).setCell hbP _
 have hKF:KeepF G w (w3.setCell ⟨P,41+c,none⟩ (.slice (some ⟨b,off,none⟩) ((m.sent.getD c ⟨#[]⟩).size+mm.size) cap)):=((KeepF.below HB2.out.drew).grown hg3).set (k:=0) M2.p0 _ _;have HF:=aA (aJ hFin (aJ hBF hKF));have hPl:=M2.row.lt;generalize f (41+c)=fv at*;generalize(m.sent.getD c ⟨#[]⟩).size=nn at*;clear M2 M2d hsl hsl2 hs3 hg3 hb3 hFin hBF hKF e1 e2 e3 hPg hP3 HH HT HI HB0 HN0 HB2 HMS HSM HS6 HMM;refine eF 13 (fun wx=>wx.cell? ⟨P,41+c,none⟩=some fv) (by kernel_rfl) (s0) (fun hS=>?_);refine dF [(0,[]),(1,[]),(2,[]),(3,[]),(4,[]),(5,[]),(6,[]),(7,[]),(8,[]),(10,[11,12]),(11,[12])] ?_
 iterate 11
  refine dH (v:=?_) hS ?_ ?_;rotate_left
  ·(intro w hSw;(try dsimp only at hSw);(try simp only[aE,aB,aC]);go_simp;try with_reducible rfl)
  (try simp only[aE,aB,aC,aQ,aH,aG,aF])
 refine dG ?_;refine cK (i:=9) (fun K hK=>?_)
 (try simp only[aE,aB,aC])
 refine Lib.wp_append_run _ _ _ _ _ rfl _ _ rfl rfl _ _ hrun ?_;have hS2:=p0;refine hK.out _ _ hS2 ?_;clear hK K hS;have hS:=hS2;clear hS2
 (try simp only[aE,aB,aC,aQ,aH,aG,aF])
 refine iI (i:=12) (v:=?v12) rfl (by kernel_rfl) (by kernel_rfl) (by kernel_rfl) (by kernel_rfl) (fun _ _ _ h=>h) (Or.inl ⟨by rfl,?y12⟩) hS ?r12
 case y12=>(intro w hSw;(try dsimp only at hSw);(try simp only[aE,aB,aC]);go_simp;try with_reducible rfl)
 (try simp only[aE,aB,aC,aQ,aH,aG,aF])
 refine bY (fun K hK=>?_)
 (try simp only[aE,aB,aC])
 go_simp;refine hK.out _ _ ?_;clear hK K
 (try simp only[aE,aB,aC,aQ,aH,aG,aF])
 go_wp2;go_end0;exact⟨_,_,rfl,HF.out.1,HF.out.2.1,HF.out.2.2⟩
end
theorem Sl.set1 {w:World}{t n:Nat}{v:Value}{g:Option Nat}{xs:List Value}(h:Sl w t 1 v g n xs){j:Nat}(hj:j<n)(u:Value): ∃b off cap,g=some b/\v= .slice (some ⟨b,off,none⟩) n cap/\n<=cap/\(∃x,w.cell? ⟨b,off+j,none⟩=some x)/\w.frozen? ⟨b,off+j,none⟩=false/\Sl (w.setCell ⟨b,off+j,none⟩ u) t 1 v g n (xs.set j u):=by
 have hxl:xs.length=n:=by simpa using h.len
 rcases h.form with⟨_,_,h0⟩|⟨b,off,cap,eM,h1,h2,h3,hr,h4,h5⟩
 ·omega
 ·have h4':=h4;have h4:=h4.resolve_left (by omega);have hin:off+j<eM:=by omega
  refine⟨b,off,cap,h1,h2,h3,⟨_,h5 j (by omega)⟩,hr.frozen _,by simpa using h.len,.inr ⟨b,off,cap,eM,h1,h2,h3,hr.hit _,h4',fun i hi=>?_⟩⟩;rw[fI]at hi
  by_cases e:i=j
  ·subst e;rw[fX hr hin,List.getElem_set_self]
  ·rw[bT _ (by omega),h5 i hi,List.getElem_set_ne (Ne.symm e)]
section
variable {base P:Nat}{f:Nat->Value}{G:Nat->Option Nat}{mode:Int}{m:Mach PE}
theorem xA0 (m:Mach PE):cG m 1=m.busy.map (fun b=>[.bool b]):=by unfold cG;rw[if_pos rfl]
theorem xG (l:List Bool):(l.map (fun b=>[Value.bool b])).flatten=l.map Value.bool:=by
 induction l with
 |nil=>rfl
 |cons a l ih=>simp[ih]
theorem PMem.busySl {w:World}(h:PMem 0 w base P f G mode m):Sl w 4 1 (f 3) (G 1) m.busy.length (m.busy.map Value.bool):=by
 have:=h.sl 1 (by omega) (by omega) (by omega);rw[xA0,xG,dR]at this;exact this
theorem PMem.setBusy {w:World}(h:PMem 0 w base P f G mode m){j:Nat}(hj:j<m.busy.length)(x:Bool): ∃b off cap,G 1=some b/\f 3= .slice (some ⟨b,off,none⟩) m.busy.length cap/\m.busy.length<=cap/\(∃y,w.cell? ⟨b,off+j,none⟩=some y)/\w.frozen? ⟨b,off+j,none⟩=false/\
  PMem 0 (w.setCell ⟨b,off+j,none⟩ (.bool x)) base P f G mode {m with busy:=m.busy.set j x}:=by
 obtain⟨b,off,cap,h1,h2,h3,h4,h5,h6⟩:=h.busySl.set1 hj (.bool x);refine⟨b,off,cap,h1,h2,h3,h4,h5,?_⟩;have hk:=(h.but 1).keep (w':=w.setCell ⟨b,off+j,none⟩ (.bool x)) (by omega) (by rw[cT];exact aI _) (fun b' _ hne=>bF _ _ _ _ (fun e=>hne (by rw[h1,e])));refine hk.fill ?_ (fun k hk'=>?_) rfl (fun _=>rfl) (fun _=>rfl)
 ·rw[xA0,xG,dR,fI,List.map_set];exact h6
 ·unfold cG;rw[if_neg hk',if_neg hk'];rfl
theorem xA1 (w:World)(h:PMem 0 w base P f G mode m)(hm:MOk mode m)(hp:m.e.w.ss.length=m.busy.length)(hk6:m.e.kept.length=6){c s:Nat}(hc:c<6)(hs:(m.get c).srv=some s):
  Calls Tryz.prog 76 #[cC P 0,cC P (4+c*6)] w fun e w'=> ∃f',e= .returned (.tuple #[])/\PMem 0 w' base P f' G mode (m.release aO c s)/\Below base w w':=by
 have hP:=h.row.lt;have hbP:=(h.lo 0 P h.p0).1;have hb:=(fN.1 (hm.srv c s hs)).1;have hlt:s<m.e.w.ss.length:=by omega
 obtain⟨q,hq,hqs⟩:=h.srv c hc;obtain rfl:=hqs s hs;obtain⟨gB,oB,cB,hf2,hFB,hgB,hcs⟩:=h.wld.at (by omega);obtain⟨v1,v2,v3,v4,sB,i1,i2,i3,i4⟩:=hcs s hlt;have a2:=h.row.cell (j:=2) (by omega);rw[hf2]at a2;have a3:=h.row.cell (j:=4+c*6+3) (by omega);rw[hq]at a3;obtain⟨q0,q1,q2,q3,q4,l1,l2,l3,l4⟩:=sB;obtain⟨E1,e1,rfl,hE1⟩:=l1.form;obtain⟨E2,e2,rfl,hE2⟩:=l2.form;obtain⟨E3,e3,rfl,hE3⟩:=l3.form;obtain⟨E4,e4,rfl,hE4⟩:=l4.form;have hbd:=h.wld.wld.sess.bytes;have hsI:(s:Int)<(m.e.w.ss.length:Int):=by omega
 have HH:=aA h;have HL1:=aA (aJ l1 i1);have HL2:=aA (aJ l2 i2);have hat:=iQ hlt;have HK6:=aA hk6;have HN6:=aA hm.n6;have HHB:=aA hb;have HSR:=aA hs;obtain⟨S,HS⟩: ∃S,Hid (m.e.w.ss[s]=S):=⟨_,aA rfl⟩;rw[HS.out]at q0 q1 q2 q3 q4 HL1 HL2 hat;have HAT:=aA hat;clear hat;clear h hm hp hk6 hs hq hqs hf2 hFB hcs l1 l2 l3 l4 i1 i2 i3 i4 hE1 hE2 hE3 hE4 hb HS hlt;generalize m.e.w.ss.length=n2 at*;unfold cC;go_enter Tryz.func76,Tryz.ntmps76;go_wp2_with fail;refine eF 12 (fun wx=>wx.cell? ⟨P,2,none⟩=some (.slice (some ⟨gB,oB,none⟩) n2 cB)/\wx.cell? ⟨P,4+c*6+3,none⟩=some (.int .i64 s)/\wx.cell? ⟨gB,oB+s*5,none⟩=some (.int .i64 S.st)/\wx.cell? ⟨gB,oB+s*5+1,none⟩=some (.slice E1 S.set.length e1)/\wx.cell? ⟨gB,oB+s*5+2,none⟩=some (.slice E2 S.prep.length e2)/\wx.cell? ⟨gB,oB+s*5+3,none⟩=some (.slice E3 S.sav.length e3)/\wx.cell? ⟨gB,oB+s*5+4,none⟩=some (.slice E4 S.wr.length e4)) (by kernel_rfl) (show w.drew.cell? ⟨P,2,none⟩=some (.slice (some ⟨gB,oB,none⟩) n2 cB)/\w.drew.cell? ⟨P,4+c*6+3,none⟩=some (.int .i64 s)/\w.drew.cell? ⟨gB,oB+s*5,none⟩=some (.int .i64 S.st)/\w.drew.cell? ⟨gB,oB+s*5+1,none⟩=some (.slice E1 S.set.length e1)/\w.drew.cell? ⟨gB,oB+s*5+2,none⟩=some (.slice E2 S.prep.length e2)/\w.drew.cell? ⟨gB,oB+s*5+3,none⟩=some (.slice E3 S.sav.length e3)/\w.drew.cell? ⟨gB,oB+s*5+4,none⟩=some (.slice E4 S.wr.length e4)from⟨a2,a3,q0,q1,q2,q3,q4⟩) (fun hS=>?_);refine dF [(0,[]),(1,[]),(2,[]),(3,[]),(4,[]),(5,[]),(6,[]),(7,[]),(8,[]),(9,[]),(10,[])] ?_
 iterate 11
  refine dH (v:=?_) hS ?_ ?_;rotate_left
  ·(intro w hSw;(try dsimp only at hSw);(try simp only[aE,aB,aC]);go_simp;try with_reducible rfl)
  (try simp only[aE,aB,aC,aQ,aH,aG,aF])
 refine dG ?_;refine cK (i:=11) (fun K hK=>?_)
 (try simp only[aE,aB,aC])
 go_simp;have hS2:=(show(w.drew.alloc (.cells #[.int .i64 0,.slice none 0 0,.slice none 0 0,.slice none 0 0,.slice none 0 0] 115)).cell? ⟨P,2,none⟩=some (.slice (some ⟨gB,oB,none⟩) n2 cB)/\(w.drew.alloc (.cells #[.int .i64 0,.slice none 0 0,.slice none 0 0,.slice none 0 0,.slice none 0 0] 115)).cell? ⟨P,4+c*6+3,none⟩=some (.int .i64 s)/\(w.drew.alloc (.cells #[.int .i64 0,.slice none 0 0,.slice none 0 0,.slice none 0 0,.slice none 0 0] 115)).cell? ⟨gB,oB+s*5,none⟩=some (.int .i64 S.st)/\(w.drew.alloc (.cells #[.int .i64 0,.slice none 0 0,.slice none 0 0,.slice none 0 0,.slice none 0 0] 115)).cell? ⟨gB,oB+s*5+1,none⟩=some (.slice E1 S.set.length e1)/\(w.drew.alloc (.cells #[.int .i64 0,.slice none 0 0,.slice none 0 0,.slice none 0 0,.slice none 0 0] 115)).cell? ⟨gB,oB+s*5+2,none⟩=some (.slice E2 S.prep.length e2)/\(w.drew.alloc (.cells #[.int .i64 0,.slice none 0 0,.slice none 0 0,.slice none 0 0,.slice none 0 0] 115)).cell? ⟨gB,oB+s*5+3,none⟩=some (.slice E3 S.sav.length e3)/\(w.drew.alloc (.cells #[.int .i64 0,.slice none 0 0,.slice none 0 0,.slice none 0 0,.slice none 0 0] 115)).cell? ⟨gB,oB+s*5+4,none⟩=some (.slice E4 S.wr.length e4)from⟨((((aD w.heap.size w).drew).alloc (aI _) (.cells #[.int .i64 0,.slice none 0 0,.slice none 0 0,.slice none 0 0,.slice none 0 0] 115)).cell (p:=⟨P,2,none⟩) hP).trans a2,((((aD w.heap.size w).drew).alloc (aI _) (.cells #[.int .i64 0,.slice none 0 0,.slice none 0 0,.slice none 0 0,.slice none 0 0] 115)).cell (p:=⟨P,4+c*6+3,none⟩) hP).trans a3,((((aD w.heap.size w).drew).alloc (aI _) (.cells #[.int .i64 0,.slice none 0 0,.slice none 0 0,.slice none 0 0,.slice none 0 0] 115)).cell (p:=⟨gB,oB+s*5,none⟩) hgB).trans q0,((((aD w.heap.size w).drew).alloc (aI _) (.cells #[.int .i64 0,.slice none 0 0,.slice none 0 0,.slice none 0 0,.slice none 0 0] 115)).cell (p:=⟨gB,oB+s*5+1,none⟩) hgB).trans q1,((((aD w.heap.size w).drew).alloc (aI _) (.cells #[.int .i64 0,.slice none 0 0,.slice none 0 0,.slice none 0 0,.slice none 0 0] 115)).cell (p:=⟨gB,oB+s*5+2,none⟩) hgB).trans q2,((((aD w.heap.size w).drew).alloc (aI _) (.cells #[.int .i64 0,.slice none 0 0,.slice none 0 0,.slice none 0 0,.slice none 0 0] 115)).cell (p:=⟨gB,oB+s*5+3,none⟩) hgB).trans q3,((((aD w.heap.size w).drew).alloc (aI _) (.cells #[.int .i64 0,.slice none 0 0,.slice none 0 0,.slice none 0 0,.slice none 0 0] 115)).cell (p:=⟨gB,oB+s*5+4,none⟩) hgB).trans q4⟩);refine hK.out _ _ hS2 ?_;clear hK K hS;have hS:=hS2;clear hS2
 (try simp only[aE,aB,aC,aQ,aH,aG,aF])
 refine bY (fun K hK=>?_)
 (try simp only[aE,aB,aC])
 go_simp;refine hK.out _ _ ?_;clear hK K
 (try simp only[aE,aB,aC,aQ,aH,aG,aF])
 go_wp2_with fail;have nA:Below w.heap.size w (w.alloc (.cells #[.int .i64 S.st,.slice E1 S.set.length e1,.slice E2 S.prep.length e2,.slice E3 S.sav.length e3,.slice E4 S.wr.length e4] 115)).drew:=(((aD w.heap.size w).alloc (aI _) (.cells #[.int .i64 S.st,.slice E1 S.set.length e1,.slice E2 S.prep.length e2,.slice E3 S.sav.length e3,.slice E4 S.wr.length e4] 115))).drew;have X:=RowTo.whole w #[.int .i64 S.st,.slice E1 S.set.length e1,.slice E2 S.prep.length e2,.slice E3 S.sav.length e3,.slice E4 S.wr.length e4] 115;have t1:(w.alloc (.cells #[.int .i64 S.st,.slice E1 S.set.length e1,.slice E2 S.prep.length e2,.slice E3 S.sav.length e3,.slice E4 S.wr.length e4] 115)).drew.cell? ⟨w.heap.size,1,none⟩=some (.slice E1 S.set.length e1):=X.cell (j:=1) (by simp);have t2:(w.alloc (.cells #[.int .i64 S.st,.slice E1 S.set.length e1,.slice E2 S.prep.length e2,.slice E3 S.sav.length e3,.slice E4 S.wr.length e4] 115)).drew.cell? ⟨w.heap.size,2,none⟩=some (.slice E2 S.prep.length e2):=X.cell (j:=2) (by simp);have hM1:=HH.out.below nA;have hl1:=iX HL1.out nA.size (fun b _ hb=>nA.block b hb);have hl2:=iX HL2.out nA.size (fun b _ hb=>nA.block b hb);have hz1:(w.alloc (.cells #[.int .i64 S.st,.slice E1 S.set.length e1,.slice E2 S.prep.length e2,.slice E3 S.sav.length e3,.slice E4 S.wr.length e4] 115)).drew.heap.size=w.heap.size+1:=by simp[World.drew]
 have HBA:=aA (nA.mono (bL hbP (dM hP)));generalize(w.alloc (.cells #[.int .i64 S.st,.slice E1 S.set.length e1,.slice E2 S.prep.length e2,.slice E3 S.sav.length e3,.slice E4 S.wr.length e4] 115)).drew=W1 at*;have HL1b:=aA hl1;have HL2b:=aA hl2;have HM1:=aA hM1;have p4:=hM1.row.cell (j:=4+c*6+4) (by omega);have p5:=hM1.row.cell (j:=4+c*6+5) (by omega);have z4:=hM1.row.frozen (4+c*6+4);have z5:=hM1.row.frozen (4+c*6+5);have hPX:P≠w.heap.size:=by omega
 clear hM1 hl1 hl2 X nA a2 a3 q0 q1 q2 q3 q4 hS HL1 HL2 HH;refine eF 11 (fun wx=>wx.cell? ⟨w.heap.size,1,none⟩=some (.slice E1 S.set.length e1)/\wx.cell? ⟨w.heap.size,2,none⟩=some (.slice E2 S.prep.length e2)) (by kernel_rfl) (show W1.drew.cell? ⟨w.heap.size,1,none⟩=some (.slice E1 S.set.length e1)/\W1.drew.cell? ⟨w.heap.size,2,none⟩=some (.slice E2 S.prep.length e2)from⟨t1,t2⟩) (fun hS=>?_);refine dF [(0,[]),(1,[]),(2,[]),(3,[]),(4,[]),(5,[]),(6,[]),(7,[])] ?_
 iterate 8
  refine dH (v:=?_) hS ?_ ?_;rotate_left
  ·(intro w hSw;(try dsimp only at hSw);(try simp only[aE,aB,aC]);go_simp;try with_reducible rfl)
  (try simp only[aE,aB,aC,aQ,aH,aG,aF])
 refine dG ?_;refine cK (i:=8) (fun K hK=>?_)
 (try simp only[aE,aB,aC])
 go_simp;have hS2:=(show(W1.drew.setCell ⟨P,4+c*6+4,none⟩ (.slice E1 S.set.length e1)).cell? ⟨w.heap.size,1,none⟩=some (.slice E1 S.set.length e1)/\(W1.drew.setCell ⟨P,4+c*6+4,none⟩ (.slice E1 S.set.length e1)).cell? ⟨w.heap.size,2,none⟩=some (.slice E2 S.prep.length e2)from⟨cH (p:=⟨P,4+c*6+4,none⟩) hPX t1,cH (p:=⟨P,4+c*6+4,none⟩) hPX t2⟩);refine hK.out _ _ hS2 ?_;clear hK K hS;have hS:=hS2;clear hS2
 (try simp only[aE,aB,aC,aQ,aH,aG,aF])
 refine dF [(9,[10]),(10,[])] ?_
 iterate 2
  refine dH (v:=?_) hS ?_ ?_;rotate_left
  ·(intro w hSw;(try dsimp only at hSw);(try simp only[aE,aB,aC]);go_simp;try with_reducible rfl)
  (try simp only[aE,aB,aC,aQ,aH,aG,aF])
 refine dG ?_;refine bY (fun K hK=>?_)
 (try simp only[aE,aB,aC])
 go_simp;refine hK.out _ _ ?_;clear hK K
 (try simp only[aE,aB,aC,aQ,aH,aG,aF])
 go_wp2_with fail;have hM2:=(HM1.out.setLists hc HK6.out HL1b.out HL2b.out).below (aD _ _).drew;have hB2:=((HBA.out.setCell (p:=⟨P,4+c*6+4,none⟩) hbP (.slice E1 S.set.length e1)).setCell (p:=⟨P,4+c*6+5,none⟩) hbP (.slice E2 S.prep.length e2)).drew;obtain⟨W2,HW2⟩: ∃u,Hid (((W1.setCell ⟨P,4+c*6+4,none⟩ (.slice E1 S.set.length e1)).setCell ⟨P,4+c*6+5,none⟩ (.slice E2 S.prep.length e2)).drew=u):=⟨_,aA rfl⟩;rw[HW2.out]at hM2 hB2 ⊢;clear HW2 hS t1 t2 p4 p5 z4 z5 HM1 HL1b HL2b HBA;obtain⟨bb,ob,cp,g1,f3,hle,⟨y,hy⟩,hfz,hM3⟩:=hM2.setBusy (j:=s) HHB.out false;obtain⟨q,hq,hqs⟩:=hM2.srv c hc;obtain rfl:=hqs s HSR.out;have b3:=hM2.row.cell (j:=3) (by omega);rw[f3]at b3;have bs:=hM2.row.cell (j:=4+c*6+3) (by omega);rw[hq]at bs;have hbb:=hM2.lo 1 bb g1;have hPl:=hM2.row.lt;have hPb:P≠bb:=fun e=>hM2.noP (k:=1) (by omega) (by rw[g1,e])
 have c2:=hM3.row.cell (j:=4+c*6+2) (by omega);have z2:=hM3.row.frozen (4+c*6+2);have hM4:=(hM3.setNone hc HN6.out).below (aD _ _).drew;have hB4:=((hB2.setCell (p:=⟨bb,ob+s,none⟩) hbb.1 (.bool false)).setCell (p:=⟨P,4+c*6+2,none⟩) hbP (.bool false)).drew
 have hEq:m.release aO c s=Mach.set {({m with e:=⟨m.e.w,m.e.kept.set c (S.set,S.prep)⟩}:Mach PE)with busy:=({m with e:=⟨m.e.w,m.e.kept.set c (S.set,S.prep)⟩}:Mach PE).busy.set s false} c {Mach.get {({m with e:=⟨m.e.w,m.e.kept.set c (S.set,S.prep)⟩}:Mach PE)with busy:=({m with e:=⟨m.e.w,m.e.kept.set c (S.set,S.prep)⟩}:Mach PE).busy.set s false} c with srv:=none}:=by
  show _=_;unfold Mach.release aO PE.free Mach.set;simp only[HAT.out];rfl
 rw[<-hEq]at hM4;have HF:=aA (aJ hM4 hB4);have hsB:s<m.busy.length:=HHB.out;have hsBI:(s:Int)<(m.busy.length:Int):=by omega
 generalize m.busy.length=nB at*;clear hM2 hM3 hM4 hB4 hB2 hEq hq hqs f3 g1 HHB HSR HN6 HK6 HAT;refine eF 9 (fun wx=>wx.cell? ⟨P,3,none⟩=some (.slice (some ⟨bb,ob,none⟩) nB cp)/\wx.cell? ⟨P,4+c*6+3,none⟩=some (.int .i64 s)) (by kernel_rfl) (show W2.drew.cell? ⟨P,3,none⟩=some (.slice (some ⟨bb,ob,none⟩) nB cp)/\W2.drew.cell? ⟨P,4+c*6+3,none⟩=some (.int .i64 s)from⟨b3,bs⟩) (fun hS=>?_);refine dF [(0,[]),(1,[]),(2,[]),(3,[]),(4,[]),(5,[]),(6,[]),(7,[]),(8,[])] ?_
 iterate 9
  refine dH (v:=?_) hS ?_ ?_;rotate_left
  ·(intro w hSw;(try dsimp only at hSw);(try simp only[aE,aB,aC]);go_simp;try with_reducible rfl)
  (try simp only[aE,aB,aC,aQ,aH,aG,aF])
 refine dG ?_;refine bY (fun K hK=>?_)
 (try simp only[aE,aB,aC])
 go_simp;refine hK.out _ _ ?_;clear hK K
 (try simp only[aE,aB,aC,aQ,aH,aG,aF])
 go_wp2;go_end0;exact⟨_,rfl,HF.out.1,HF.out.2⟩
end
end Go.Proofs.YtpbaobmegomfpabGreatDoor

/-
  Texts of the proof.
-/
import Derived.Test.YtpbaobmegomfpabGreatDoorG20
set_option linter.unusedVariables false
set_option linter.unusedSimpArgs false
set_option maxRecDepth 100000
set_option maxHeartbeats 16000000
open List renaming getElem_toArray→aE,getElem_cons_zero→aB,getElem_cons_succ→aC,setIfInBounds_toArray→aH,set_cons_zero→aG,set_cons_succ→aF,getD_cons_zero→aS,getD_cons_succ→aT,take_succ_eq_append_getElem→gO,getElem?_eq_some_iff→fN,mem_cons_self→gJ,length_set→fI,mem_cons_of_mem→iZ
open Nat renaming le_refl→aI,lt_of_lt_of_le→bD,le_trans→bL,zero_add→cW
open Go.Lib renaming hid→aA
open Go.RowKit.Below renaming refl→aD,heap_setCell→bF
open Go.World renaming cell?_of_block→aV,frozen?_of_block→iR,setCell→cE
open And renaming intro→aJ
open Go.Act renaming put→aQ
open Go renaming bodyPost_ret→bE
namespace Go.Proofs.YtpbaobmegomfpabGreatDoor
open Go.RowKit
section
variable {Q:Nat->Prop}{w w7:World}{S cap n:Nat}{rv r:Value}{W W':Wd}
theorem bAd (hR:RowTo w7 (w.heap.size+1+1) 39 2 [.slice none 0 0,.slice none 0 0])(hA:RowTo w7 (w.heap.size+1+1+1) 46 3 [.int .i64 0,.string ⟨#[]⟩,.int .i64 0])(hr:RefP Q w7 S cap rv W')(ho:OnlyT S w w7)(hSw:S<w.heap.size)(x1 x2 x3 x4 x5:Value):
  RefP Q (((((w7.setCell ⟨w.heap.size+1+1,0,none⟩ x1).setCell ⟨w.heap.size+1+1,1,none⟩ x2).setCell ⟨w.heap.size+1+1+1,0,none⟩ x3).setCell ⟨w.heap.size+1+1+1,1,none⟩ x4).setCell ⟨w.heap.size+1+1+1,2,none⟩ x5) S cap rv W'/\OnlyT S w (((((w7.setCell ⟨w.heap.size+1+1,0,none⟩ x1).setCell ⟨w.heap.size+1+1,1,none⟩ x2).setCell ⟨w.heap.size+1+1+1,0,none⟩ x3).setCell ⟨w.heap.size+1+1+1,1,none⟩ x4).setCell ⟨w.heap.size+1+1+1,2,none⟩ x5):=by
 obtain⟨r',e,h1,h2⟩:=xY (n:=0) (R:=(W',⟨0,⟨#[]⟩⟩)) hR hA hr ho hSw x1 x2 x3 x4 x5;have e':rv=r':=by simpa [slc,bQ] using e
 subst e';exact⟨h1,h2⟩
theorem RefP.failed (h:RefP Q w S cap r W)(hQ: ∀b,Q b->b≠S){i:Nat}(hi:i<W.ss.length):
  RefP Q ((w.setCell ⟨S,i*5,none⟩ (.int .i64 2)).setCell ⟨S,i*5+4,none⟩ (.slice none 0 0)) S cap r (W.put i {W.ss[i]with st:=2,wr:=[]}):=by
 have hlen:=h.len;have hk: ∀b,b≠S->((w.setCell ⟨S,i*5,none⟩ (.int .i64 2)).setCell ⟨S,i*5+4,none⟩ (.slice none 0 0)).heap[b]? =w.heap[b]? :=fun b hb=>by rw[bF _ _ _ _ hb,bF _ _ _ _ hb]
 have hs:((w.setCell ⟨S,i*5,none⟩ (.int .i64 2)).setCell ⟨S,i*5+4,none⟩ (.slice none 0 0)).heap.size=w.heap.size:=by simp[cE]
 have co: ∀j,j≠i*5->j≠i*5+4->((w.setCell ⟨S,i*5,none⟩ (.int .i64 2)).setCell ⟨S,i*5+4,none⟩ (.slice none 0 0)).cell? ⟨S,j,none⟩=w.cell? ⟨S,j,none⟩:=fun j h1 h2=>by rw[bT _ h2,bT _ h1]
 have ll: ∀{v:Value} {l:PL},Lst w w.heap.size v l->InP Q v l->Lst ((w.setCell ⟨S,i*5,none⟩ (.int .i64 2)).setCell ⟨S,i*5+4,none⟩ (.slice none 0 0)) ((w.setCell ⟨S,i*5,none⟩ (.int .i64 2)).setCell ⟨S,i*5+4,none⟩ (.slice none 0 0)).heap.size v l:=fun a b=>a.keepP (gM a b) (fun x hx=>hk x (hQ x hx.1)) (fun x hx=>by rw[hs];exact hx.2)
 have hl:(W.put i {W.ss[i]with st:=2,wr:=[]}).ss.length=W.ss.length:=fI;refine⟨ll h.rows h.rin,h.rin,(h.blk.hit _).hit _,by rw[hl];exact h.len,by rw[hl];exact h.bytes,fun k hk'=>?_⟩;rw[hl]at hk';obtain⟨v1,v2,v3,v4,q⟩:=h.ses k hk'
 by_cases e:i=k
 ·subst e;have es:(W.put i {W.ss[i]with st:=2,wr:=[]}).ss[i]'(by rw[hl];exact hk')={W.ss[i]with st:=2,wr:=[]}:=by simp[Wd.put]
  rw[es];refine⟨v1,v2,v3,.slice none 0 0,⟨?_,(co _ (by omega) (by omega)).trans q.core.c1,(co _ (by omega) (by omega)).trans q.core.c2,(co _ (by omega) (by omega)).trans q.core.c3,fX (h.blk.hit _) (by omega) _,ll q.core.l1 q.p1,ll q.core.l2 q.p2,ll q.core.l3 q.p3,Lst.none_ _ _⟩,q.p1,q.p2,q.p3,InP.nil_ _ _⟩;rw[bT _ (by omega)];exact fX h.blk (by omega) _
 ·have es:(W.put i {W.ss[i]with st:=2,wr:=[]}).ss[k]'(by rw[hl];exact hk')=W.ss[k]:=by simp[Wd.put,e]
  rw[es];exact⟨v1,v2,v3,v4,⟨(co _ (by omega) (by omega)).trans q.core.c0,(co _ (by omega) (by omega)).trans q.core.c1,(co _ (by omega) (by omega)).trans q.core.c2,(co _ (by omega) (by omega)).trans q.core.c3,(co _ (by omega) (by omega)).trans q.core.c4,ll q.core.l1 q.p1,ll q.core.l2 q.p2,ll q.core.l3 q.p3,ll q.core.l4 q.p4⟩,q.p1,q.p2,q.p3,q.p4⟩
theorem OnlyT.hit (h:OnlyT S w w7)(j:Nat)(v:Value):OnlyT S w (w7.setCell ⟨S,j,none⟩ v):=⟨h.1.set j v,h.2.1,h.2.2.1,h.2.2.2⟩
end
def bAe (Q:Nat->Prop)(w:World)(S cap n:Nat)(R:Wd×cU)(st:Int)(e:Ending)(w':World):Prop:=
 ∃r',e= .returned (.tuple #[.agg #[r',slc S n cap],.agg #[.int .i64 R.2.kind,.string R.2.text,.int .i64 st]])/\RefP Q w' S cap r' R.1/\OnlyT S w w'
structure AtD (Q:Nat->Prop)(w w9:World)(S cap n o:Nat)(rv:Value)(W':Wd)(k:Int)(t:ByteArray)(st:Int):Prop where
 R:RowTo w9 (w.heap.size+1+1) 39 2 [.slice none 0 0,.slice none 0 0]
 A:RowTo w9 (w.heap.size+1+1+1) 46 3 [.int .i64 0,.string ⟨#[]⟩,.int .i64 0]
 O:RowTo w9 o 39 2 [rv,slc S n cap]
 P:RowTo w9 (o+1) 46 3 [.int .i64 k,.string t,.int .i64 st]
 ref:RefP Q w9 S cap rv W'
 only:OnlyT S w w9
 Sw:S<w.heap.size
 lo:w.heap.size+1+1+1+1<=o
theorem yAa {Q:Nat->Prop}{w w2:World}{S cap n:Nat}{rv:Value}{W':Wd}(k:Int)(t:ByteArray)(st:Int)(hR:RowTo w2 (w.heap.size+1+1) 39 2 [.slice none 0 0,.slice none 0 0])(hA:RowTo w2 (w.heap.size+1+1+1) 46 3 [.int .i64 0,.string ⟨#[]⟩,.int .i64 0])(hr:RefP Q w2 S cap rv W')(ho:OnlyT S w w2)(hSw:S<w.heap.size)(hlo:w.heap.size+1+1+1+1<=w2.heap.size):
  AtD Q w ((w2.alloc (.cells #[rv,slc S n cap] 39)).alloc (.cells #[.int .i64 k,.string t,.int .i64 st] 46)) S cap n w2.heap.size rv W' k t st:=by
 have b:=((aD w2.heap.size w2).alloc (aI _) (.cells #[rv,slc S n cap] 39)).alloc (by simp) (.cells #[.int .i64 k,.string t,.int .i64 st] 46);have p:=RowTo.whole (w2.alloc (.cells #[rv,slc S n cap] 39)) #[.int .i64 k,.string t,.int .i64 st] 46;rw[World.size_alloc]at p;exact⟨hR.below b hR.lt,hA.below b hA.lt,(RowTo.whole w2 #[rv,slc S n cap] _).alloc _,p,hr.below b,ho.trans (.of b),hSw,hlo⟩
theorem bAf {Q:Nat->Prop}(S cap:Nat)(r:Value)(W:Wd)(i:Nat)(k:Int)(key val:ByteArray)(w:World)(h:RefP Q w S cap r W)(hw:bX W)(hQ: ∀b,Q b->b≠S)(hN: ∀b,w.heap.size<=b->Q b)(hi:i<W.ss.length)(hg:bZ k key val=0):
  Calls Tryz.prog 81 #[.agg #[r,slc S W.ss.length cap],.int .i64 i,.agg #[.int .i64 k,.string key,.string val]] w (bAe Q w S cap W.ss.length (doM W i k key val) ((doM W i k key val).1.at i).st):=by
 obtain⟨D,d,rfl,hd⟩:=h.rows.form;have H0:=aA (sZ w (.slice D W.rows.length d) (.slice (some ⟨S,0,none⟩) W.ss.length cap) k key val);have hSw:=h.blk.lt;have hii:(i:Int)<(W.ss.length:Int):=by omega
 have hfine:=wN hw hi hg;obtain⟨R,HR⟩: ∃R,Hid (didM W i k key val=R):=⟨_,aA rfl⟩;have HC:=aA (bAc (Q:=Q) S cap _ W i k key val _ (h.below H0.out.bel) hw hQ (fun b hb=>hN b (bL H0.out.bel.size hb)) hi hg);unfold gE at HC;unfold slc at HC;rw[HR.out]at HC hfine;have HQ:=aA hQ;have HDO:=aA (show doM W i k key val=if R.2.kind=4/\(R.1.at i).st=1 then(R.1.put i {R.1.at i with st:=2,wr:=[]},R.2)else R by unfold doM;rw[HR.out]);clear h hw hQ hN HR;unfold slc;go_enter Tryz.func81,Tryz.ntmps81;go_wp2_with fail;refine HC.out.mono ?_;rintro e w1 ⟨r8,rfl,hr8,hon8⟩;have h0:=H0.out;unfold gE at h0;have R8:=h0.R.same (hon8.1.2 _ h0.R.lt (by omega));have A8:=h0.A.same (hon8.1.2 _ h0.A.lt (by omega));have hz8:w.heap.size+1+1+1+1<=w1.heap.size:=by have:=hon8.1.1;simp only[World.size_alloc]at this;omega
 have HON:=aA ((OnlyT.of (S:=S) h0.bel).trans hon8);obtain⟨D8,d8,rfl,_⟩:=hr8.rows.form;obtain⟨m8,hm8⟩: ∃m8,R.1.rows.length=m8:=⟨_,rfl⟩;rw[hm8]at hr8 ⊢;clear hm8;have hqi:i<R.1.ss.length:=by rw[hfine.2];exact hi
 obtain⟨v1,v2,v3,v4,hs⟩:=hr8.ses i hqi;have s0:=hs.core.c0;have hS1:=hr8.blk.lt;have hlen8:=hr8.len;have f0:=hr8.blk.frozen (i*5);have f4:=hr8.blk.frozen (i*5+4);obtain⟨u4,s4⟩:=hr8.blk.any (j:=i*5+4) (by omega);have H8:=aA hr8;have HRA:=aA (aJ R8 A8);have HL:=aA hfine.2;have ea:=aA (iQ hqi);rw[ea.out]at HDO;clear hr8 hon8 h0 R8 A8 hs hfine HC H0;unfold slc bQ
 by_cases hcase:R.2.kind=4/\R.1.ss[i].st=1
 case' pos=>
  have c1:(R.2.kind==4)=true:=beq_iff_eq.2 hcase.1;have c2:(R.1.ss[i].st==1)=true:=beq_iff_eq.2 hcase.2;have HE:=aA (yAa (n:=W.ss.length) R.2.kind R.2.text 2 ((HRA.out.1.other (p:=⟨S,i*5,none⟩) (by show S≠_;omega) (.int .i64 2)).other (p:=⟨S,i*5+4,none⟩) (by show S≠_;omega) (.slice none 0 0)) ((HRA.out.2.other (p:=⟨S,i*5,none⟩) (by show S≠_;omega) (.int .i64 2)).other (p:=⟨S,i*5+4,none⟩) (by show S≠_;omega) (.slice none 0 0)) (H8.out.failed HQ.out hqi) ((HON.out.hit _ _).hit _ _) hSw (by rw[cT,cT];exact hz8));have HD:=aA (show doM W i k key val=(R.1.put i {R.1.ss[i]with st:=2,wr:=[]},R.2)/\((R.1.put i {R.1.ss[i]with st:=2,wr:=[]}).at i).st=2 from⟨by rw[HDO.out,if_pos hcase],by rw[iE hqi]⟩);clear hcase HDO;go_wp2;obtain⟨W9,HW9⟩: ∃u,Hid ((((w1.setCell ⟨S,i*5,none⟩ (.int .i64 2)).setCell ⟨S,i*5+4,none⟩ (.slice none 0 0)).alloc (.cells #[.slice D8 m8 d8,slc S W.ss.length cap] 39)).alloc (.cells #[.int .i64 R.2.kind,.string R.2.text,.int .i64 2] 46)=u):=⟨_,aA rfl⟩;rw[HW9.out]at HE;unfold slc at HW9;rw[HW9.out];have hzo:((w1.setCell ⟨S,i*5,none⟩ (.int .i64 2)).setCell ⟨S,i*5+4,none⟩ (.slice none 0 0)).heap.size=w1.heap.size:=by rw[cT,cT]
  rw[hzo]at HE;obtain⟨W8,h8⟩: ∃W8,Hid (R.1.put i {R.1.ss[i]with st:=2,wr:=[]}=W8):=⟨_,aA rfl⟩;rw[h8.out]at HE HD;obtain⟨st,hst⟩: ∃st:Int,Hid (st=2):=⟨2,aA rfl⟩;rw[<-hst.out]at HE HD
 case' neg=>
  have HE:=aA (yAa (n:=W.ss.length) R.2.kind R.2.text R.1.ss[i].st HRA.out.1 HRA.out.2 H8.out HON.out hSw hz8);have HD:=aA (show doM W i k key val=(R.1,R.2)/\(R.1.at i).st=R.1.ss[i].st from⟨by rw[HDO.out,if_neg hcase],by rw[ea.out]⟩);clear HDO
  by_cases c4:R.2.kind=4
  case' pos=>
   have c1:(R.2.kind==4)=true:=beq_iff_eq.2 c4;have c2:(R.1.ss[i].st==1)=false:=bJ.2 fun h1=>hcase ⟨c4,h1⟩
  case' neg=>have c1:(R.2.kind==4)=false:=bJ.2 c4
  all_goals
   clear hcase c4;go_wp2;obtain⟨W9,HW9⟩: ∃u,Hid ((w1.alloc (.cells #[.slice D8 m8 d8,slc S W.ss.length cap] 39)).alloc (.cells #[.int .i64 R.2.kind,.string R.2.text,.int .i64 R.1.ss[i].st] 46)=u):=⟨_,aA rfl⟩;rw[HW9.out]at HE;unfold slc at HW9;rw[HW9.out];obtain⟨st,hst⟩: ∃st:Int,Hid (st=R.1.ss[i].st):=⟨_,aA rfl⟩;rw[<-hst.out]at HE HD;obtain⟨W8,h8⟩: ∃W8,Hid (R.1=W8):=⟨_,aA rfl⟩;rw[h8.out]at HE HD
 all_goals
  clear s0 s4 f0 f4 c1;obtain⟨x0,x1⟩:=bR HE.out.O;obtain⟨o0,o1,o2⟩:=bA HE.out.P;obtain⟨r0,r1⟩:=bR HE.out.R;obtain⟨b0,b1,b2⟩:=bA HE.out.A;obtain⟨g0,g1,_⟩:=cV HE.out.R 0;obtain⟨k0,k1,k2,_⟩:=cV HE.out.A 0;simp only[cW]at g1 k1 k2;skip;have HF:=aA (bAd HE.out.R HE.out.A HE.out.ref HE.out.only hSw);have eX:w.heap.size+1+1≠w1.heap.size:=by omega
  have eO:w.heap.size+1+1≠w1.heap.size+1:=by omega
  refine eF 3 (fun wx=>wx.cell? ⟨w1.heap.size,0,none⟩=some (.slice D8 m8 d8)/\wx.cell? ⟨w1.heap.size,1,none⟩=some (.slice (some ⟨S,0,none⟩) W.ss.length cap)/\wx.cell? ⟨w1.heap.size+1,0,none⟩=some (.int .i64 R.2.kind)/\wx.cell? ⟨w1.heap.size+1,1,none⟩=some (.string R.2.text)/\wx.cell? ⟨w1.heap.size+1,2,none⟩=some (.int .i64 st)) (by kernel_rfl) (show W9.drew.cell? ⟨w1.heap.size,0,none⟩=some (.slice D8 m8 d8)/\W9.drew.cell? ⟨w1.heap.size,1,none⟩=some (.slice (some ⟨S,0,none⟩) W.ss.length cap)/\W9.drew.cell? ⟨w1.heap.size+1,0,none⟩=some (.int .i64 R.2.kind)/\W9.drew.cell? ⟨w1.heap.size+1,1,none⟩=some (.string R.2.text)/\W9.drew.cell? ⟨w1.heap.size+1,2,none⟩=some (.int .i64 st)from⟨x0,x1,o0,o1,o2⟩) (fun hS=>?_);refine gQ (i:=0) (v:=?_) ?_ hS ?_;rotate_left
  ·(intro w hSw;(try dsimp only at hSw);(try simp only[aE,aB,aC]);go_simp;try with_reducible rfl)
  (try simp only[aE,aB,aC,aQ,aH,aG,aF])
  refine gQ (i:=1) (v:=?_) ?_ hS ?_;rotate_left
  ·(intro w hSw;(try dsimp only at hSw);(try simp only[aE,aB,aC]);go_simp;try with_reducible rfl)
  (try simp only[aE,aB,aC,aQ,aH,aG,aF])
  refine cK (i:=2) (fun K hK=>?_)
  (try simp only[aE,aB,aC])
  go_simp;have hS2:=(show((W9.drew.setCell ⟨w.heap.size+1+1,0,none⟩ (.slice D8 m8 d8)).setCell ⟨w.heap.size+1+1,1,none⟩ (.slice (some ⟨S,0,none⟩) W.ss.length cap)).cell? ⟨w1.heap.size,0,none⟩=some (.slice D8 m8 d8)/\((W9.drew.setCell ⟨w.heap.size+1+1,0,none⟩ (.slice D8 m8 d8)).setCell ⟨w.heap.size+1+1,1,none⟩ (.slice (some ⟨S,0,none⟩) W.ss.length cap)).cell? ⟨w1.heap.size,1,none⟩=some (.slice (some ⟨S,0,none⟩) W.ss.length cap)/\((W9.drew.setCell ⟨w.heap.size+1+1,0,none⟩ (.slice D8 m8 d8)).setCell ⟨w.heap.size+1+1,1,none⟩ (.slice (some ⟨S,0,none⟩) W.ss.length cap)).cell? ⟨w1.heap.size+1,0,none⟩=some (.int .i64 R.2.kind)/\((W9.drew.setCell ⟨w.heap.size+1+1,0,none⟩ (.slice D8 m8 d8)).setCell ⟨w.heap.size+1+1,1,none⟩ (.slice (some ⟨S,0,none⟩) W.ss.length cap)).cell? ⟨w1.heap.size+1,1,none⟩=some (.string R.2.text)/\((W9.drew.setCell ⟨w.heap.size+1+1,0,none⟩ (.slice D8 m8 d8)).setCell ⟨w.heap.size+1+1,1,none⟩ (.slice (some ⟨S,0,none⟩) W.ss.length cap)).cell? ⟨w1.heap.size+1,2,none⟩=some (.int .i64 st)from⟨cH (p:=⟨w.heap.size+1+1,1,none⟩) eX (cH (p:=⟨w.heap.size+1+1,0,none⟩) eX x0),cH (p:=⟨w.heap.size+1+1,1,none⟩) eX (cH (p:=⟨w.heap.size+1+1,0,none⟩) eX x1),cH (p:=⟨w.heap.size+1+1,1,none⟩) eO (cH (p:=⟨w.heap.size+1+1,0,none⟩) eO o0),cH (p:=⟨w.heap.size+1+1,1,none⟩) eO (cH (p:=⟨w.heap.size+1+1,0,none⟩) eO o1),cH (p:=⟨w.heap.size+1+1,1,none⟩) eO (cH (p:=⟨w.heap.size+1+1,0,none⟩) eO o2)⟩);refine hK.out _ _ hS2 ?_;clear hK K hS;have hS:=hS2;clear hS2
  (try simp only[aE,aB,aC,aQ,aH,aG,aF])
  refine bY (fun K hK=>?_)
  (try simp only[aE,aB,aC])
  go_simp;refine hK.out _ _ ?_;clear hK K
  (try simp only[aE,aB,aC,aQ,aH,aG,aF])
  go_wp2;refine bE (v:= .tuple #[.agg #[.slice D8 m8 d8,.slice (some ⟨S,0,none⟩) W.ss.length cap],.agg #[.int .i64 R.2.kind,.string R.2.text,.int .i64 st]]) (by simp[results,Tryz.results81,go_sem,r0,r1,b0,b1,b2]) rfl ?_;rw[HD.out.1,HD.out.2];have hf:=HF.out (.slice D8 m8 d8) (.slice (some ⟨S,0,none⟩) W.ss.length cap) (.int .i64 R.2.kind) (.string R.2.text) (.int .i64 st);exact⟨_,rfl,hf.1.below ((aD _ _).drew),hf.2.trans (.of ((aD _ _).drew))⟩
def HQ (w:World)(base H A S:Nat)(mode:Int)(m:Mach Wd)(e:Ending)(w':World):Prop:= ∃q ow,HP w base H A S mode m q ow e w'/\HRel m q ow
theorem HMem.deedRun {w:World}{base H A S:Nat}{f g:Nat->Value}{G:Nat->Option Nat}{mode:Int}{m:Mach Wd}{q:Nat->List Ask}{ow:List Int}(h:HMem 0 w base H A S f g G mode m q ow){n:Nat}(hn:m.deeds.length=n)(hl:n<=300000){ad:Nat}(d:iD)(hx:RowTo w ad 70 7 (gW d)):
  ∃b off cap w',(Builtin.append_ #[26,26] 26 #[f 7,.slice (some ⟨ad,0,none⟩) 1 1]).run Tryz.prog w= .ok (.slice (some ⟨b,off,none⟩) (n+1) cap) w'/\w'.cell? ⟨H,7,none⟩=some (f 7)/\w'.frozen? ⟨H,7,none⟩=false/\H<w'.heap.size/\
   HMem 0 (w'.setCell ⟨H,7,none⟩ (.slice (some ⟨b,off,none⟩) (n+1) cap)) base H A S (aL f 7 (.slice (some ⟨b,off,none⟩) (n+1) cap)) g (aL G 11 (some b)) mode {m with deeds:=m.deeds++[d]} q ow/\Below base w (w'.setCell ⟨H,7,none⟩ (.slice (some ⟨b,off,none⟩) (n+1) cap))/\
   KeepF G w w':=by
 subst hn;obtain⟨i0,hi,hz0,hz1,hz2⟩:=info_parts xA6;have hbH:=h.bH
 obtain ⟨b, off, cap, w', hrun, hs, hg, hb⟩ := h.deedSl.append (P := Tryz.prog) 26 26 i0 _ 80 Tryz.underlying26 hi hz0 hz1 hz2 rfl (by omega) ⟨ad, 0, none⟩ 1 (gW d) rfl (fun j u hu => by
  rw[Addr.add_lit,cW];obtain⟨hj,hu⟩:=fN.1 hu;rw[<-hu]
  exact hx.cell hj) (fun u hu => by
  simp only[gW,List.mem_cons,List.not_mem_nil,or_false]at hu
  rcases hu with rfl | rfl | rfl | rfl | rfl | rfl | rfl <;> rfl) (by unfold maxLen; omega) (by omega)
 have hP':=hg.block H h.h.lt (fun e=>h.ne (i:=11) (j:=0) (b:=H) (c:=H) e.symm h.g0 (by omega) rfl);exact⟨b,off,cap,w',hrun,(aV (a:=⟨H,7,none⟩) hP').trans (h.h.cell (j:=7) (by omega)),(iR (a:=⟨H,7,none⟩) hP').trans (h.h.frozen _),bD h.h.lt hg.size,h.deeded d hg hs hb,((aD base w).grown hg hbH.2.2 (fun x hx=>(h.lo _ _ hx).1)).setCell hbH.1 _,(KeepF.refl G w).grown hg⟩
structure bAg (Q:Nat->Prop)(S:Nat)(W5 W9:World)(R:Wd×cU)(r:Value)(st:Int)(b1 c1:Nat):Prop where
 ref:RefP Q W9 S 6 r R.1
 only:OnlyT S W5 W9
 b:RowTo W9 b1 39 2 [r,.slice (some ⟨S,0,none⟩) 6 6]
 c:RowTo W9 c1 46 3 [.int .i64 R.2.kind,.string R.2.text,.int .i64 st]
 lb:W5.heap.size<=b1
 lc:W5.heap.size<=c1
 ne:b1≠c1
theorem bAh {Q:Nat->Prop}{S:Nat}{W5 wc:World}{R:Wd×cU}{st:Int}{b1 c1 n d:Nat}{D:Option Addr}(hX:RowTo wc b1 39 2 [.slice none 0 0,.slice none 0 0])(hY:RowTo wc c1 46 3 [.int .i64 0,.string ⟨#[]⟩,.int .i64 0])(hw:RefP Q wc S 6 (.slice D n d) R.1)(ho:OnlyT S W5 wc)(hB:W5.heap.size<=b1)(hC:W5.heap.size<=c1)(hne:b1≠c1)(hS:S<W5.heap.size):
  bAg Q S W5 (((((wc.setCell ⟨b1,0,none⟩ (.slice D n d)).setCell ⟨b1,1,none⟩ (.slice (some ⟨S,0,none⟩) 6 6)).setCell ⟨c1,0,none⟩ (.int .i64 R.2.kind)).setCell ⟨c1,1,none⟩ (.string R.2.text)).setCell ⟨c1,2,none⟩ (.int .i64 st)) R (.slice D n d) st b1 c1:=by
 have hY2:=hY.oth2 hne (.slice D n d) (.slice (some ⟨S,0,none⟩) 6 6);have e1:=hw.offN (R:=b1) (w':=(wc.setCell ⟨b1,0,none⟩ (.slice D n d)).setCell ⟨b1,1,none⟩ (.slice (some ⟨S,0,none⟩) 6 6)) (by omega) (nU hX) (by rw[cT,cT]) (fun b hb=>by rw[cM _ _ _ _ _ hb,cM _ _ _ _ _ hb]);have e2:=e1.offN (R:=c1) (w':=((((wc.setCell ⟨b1,0,none⟩ (.slice D n d)).setCell ⟨b1,1,none⟩ (.slice (some ⟨S,0,none⟩) 6 6)).setCell ⟨c1,0,none⟩ (.int .i64 R.2.kind)).setCell ⟨c1,1,none⟩ (.string R.2.text)).setCell ⟨c1,2,none⟩ (.int .i64 st)) (by omega) (mT hY2) (by rw[cT,cT,cT]) (fun b hb=>by rw[cM _ _ _ _ _ hb,cM _ _ _ _ _ hb,cM _ _ _ _ _ hb]);exact⟨e2,((((ho.new hB 0 _).new hB 1 _).new hC 0 _).new hC 1 _).new hC 2 _,(hX.set2 _ _).oth3 (fun e=>hne e.symm) _ _ _,hY2.set3 _ _ _,hB,hC,hne⟩
section
variable {Q:Nat->Prop}{S:Nat}{W5:World}{f2:Value}{We:Wd}{R:Wd×cU}{st:Int}{A0:Go.Act}
def oG (S:Nat)(R:Wd×cU)(st:Int)(r:Value):Value:= .tuple #[.agg #[r,.slice (some ⟨S,0,none⟩) 6 6],.agg #[.int .i64 R.2.kind,.string R.2.text,.int .i64 st]]
def rI (S:Nat)(R:Wd×cU)(st:Int)(A0:Go.Act)(r:Value):Go.Act:=(((A0.put (some 64) (oG S R st r)).put (some 56) (oG S R st r)).put (some 65) (.agg #[r,.slice (some ⟨S,0,none⟩) 6 6])).put (some 66) (.agg #[.int .i64 R.2.kind,.string R.2.text,.int .i64 st])
def uP (Q:Nat->Prop)(S:Nat)(W5:World)(f2:Value)(We:Wd)(R:Wd×cU)(st:Int)(A0:Go.Act):Nat->Go.Act->World->Prop
 |0,a,wc=>a=A0/\RefP Q wc S 6 f2 We/\Below W5.heap.size W5 wc
 |_,a,wc=> ∃r,a=A0.put (some 64) (oG S R st r)/\RefP Q wc S 6 r R.1/\OnlyT S W5 wc
def uQ (Q:Nat->Prop)(S:Nat)(W5:World)(R:Wd×cU)(st:Int)(A0:Go.Act)(a:Go.Act)(wc:World):Prop:= ∃r,a=rI S R st A0 r/\RefP Q wc S 6 r R.1/\OnlyT S W5 wc
theorem bAi {c:Nat}{a:Go.Act}{wc:World}(h:uP Q S W5 f2 We R st A0 c a wc)(o:Obj):uP Q S W5 f2 We R st A0 c a (wc.alloc o):=by
 have al:=(aD wc.heap.size wc).alloc (aI _) o
 match c,h with
 |0,h=>exact⟨h.1,h.2.1.below al,h.2.2.alloc h.2.2.size o⟩
 |c+1,h=>obtain⟨r,h1,h2,h3⟩:=h;exact⟨r,h1,h2.below al,h3.trans (.of al)⟩
theorem bAj {a:Go.Act}{wc:World}(h:uQ Q S W5 R st A0 a wc)(o:Obj):uQ Q S W5 R st A0 a (wc.alloc o):=by
 have al:=(aD wc.heap.size wc).alloc (aI _) o;obtain⟨r,h1,h2,h3⟩:=h;exact⟨r,h1,h2.below al,h3.trans (.of al)⟩
theorem pW {c:Nat}{a:Go.Act}{wc:World}(h:uP Q S W5 f2 We R st A0 c a wc):OnlyT S W5 wc:=by
 match c,h with
 |0,h=>exact .of h.2.2
 |c+1,h=>obtain⟨r,h1,h2,h3⟩:=h;exact h3
theorem pX {a:Go.Act}{wc:World}(h:uQ Q S W5 R st A0 a wc):OnlyT S W5 wc:=by obtain⟨r,h1,h2,h3⟩:=h;exact h3
end
theorem RowTo.oth1 {w:World}{R g t n:Nat}{xs:List Value}(h:RowTo w g t n xs)(hne:R≠g)(j:Nat)(x:Value):RowTo (w.setCell ⟨R,j,none⟩ x) g t n xs:=h.other (p:=⟨R,j,none⟩) hne x
section
variable {w:World}{base H A S:Nat}{f g:Nat->Value}{G:Nat->Option Nat}{mode:Int}{m:Mach Wd}{q:Nat->List Ask}{ow:List Int}{N:Nat}
theorem yAb (w:World)(h:HMem 0 w base H A S f g G mode m q ow)(hI:HInv mode m N)(hN:N<=300000)(hrel:HRel m q ow)(c:Nat)(hc:c<6)(a:Ask)(l:List Ask)(hq:q c=a::l)(hr:dD mode (m.get c)=true):
  Calls Tryz.prog 53 #[.pointer (some ⟨H,0,none⟩),.int .i64 c] w (HQ w base H A S mode (m.proc bC mode c)):=by
 have hg:=hrel.good c hc a (by rw[hq];exact gJ);have hgl: ∀x∈l,x.ok=true->x.r.ok:=fun x hx=>hrel.good c hc x (by rw[hq];exact iZ _ hx)
 have hw:(m.get c).wait=a.req::l.map Ask.req:=by rw[hrel.wait c hc,hq];rfl
 have hsl:=h.waitSl hc;rw[hq]at hsl;obtain⟨b,off,cap,hb1,hv,hcap,hcell⟩:=hsl.at (by simp);have hbl:=hsl.lt hb1;have hv':g (c*4+1)= .slice (some ⟨b,off,none⟩) (l.length+1) cap:=hv;have hcap':l.length+1<=cap:=hcap;have k0:=hcell 0 (by simp[fT]);have k1:=hcell 1 (by simp[fT]);have k2:=hcell 2 (by simp[fT]);have k3:=hcell 3 (by simp[fT]);simp only[List.map_cons,List.flatten_cons,fT,List.cons_append,aB,aC,Nat.add_zero]at k0 k1 k2 k3;have h4:w.cell? ⟨H,4,none⟩=some (.slice (some ⟨A,0,none⟩) 6 6):=by rw[h.h.cell (by omega),h.f4]
 have ga:=h.a.cell (j:=c*4+1) (by omega);rw[hv']at ga;have hHl:=h.h.lt;have hAl:=h.a.lt;have hcI:(c:Int)<6:=by omega
 have nb:=(aD w.heap.size w).alloc (aI _) (.cells #[.int .i64 a.r.k,.string a.r.key,.string a.r.val,.bool a.ok] 100);have xr:=RowTo.whole w #[.int .i64 a.r.k,.string a.r.key,.string a.r.val,.bool a.ok] 100;have HAL:=aA (yA3 _ (h.below nb) c hc a l hq hg);have HM:=aA (aJ (h.below nb) (aJ (nb.mono h.bH.2.2) xr));have HI:=aA hI;have HR:=aA (aJ hrel (aJ hg hgl));have HW:=aA (aJ hw (aJ hr (aJ hq hv')));have HB:=aA (aJ h.bH hN);have HX:=aA h.a.lt;have HSL:=aA (h.lo 2 S h.g2).2;have HHL:=aA h.h.lt;clear h hI hrel hg hgl hw hr hsl hv hcap hcell nb xr hq hv' hN;go_enter Tryz.func53,Tryz.ntmps53;go_wp2_with fail;refine HAL.out.mono ?_;rintro e w1 ⟨rfl,hb⟩;have hM:=HM.out.1.below hb;have HM1:=aA (aJ hM (aJ (HM.out.2.1.trans (hb.mono (bL HB.out.1.2.2 HM.out.2.1.size))) (HM.out.2.2.below hb HM.out.2.2.lt)));clear h4 ga k0 k1 k2 k3 hHl hAl HAL HM hb;have h4:w1.cell? ⟨H,4,none⟩=some (.slice (some ⟨A,0,none⟩) 6 6):=by rw[hM.h.cell (by omega),hM.f4]
 have ga:=hM.a.cell (j:=c*4+1) (by omega);rw[HW.out.2.2.2]at ga;have hHl:=hM.h.lt;have hAl:=hM.a.lt;clear hM;go_wp2_with fail
 by_cases hcp:cap=1
 case' pos=>
  obtain rfl:=hcp;have hl0:l.length=0:=by omega
  refine fV 16 [(0,22),(1,23),(2,24),(3,25),(4,26),(5,27),(6,28),(7,29),(8,30),(9,31),(10,32),(11,33),(12,34),(13,35),(14,36),(15,37)] [[],[(0,22)],[(1,23)],[(2,24)],[],[],[(5,27)],[(6,28)],[(7,29)],[],[(8,30),(9,31)],[(10,32)],[(11,33)],[(12,34)],[(3,25),(4,26)],[(14,36)]] [.pointer (some ⟨H,0,none⟩),.pointer (some ⟨H,0,none⟩),.pointer (some ⟨H,4,none⟩),.slice (some ⟨A,0,none⟩) 6 6,.int .i64 c,.pointer (some ⟨H,0,none⟩),.pointer (some ⟨H,0,none⟩),.pointer (some ⟨H,4,none⟩),.slice (some ⟨A,0,none⟩) 6 6,.int .i64 c,.pointer (some ⟨A,c*4,none⟩),.pointer (some ⟨A,c*4+1,none⟩),.slice (some ⟨b,off,none⟩) (l.length+1) 1,.slice (some ⟨b,off,none⟩) 0 0,.pointer (some ⟨A,c*4,none⟩),.pointer (some ⟨A,c*4+1,none⟩)] (fun _ w w'=>Below w.heap.size w w') (fun wc=>Below w1.heap.size w1 wc) 1 (by kernel_rfl) (by rfl) (by kernel_rfl) (fun _ _ _ _ _ h=>h) (aD _ _).drew (fun _ _=>aD _ _) (fun k w w' h hb=>bU h hb) ?naob ?nafi
  case naob=>
   intro i hi wc hR;have h4':=(hR.cell (p:=⟨H,4,none⟩) hHl).trans h4;have ga':=(hR.cell (p:=⟨A,c*4+1,none⟩) hAl).trans ga;rcases i with _|_|_|_|_|_|_|_|_|_|_|_|_|_|_|_|i
   all_goals (first|contradiction|exact fU|exact absurd hi (by simp))
  case' nafi=>
   intro wf hR;have hS:=True.intro
   (try simp only[aN,aT,aS,aQ,aH,aG,aF])
   have HMf:=aA (aJ (HM1.out.1.below hR) (aJ (HM1.out.2.1.trans (hR.mono (bL HB.out.1.2.2 HM1.out.2.1.size))) (HM1.out.2.2.below hR HM1.out.2.2.lt)));have gaf:=(hR.cell (p:=⟨A,c*4+1,none⟩) hAl).trans ga;have gff:=HMf.out.1.a.frozen (c*4+1);clear hR h4 ga hHl hAl;refine bY (fun K hK=>?_)
   (try simp only[aE,aB,aC])
   go_simp;refine hK.out _ _ ?_;clear hK K
   (try simp only[aE,aB,aC,aQ,aH,aG,aF])
   have hF:=HMf.out.1.cut hc HI.out.n6 HW.out.2.2.1 HW.out.2.2.2 (l.map Ask.req);rw[show fH b off 4 l.length 1= .slice (some ⟨b,off,none⟩) 0 0 from(by unfold fH;rw[if_pos rfl,hl0])]at hF;have hxn:=HMf.out.2.2.oth1 (R:=A) (fun e=>by have:=HB.out;have:=HMf.out.1.a.lt;exact absurd e (Nat.ne_of_lt HX.out)) (c*4+1) (.slice (some ⟨b,off,none⟩) 0 0);obtain⟨W5,HW5⟩: ∃u,Hid ((wf.setCell ⟨A,c*4+1,none⟩ (.slice (some ⟨b,off,none⟩) 0 0))=u):=⟨_,aA rfl⟩;have HM5:=aA (aJ hF (aJ (HMf.out.2.1.setCell (p:=⟨A,c*4+1,none⟩) HB.out.1.2.1 (.slice (some ⟨b,off,none⟩) 0 0)) hxn));rw[HW5.out]at HM5 ⊢;clear hF hxn HW5 HMf gaf gff
 case' neg=>
  have hcp2:cap-1≠0:=by omega
  have hlI: ¬((l.length:Int)+1<1):=by omega
  have hcp3: ¬cap<=1:=by omega
  refine fV 16 [(0,22),(1,23),(2,24),(3,25),(4,26),(5,27),(6,28),(7,29),(8,30),(9,31),(10,32),(11,33),(12,34),(13,35),(14,36),(15,37)] [[],[(0,22)],[(1,23)],[(2,24)],[],[],[(5,27)],[(6,28)],[(7,29)],[],[(8,30),(9,31)],[(10,32)],[(11,33)],[(12,34)],[(3,25),(4,26)],[(14,36)]] [.pointer (some ⟨H,0,none⟩),.pointer (some ⟨H,0,none⟩),.pointer (some ⟨H,4,none⟩),.slice (some ⟨A,0,none⟩) 6 6,.int .i64 c,.pointer (some ⟨H,0,none⟩),.pointer (some ⟨H,0,none⟩),.pointer (some ⟨H,4,none⟩),.slice (some ⟨A,0,none⟩) 6 6,.int .i64 c,.pointer (some ⟨A,c*4,none⟩),.pointer (some ⟨A,c*4+1,none⟩),.slice (some ⟨b,off,none⟩) (l.length+1) cap,.slice (some ⟨b,off+4,none⟩) l.length (cap-1),.pointer (some ⟨A,c*4,none⟩),.pointer (some ⟨A,c*4+1,none⟩)] (fun _ w w'=>Below w.heap.size w w') (fun wc=>Below w1.heap.size w1 wc) 1 (by kernel_rfl) (by rfl) (by kernel_rfl) (fun _ _ _ _ _ h=>h) (aD _ _).drew (fun _ _=>aD _ _) (fun k w w' h hb=>bU h hb) ?nbob ?nbfi
  case nbob=>
   intro i hi wc hR;have h4':=(hR.cell (p:=⟨H,4,none⟩) hHl).trans h4;have ga':=(hR.cell (p:=⟨A,c*4+1,none⟩) hAl).trans ga;rcases i with _|_|_|_|_|_|_|_|_|_|_|_|_|_|_|_|i
   all_goals (first|contradiction|exact fU|exact absurd hi (by simp))
  case' nbfi=>
   intro wf hR;have hS:=True.intro
   (try simp only[aN,aT,aS,aQ,aH,aG,aF])
   have HMf:=aA (aJ (HM1.out.1.below hR) (aJ (HM1.out.2.1.trans (hR.mono (bL HB.out.1.2.2 HM1.out.2.1.size))) (HM1.out.2.2.below hR HM1.out.2.2.lt)));have gaf:=(hR.cell (p:=⟨A,c*4+1,none⟩) hAl).trans ga;have gff:=HMf.out.1.a.frozen (c*4+1);clear hR h4 ga hHl hAl;refine bY (fun K hK=>?_)
   (try simp only[aE,aB,aC])
   go_simp;refine hK.out _ _ ?_;clear hK K
   (try simp only[aE,aB,aC,aQ,aH,aG,aF])
   have hF:=HMf.out.1.cut hc HI.out.n6 HW.out.2.2.1 HW.out.2.2.2 (l.map Ask.req);rw[show fH b off 4 l.length cap= .slice (some ⟨b,off+4,none⟩) l.length (cap-1)from(by unfold fH;rw[if_neg hcp])]at hF;have hxn:=HMf.out.2.2.oth1 (R:=A) (fun e=>by have:=HB.out;have:=HMf.out.1.a.lt;exact absurd e (Nat.ne_of_lt HX.out)) (c*4+1) (.slice (some ⟨b,off+4,none⟩) l.length (cap-1));obtain⟨W5,HW5⟩: ∃u,Hid ((wf.setCell ⟨A,c*4+1,none⟩ (.slice (some ⟨b,off+4,none⟩) l.length (cap-1)))=u):=⟨_,aA rfl⟩;have HM5:=aA (aJ hF (aJ (HMf.out.2.1.setCell (p:=⟨A,c*4+1,none⟩) HB.out.1.2.1 (.slice (some ⟨b,off+4,none⟩) l.length (cap-1))) hxn));rw[HW5.out]at HM5 ⊢;clear hF hxn HW5 HMf gaf gff
 all_goals
  have z0:=HM5.out.2.2.cell (j:=0) (by simp);have z1:=HM5.out.2.2.cell (j:=1) (by simp);have z2:=HM5.out.2.2.cell (j:=2) (by simp);have z3:=HM5.out.2.2.cell (j:=3) (by simp);simp only[aB,aC]at z0 z1 z2 z3;have hZl:=HM5.out.2.2.lt;have h3:W5.cell? ⟨H,3,none⟩=some (.slice (some ⟨S,0,none⟩) 6 6):=by rw[HM5.out.1.h.cell (by omega),HM5.out.1.f3]
  have hHl:=HM5.out.1.h.lt;have hSl:=HM5.out.1.ref.blk.lt;have hc6:c<m.e.ss.length:=by rw[HI.out.h6];exact hc
  have hat:(m.e.at c).st=m.e.ss[c].st:=by rw[iQ hc6]
  have hst:=HI.out.state hc;rw[hat]at hst
  cases hrf:eJ mode a.req with
  |true=>
   obtain⟨v1,v2,v3,v4,hs⟩:=HM5.out.1.ref.ses c hc6;have s0:W5.cell? ⟨S,c*5,none⟩=some (.int .i64 m.e.ss[c].st):=hs.core.c0;clear hs
   cases hok:a.ok with
   |false=>
    rw[hok]at z3;have hrq:fG mode a.req=nV:=(by unfold fG Ask.req;rw[hok];rfl);have hPA:=aA (yA5 HW.out.1 hrf);rw[hrq]at hPA;have hAN:=qV hrf;rw[hrq]at hAN;have nb:=(aD W5.heap.size W5).alloc (aI _) (.cells #[.int .i64 4,.string nV,.int .i64 m.e.ss[c].st] 46);have HTL:=aA (yA2 _ (HM5.out.1.below nb) (show(m.set c {m.get c with wait:=l.map Ask.req}).sent.length=6 from HI.out.s6) c hc ⟨4,nV⟩ m.e.ss[c].st ⟨hAN,hst⟩ (HI.out.sent HB.out.2 c));have HBN:=aA (HM5.out.2.1.trans (nb.mono (bL HB.out.1.2.2 HM5.out.2.1.size)));rw[hat]at hPA;clear hAN hrq nb hst;go_wp2_with fail;refine HTL.out.mono ?_;rintro e w6 ⟨f6,g6,G6,rfl,hm6,hb6⟩;have HF6:=aA (aJ hm6 (HBN.out.trans hb6));clear hm6 hb6 z0 z1 z2 z3 s0 h3 hZl hHl hSl HTL;go_wp2;go_end0;refine⟨aL q c l,ow,⟨f6,g6,G6,rfl,by rw[hPA.out];exact HF6.out.1,HF6.out.2⟩,?_⟩;rw[hPA.out];exact(HR.out.1.turn (x:={m.get c with wait:=l.map Ask.req}) hc HI.out.n6 rfl HR.out.2.2).same (fun _ _=>rfl) rfl
   |true=>
    have hk13:a.r.k=1/\mode=3:=by
     have hk:1<=a.r.k:=(kE (HR.out.2.1 hok)).lo;unfold eJ Ask.req at hrf;rw[if_pos hok]at hrf;have:=of_decide_eq_true hrf;omega
    rw[hok]at z3;have hrq:fG mode a.req=nW:=(by unfold fG Ask.req;rw[if_pos hok,if_neg (by omega),if_pos hk13]);have hPA:=aA (yA5 HW.out.1 hrf);rw[hrq]at hPA;have hAN:=qV hrf;rw[hrq]at hAN;have nb:=(aD W5.heap.size W5).alloc (aI _) (.cells #[.int .i64 4,.string nW,.int .i64 m.e.ss[c].st] 46);have HTL:=aA (yA2 _ (HM5.out.1.below nb) (show(m.set c {m.get c with wait:=l.map Ask.req}).sent.length=6 from HI.out.s6) c hc ⟨4,nW⟩ m.e.ss[c].st ⟨hAN,hst⟩ (HI.out.sent HB.out.2 c));have HBN:=aA (HM5.out.2.1.trans (nb.mono (bL HB.out.1.2.2 HM5.out.2.1.size)));rw[hat]at hPA;clear hAN hrq nb hst;go_wp2_with fail;refine HTL.out.mono ?_;rintro e w6 ⟨f6,g6,G6,rfl,hm6,hb6⟩;have HF6:=aA (aJ hm6 (HBN.out.trans hb6));clear hm6 hb6 z0 z1 z2 z3 s0 h3 hZl hHl hSl HTL;go_wp2;go_end0;refine⟨aL q c l,ow,⟨f6,g6,G6,rfl,by rw[hPA.out];exact HF6.out.1,HF6.out.2⟩,?_⟩;rw[hPA.out];exact(HR.out.1.turn (x:={m.get c with wait:=l.map Ask.req}) hc HI.out.n6 rfl HR.out.2.2).same (fun _ _=>rfl) rfl
  |false=>
   have hok:a.ok=true:=by
    cases h:a.ok with
    |true=>rfl
    |false=>exfalso;unfold eJ Ask.req at hrf;rw[h]at hrf;simp[Req.none_]at hrf
   have hrq:a.req=a.r:=by unfold Ask.req;rw[if_pos hok]
   have hro:=HI.out.req HW.out.1 hrf;rw[hrq]at hro;obtain⟨R,HRR⟩: ∃R,Hid (doM m.e c a.r.k a.r.key a.r.val=R):=⟨_,aA rfl⟩;obtain⟨st,HST⟩: ∃st,Hid ((R.1.at c).st=st):=⟨_,aA rfl⟩;have hw1:=HW.out.1;rw[hrq]at hw1;have hrf1:=hrf;rw[hrq]at hrf1;have HPD:=aA (cAf hw1 hrf1 HRR.out HST.out);have hdc:=fun(wc:World) (hr:RefP (cX G) wc S 6 (f 2) m.e) (hn:W5.heap.size<=wc.heap.size)=>bAf (Q:=cX G) S 6 (f 2) m.e c a.r.k a.r.key a.r.val wc hr HI.out.w (fun b hb e=>hb 2 (by rw[e];exact HM5.out.1.g2)) (fun b hb i hi=>by have:=(HM5.out.1.lo i b hi).2;omega) hc6 hro
   rw[HRR.out,HST.out,HI.out.h6]at hdc;unfold slc at hdc;have hdo:=mW HI.out.w hc6 hro;rw[show fL m.e c a.r=R from HRR.out]at hdo
   have HSB := aA (show fZ R.2 ∧ 0 ≤ st ∧ st ≤ 2 by
    have hx:=kO hdo.1 (i:=c) (by rw[hdo.2];exact hc6);have h1:=hx.lo;have h2:=hx.hi;rw[HST.out]at h1 h2
    exact ⟨by rw [← HRR.out]; exact sX HI.out.w hc6 _ _ _, h1, h2⟩)
   clear hdo;have HDC:=aA hdc;have h2:W5.cell? ⟨H,2,none⟩=some (f 2):=HM5.out.1.h.cell (by omega);have hHS:H≠S:=HM5.out.1.ne HM5.out.1.g0 HM5.out.1.g2 (by omega);have hZS:w.heap.size≠S:=Nat.ne_of_gt HSL.out;clear hdc hw1 hrf1 z3 hst;go_wp2_with fail;refine eF 14 (fun wx=>wx.cell? ⟨H,2,none⟩=some (f 2)/\wx.cell? ⟨H,3,none⟩=some (.slice (some ⟨S,0,none⟩) 6 6)/\wx.cell? ⟨w.heap.size,0,none⟩=some (.int .i64 a.r.k)/\wx.cell? ⟨w.heap.size,1,none⟩=some (.string a.r.key)/\wx.cell? ⟨w.heap.size,2,none⟩=some (.string a.r.val)) (by kernel_rfl) (show W5.drew.cell? ⟨H,2,none⟩=some (f 2)/\W5.drew.cell? ⟨H,3,none⟩=some (.slice (some ⟨S,0,none⟩) 6 6)/\W5.drew.cell? ⟨w.heap.size,0,none⟩=some (.int .i64 a.r.k)/\W5.drew.cell? ⟨w.heap.size,1,none⟩=some (.string a.r.key)/\W5.drew.cell? ⟨w.heap.size,2,none⟩=some (.string a.r.val)from⟨h2,h3,z0,z1,z2⟩) (fun hS=>?_);refine gQ (i:=0) (v:=?_) ?_ hS ?_;rotate_left
   ·(intro w hSw;(try dsimp only at hSw);(try simp only[aE,aB,aC]);go_simp;try with_reducible rfl)
   (try simp only[aE,aB,aC,aQ,aH,aG,aF])
   refine gQ (i:=1) (v:=?_) ?_ hS ?_;rotate_left
   ·(intro w hSw;(try dsimp only at hSw);(try simp only[aE,aB,aC]);go_simp;try with_reducible rfl)
   (try simp only[aE,aB,aC,aQ,aH,aG,aF])
   refine gQ (i:=2) (v:=?_) ?_ hS ?_;rotate_left
   ·(intro w hSw;(try dsimp only at hSw);(try simp only[aE,aB,aC]);go_simp;try with_reducible rfl)
   (try simp only[aE,aB,aC,aQ,aH,aG,aF])
   refine gQ (i:=3) (v:=?_) ?_ hS ?_;rotate_left
   ·(intro w hSw;(try dsimp only at hSw);(try simp only[aE,aB,aC]);go_simp;try with_reducible rfl)
   (try simp only[aE,aB,aC,aQ,aH,aG,aF])
   refine gQ (i:=4) (v:=?_) ?_ hS ?_;rotate_left
   ·(intro w hSw;(try dsimp only at hSw);(try simp only[aE,aB,aC]);go_simp;try with_reducible rfl)
   (try simp only[aE,aB,aC,aQ,aH,aG,aF])
   refine gQ (i:=5) (v:=?_) ?_ hS ?_;rotate_left
   ·(intro w hSw;(try dsimp only at hSw);(try simp only[aE,aB,aC]);go_simp;try with_reducible rfl)
   (try simp only[aE,aB,aC,aQ,aH,aG,aF])
   refine gQ (i:=6) (v:=?_) ?_ hS ?_;rotate_left
   ·(intro w hSw;(try dsimp only at hSw);(try simp only[aE,aB,aC]);go_simp;try with_reducible rfl)
   (try simp only[aE,aB,aC,aQ,aH,aG,aF])
   refine qAw (C:=1) (cop:=fun _=>7) (dst:=fun _=>64) (p:=11) (q:=12) (dp:=7) (dq:=8) (tp:=39) (tq:=46) (zp:=#[.slice none 0 0,.slice none 0 0]) (zq:=#[.int .i64 0,.string ⟨#[]⟩,.int .i64 0])
    (Lst:=fun c x y=>#[true,true,true,true,true,true,true,decide (0<c),false,false,false,x,y,false,false]) (Lst':=fun x y=>#[true,true,true,true,true,true,true,true,true,true,true,x,y,false,false]) ?_ (uP (cX G) S W5 (f 2) m.e R st) (uQ (cX G) S W5 R st) 2 3 W5.heap.size (fun c a w o h=>bAi h o) (fun a w o h=>bAj h o) ?_ ?_ (fun c a w h=>(pW h).1.1) (fun a w h=>(pX h).1.1) ?_ ?_ ?_ ⟨rfl,HM5.out.1.ref.below ((aD _ _).drew),(aD _ _).drew⟩
   ·refine⟨⟨_,rfl,rfl,rfl,fun ev w=>(by go_simp;rfl)⟩,⟨_,rfl,rfl,rfl,fun ev w=>(by go_simp;rfl)⟩,(by decide),fun c h=>(by decide),fun c x y h=>?_,fun x y h=>(match x,y,h with|false,false,_=>(by kernel_rfl)|false,true,_=>(by kernel_rfl)|true,false,_=>(by kernel_rfl)|true,true,h=>(by cases h)),fun c x y h=>?_,fun c y h=>rfl,fun c x h=>rfl,fun y=>rfl,fun x=>rfl⟩
    ·obtain rfl:c=0:=by omega
     cases x<;>cases y<;>(show _=_;kernel_rfl)
    ·obtain rfl:c=0:=(by omega);rfl
   ·exact fun c a wc h=>⟨(aV (a:=⟨H,2,none⟩) ((pW h).1.2 _ hHl hHS)).trans h2,(aV (a:=⟨H,3,none⟩) ((pW h).1.2 _ hHl hHS)).trans h3,(aV (a:=⟨w.heap.size,0,none⟩) ((pW h).1.2 _ hZl hZS)).trans z0,(aV (a:=⟨w.heap.size,1,none⟩) ((pW h).1.2 _ hZl hZS)).trans z1,(aV (a:=⟨w.heap.size,2,none⟩) ((pW h).1.2 _ hZl hZS)).trans z2⟩
   ·exact fun a wc h=>⟨(aV (a:=⟨H,2,none⟩) ((pX h).1.2 _ hHl hHS)).trans h2,(aV (a:=⟨H,3,none⟩) ((pX h).1.2 _ hHl hHS)).trans h3,(aV (a:=⟨w.heap.size,0,none⟩) ((pX h).1.2 _ hZl hZS)).trans z0,(aV (a:=⟨w.heap.size,1,none⟩) ((pX h).1.2 _ hZl hZS)).trans z1,(aV (a:=⟨w.heap.size,2,none⟩) ((pX h).1.2 _ hZl hZS)).trans z2⟩
   ·intro c0 a' wc x' y hc0 hj hx hy;obtain rfl:c0=0:=(by omega);obtain⟨rfl,hrf9,hb9⟩:=hj;refine lL rfl rfl (pD (g:=81) (args:=#[.agg #[f 2,.slice (some ⟨S,0,none⟩) 6 6],.int .i64 c,.agg #[.int .i64 a.r.k,.string a.r.key,.string a.r.val]]) ?_ ?_)
    ·cases x'<;>cases y<;>(simp only[fr,pt,oG,rI,aQ,aH,aG,aF];go_simp;try rfl)
    ·refine(HDC.out wc hrf9 hb9.size).mono ?_;rintro e w3 ⟨r2,rfl,hw3,ho3⟩;exact⟨_,rfl,_,rfl,⟨r2,rfl,hw3,(OnlyT.of hb9).trans ho3⟩,xAw hx hrf9.blk (by decide) (fun b hb hne=>ho3.1.2 b hb hne),xAw hy hrf9.blk (by decide) (fun b hb hne=>ho3.1.2 b hb hne)⟩
   ·intro a' wc x' y n' hj hx hy hk';obtain⟨r2,rfl,hw3,ho3⟩:=hj;have hS:wc.cell? ⟨H,2,none⟩=some (f 2)/\wc.cell? ⟨H,3,none⟩=some (.slice (some ⟨S,0,none⟩) 6 6)/\wc.cell? ⟨w.heap.size,0,none⟩=some (.int .i64 a.r.k)/\wc.cell? ⟨w.heap.size,1,none⟩=some (.string a.r.key)/\wc.cell? ⟨w.heap.size,2,none⟩=some (.string a.r.val):=⟨(aV (a:=⟨H,2,none⟩) (ho3.1.2 _ hHl hHS)).trans h2,(aV (a:=⟨H,3,none⟩) (ho3.1.2 _ hHl hHS)).trans h3,(aV (a:=⟨w.heap.size,0,none⟩) (ho3.1.2 _ hZl hZS)).trans z0,(aV (a:=⟨w.heap.size,1,none⟩) (ho3.1.2 _ hZl hZS)).trans z1,(aV (a:=⟨w.heap.size,2,none⟩) (ho3.1.2 _ hZl hZS)).trans z2⟩;have hk':=hk' _ ⟨r2,rfl,hw3,ho3⟩;clear hx hy hw3
    cases x'<;>cases y
    all_goals
     simp only[fr,pt,oG,rI,aQ,aH,aG,aF];simp only[fr,pt,oG,rI,aQ,aH,aG,aF]at hk';refine gQ (i:=8) (v:=?_) ?_ hS ?_;rotate_left
     ·(intro w hSw;(try dsimp only at hSw);(try simp only[aE,aB,aC]);go_simp;try with_reducible rfl)
     (try simp only[aE,aB,aC,aQ,aH,aG,aF])
     refine gQ (i:=9) (v:=?_) ?_ hS ?_;rotate_left
     ·(intro w hSw;(try dsimp only at hSw);(try simp only[aE,aB,aC]);go_simp;try with_reducible rfl)
     (try simp only[aE,aB,aC,aQ,aH,aG,aF])
     refine gQ (i:=10) (v:=?_) ?_ hS ?_;rotate_left
     ·(intro w hSw;(try dsimp only at hSw);(try simp only[aE,aB,aC]);go_simp;try with_reducible rfl)
     (try simp only[aE,aB,aC,aQ,aH,aG,aF])
     exact hk'
   ·intro a' wc b1 c1 hj hx hy;obtain⟨r2,rfl,hw3,ho3⟩:=hj;have hS:wc.cell? ⟨H,2,none⟩=some (f 2)/\wc.cell? ⟨H,3,none⟩=some (.slice (some ⟨S,0,none⟩) 6 6)/\wc.cell? ⟨w.heap.size,0,none⟩=some (.int .i64 a.r.k)/\wc.cell? ⟨w.heap.size,1,none⟩=some (.string a.r.key)/\wc.cell? ⟨w.heap.size,2,none⟩=some (.string a.r.val):=⟨(aV (a:=⟨H,2,none⟩) (ho3.1.2 _ hHl hHS)).trans h2,(aV (a:=⟨H,3,none⟩) (ho3.1.2 _ hHl hHS)).trans h3,(aV (a:=⟨w.heap.size,0,none⟩) (ho3.1.2 _ hZl hZS)).trans z0,(aV (a:=⟨w.heap.size,1,none⟩) (ho3.1.2 _ hZl hZS)).trans z1,(aV (a:=⟨w.heap.size,2,none⟩) (ho3.1.2 _ hZl hZS)).trans z2⟩;have hB1:=(hx b1 rfl).1;have hC1:=(hy c1 rfl).1;have hX1:RowTo wc b1 39 2 [.slice none 0 0,.slice none 0 0]:=tM hx;have hY1:RowTo wc c1 46 3 [.int .i64 0,.string ⟨#[]⟩,.int .i64 0]:=tM hy;have hbc:b1≠c1:=fun e=>(by have h1:=(hx b1 rfl).2;have h2:=(hy c1 rfl).2;rw[e,h2]at h1;injection h1 with h1;injection h1 with _ h1 _;exact absurd h1 (by decide));obtain⟨D2,d2',rfl,_⟩:=hw3.wld.rows.form;have H9:=aA (bAh (st:=st) hX1 hY1 hw3 ho3 hB1 hC1 hbc hSl);obtain⟨x0,x1⟩:=bR hX1;have f0:=hX1.frozen 0;have f1:=hX1.frozen 1;have HY2:=aA (hY1.oth2 hbc (.slice D2 R.1.rows.length d2') (.slice (some ⟨S,0,none⟩) 6 6));have nbH:b1≠H:=(by omega);have nbZ:b1≠w.heap.size:=(by omega);have ncH:c1≠H:=(by omega);have ncZ:c1≠w.heap.size:=(by omega);clear hX1 hY1 hx hy hw3 ho3;simp only[fr,pt,oG,rI,aQ,aH,aG,aF];refine cK (i:=13) (fun K hK=>?_)
    (try simp only[aE,aB,aC])
    go_simp;have hS2:=(show((wc.setCell ⟨b1,0,none⟩ (.slice D2 R.1.rows.length d2')).setCell ⟨b1,1,none⟩ (.slice (some ⟨S,0,none⟩) 6 6)).cell? ⟨H,2,none⟩=some (f 2)/\((wc.setCell ⟨b1,0,none⟩ (.slice D2 R.1.rows.length d2')).setCell ⟨b1,1,none⟩ (.slice (some ⟨S,0,none⟩) 6 6)).cell? ⟨H,3,none⟩=some (.slice (some ⟨S,0,none⟩) 6 6)/\((wc.setCell ⟨b1,0,none⟩ (.slice D2 R.1.rows.length d2')).setCell ⟨b1,1,none⟩ (.slice (some ⟨S,0,none⟩) 6 6)).cell? ⟨w.heap.size,0,none⟩=some (.int .i64 a.r.k)/\((wc.setCell ⟨b1,0,none⟩ (.slice D2 R.1.rows.length d2')).setCell ⟨b1,1,none⟩ (.slice (some ⟨S,0,none⟩) 6 6)).cell? ⟨w.heap.size,1,none⟩=some (.string a.r.key)/\((wc.setCell ⟨b1,0,none⟩ (.slice D2 R.1.rows.length d2')).setCell ⟨b1,1,none⟩ (.slice (some ⟨S,0,none⟩) 6 6)).cell? ⟨w.heap.size,2,none⟩=some (.string a.r.val)from⟨cH (p:=⟨b1,1,none⟩) nbH (cH (p:=⟨b1,0,none⟩) nbH hS.1),cH (p:=⟨b1,1,none⟩) nbH (cH (p:=⟨b1,0,none⟩) nbH hS.2.1),cH (p:=⟨b1,1,none⟩) nbZ (cH (p:=⟨b1,0,none⟩) nbZ hS.2.2.1),cH (p:=⟨b1,1,none⟩) nbZ (cH (p:=⟨b1,0,none⟩) nbZ hS.2.2.2.1),cH (p:=⟨b1,1,none⟩) nbZ (cH (p:=⟨b1,0,none⟩) nbZ hS.2.2.2.2)⟩);refine hK.out _ _ hS2 ?_;clear hK K hS;have hS:=hS2;clear hS2
    (try simp only[aE,aB,aC,aQ,aH,aG,aF])
    obtain⟨p0,p1,p2⟩:=bA HY2.out;have g0:=HY2.out.frozen 0;have g1:=HY2.out.frozen 1;have g2:=HY2.out.frozen 2;refine bY (fun K hK=>?_)
    (try simp only[aE,aB,aC])
    go_simp;refine hK.out _ _ ?_;clear hK K
    (try simp only[aE,aB,aC,aQ,aH,aG,aF])
    clear hS x0 x1 f0 f1 p0 p1 p2 g0 g1 g2 HY2 nbH nbZ ncH ncZ hbc hB1 hC1;generalize(((((wc.setCell ⟨b1,0,none⟩ (.slice D2 R.1.rows.length d2')).setCell ⟨b1,1,none⟩ (.slice (some ⟨S,0,none⟩) 6 6)).setCell ⟨c1,0,none⟩ (.int .i64 R.2.kind)).setCell ⟨c1,1,none⟩ (.string R.2.text)).setCell ⟨c1,2,none⟩ (.int .i64 st))=W9 at*;have h2:=(aV (a:=⟨H,2,none⟩) (H9.out.only.1.2 _ hHl hHS)).trans h2;have h3:=(aV (a:=⟨H,3,none⟩) (H9.out.only.1.2 _ hHl hHS)).trans h3;obtain⟨b0,b1'⟩:=bR H9.out.b;have hH9:=bD hHl H9.out.only.1.1;have hb9:=H9.out.b.lt;have fh2:W9.frozen? ⟨H,2,none⟩=false:=(iR (a:=⟨H,2,none⟩) (H9.out.only.1.2 _ hHl hHS)).trans (HM5.out.1.h.frozen 2);have fh3:W9.frozen? ⟨H,3,none⟩=false:=(iR (a:=⟨H,3,none⟩) (H9.out.only.1.2 _ hHl hHS)).trans (HM5.out.1.h.frozen 3);clear z0 z1 z2 HDC;go_wp2_with fail;clear h2 h3 b0 b1' hH9 hb9 fh2 fh3;have hM10:=HM5.out.1.world H9.out.only.1 H9.out.ref;have hcH:H≠c1:=fun e=>(by have:=H9.out.lc;omega);have hZH:H≠w.heap.size:=Nat.ne_of_lt HHL.out;have H10:=aA (aJ hM10 (aJ (((HM5.out.2.1.trans (H9.out.only.below (HM5.out.1.lo 2 S HM5.out.1.g2).1 HM5.out.1.bH.2.2)).setCell (p:=⟨H,2,none⟩) HB.out.1.1 (.slice D2 R.1.rows.length d2')).setCell (p:=⟨H,3,none⟩) HB.out.1.1 (.slice (some ⟨S,0,none⟩) 6 6)) (aJ (((HM5.out.2.2.same (H9.out.only.1.2 _ hZl hZS)).oth1 hZH 2 (.slice D2 R.1.rows.length d2')).oth1 hZH 3 (.slice (some ⟨S,0,none⟩) 6 6)) (aJ ((H9.out.c.oth1 hcH 2 (.slice D2 R.1.rows.length d2')).oth1 hcH 3 (.slice (some ⟨S,0,none⟩) 6 6)) (fun i (hi:G i=some c1)=>by have:=(HM5.out.1.lo i c1 hi).2;have:=H9.out.lc;omega:cX G c1)))));have HCA:=aA (show c1≠A/\c1≠H by have:=H9.out.lc;have:=HM5.out.1.a.lt;exact⟨by omega,fun e=>hcH e.symm⟩);generalize((W9.setCell ⟨H,2,none⟩ (.slice D2 R.1.rows.length d2')).setCell ⟨H,3,none⟩ (.slice (some ⟨S,0,none⟩) 6 6))=W10 at*;clear hM10 H9 HM5 hcH hZH hZl hHl hSl hHS hZS;have h7:=H10.out.1.h.cell (j:=7) (by omega);have hHl:=H10.out.1.h.lt;have z0:=H10.out.2.2.1.cell (j:=0) (by simp);have z1:=H10.out.2.2.1.cell (j:=1) (by simp);have z2:=H10.out.2.2.1.cell (j:=2) (by simp);simp only[aB,aC]at z0 z1 z2;have hZl:=H10.out.2.2.1.lt;obtain⟨y0,y1,y2⟩:=bA H10.out.2.2.2.1;have hyl:=H10.out.2.2.2.1.lt;obtain⟨Ad,cd,hf7,_⟩:=H10.out.1.deedSl.shape;rw[hf7]at h7;have HF7:=aA hf7;clear hf7;refine mJ 14 [0] [] [] [(0,71),(1,72),(2,73),(3,74),(4,75),(5,76),(6,77),(7,78),(8,79),(9,80),(10,81)] [[],[],[(1,72)],[(2,73)],[(3,74)],[],[],[(6,77)],[],[(5,76),(7,78),(8,79)],[(9,80)]] (fun i v wv=>match i with|0=>v= .pointer (some ⟨H,0,none⟩)|1=>v= .pointer (some ⟨H,0,none⟩)|2=>v= .pointer (some ⟨H,0,none⟩)|3=>v= .pointer (some ⟨H,7,none⟩)|4=>v= .slice Ad m.deeds.length cd|5=>v= .int .i64 c|6=>v= .pointer (some ⟨w.heap.size,0,none⟩)|7=>v= .agg #[.int .i64 a.r.k,.string a.r.key,.string a.r.val]|8=>v= .agg #[.int .i64 R.2.kind,.string R.2.text,.int .i64 st]|9=>v= .agg #[.int .i64 c,.int .i64 a.r.k,.string a.r.key,.string a.r.val,.int .i64 R.2.kind,.string R.2.text,.int .i64 st]|10=> ∃bb,v= .slice (some ⟨bb,0,none⟩) 1 1/\RowTo wv bb 70 7 [.int .i64 c,.int .i64 a.r.k,.string a.r.key,.string a.r.val,.int .i64 R.2.kind,.string R.2.text,.int .i64 st]|_=>True) (fun _ w w'=>Below w.heap.size w w') (fun wc=>Below W10.heap.size W10 wc) 4 (by kernel_rfl) (by rfl) (by kernel_rfl) (fun _ _ _ _ _ h=>h) (aD _ _).drew (fun _ _=>aD _ _) ?_ (fun k w w' h hb=>bU h hb) ?_ ?_ ?_
    ·intro k i v w w' hk1 hk2 hk3 h hb;rcases i with _|_|_|_|_|_|_|_|_|_|_|i
     ·exact h
     ·exact h
     ·exact h
     ·exact h
     ·exact h
     ·exact h
     ·exact h
     ·exact h
     ·exact h
     ·exact h
     ·obtain⟨g,e,hr⟩:=h;exact⟨g,e,hr.below hb hr.lt⟩
     ·exact h
    ·intro i hi hnf vals wc hR hV;rcases i with _|_|_|_|_|_|_|_|_|_|_|i
     ·exact absurd (by decide) hnf
     ·clear hV hnf hi;refine⟨_,rfl,Or.inl ⟨by rfl,Or.inl ⟨.pointer (some ⟨H,0,none⟩),wc,?_,rfl,(aD _ _)⟩⟩⟩
      (try simp only[aN,aT,aS,aQ,aH,aG,aF])
      go_simp
      try rfl
     ·have h1:(vals 1)= .pointer (some ⟨H,0,none⟩):=hV (1,72) (by decide);clear hV hnf hi;refine⟨_,rfl,Or.inl ⟨by rfl,Or.inl ⟨.pointer (some ⟨H,0,none⟩),wc,?_,rfl,(aD _ _)⟩⟩⟩
      (try simp only[aN,aT,aS,aQ,aH,aG,aF,h1])
      go_simp
      try rfl
     ·have h2:(vals 2)= .pointer (some ⟨H,0,none⟩):=hV (2,73) (by decide);clear hV hnf hi;refine⟨_,rfl,Or.inl ⟨by rfl,Or.inl ⟨.pointer (some ⟨H,7,none⟩),wc,?_,rfl,(aD _ _)⟩⟩⟩
      (try simp only[aN,aT,aS,aQ,aH,aG,aF,h2])
      go_simp
      try rfl
     ·have h3:(vals 3)= .pointer (some ⟨H,7,none⟩):=hV (3,74) (by decide);clear hV hnf hi;have qh7:=(hR.cell (p:=⟨H,7,none⟩) hHl).trans h7;refine⟨_,rfl,Or.inl ⟨by rfl,Or.inl ⟨.slice Ad m.deeds.length cd,wc,?_,rfl,(aD _ _)⟩⟩⟩
      (try simp only[aN,aT,aS,aQ,aH,aG,aF,h3])
      go_simp
      try rfl
     ·clear hV hnf hi;refine⟨_,rfl,Or.inl ⟨by rfl,Or.inl ⟨.int .i64 c,wc,?_,rfl,(aD _ _)⟩⟩⟩
      (try simp only[aN,aT,aS,aQ,aH,aG,aF])
      go_simp
      try rfl
     ·clear hV hnf hi;refine⟨_,rfl,Or.inl ⟨by rfl,Or.inl ⟨.pointer (some ⟨w.heap.size,0,none⟩),wc,?_,rfl,(aD _ _)⟩⟩⟩
      (try simp only[aN,aT,aS,aQ,aH,aG,aF])
      go_simp
      try rfl
     ·have h6:(vals 6)= .pointer (some ⟨w.heap.size,0,none⟩):=hV (6,77) (by decide);clear hV hnf hi;have qz0:=(hR.cell (p:=⟨w.heap.size,0,none⟩) hZl).trans z0;have qz1:=(hR.cell (p:=⟨w.heap.size,1,none⟩) hZl).trans z1;have qz2:=(hR.cell (p:=⟨w.heap.size,2,none⟩) hZl).trans z2;refine⟨_,rfl,Or.inl ⟨by rfl,Or.inl ⟨.agg #[.int .i64 a.r.k,.string a.r.key,.string a.r.val],wc,?_,rfl,(aD _ _)⟩⟩⟩
      (try simp only[aN,aT,aS,aQ,aH,aG,aF,h6])
      go_simp
      try rfl
     ·clear hV hnf hi;have qy0:=(hR.cell (p:=⟨c1,0,none⟩) hyl).trans y0;have qy1:=(hR.cell (p:=⟨c1,1,none⟩) hyl).trans y1;have qy2:=(hR.cell (p:=⟨c1,2,none⟩) hyl).trans y2;refine⟨_,rfl,Or.inl ⟨by rfl,Or.inl ⟨.agg #[.int .i64 R.2.kind,.string R.2.text,.int .i64 st],wc,?_,rfl,(aD _ _)⟩⟩⟩
      (try simp only[aN,aT,aS,aQ,aH,aG,aF])
      go_simp
      try rfl
     ·have h5:(vals 5)= .int .i64 c:=hV (5,76) (by decide);have h7:(vals 7)= .agg #[.int .i64 a.r.k,.string a.r.key,.string a.r.val]:=hV (7,78) (by decide);have h8:(vals 8)= .agg #[.int .i64 R.2.kind,.string R.2.text,.int .i64 st]:=hV (8,79) (by decide);clear hV hnf hi;refine⟨_,rfl,Or.inl ⟨by rfl,Or.inl ⟨.agg #[.int .i64 c,.int .i64 a.r.k,.string a.r.key,.string a.r.val,.int .i64 R.2.kind,.string R.2.text,.int .i64 st],wc,?_,rfl,(aD _ _)⟩⟩⟩;exact xL rfl (by(try simp only[aN,aT,aS,aQ,aH,aG,aF,h5,h7,h8]);rfl) (by(try simp only[aN,aT,aS,aQ,aH,aG,aF,h5,h7,h8]);rfl) (by(try simp only[aN,aT,aS,aQ,aH,aG,aF,h5,h7,h8]);rfl) wc
     ·have h9:(vals 9)= .agg #[.int .i64 c,.int .i64 a.r.k,.string a.r.key,.string a.r.val,.int .i64 R.2.kind,.string R.2.text,.int .i64 st]:=hV (9,80) (by decide);clear hV hnf hi;refine⟨_,rfl,Or.inl ⟨by rfl,Or.inl ⟨.slice (some ⟨wc.heap.size,0,none⟩) 1 1,(wc.alloc (.cells #[.int .i64 c,.int .i64 a.r.k,.string a.r.key,.string a.r.val,.int .i64 R.2.kind,.string R.2.text,.int .i64 st] 70)),?_,⟨_,rfl,RowTo.whole wc _ _⟩,(aD _ _).alloc (aI _) _⟩⟩⟩;exact xM rfl (by(try simp only[aN,aT,aS,aQ,aH,aG,aF,h9]);rfl) wc
     ·exact absurd hi (by simp)
    ·intro i hi vals wc hR hV;obtain rfl:=List.mem_singleton.1 hi
     ·clear hV hi;refine⟨_,.pointer (some ⟨H,0,none⟩),rfl,by rfl,fun w'=>?_,rfl⟩
      (try simp only[aN,aT,aS,aQ,aH,aG,aF])
      go_simp
      try rfl
    ·intro vals wf hR hV;have hS:=True.intro;have f0:(vals 0)= .pointer (some ⟨H,0,none⟩):=hV 0 (by decide) (fun k hk=>by simp at hk);have f4:(vals 4)= .slice Ad m.deeds.length cd:=hV 4 (by decide) (fun k hk=>by simp at hk);have f10: ∃bb,(vals 10)= .slice (some ⟨bb,0,none⟩) 1 1/\RowTo wf bb 70 7 [.int .i64 c,.int .i64 a.r.k,.string a.r.key,.string a.r.val,.int .i64 R.2.kind,.string R.2.text,.int .i64 st]:=hV 10 (by decide) (fun k hk=>by simp at hk);clear hV;obtain⟨bb,e10,hbb⟩:=f10
     (try simp only[aN,aT,aS,aQ,aH,aG,aF,f0,f4,e10])
     obtain⟨bd,od,cd',w8,hrun,u0,uz,hH8,hM8,hB8,hK8⟩:=(H10.out.1.below hR).deedRun (n:=m.deeds.length) rfl (HI.out.deeds HB.out.2) (ad:=bb) ⟨c,a.r,R.2,st⟩ hbb;have hM8':HMem 0 _ base H A S _ _ _ mode ({(m.set c {m.get c with wait:=l.map Ask.req})with e:=R.1,deeds:=m.deeds++[⟨c,a.r,R.2,st⟩]}) (aL q c l) ow:=hM8;have hb8:base<=W10.heap.size:=bL HB.out.1.2.2 H10.out.2.1.size;have hyf:=bD hyl hR.size;have hc8:=(H10.out.2.2.2.1.below hR hyl).same (hK8.2 c1 hyf H10.out.2.2.2.2);have H11:=aA (aJ hM8' (aJ ((H10.out.2.1.trans (hR.mono hb8)).trans hB8) (hc8.oth1 (fun e=>HCA.out.2 e.symm) 7 (.slice (some ⟨bd,od,none⟩) (m.deeds.length+1) cd'))));have hf7:=HF7.out;rw[hf7]at hrun u0;clear hM8 hM8' hB8 hK8 hR hyf hc8 hbb hb8 h7 z0 z1 z2 y0 y1 y2 hHl hZl hyl H10 hf7 HF7;refine cK (i:=11) (fun K hK=>?_)
     (try simp only[aE,aB,aC])
     refine Lib.wp_append_run _ _ _ _ _ rfl _ _ rfl rfl _ _ hrun ?_;have hS2:=True.intro;refine hK.out _ _ hS2 ?_;clear hK K hS;have hS:=hS2;clear hS2
     (try simp only[aE,aB,aC,aQ,aH,aG,aF])
     refine iS (i:=12) [13] (v:=?_) rfl (by kernel_rfl) (by kernel_rfl) (by kernel_rfl) (by kernel_rfl) (fun _ _ _ h=>h) (Or.inl ⟨by rfl,?_⟩) hS ?_;rotate_left
     ·(intro w hSw;(try dsimp only at hSw);(try simp only[aE,aB,aC]);go_simp;try with_reducible rfl)
     (try simp only[aE,aB,aC,aQ,aH,aG,aF])
     refine gQ (i:=13) (v:=?_) ?_ hS ?_;rotate_left
     ·(intro w hSw;(try dsimp only at hSw);(try simp only[aE,aB,aC]);go_simp;try with_reducible rfl)
     (try simp only[aE,aB,aC,aQ,aH,aG,aF])
     refine bY (fun K hK=>?_)
     (try simp only[aE,aB,aC])
     go_simp;refine hK.out _ _ ?_;clear hK K
     (try simp only[aE,aB,aC,aQ,aH,aG,aF])
     clear hrun u0 uz hH8;generalize w8.setCell ⟨H,7,none⟩ (.slice (some ⟨bd,od,none⟩) (m.deeds.length+1) cd')=W11 at*;obtain⟨M4,HM4⟩: ∃x,Hid (Mach.tell (E:=Wd) {(m.set c {m.get c with wait:=l.map Ask.req})with e:=R.1,deeds:=m.deeds++[⟨c,a.r,R.2,st⟩]} c R.2 st=x):=⟨_,aA rfl⟩;have HE:=aA (show m.proc bC mode c=if mode≠1/\st=0 then M4.release bC c ((m.get c).srv.getD 0)else M4 by rw[<-HM4.out];exact HPD.out)
     have HK4 := aA (show M4.busy = m.busy ∧ HRel M4 (aL q c l) ow ∧ M4.cl.length = 6 ∧ (M4.get c).srv = (m.get c).srv by
      rw[<-HM4.out];refine⟨rfl,(HR.out.1.turn (x:={m.get c with wait:=l.map Ask.req}) hc HI.out.n6 rfl HR.out.2.2).same (fun _ _=>rfl) rfl,?_,?_⟩
      ·show(m.cl.set c _).length=6;rw[fI];exact HI.out.n6
      ·show((m.set c {m.get c with wait:=l.map Ask.req}).get c).srv=_
       rw [cZ (by rw [HI.out.n6]; exact hc), if_pos rfl])
     have HTL:=aA (yA1 W11 H11.out.1 (show(m.set c {m.get c with wait:=l.map Ask.req}).sent.length=6 from HI.out.s6) c hc R.2 st HSB.out (HI.out.sent HB.out.2 c));obtain⟨y0,y1,y2⟩:=bA H11.out.2.2;have hyl:=H11.out.2.2.lt;go_wp2_with fail;refine HTL.out.mono ?_;rintro e w9 ⟨⟨f9,g9,G9,rfl,hM9,hB9⟩,hO9⟩;have hM9':HMem 0 w9 base H A S f9 g9 G9 mode (Mach.tell (E:=Wd) {(m.set c {m.get c with wait:=l.map Ask.req})with e:=R.1,deeds:=m.deeds++[⟨c,a.r,R.2,st⟩]} c R.2 st) (aL q c l) ow:=hM9;rw[HM4.out]at hM9';have y9:=(aV (a:=⟨c1,2,none⟩) (hO9.2 c1 hyl HCA.out.1)).trans y2;have hyl9:=bD hyl hO9.1;have m9:=hM9'.h.cell (j:=0) (by omega);rw[hM9'.md]at m9;have hHl:=hM9'.h.lt;have HFF:=aA (aJ hM9' (H11.out.2.1.trans hB9));clear hM9 hM9' hB9 hO9 HTL y0 y1 y2 hyl H11
     by_cases hmo:mode=1
     ·have t1:(mode !=1)=false:=(by simp[hmo]);have HE2:=aA (HE.out.trans (if_neg (fun hh=>hh.1 hmo)));clear hmo HE;go_wp2;go_end0;exact⟨aL q c l,ow,⟨f9,g9,G9,rfl,by rw[HE2.out];exact HFF.out.1,HFF.out.2⟩,by rw[HE2.out];exact HK4.out.2.1⟩
     have t1:(mode !=1)=true:=by simp[hmo]
     by_cases hst0:st=0
     ·have t2:(st==0)=true:=by simp[hst0]
      obtain⟨s,hs⟩: ∃s,(m.get c).srv=some s:=by
       obtain⟨r',l',hw',hsr⟩:=qP HW.out.2.1;rw[HW.out.1]at hw';injection hw' with hw1 hw2;rw[<-hw1,hrf,Bool.or_false]at hsr;exact Option.isSome_iff_exists.1 hsr
      have HE2:=aA (show m.proc bC mode c=M4.release bC c s by rw[HE.out,if_pos ⟨hmo,hst0⟩,hs];rfl);have hs3:s<ow.length:=(by have:=HI.out.srv hs;rw[HR.out.1.own];exact(fN.1 this).1);have hsI:(s:Int)<(ow.length:Int):=(by omega);have ga:=HFF.out.1.a.cell (j:=c*4+2) (by omega);rw[HFF.out.1.srv c hc,HK4.out.2.2.2,hs]at ga;unfold lP at ga;simp only at ga;have h4:w9.cell? ⟨H,4,none⟩=some (.slice (some ⟨A,0,none⟩) 6 6):=(by rw[HFF.out.1.h.cell (by omega),HFF.out.1.f4]);have hAl:=HFF.out.1.a.lt;obtain⟨bo,oo,co,_,hf5,hco,_,_,_,_⟩:=HFF.out.1.setOwn (j:=s) hs3 (-1) (M4.busy.set s false);have h5:=HFF.out.1.h.cell (j:=5) (by omega);rw[hf5]at h5;have HF5:=aA hf5;clear hmo HE hf5 hs;go_wp2_with fail;refine fV 13 [(0,100),(1,101),(2,102),(3,103),(4,104),(5,105),(6,106),(7,107),(8,108),(9,109),(10,110),(11,111),(12,112)] [[],[(0,100)],[(1,101)],[(2,102)],[],[(4,104)],[(5,105)],[(6,106)],[],[(7,107),(8,108)],[(9,109)],[(10,110)],[(3,103),(11,111)]] [.pointer (some ⟨H,0,none⟩),.pointer (some ⟨H,0,none⟩),.pointer (some ⟨H,5,none⟩),.slice (some ⟨bo,oo,none⟩) ow.length co,.pointer (some ⟨H,0,none⟩),.pointer (some ⟨H,0,none⟩),.pointer (some ⟨H,4,none⟩),.slice (some ⟨A,0,none⟩) 6 6,.int .i64 c,.pointer (some ⟨A,c*4,none⟩),.pointer (some ⟨A,c*4+2,none⟩),.int .i64 s,.pointer (some ⟨bo,oo+s,none⟩)] (fun _ w w'=>Below w.heap.size w w') (fun wc=>Below w9.heap.size w9 wc) 1 (by kernel_rfl) (by rfl) (by kernel_rfl) (fun _ _ _ _ _ h=>h) (aD _ _).drew (fun _ _=>aD _ _) (fun k w w' h hb=>bU h hb) ?_ ?_
      ·intro i hi wc hR;have h4':=(hR.cell (p:=⟨H,4,none⟩) hHl).trans h4;have h5':=(hR.cell (p:=⟨H,5,none⟩) hHl).trans h5;have ga':=(hR.cell (p:=⟨A,c*4+2,none⟩) hAl).trans ga;rcases i with _|_|_|_|_|_|_|_|_|_|_|_|_|i
       all_goals (first|contradiction|exact fU|exact absurd hi (by simp))
      ·intro wf hR;have hS:=True.intro
       (try simp only[aN,aT,aS,aQ,aH,aG,aF])
       obtain⟨bo',oo',co',hG',hf',_,⟨yo,hyo⟩,hfo,hbo,hM13⟩:=(HFF.out.1.below hR).setOwn (j:=s) (by exact hs3) (-1) (M4.busy.set s false);obtain⟨rfl,rfl,rfl⟩:bo=bo'/\oo=oo'/\co=co':=(by have e:=HF5.out.symm.trans hf';injection e with e1 e2 e3;injection e1 with e1;injection e1 with e1 e4;exact⟨e1,e4,e3⟩);have hb13:=(HFF.out.2.trans (hR.mono (bL HB.out.1.2.2 HFF.out.2.size))).setCell (p:=⟨bo,oo+s,none⟩) (HFF.out.1.lo 9 bo hG').1 (.int .i64 (-1));have H13:=aA (aJ hM13 hb13);clear hM13 hb13 hR h4 h5 ga hHl hAl hG' hf';refine bY (fun K hK=>?_)
       (try simp only[aE,aB,aC])
       go_simp;refine hK.out _ _ ?_;clear hK K
       (try simp only[aE,aB,aC,aQ,aH,aG,aF])
       clear hyo hfo hbo;obtain⟨W13,HW13⟩: ∃u,Hid (wf.setCell ⟨bo,oo+s,none⟩ (.int .i64 (-1))=u):=⟨_,aA rfl⟩;rw[HW13.out]at H13 ⊢;clear HW13;have h4:W13.cell? ⟨H,4,none⟩=some (.slice (some ⟨A,0,none⟩) 6 6):=(by rw[H13.out.1.h.cell (by omega),H13.out.1.f4]);have ga:=H13.out.1.a.cell (j:=c*4+2) (by omega);have gf:=H13.out.1.a.frozen (c*4+2);have hHl:=H13.out.1.h.lt;have hAl:=H13.out.1.a.lt;go_wp2_with fail;go_end0;have hF:HMem 0 (W13.setCell ⟨A,c*4+2,none⟩ (.int .i64 (-1))) base H A S f9 (aL g9 (c*4+2) (.int .i64 (-1))) G9 mode (M4.release bC c s) (aL q c l) (ow.set s (-1)):=H13.out.1.setSrv hc HK4.out.2.2.1 none;rw[<-HE2.out]at hF;refine⟨aL q c l,ow.set s (-1),⟨f9,_,G9,rfl,hF,H13.out.2.setCell (p:=⟨A,c*4+2,none⟩) HB.out.1.2.1 _⟩,?_⟩
       ·rw[HE2.out];refine(HK4.out.2.1.freed (s:=s) (m':=M4.release bC c s) (fun d hd=>?_) rfl);have hgs:=oX (m:=M4) (c:=c) (d:=d) (x:={M4.get c with srv:=none}) (by rw[HK4.out.2.2.1];exact hc);show((M4.cl.set c {M4.get c with srv:=none}).getD d Cl.new).wait=_;rw[hgs]
        split
        ·rename_i e;rw[e]
        ·rfl
     ·have t2:(st==0)=false:=(by simp[hst0]);have HE2:=aA (HE.out.trans (if_neg (fun hh=>hst0 hh.2)));clear hmo hst0 HE;go_wp2;go_end0;exact⟨aL q c l,ow,⟨f9,g9,G9,rfl,by rw[HE2.out];exact HFF.out.1,HFF.out.2⟩,by rw[HE2.out];exact HK4.out.2.1⟩
end
theorem bAk (v:Value)(g:Option Nat)(l:List Nat)(x:Nat)(w:World)(hl:Sl w 3 1 v g l.length (l.map iY))(hby:l.length<=1000000):
  Calls Tryz.prog 54 #[v,.int .i64 (x:Int)] w fun e w'=>e= .returned (.bool (l.contains x))/\w'=w:=by
 obtain⟨A,c,rfl,hc⟩:=hl.shape;have HL:=aA hl;clear hl;go_enter Tryz.func54,Tryz.ntmps54;go_wp2
 go_loopw [5] (fun i wr=> ∃k:Nat,k<=l.length/\i= .int .i64 k/\Hid ((l.take k).contains x=false)/\wr=w) (fun i _=>l.length-(intOf i).toNat)
 case atStart=>exact⟨0,by omega,rfl,rfl,rfl⟩
 case round=>
  obtain⟨k,hk,rfl,HZ,rfl⟩:=hrel
  by_cases hlt:k<l.length
  ·obtain⟨b,off,cap,hg,hv,_,hcs⟩:=HL.out.at (by omega);injection hv with hv e2 e3;subst hv;have c0:=hcs k (by simpa using hlt);rw[List.getElem_map]at c0;unfold iY at c0
   have HS1 := aA (show (l.take (k + 1)).contains x = (x == l[k]) by
    rw[gO hlt,List.contains_append,HZ.out];simp
    rfl)
   have HAN:=aA (fun(h:x=l[k])=>show l.contains x=true from by rw[h];exact List.contains_iff_mem.2 (List.getElem_mem hlt));generalize l[k]=y at*
   by_cases hq:x=y
   ·have HT:=aA (HAN.out hq);have t1:((y:Int)==(x:Int))=true:=(by simp[hq]);clear hq HAN HS1 hcs hg e2 e3;go_wp2;go_ret;exact⟨by rw[HT.out];rfl,rfl⟩
   ·have t1:((y:Int)==(x:Int))=false:=(by simp;omega);have HF:=aA (show(l.take (k+1)).contains x=false by rw[HS1.out];simp[hq]);clear hq HAN HS1 hcs hg e2 e3;go_wp2;go_roundw
    case rel=>exact⟨k+1,by omega,by go_num,HF.out,by trivial⟩
    case measure=>simp[intOf];omega
  ·obtain rfl:k=l.length:=by omega
   rw[List.take_length]at HZ;go_wp2;go_ret;exact⟨by rw[HZ.out];rfl,rfl⟩
end Go.Proofs.YtpbaobmegomfpabGreatDoor

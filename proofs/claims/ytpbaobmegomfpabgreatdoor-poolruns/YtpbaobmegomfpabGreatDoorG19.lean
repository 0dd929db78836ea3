/-
  Texts of the proof.
-/
import Derived.Test.YtpbaobmegomfpabGreatDoorG18
import Derived.StillTailTactics
set_option linter.unusedVariables false
set_option linter.unusedSimpArgs false
set_option maxRecDepth 100000
set_option maxHeartbeats 16000000
open List renaming getD_eq_getElem?_getD→eU,take_succ_eq_append_getElem→gO,length_append→eN,length_map→dR,mem_cons_self→gJ,length_set→fI,length_cons→fC,length_take→gK,mem_cons_of_mem→iZ
open Nat renaming le_refl→aI,lt_of_lt_of_le→bD,zero_add→cW
open Go.Lib renaming hid→aA
open Go.RowKit.Below renaming refl→aD,heap_setCell→bF
open Go.World renaming cell?_of_block→aV,frozen?_of_block→iR
open And renaming intro→aJ
open Bool renaming and_eq_true→eB
open Go renaming bodyPost_ret→bE,below_drewN→aZ
namespace Go.Proofs.YtpbaobmegomfpabGreatDoor
open Go.RowKit
theorem yB {c:Nat}(hc:c<6):hT (c+3)=100:=by unfold hT;rw[if_pos (by omega)]
theorem yC {c:Nat}(hc:c<6):hZ (c+3)=4:=by unfold hZ;rw[if_pos (by omega)]
theorem uH (f g:Nat->Value){c:Nat}(hc:c<6):hV f g (c+3)=g (c*4+1):=by unfold hV;rw[if_pos (by omega),Nat.add_sub_cancel]
theorem uI (m:Mach Wd)(q:Nat->List Ask)(ow:List Int){c:Nat}(hc:c<6):hI m q ow (c+3)=(q c).map fT:=by unfold hI;rw[if_pos (by omega),Nat.add_sub_cancel]
theorem yD (m:Mach Wd)(q:Nat->List Ask)(ow:List Int):hI m q ow 9=ow.map (fun n=>[.int .i64 n]):=by unfold hI;rw[if_neg (by omega),if_pos rfl]
theorem uJ (m:Mach Wd)(q:Nat->List Ask)(ow:List Int):hI m q ow 10=m.line.map (fun(n:Nat)=>[Value.int .i64 (n:Int)]):=by unfold hI;rw[if_neg (by omega),if_neg (by omega),if_pos rfl]
theorem yA4 (m:Mach Wd)(q:Nat->List Ask)(ow:List Int):hI m q ow 11=m.deeds.map gW:=by unfold hI;rw[if_neg (by omega),if_neg (by omega),if_neg (by omega)]
theorem yE {m m':Mach Wd}{q q':Nat->List Ask}{ow:List Int}{c:Nat}(hl:m'.line=m.line)(hd:m'.deeds=m.deeds)(hq: ∀d,d≠c->q' d=q d)(k:Nat)(h3:3<=k)(h:k≠c+3):hI m' q' ow k=hI m q ow k:=by
 unfold hI;rw[hq (k-3) (by omega),hl,hd]
theorem yF (l:List Int):(l.map (fun n=>[Value.int .i64 n])).flatten=l.map (fun n=>Value.int .i64 n):=by
 induction l with
 |nil=>rfl
 |cons a l ih=>simp[ih]
section
variable {w:World}{base H A S:Nat}{f g:Nat->Value}{G:Nat->Option Nat}{mode:Int}{m:Mach Wd}{q:Nat->List Ask}{ow:List Int}
theorem HMem.waitSl (h:HMem 0 w base H A S f g G mode m q ow){c:Nat}(hc:c<6):Sl w 100 4 (g (c*4+1)) (G (c+3)) (q c).length ((q c).map fT).flatten:=by
 have:=h.sl (c+3) (by omega) (by omega) (by omega);rw[yB hc,yC hc,uH f g hc,uI m q ow hc,dR]at this;exact this
theorem HMem.ownSl (h:HMem 0 w base H A S f g G mode m q ow):Sl w 3 1 (f 5) (G 9) ow.length (ow.map fun n=> .int .i64 n):=by
 have:=h.sl 9 (by omega) (by omega) (by omega);rw[yD,yF,dR]at this;exact this
theorem uK (l:List Nat):(l.map (fun(n:Nat)=>[Value.int .i64 (n:Int)])).flatten=l.map (fun(n:Nat)=>Value.int .i64 (n:Int)):=by
 induction l with
 |nil=>rfl
 |cons a l ih=>simp[ih]
theorem HMem.lineSl (h:HMem 0 w base H A S f g G mode m q ow):Sl w 3 1 (f 6) (G 10) m.line.length (m.line.map fun(n:Nat)=>Value.int .i64 (n:Int)):=by
 have:=h.sl 10 (by omega) (by omega) (by omega);rw[uJ,uK,dR]at this;exact this
theorem HMem.deedSl (h:HMem 0 w base H A S f g G mode m q ow):Sl w 70 7 (f 7) (G 11) m.deeds.length (m.deeds.map gW).flatten:=by
 have:=h.sl 11 (by omega) (by omega) (by omega);rw[yA4,dR]at this;exact this
theorem HMem.cut (h:HMem 0 w base H A S f g G mode m q ow){c:Nat}(hc:c<6)(hcl:m.cl.length=6){a:Ask}{l:List Ask}(hq:q c=a::l){b off cap:Nat}(hv:g (c*4+1)= .slice (some ⟨b,off,none⟩) (l.length+1) cap)(rest:List Req):
  HMem 0 (w.setCell ⟨A,c*4+1,none⟩ (fH b off 4 l.length cap)) base H A S f (aL g (c*4+1) (fH b off 4 l.length cap)) G mode (m.set c {m.get c with wait:=rest}) (aL q c l) ow:=by
 have hsl:=h.waitSl hc;rw[hv,hq]at hsl;have hcut:=Sl.cut hsl;have hcl':c<m.cl.length:=by omega
 have ed:((fT a::l.map fT).flatten).drop 4=(l.map fT).flatten:=rfl;rw[List.map_cons,ed]at hcut
 have h1:=(h.but (c+3)).cellA (m':=m.set c {m.get c with wait:=rest}) (q':=aL q c l) (ow':=ow) (c*4+1) (fH b off 4 l.length cap) (fun k _ _ _=>by omega) rfl (fun k h1 _ h3=>yE rfl rfl (fun d hd=>by unfold aL;rw[if_neg hd]) k h1 h3)
  (fun d hd=>by rw[aP (by omega),cZ hcl'];split<;>(first|(subst_vars;exact h.bytes _ hd)|exact h.bytes d hd)) (fun d hd=>by rw[aP (by omega),cZ hcl'];split<;>(first|(subst_vars;exact h.srv _ hd)|exact h.srv d hd)) (fun d hd=>by rw[aP (by omega)];exact h.sent d hd)
 refine h1.fill ?_ (fun _ _ _ _=>rfl) rfl (fun _ _=>rfl) (fun _ _=>rfl) (fun _ _=>rfl);rw[yB hc,yC hc,uH _ _ hc,uI _ _ _ hc,dQ,dR];have e:aL q c l c=l:=by unfold aL;rw[if_pos rfl]
 rw[e];exact hcut.keep fun x hx=>cM w A (c*4+1) _ x (h.ne hx h.g1 (by omega))
theorem HMem.pushed {w1:World}{b off cap:Nat}(h:HMem 0 w base H A S f g G mode m q ow){c:Nat}(hc:c<6)(hcl:m.cl.length=6)(a:Ask)(wt:List Req)(hg:w.grownBy w1 (G (c+3)))
  (hs:Sl w1 100 4 (.slice (some ⟨b,off,none⟩) ((q c).length+1) cap) (some b) ((q c).length+1) (((q c).map fT).flatten++fT a)) (hb:G (c+3)=some b\/(w.heap.size<=b/\b<w1.heap.size)):
  HMem 0 (w1.setCell ⟨A,c*4+1,none⟩ (.slice (some ⟨b,off,none⟩) ((q c).length+1) cap)) base H A S f (aL g (c*4+1) (.slice (some ⟨b,off,none⟩) ((q c).length+1) cap)) (aL G (c+3) (some b)) mode (m.set c {m.get c with wait:=wt}) (aL q c (q c++[a])) ow:=by
 have hcl':c<m.cl.length:=by omega
 have h0:=(h.but (c+3)).grown (by omega) h.bH.2.2 hg hb
 have h1:=h0.cellA (m':=m.set c {m.get c with wait:=wt}) (q':=aL q c (q c++[a])) (ow':=ow) (c*4+1) (.slice (some ⟨b,off,none⟩) ((q c).length+1) cap) (fun k _ _ _=>by omega) rfl (fun k h1 _ h3=>yE rfl rfl (fun d hd=>by unfold aL;rw[if_neg hd]) k h1 h3)
  (fun d hd=>by rw[aP (by omega),cZ hcl'];split<;>(first|(subst_vars;exact h.bytes _ hd)|exact h.bytes d hd)) (fun d hd=>by rw[aP (by omega),cZ hcl'];split<;>(first|(subst_vars;exact h.srv _ hd)|exact h.srv d hd)) (fun d hd=>by rw[aP (by omega)];exact h.sent d hd)
 refine h1.fill ?_ (fun _ _ _ _=>rfl) rfl (fun _ _=>rfl) (fun _ _=>rfl) (fun _ _=>rfl);rw[yB hc,yC hc,uH _ _ hc,uI _ _ _ hc,dQ,dR];have e:aL q c (q c++[a]) c=q c++[a]:=by unfold aL;rw[if_pos rfl]
 have e2:aL G (c+3) (some b) (c+3)=some b:=by unfold aL;rw[if_pos rfl]
 rw[e,e2,eN,List.map_append,List.flatten_append];refine(by simpa using hs:Sl w1 _ 4 _ (some b) ((q c).length+1) _).keep fun x hx=>cM w1 A (c*4+1) _ x (h0.ne (i:=c+3) (by rw[e2,hx]) h0.g1 (by omega))
theorem HMem.deeded {w1:World}{b off cap:Nat}(h:HMem 0 w base H A S f g G mode m q ow)(d:iD)(hg:w.grownBy w1 (G 11))
  (hs:Sl w1 70 7 (.slice (some ⟨b,off,none⟩) (m.deeds.length+1) cap) (some b) (m.deeds.length+1) ((m.deeds.map gW).flatten++gW d)) (hb:G 11=some b\/(w.heap.size<=b/\b<w1.heap.size)):
  HMem 0 (w1.setCell ⟨H,7,none⟩ (.slice (some ⟨b,off,none⟩) (m.deeds.length+1) cap)) base H A S (aL f 7 (.slice (some ⟨b,off,none⟩) (m.deeds.length+1) cap)) g (aL G 11 (some b)) mode {m with deeds:=m.deeds++[d]} q ow:=by
 have h0:=(h.but 11).grown (by omega) h.bH.2.2 hg hb;have h1:=h0.cellH (by omega) (by omega) (.slice (some ⟨b,off,none⟩) (m.deeds.length+1) cap);refine h1.fill ?_ (fun k _ h2 h3=>?_) rfl (fun _ _=>rfl) (fun _ _=>rfl) (fun _ _=>rfl)
 ·have e2:aL G 11 (some b) 11=some b:=by unfold aL;rw[if_pos rfl]
  have e3:hV (aL f 7 (.slice (some ⟨b,off,none⟩) (m.deeds.length+1) cap)) g 11= .slice (some ⟨b,off,none⟩) (m.deeds.length+1) cap:=by unfold hV;rw[if_neg (by omega)];exact dQ
  rw[show hT 11=70 from rfl,show hZ 11=7 from rfl,yA4,e2,e3,dR,eN,List.map_append,List.flatten_append];refine(by simpa using hs:Sl w1 _ 7 _ (some b) (m.deeds.length+1) _).keep fun x hx=>cM w1 H 7 _ x (h0.ne (i:=11) (by rw[e2,hx]) h0.g0 (by omega))
 ·unfold hI
  split
  ·rfl
  ·split
   ·rfl
   ·rw[if_pos (by omega),if_pos (by omega)]
theorem HMem.setOwn (h:HMem 0 w base H A S f g G mode m q ow){j:Nat}(hj:j<ow.length)(x:Int)(bs:List Bool): ∃b off cap,G 9=some b/\f 5= .slice (some ⟨b,off,none⟩) ow.length cap/\ow.length<=cap/\(∃y,w.cell? ⟨b,off+j,none⟩=some y)/\w.frozen? ⟨b,off+j,none⟩=false/\b<w.heap.size/\
  HMem 0 (w.setCell ⟨b,off+j,none⟩ (.int .i64 x)) base H A S f g G mode {m with busy:=bs} q (ow.set j x):=by
 obtain⟨b,off,cap,h1,h2,h3,h4,h5,h6⟩:=h.ownSl.set1 hj (.int .i64 x);refine⟨b,off,cap,h1,h2,h3,h4,h5,(h.lo 9 b h1).2,?_⟩;have hk:=(h.but 9).keep (w':=w.setCell ⟨b,off+j,none⟩ (.int .i64 x)) (by omega) (by rw[cT];exact aI _) (fun b' _ hne=>bF _ _ _ _ (fun e=>hne (by rw[h1,e])));refine hk.fill ?_ (fun k _ h2 h3=>?_) rfl (fun _ _=>rfl) (fun _ _=>rfl) (fun _ _=>rfl)
 ·rw[yD,yF,dR,fI,List.map_set];exact h6
 ·unfold hI
  split
  ·rfl
  ·rfl
theorem HMem.setSrv (h:HMem 0 w base H A S f g G mode m q ow){c:Nat}(hc:c<6)(hcl:m.cl.length=6)(s:Option Nat):
  HMem 0 (w.setCell ⟨A,c*4+2,none⟩ (.int .i64 (lP s))) base H A S f (aL g (c*4+2) (.int .i64 (lP s))) G mode (m.set c {m.get c with srv:=s}) q ow:=by
 have hcl':c<m.cl.length:=by omega
 refine h.cellA _ _ (fun k _ _ _=>by omega) rfl (fun _ _ _ _=>rfl) (fun d hd=>?_) (fun d hd=>?_) (fun d hd=>by rw[aP (by omega)];exact h.sent d hd)
 ·rw[aP (by omega),cZ hcl']
  split
  ·rename_i e;subst e;exact h.bytes c hd
  ·exact h.bytes d hd
 ·rw[cZ hcl']
  by_cases e:c=d
  ·subst e;rw[dQ,if_pos rfl]
  ·rw[aP (by omega),if_neg e];exact h.srv d hd
end
def HInv (mode:Int)(m:Mach Wd)(N:Nat):Prop:= ∃P,Inv mode P N/\Alike P m
section
variable {mode:Int}{m m':Mach Wd}{N:Nat}{q:Nat->List Ask}{ow:List Int}
theorem HInv.w (h:HInv mode m N):bX m.e:=by obtain⟨P,_,a⟩:=h;exact a.okH
theorem HInv.h6 (h:HInv mode m N):m.e.ss.length=6:=by obtain⟨P,_,a⟩:=h;exact a.hlen
theorem HInv.n6 (h:HInv mode m N):m.cl.length=6:=by obtain⟨P,i,a⟩:=h;rw[<-a.cl];exact i.ok.n6
theorem HInv.s6 (h:HInv mode m N):m.sent.length=6:=by obtain⟨P,i,a⟩:=h;rw[<-a.sent];exact i.ok.s6
theorem HInv.sent (h:HInv mode m N)(hN:N<=300000)(c:Nat):(m.sent.getD c ⟨#[]⟩).size<=100000000:=by obtain⟨P,i,a⟩:=h;rw[<-a.sent];exact i.sent hN c
theorem HInv.deeds (h:HInv mode m N)(hN:N<=300000):m.deeds.length<=300000:=by obtain⟨P,i,a⟩:=h;rw[<-a.deeds];exact i.deeds hN
theorem HInv.waits (h:HInv mode m N)(hN:N<=300000)(c:Nat):(m.get c).wait.length<=300000/\(m.get c).bytes.size<=300000:=by obtain⟨P,i,a⟩:=h;rw[a.get c];exact i.waits hN c
theorem HInv.line (h:HInv mode m N):m.line.length<=6:=by obtain⟨P,i,a⟩:=h;rw[<-a.line];exact i.line
theorem HInv.srv (h:HInv mode m N){c s:Nat}(hs:(m.get c).srv=some s):m.busy[s]? =some true:=by obtain⟨P,i,a⟩:=h;rw[<-a.busy];rw[a.get c]at hs;exact i.ok.srv c s hs
theorem HInv.state (h:HInv mode m N){c:Nat}(hc:c<6):0<=(m.e.at c).st/\(m.e.at c).st<=2:=by
 have:=kO h.w (i:=c) (by rw[h.h6];exact hc);exact⟨this.lo,this.hi⟩
theorem HInv.req (h:HInv mode m N){c:Nat}{r:Req}{l:List Req}(hw:(m.get c).wait=r::l)(hf:eJ mode r=false):r.ok:=by
 obtain⟨P,i,a⟩:=h;rw[a.get c]at hw;exact i.req hw hf
theorem HInv.proc (h:HInv mode m N){c:Nat}(hc:c<6)(hr:dD mode (m.get c)=true):HInv mode (m.proc bC mode c) N:=by
 obtain⟨P,i,a⟩:=h;rw[a.get c]at hr;exact⟨_,i.proc hc hr,a.proc i.ok hc hr⟩
theorem HInv.enq (h:HInv mode m N)(hr:m.firstR mode=none):HInv mode m.enq N:=by
 obtain⟨P,i,a⟩:=h;rw[a.first]at hr;exact⟨_,i.enq hr,a.enq⟩
theorem HInv.assign (h:HInv mode m N):HInv mode (m.assign bC).2 N:=by
 obtain⟨P,i,a⟩:=h;exact⟨_,i.assign,(a.assign i.ok).2⟩
theorem HInv.step (h:HInv mode m N):HInv mode (m.step bC mode).2 N:=by
 obtain⟨P,i,a⟩:=h;exact⟨_,i.step,(a.step i.ok).2⟩
theorem HInv.all (h:HInv mode m N):HInv mode (m.all bC mode) N:=by
 obtain⟨P,i,a⟩:=h;exact⟨_,i.all,a.all i.ok⟩
theorem HInv.leave (h:HInv mode m N){c:Nat}(hc:c<6):HInv mode (m.leave bC c) N:=by
 obtain⟨P,i,a⟩:=h;exact⟨_,i.leave hc,a.leave i.ok hc⟩
theorem yA5 {c:Nat}{r:Req}{rest:List Req}(hw:(m.get c).wait=r::rest)(hr:eJ mode r=true):m.proc bC mode c=(m.set c {m.get c with wait:=rest}).tell c ⟨4,fG mode r⟩ (m.e.at c).st:=by
 unfold Mach.proc;rw[hw];simp only;rw[if_pos hr];rfl
theorem cAf {c:Nat}{r:Req}{rest:List Req}(hw:(m.get c).wait=r::rest)(hr:eJ mode r=false){R:Wd×cU}(hR:doM m.e c r.k r.key r.val=R){st:Int}(hst:(R.1.at c).st=st):
  m.proc bC mode c=(if mode≠1/\st=0 then Mach.release bC (Mach.tell {m.set c {m.get c with wait:=rest}with e:=R.1,deeds:=m.deeds++[⟨c,r,R.2,st⟩]} c R.2 st) c ((m.get c).srv.getD 0)else Mach.tell {m.set c {m.get c with wait:=rest}with e:=R.1,deeds:=m.deeds++[⟨c,r,R.2,st⟩]} c R.2 st):=by
 subst hR hst;unfold Mach.proc;rw[hw];simp only;rw[if_neg (by rw[hr];simp)];rfl
theorem HRel.same (h:HRel m q ow)(h1: ∀c,c<6->(m'.get c).wait=(m.get c).wait)(h2:m'.busy=m.busy):HRel m' q ow:=⟨fun c hc=>by rw[h1 c hc];exact h.wait c hc,h.good,by rw[h2];exact h.own,by rw[h2];exact h.free⟩
theorem HRel.turn (h:HRel m q ow){c:Nat}(hc:c<6)(hcl:m.cl.length=6){l:List Ask}{x:Cl}(hx:x.wait=l.map Ask.req)(hg: ∀a∈l,a.ok=true->a.r.ok):HRel (m.set c x) (aL q c l) ow:=by
 have hcl':c<m.cl.length:=by omega
 refine⟨fun d hd=>?_,fun d hd a ha=>?_,h.own,h.free⟩
 ·rw[cZ hcl'];unfold aL
  by_cases e:c=d
  ·subst e;rw[if_pos rfl,if_pos rfl];exact hx
  ·rw[if_neg e,if_neg (fun e'=>e e'.symm)];exact h.wait d hd
 ·unfold aL at ha
  split at ha
  ·exact hg a ha
  ·exact h.good d hd a ha
theorem HRel.freed (h:HRel m q ow){s:Nat}(h1: ∀c,c<6->(m'.get c).wait=(m.get c).wait)(h2:m'.busy=m.busy.set s false):HRel m' q (ow.set s (-1)):=by
 refine⟨fun c hc=>by rw[h1 c hc];exact h.wait c hc,h.good,by rw[h2,fI,fI];exact h.own,fun k hk=>?_⟩;rw[fI]at hk;have hkb:k<m.busy.length:=by rw[<-h.own];exact hk
 rw[h2,List.getElem_set,List.getElem?_set]
 by_cases e:s=k
 ·subst e;simp[hkb]
 ·rw[if_neg e,if_neg e];exact h.free k hk
theorem HRel.taken (h:HRel m q ow){s c:Nat}(h1: ∀c,c<6->(m'.get c).wait=(m.get c).wait)(h2:m'.busy=m.busy.set s true):HRel m' q (ow.set s (c:Int)):=by
 refine⟨fun c hc=>by rw[h1 c hc];exact h.wait c hc,h.good,by rw[h2,fI,fI];exact h.own,fun k hk=>?_⟩;rw[fI]at hk;have hkb:k<m.busy.length:=by rw[<-h.own];exact hk
 rw[h2,List.getElem_set,List.getElem?_set]
 by_cases e:s=k
 ·subst e;simp[hkb]
 ·rw[if_neg e,if_neg e];exact h.free k hk
end
section
variable {E:Type}{o:mF E}{mode:Int}{m:Mach E}{c:Nat}
def Mach.setB (m:Mach E)(c:Nat)(b:ByteArray):Mach E:=m.set c {m.get c with bytes:=b}
theorem cAg (c:Nat)(b:ByteArray):(m.setB c b).cl.length=m.cl.length:=by unfold Mach.setB Mach.set;simp
theorem oE (hc:c<m.cl.length)(b:ByteArray)(d:Nat):(m.setB c b).get d=if c=d then{m.get c with bytes:=b}else m.get d:=cZ hc
theorem uL (hc:c<m.cl.length)(b:ByteArray)(d:Nat):((m.setB c b).get d).wait=(m.get d).wait:=by
 rw[oE hc]
 split
 ·rename_i e;subst e;rfl
 ·rfl
theorem uM (hc:c<m.cl.length)(b:ByteArray)(d:Nat):((m.setB c b).get d).srv=(m.get d).srv:=by
 rw[oE hc]
 split
 ·rename_i e;subst e;rfl
 ·rfl
theorem yG (hc:c<m.cl.length)(b:ByteArray)(d:Nat)(F:Cl->Cl)(hF: ∀x b,F {x with bytes:=b}={F x with bytes:=b}):
  (m.setB c b).set d (F ((m.setB c b).get d))=(m.set d (F (m.get d))).setB c b:=by
 rw[oE hc]
 by_cases e:c=d
 ·subst e;rw[if_pos rfl,hF];unfold Mach.setB;rw[cZ hc,if_pos rfl];unfold Mach.set;simp
 ·rw[if_neg e];unfold Mach.setB
  have hg:(m.set d (F (m.get d))).get c=m.get c:=by
   show(m.cl.set d _).getD c Cl.new=m.cl.getD c Cl.new;rw[eU,eU,List.getElem?_set_ne (fun h=>e h.symm)]
  rw[hg];unfold Mach.set;simp only;rw[List.set_comm _ _ e]
theorem cAh (hc:c<m.cl.length)(b:ByteArray)(d s:Nat):(m.setB c b).release o d s=(m.release o d s).setB c b:=by
 have h:=congrArg Mach.cl (yG hc b d (fun x=>{x with srv:=none}) (fun _ _=>rfl));exact congrArg (fun l=>(⟨o.free m.e d s,l,m.busy.set s false,m.line,m.sent,m.deeds⟩:Mach E)) h
theorem cAi (hc:c<m.cl.length)(b:ByteArray)(d:Nat):(m.setB c b).proc o mode d=(m.proc o mode d).setB c b:=by
 unfold Mach.proc;rw[uL hc,uM hc]
 cases hl:(m.get d).wait with
 |nil=>rfl
 |cons r rest=>
  simp only;have h:=congrArg Mach.cl (yG hc b d (fun x=>{x with wait:=rest}) (fun _ _=>rfl))
  split
  ·exact congrArg (fun l=>(⟨m.e,l,m.busy,m.line,m.sent.set d (m.sent.getD d ⟨#[]⟩++eZ ⟨4,fG mode r⟩ (o.state m.e d (m.get d).srv)),m.deeds⟩:Mach E)) h
  ·have h2:Mach.tell {(m.setB c b).set d {(m.setB c b).get d with wait:=rest}with e:=(o.exec m.e d ((m.get d).srv.getD 0) r).1,deeds:=m.deeds++[⟨d,r,(o.exec m.e d ((m.get d).srv.getD 0) r).2.1,(o.exec m.e d ((m.get d).srv.getD 0) r).2.2⟩]} d (o.exec m.e d ((m.get d).srv.getD 0) r).2.1 (o.exec m.e d ((m.get d).srv.getD 0) r).2.2=
     (Mach.tell {m.set d {m.get d with wait:=rest}with e:=(o.exec m.e d ((m.get d).srv.getD 0) r).1,deeds:=m.deeds++[⟨d,r,(o.exec m.e d ((m.get d).srv.getD 0) r).2.1,(o.exec m.e d ((m.get d).srv.getD 0) r).2.2⟩]} d (o.exec m.e d ((m.get d).srv.getD 0) r).2.1 (o.exec m.e d ((m.get d).srv.getD 0) r).2.2).setB c b:=
    congrArg (fun l=>(⟨(o.exec m.e d ((m.get d).srv.getD 0) r).1,l,m.busy,m.line,m.sent.set d (m.sent.getD d ⟨#[]⟩++eZ (o.exec m.e d ((m.get d).srv.getD 0) r).2.1 (o.exec m.e d ((m.get d).srv.getD 0) r).2.2),m.deeds++[(⟨d,r,(o.exec m.e d ((m.get d).srv.getD 0) r).2.1,(o.exec m.e d ((m.get d).srv.getD 0) r).2.2⟩:iD)]⟩:Mach E)) h
   show(if mode≠1/\(o.exec m.e d ((m.get d).srv.getD 0) r).2.2=0 then Mach.release o (Mach.tell {(m.setB c b).set d {(m.setB c b).get d with wait:=rest}with e:=(o.exec m.e d ((m.get d).srv.getD 0) r).1,deeds:=m.deeds++[⟨d,r,(o.exec m.e d ((m.get d).srv.getD 0) r).2.1,(o.exec m.e d ((m.get d).srv.getD 0) r).2.2⟩]} d (o.exec m.e d ((m.get d).srv.getD 0) r).2.1 (o.exec m.e d ((m.get d).srv.getD 0) r).2.2) d ((m.get d).srv.getD 0)else Mach.tell {(m.setB c b).set d {(m.setB c b).get d with wait:=rest}with e:=(o.exec m.e d ((m.get d).srv.getD 0) r).1,deeds:=m.deeds++[⟨d,r,(o.exec m.e d ((m.get d).srv.getD 0) r).2.1,(o.exec m.e d ((m.get d).srv.getD 0) r).2.2⟩]} d (o.exec m.e d ((m.get d).srv.getD 0) r).2.1 (o.exec m.e d ((m.get d).srv.getD 0) r).2.2)=_;rw[h2]
   split
   ·refine cAh ?_ b d _;show c<(m.cl.set d _).length
    simpa using hc
   ·rfl
theorem cAj (hc:c<m.cl.length)(b:ByteArray):(m.setB c b).enq=m.enq.setB c b:=by
 have h:fQ (m.setB c b)=fQ m:=by
  funext l d
  unfold fQ;rw[uL hc]
 unfold Mach.enq;rw[h];rfl
theorem cAk (hc:c<m.cl.length)(b:ByteArray):(m.setB c b).assign o=((m.assign o).1,(m.assign o).2.setB c b):=by
 unfold Mach.assign;rw[show(m.setB c b).line=m.line from rfl,show(m.setB c b).busy=m.busy from rfl,show(m.setB c b).e=m.e from rfl]
 cases m.line with
 |nil=>rfl
 |cons x l=>
  simp only
  split
  ·have h:=congrArg Mach.cl (yG hc b x (fun y=>{y with srv:=some (m.busy.idxOf false)}) (fun _ _=>rfl));exact congrArg (fun k=>(true,(⟨o.grant m.e x (m.busy.idxOf false),k,m.busy.set (m.busy.idxOf false) true,l,m.sent,m.deeds⟩:Mach E))) h
  ·rfl
theorem cAm (hc:c<m.cl.length)(b:ByteArray):(m.setB c b).firstR mode=m.firstR mode:=by
 unfold Mach.firstR
 congr 1
 funext d
 unfold dD;rw[uL hc,uM hc]
theorem cAn (hc:c<m.cl.length)(b:ByteArray):(m.setB c b).step o mode=((m.step o mode).1,(m.step o mode).2.setB c b):=by
 unfold Mach.step;rw[cAm hc]
 cases m.firstR mode with
 |some d=>simp only[cAi hc]
 |none=>simp only;rw[cAj hc,cAk (m:=m.enq) hc]
theorem yH:(m.step o mode).2.cl.length=m.cl.length:=by
 unfold Mach.step
 split
 ·unfold Mach.proc
  split
  ·rfl
  ·split
   ·simp[Mach.tell,Mach.set]
   ·simp only;split<;>simp[Mach.tell,Mach.set,Mach.release]
 ·unfold Mach.assign
  split
  ·rfl
  ·split<;>simp[Mach.enq]
theorem yA6: ∀(n:Nat) (m:Mach E),(m.iter o mode n).cl.length=m.cl.length
 |0,m=>rfl
 |n+1,m=>by
  unfold Mach.iter
  split
  ·rw[yA6 n,yH]
  ·exact yH
theorem yA7 (b:ByteArray): ∀(n:Nat) (m:Mach E),c<m.cl.length->(m.setB c b).iter o mode n=(m.iter o mode n).setB c b
 |0,m,_=>rfl
 |n+1,m,hc=>by
  unfold Mach.iter;rw[cAn hc];simp only
  split
  ·exact yA7 b n _ (by rw[yH];exact hc)
  ·rfl
theorem yA8 {β:Type}(hc:c<m.cl.length)(b:ByteArray)(f:Cl->β)(hf: ∀x b,f {x with bytes:=b}=f x):(m.setB c b).cl.map f=m.cl.map f:=by
 show(m.cl.set c _).map f=_;rw[List.map_set,hf,nX hc];have:f m.cl[c]=(m.cl.map f)[c]'(by simpa using hc):=by simp
 rw[this,List.set_getElem_self]
theorem cAo (hc:c<m.cl.length)(b:ByteArray):(m.setB c b).mu=m.mu:=by
 unfold Mach.mu waits bare;rw[yA8 hc b (fun x=>x.wait.length) (fun _ _=>rfl)];have h: ∀l:List Cl,l.countP (fun x=>x.srv.isNone)=(l.map fun x=>x.srv.isNone).countP id:=fun l=>by rw[List.countP_map];rfl
 rw[h,h,yA8 hc b (fun x=>x.srv.isNone) (fun _ _=>rfl)]
theorem cAp (hc:c<m.cl.length)(b:ByteArray):(m.setB c b).leave o c=m.leave o c:=by
 unfold Mach.leave;rw[uM hc];unfold Mach.setB Mach.set;simp
theorem cAq (hc:c<m.cl.length)(b:ByteArray):((m.setB c b).all o mode).leave o c=(m.all o mode).leave o c:=by
 unfold Mach.all;rw[cAo hc,yA7 b _ _ hc];exact cAp (by rw[yA6];exact hc) b
theorem cAr {n:Nat}(hp:pull (m.get c).bytes=none):m.feed o mode (n+1) c=m:=by rw[Mach.feed,hp]
theorem cAs {n:Nat}{t:ByteArray}{j:Nat}(hp:pull (m.get c).bytes=some (88,t,j)):m.feed o mode (n+1) c=(m.all o mode).leave o c:=by
 rw[Mach.feed,hp];simp only;rw[if_pos trivial]
theorem cAt {n:Nat}{k:UInt8}{t:ByteArray}{j:Nat}(hp:pull (m.get c).bytes=some (k,t,j))(hk:k≠88):m.feed o mode (n+1) c=(m.set c {m.get c with bytes:=(m.get c).bytes.extract j (m.get c).bytes.size,wait:=(m.get c).wait++[fK k t]}).feed o mode n c:=by
 rw[Mach.feed,hp];simp only;rw[if_neg hk]
theorem cAu {l:List Act}{k:Nat}(hk:k<l.length):m.run o mode (l.take (k+1))=(m.run o mode (l.take k)).act o mode l[k]:=by
 unfold Mach.run;rw[gO hk,List.foldl_append];rfl
end
section
variable {mode:Int}{m:Mach Wd}{N M:Nat}{c:Nat}
theorem HInv.start {n:Nat}(hn:n<=8):HInv mode (Mach.start jO n) 0:=⟨_,Inv.start hn,xB hn⟩
theorem HInv.mono (h:HInv mode m N)(hN:N<=M):HInv mode m M:=by obtain⟨P,i,a⟩:=h;exact⟨P,i.mono hN,a⟩
theorem HInv.bytes (h:HInv mode m N)(hc:c<6)(d:ByteArray):HInv mode (m.set c {m.get c with bytes:=(m.get c).bytes++d}) (N+d.size):=by
 obtain⟨P,i,a⟩:=h;rw[a.get c];exact⟨_,i.bytes hc d,a.turn (by rw[i.ok.n6];exact hc) rfl⟩
theorem HInv.cutB (h:HInv mode m N)(hc:c<6){b:ByteArray}(hb:b.size<=(m.get c).bytes.size):HInv mode (m.setB c b) N:=by
 obtain⟨P,i,a⟩:=h;have hc':c<P.cl.length:=by rw[i.ok.n6];exact hc
 unfold Mach.setB;rw[a.get c]at hb ⊢;obtain⟨H,al⟩:=i.al;exact⟨_,⟨i.ok.bytes hc b,⟨_,al.turn (x:={P.get c with bytes:=b}) hc' rfl⟩,i.bnd.turn (x:={P.get c with bytes:=b}) hc' (by unfold gN;simp only;omega) rfl rfl rfl⟩,a.turn hc' rfl⟩
theorem HInv.pull (h:HInv mode m N)(hc:c<6){k:UInt8}{t:ByteArray}{j:Nat}(hp:Proofs.YtpbaobmegomfpabGreatDoor.pull (m.get c).bytes=some (k,t,j)):
  HInv mode (m.set c {m.get c with bytes:=(m.get c).bytes.extract j (m.get c).bytes.size,wait:=(m.get c).wait++[fK k t]}) N:=by
 obtain⟨P,i,a⟩:=h;rw[a.get c]at hp ⊢;exact⟨_,i.pull hc hp,a.turn (by rw[i.ok.n6];exact hc) rfl⟩
theorem HInv.act (h:HInv mode m N){a:Act}(ha:dZ a=0):HInv mode (m.act bC mode a) (N+1000):=by
 obtain⟨P,i,al⟩:=h;exact⟨_,i.act ha,al.act i.ok ha⟩
end
def kD (k:UInt8)(t:ByteArray):Ask:=if dI t=0 then⟨⟨aU (aK t),aK (cutB t),cutB (cutB t)⟩,decide (k=81)⟩else⟨Req.none_,false⟩
theorem cAv (k:UInt8)(t:ByteArray):(kD k t).req=fK k t:=by
 unfold kD fK
 by_cases h:dI t=0
 ·by_cases hk:k=81
  ·rw[if_pos h,if_pos ⟨hk,h⟩];unfold Ask.req;simp[hk]
  ·rw[if_pos h,if_neg (fun e=>hk e.1)];unfold Ask.req;simp[hk]
 ·rw[if_neg h,if_neg (fun e=>h e.2)];rfl
theorem cAw (k:UInt8)(t:ByteArray)(h:(kD k t).ok=true):(kD k t).r.ok:=by
 unfold kD at h ⊢
 by_cases hr:dI t=0
 ·rw[if_pos hr];exact(vZ hr).1
 ·rw[if_neg hr]at h;cases h
theorem cAx (k:UInt8)(t:ByteArray):(kD k t).ok=(decide (k=81)&&decide (dI t=0)):=by
 unfold kD
 by_cases hr:dI t=0
 ·rw[if_pos hr];simp[hr]
 ·rw[if_neg hr];simp[hr]
theorem cAy (k:UInt8)(t:ByteArray)(w:World):
  Calls Tryz.prog 31 #[.string t] w fun e w'=>e= .returned (.tuple #[.agg #[.int .i64 (kD k t).r.k,.string (kD k t).r.key,.string (kD k t).r.val],.int .i64 (dI t)])/\Below w.heap.size w w':=by
 have h:=xAt t.size t (aI _);unfold kD
 by_cases hr:dI t=0
 ·rw[if_pos hr,hr];exact h.ok hr w
 ·rw[if_neg hr];exact h.no hr w
theorem cAz (s:ByteArray)(w:World)(hs:s.size<=maxLen):Calls Tryz.prog 29 #[.string s] w fun e w'=>e= .returned (kC s)/\Below w.heap.size w w':=by
 unfold kC pull
 by_cases h2:2<=s.size
 ·rw[dif_pos h2]
  by_cases h:2+s[1].toNat<=s.size
  ·rw[if_pos h];refine(cAb s w hs h2 h).mono ?_;rintro e w' ⟨rfl,n,rfl⟩;exact⟨rfl,aZ (aD _ _) n⟩
  ·rw[if_neg h];refine(cAd s w hs h2 (by omega)).mono ?_;rintro e w' ⟨rfl,rfl⟩;exact⟨rfl,aD _ _⟩
 ·rw[dif_neg h2];refine(cAc s w (by omega)).mono ?_;rintro e w' ⟨rfl,rfl⟩;exact⟨rfl,aD _ _⟩
section
variable {w:World}{base H A S:Nat}{f g:Nat->Value}{G:Nat->Option Nat}{mode:Int}{m:Mach Wd}{q:Nat->List Ask}{ow:List Int}{N:Nat}
theorem HMem.setBy (h:HMem 0 w base H A S f g G mode m q ow){c:Nat}(hc:c<6)(hcl:m.cl.length=6)(b:ByteArray):
  HMem 0 (w.setCell ⟨A,c*4,none⟩ (.string b)) base H A S f (aL g (c*4) (.string b)) G mode (m.setB c b) q ow:=by
 have hcl':c<m.cl.length:=by omega
 refine h.cellA (m':=m.setB c b) _ _ (fun k _ _ _=>by omega) rfl (fun _ _ _ _=>rfl) (fun d hd=>?_) (fun d hd=>?_) (fun d hd=>by rw[aP (by omega)];exact h.sent d hd)
 ·rw[oE hcl']
  by_cases e:c=d
  ·subst e;rw[dQ,if_pos rfl]
  ·rw[aP (by omega),if_neg e];exact h.bytes d hd
 ·rw[aP (by omega),uM hcl'];exact h.srv d hd
theorem HRel.setB (h:HRel m q ow){c:Nat}(hcl:c<m.cl.length)(b:ByteArray):HRel (m.setB c b) q ow:=h.same (fun d _=>uL hcl b d) rfl
theorem bA0:(Tryz.prog.info? 100).map (fun i=>(i.zero,i.size,i.bytes))=some (some (.agg #[.int .i64 0,.string ⟨#[]⟩,.string ⟨#[]⟩,.bool false]),4,48):=by kernel_rfl
theorem HMem.waitRun (h:HMem 0 w base H A S f g G mode m q ow){c:Nat}(hc:c<6)(hcl:m.cl.length=6)(hl:(q c).length<=300000){ad:Nat}(a:Ask)(wt:List Req)(hx: ∀j u,(fT a)[j]? =some u->w.cell? ⟨ad,j,none⟩=some u):
  ∃b off cap n w',(Builtin.append_ #[92,92] 92 #[g (c*4+1),.slice (some ⟨ad,0,none⟩) 1 1]).run Tryz.prog w= .ok (.slice (some ⟨b,off,none⟩) n cap) w'/\w'.cell? ⟨A,c*4+1,none⟩=some (g (c*4+1))/\w'.frozen? ⟨A,c*4+1,none⟩=false/\A<w'.heap.size/\
   HMem 0 (w'.setCell ⟨A,c*4+1,none⟩ (.slice (some ⟨b,off,none⟩) n cap)) base H A S f (aL g (c*4+1) (.slice (some ⟨b,off,none⟩) n cap)) (aL G (c+3) (some b)) mode (m.set c {m.get c with wait:=wt}) (aL q c (q c++[a])) ow/\Below base w (w'.setCell ⟨A,c*4+1,none⟩ (.slice (some ⟨b,off,none⟩) n cap))/\w.heap.size<=w'.heap.size/\ ∀x,x<w.heap.size->G (c+3)≠some x->w'.heap[x]? =w.heap[x]? :=by
 obtain⟨i0,hi,hz0,hz1,hz2⟩:=info_parts bA0;have hbH:=h.bH
 obtain ⟨b, off, cap, w', hrun, hs, hg, hb⟩ := (h.waitSl hc).append (P := Tryz.prog) 92 92 i0 _ 48 Tryz.underlying92 hi hz0 hz1 hz2 rfl (by omega) ⟨ad, 0, none⟩ 1 (fT a) rfl (fun j u hu => by rw [Addr.add_lit, cW]; exact hx j u hu) (fun u hu => by
  simp only[fT,List.mem_cons,List.not_mem_nil,or_false]at hu
  rcases hu with rfl | rfl | rfl | rfl <;> rfl) (by unfold maxLen; omega) (by omega)
 have hP':=hg.block A h.a.lt (fun e=>h.ne (i:=c+3) (j:=1) (b:=A) (c:=A) e.symm h.g1 (by omega) rfl);exact⟨b,off,cap,_,w',hrun,(aV (a:=⟨A,c*4+1,none⟩) hP').trans (h.a.cell (j:=c*4+1) (by omega)),(iR (a:=⟨A,c*4+1,none⟩) hP').trans (h.a.frozen _),bD h.a.lt hg.size,h.pushed hc hcl a wt hg hs hb,((aD base w).grown hg hbH.2.2 (fun x hx=>(h.lo _ _ hx).1)).setCell hbH.2.1 _,hg.size,fun x hx hne=>hg.block x hx (fun e=>hne e.symm)⟩
theorem HMem.owned {w1:World}{b off cap:Nat}(h:HMem 0 w base H A S f g G mode m q ow)(x:Int)(hg:w.grownBy w1 (G 9))
  (hs:Sl w1 3 1 (.slice (some ⟨b,off,none⟩) (ow.length+1) cap) (some b) (ow.length+1) ((ow.map fun n=>Value.int .i64 n)++[.int .i64 x])) (hb:G 9=some b\/(w.heap.size<=b/\b<w1.heap.size)):
  HMem 0 (w1.setCell ⟨H,5,none⟩ (.slice (some ⟨b,off,none⟩) (ow.length+1) cap)) base H A S (aL f 5 (.slice (some ⟨b,off,none⟩) (ow.length+1) cap)) g (aL G 9 (some b)) mode m q (ow++[x]):=by
 have h0:=(h.but 9).grown (by omega) h.bH.2.2 hg hb;have h1:=h0.cellH (by omega) (by omega) (.slice (some ⟨b,off,none⟩) (ow.length+1) cap);refine h1.fill ?_ (fun k _ h2 h3=>?_) rfl (fun _ _=>rfl) (fun _ _=>rfl) (fun _ _=>rfl)
 ·have e2:aL G 9 (some b) 9=some b:=by unfold aL;rw[if_pos rfl]
  have e3:hV (aL f 5 (.slice (some ⟨b,off,none⟩) (ow.length+1) cap)) g 9= .slice (some ⟨b,off,none⟩) (ow.length+1) cap:=by unfold hV;rw[if_neg (by omega)];exact dQ
  rw[show hT 9=3 from rfl,show hZ 9=1 from rfl,yD,yF,e2,e3,dR,eN,List.map_append];refine(by simpa using hs:Sl w1 _ 1 _ (some b) (ow.length+1) _).keep fun x hx=>cM w1 H 5 _ x (h0.ne (i:=9) (by rw[e2,hx]) h0.g0 (by omega))
 ·unfold hI
  split
  ·rfl
  ·rfl
theorem HMem.ownRun (h:HMem 0 w base H A S f g G mode m q ow){n:Nat}(hn:ow.length=n)(hl:n<=1000){ad:Nat}(x:Int)(hx:w.cell? ⟨ad,0,none⟩=some (.int .i64 x)):
  ∃b off cap w',(Builtin.append_ #[79,79] 79 #[f 5,.slice (some ⟨ad,0,none⟩) 1 1]).run Tryz.prog w= .ok (.slice (some ⟨b,off,none⟩) (n+1) cap) w'/\w'.cell? ⟨H,5,none⟩=some (f 5)/\w'.frozen? ⟨H,5,none⟩=false/\H<w'.heap.size/\
   HMem 0 (w'.setCell ⟨H,5,none⟩ (.slice (some ⟨b,off,none⟩) (n+1) cap)) base H A S (aL f 5 (.slice (some ⟨b,off,none⟩) (n+1) cap)) g (aL G 9 (some b)) mode m q (ow++[x])/\Below base w (w'.setCell ⟨H,5,none⟩ (.slice (some ⟨b,off,none⟩) (n+1) cap)):=by
 subst hn;obtain⟨i0,hi,hz0,hz1,hz2⟩:=info_parts qX;have hbH:=h.bH
 obtain ⟨b, off, cap, w', hrun, hs, hg, hb⟩ := h.ownSl.append (P := Tryz.prog) 79 79 i0 _ 8 Tryz.underlying79 hi hz0 hz1 hz2 rfl (by omega) ⟨ad, 0, none⟩ 1 [.int .i64 x] rfl (fun j u hu => by
  cases j with
  |zero=>simp at hu;rw[<-hu];exact hx
  | succ j => simp at hu) (fun u hu => by simp at hu; rw [hu]; rfl) (by unfold maxLen; omega) (by omega)
 have hP':=hg.block H h.h.lt (fun e=>h.ne (i:=9) (j:=0) (b:=H) (c:=H) e.symm h.g0 (by omega) rfl);exact⟨b,off,cap,w',hrun,(aV (a:=⟨H,5,none⟩) hP').trans (h.h.cell (j:=5) (by omega)),(iR (a:=⟨H,5,none⟩) hP').trans (h.h.frozen _),bD h.h.lt hg.size,h.owned x hg hs hb,((aD base w).grown hg hbH.2.2 (fun x hx=>(h.lo _ _ hx).1)).setCell hbH.1 _⟩
theorem HMem.busy {X:Nat}(h:HMem X w base H A S f g G mode m q ow)(bs:List Bool):HMem X w base H A S f g G mode {m with busy:=bs} q ow:=
 ⟨h.h,h.a,h.ref,h.g0,h.g1,h.g2,h.lo,h.inj,h.sl,h.md,h.f3,h.f4,h.bytes,h.srv,h.sent⟩
end
def clZ:Cl:=⟨⟨#[]⟩,[],some 0⟩
def jI (k:Nat):Mach Wd:=⟨jO,List.replicate k Cl.new++List.replicate (6-k) clZ,[],[],List.replicate 6 ⟨#[]⟩,[]⟩
theorem bA1 {k:Nat}(h:k<=6):(jI k).cl.length=6:=by unfold jI;simp;omega
theorem bA2 {k:Nat}(h:k<6):(jI k).set k {(jI k).get k with srv:=none}=jI (k+1):=by
 obtain rfl|rfl|rfl|rfl|rfl|rfl:=c6 h<;>rfl
theorem bA3 (n:Nat):{jI 6 with busy:=List.replicate n false}=Mach.start jO n:=rfl
def pV (H A S:Nat):Nat->Option Nat:=fun i=>if i=0 then some H else if i=1 then some A else if i=2 then some S else none
theorem yI {H A S i b:Nat}(h:pV H A S i=some b):(i=0/\b=H)\/(i=1/\b=A)\/(i=2/\b=S):=by
 unfold pV at h
 split at h
 ·rename_i e;injection h with h;exact .inl ⟨e,h.symm⟩
 ·split at h
  ·rename_i e;injection h with h;exact .inr (.inl ⟨e,h.symm⟩)
  ·split at h
   ·rename_i e;injection h with h;exact .inr (.inr ⟨e,h.symm⟩)
   ·cases h
def gZ (j:Nat):Value:=[Value.string ⟨#[]⟩,.slice none 0 0,.int .i64 0,.string ⟨#[]⟩].getD (j%4) (.int .i64 0)
theorem uN (c:Nat):gZ (c*4)= .string ⟨#[]⟩/\gZ (c*4+1)= .slice none 0 0/\gZ (c*4+2)= .int .i64 0/\gZ (c*4+3)= .string ⟨#[]⟩:=by
 unfold gZ;rw[show c*4%4=0 by omega,show(c*4+1)%4=1 by omega,show(c*4+2)%4=2 by omega,show(c*4+3)%4=3 by omega];exact⟨rfl,rfl,rfl,rfl⟩
def uO (mode srv:Int)(A S:Nat)(j:Nat):Value:=[Value.int .i64 mode,.int .i64 srv,.slice none 0 0,.slice (some ⟨S,0,none⟩) 6 6,.slice (some ⟨A,0,none⟩) 6 6,.slice none 0 0,.slice none 0 0,.slice none 0 0].getD j (.int .i64 0)
theorem HMem.start {w:World}{base H A S:Nat}{mode srv:Int}(hH:FRow w H 91 8 (uO mode srv A S))(hA:FRow w A 94 24 gZ)
  (hS:RowTo w S 115 30 (madeCells #[.int .i64 0,.slice none 0 0,.slice none 0 0,.slice none 0 0,.slice none 0 0] 30).toList) (h1:H≠A) (h2:H≠S) (h3:A≠S) (l1:base<=H) (l2:base<=A) (l3:base<=S):
  HMem 0 w base H A S (uO mode srv A S) gZ (pV H A S) mode (jI 0) (fun _=>[]) []:=by
 have hSl:=hS.lt
 have hc: ∀j,j<30->w.cell? ⟨S,j,none⟩=some (if j%5=0 then .int .i64 0 else .slice none 0 0):=fun j hj=>by
  have hl:j<(madeCells #[Value.int .i64 0,.slice none 0 0,.slice none 0 0,.slice none 0 0,.slice none 0 0] 30).toList.length:=by simpa [madeCells] using hj
  rw[hS.cell hl];have h5:j%5<5:=Nat.mod_lt _ (by omega);simp only[madeCells,Array.getElem_toList,Array.getElem_map,Array.getElem_range,List.size_toArray,fC,List.length_nil];obtain e|e|e|e|e:j%5=0\/j%5=1\/j%5=2\/j%5=3\/j%5=4:=by omega
  all_goals (rw[e];rfl)
 have hnil: ∀{X:Nat} {g:Option Nat},∀k,3<=k->k<=11->hV (uO mode srv A S) gZ k= .slice none 0 0:=fun k h3 h11=>by
  unfold hV
  split
  ·exact(uN (k-3)).2.1
  ·obtain rfl|rfl|rfl:k=9\/k=10\/k=11:=by omega
   all_goals rfl
 have hI0: ∀k,hI (jI 0) (fun _=>[]) [] k=[]:=fun k=>by
  unfold hI
  split
  ·rfl
  ·split
   ·rfl
   ·split<;>rfl
 have hg: ∀i,3<=i->pV H A S i=none:=fun i hi=>by unfold pV;rw[if_neg (by omega),if_neg (by omega),if_neg (by omega)]
 have hget: ∀c,c<6->(jI 0).get c=clZ:=fun c hc=>by
  obtain rfl|rfl|rfl|rfl|rfl|rfl:=c6 hc<;>rfl
 refine⟨hH,hA,⟨Lst.none_ _ _,InP.nil_ _ _,hS.front 0,aI _,by show 6*104<=_;omega,fun i hi=>⟨.slice none 0 0,.slice none 0 0,.slice none 0 0,.slice none 0 0,?_⟩⟩,rfl,rfl,rfl,fun i b hi=>?_,fun i j b hi hj=>?_,fun k h3 h11 _=>?_,rfl,rfl,rfl,fun c hc=>?_,fun c hc=>?_,fun c hc=>?_⟩
 ·have hi6:i<6:=hi;show xAy _ _ _ _ _ ((List.replicate 6 Sess.zero)[i]'(by simpa using hi6)) _ _ _ _;rw[List.getElem_replicate];exact⟨⟨by rw[hc _ (by omega),if_pos (by omega)];rfl,by rw[hc _ (by omega),if_neg (by omega)],by rw[hc _ (by omega),if_neg (by omega)],by rw[hc _ (by omega),if_neg (by omega)],by rw[hc _ (by omega),if_neg (by omega)],Lst.none_ _ _,Lst.none_ _ _,Lst.none_ _ _,Lst.none_ _ _⟩,InP.nil_ _ _,InP.nil_ _ _,InP.nil_ _ _,InP.nil_ _ _⟩
 ·have:=hH.lt;have:=hA.lt;rcases yI hi with⟨_,rfl⟩|⟨_,rfl⟩|⟨_,rfl⟩<;>omega
 ·rcases yI hi with⟨a1,a2⟩|⟨a1,a2⟩|⟨a1,a2⟩<;>rcases yI hj with⟨b1,b2⟩|⟨b1,b2⟩|⟨b1,b2⟩<;>omega
 ·rw[hnil (X:=0) (g:=none) k h3 h11,hI0,hg k h3];exact Sl.nil_ _ _ _
 ·rw[(uN c).1,hget c hc];rfl
 ·rw[(uN c).2.2.1,hget c hc];rfl
 ·rw[(uN c).2.2.2];obtain rfl|rfl|rfl|rfl|rfl|rfl:=c6 hc<;>rfl
theorem HRel.start (n:Nat):HRel (Mach.start jO n) (fun _=>[]) (List.replicate n (-1)):=by
 have hget: ∀c,c<6->(Mach.start jO n).get c=Cl.new:=fun c hc=>by
  obtain rfl|rfl|rfl|rfl|rfl|rfl:=c6 hc<;>rfl
 refine⟨fun c hc=>(by rw[hget c hc];rfl),fun c hc a ha=>(by cases ha),(by simp[Mach.start]),fun s hs=>?_⟩;rw[List.length_replicate]at hs;show _ ↔ (List.replicate n false)[s]? =some false;rw[List.getElem_replicate,List.getElem?_replicate,if_pos hs];simp
theorem bA4 (z:Array Value)(n j:Nat)(hj:j<n):(madeCells z n)[j]? =some (z[j%z.size]!):=by
 simp[madeCells,hj]
theorem bA5 {w:World}{t:Nat}{v:Value}{g:Option Nat}{l:List ByteArray}(h:Sl w t 1 v g l.length (l.map Value.string))(hl:l.length<=1000000)(hs: ∀t∈l,t.size<=100000000)(hg: ∀b,g=some b->b<w.heap.size):TLst w w.heap.size v l:=by
 obtain⟨A,c,rfl,hc⟩:=h.shape;refine⟨⟨A,c,rfl,hc⟩,hl,hs,fun hn=>?_⟩;obtain⟨b,off,cap,h1,h2,h3,h4⟩:=h.at hn;refine⟨b,off,cap,h2,hg b h1,fun i hi=>?_⟩;rw[h4 i (by simpa using hi),List.getElem_map]
theorem bA6 (mode srv:Int)(v:Value)(l:List Act)(w:World)(hl:ALst w w.heap.size v l)(hE:eL mode srv l≠0):
  Calls Tryz.prog 8 #[.agg #[.int .i64 mode,.int .i64 srv],v] w fun e w'=>e= .returned (.tuple #[.agg #[.slice none 0 0,.slice none 0 0,.slice none 0 0],.int .i64 (eL mode srv l)])/\Below w.heap.size w w':=by
 have n0:=((aD w.heap.size w).alloc (aI _) (.cells #[.int .i64 mode,.int .i64 srv] 23)).alloc (by simp) (.cells #[.slice none 0 0,.slice none 0 0,.slice none 0 0] 29);have X1:=(RowTo.whole w #[.int .i64 mode,.int .i64 srv] 23).alloc (.cells #[.slice none 0 0,.slice none 0 0,.slice none 0 0] 29);have X2:=RowTo.whole (w.alloc (.cells #[.int .i64 mode,.int .i64 srv] 23)) #[.slice none 0 0,.slice none 0 0,.slice none 0 0] 29;simp only[World.size_alloc]at X2;obtain⟨x0,x1⟩:=bR X1;have HSF:=aA (fun wc=>xAx mode srv wc);obtain⟨Al,cAl,rfl,hcAl⟩:=hl.form;have hby:=hl.bytes;have HL:=aA (hl.step n0);have HX:=aA (aJ X1 X2);have HN0:=aA n0;have hz0:((w.alloc (.cells #[.int .i64 mode,.int .i64 srv] 23)).alloc (.cells #[.slice none 0 0,.slice none 0 0,.slice none 0 0] 29)).heap.size=w.heap.size+1+1:=by simp
 clear hl n0 X1 X2
 by_cases hs:dY mode srv=0
 case neg=>
  have HER:=aA (show eL mode srv l=dY mode srv by unfold eL;rw[if_pos hs]);have t1:(dY mode srv==0)=false:=bJ.2 hs;have t2:(dY mode srv !=0)=true:=eP.2 hs;clear hs hE;generalize dY mode srv=er at*;go_enter Tryz.func8,Tryz.ntmps8;go_wp2_with fail;refine(HSF.out _).mono ?_;rintro e w1 ⟨rfl,hb1⟩;have hX2:=HX.out.2.below hb1 HX.out.2.lt;have hbw:=aR HN0.out hb1 HN0.out.size;clear hb1 HSF HX HN0 x0 x1 hz0;go_wp2_with fail
  go_loopw [6,7] (fun e i wr=>e= .int .i64 er/\i= .int .i64 0/\w1=wr) (fun _ _ _=>0)
  case atStart=>exact⟨rfl,rfl,rfl⟩
  case round=>
   obtain⟨rfl,rfl,rfl⟩:=hrel
   by_cases hlt:0<l.length
   ·have hkI:decide ((0:Int)<(l.length:Int))=true:=cF (by omega);obtain⟨y0,y1,y2⟩:=bA hX2;have z0:=hX2.frozen 0;have z1:=hX2.frozen 1;have z2:=hX2.frozen 2;have hRl:=hX2.lt;have hBf:=((hbw.setCell (p:=⟨w.heap.size+1,0,none⟩) (by show w.heap.size<=w.heap.size+1;omega) (.slice none 0 0)).setCell (p:=⟨w.heap.size+1,1,none⟩) (by show w.heap.size<=w.heap.size+1;omega) (.slice none 0 0)).setCell (p:=⟨w.heap.size+1,2,none⟩) (by show w.heap.size<=w.heap.size+1;omega) (.slice none 0 0);have hRf:=((hX2.put (j:=0) (by simp) (.slice none 0 0)).put (j:=1) (by simp) (.slice none 0 0)).put (j:=2) (by simp) (.slice none 0 0);have HF:=aA (aJ hBf hRf);clear hBf hRf hX2 hbw;go_wp2;obtain⟨hBB,hRow⟩:=HF.out;obtain⟨t0,t1,t2⟩:=bA hRow;generalize((w1.setCell ⟨w.heap.size+1,0,none⟩ (.slice none 0 0)).setCell ⟨w.heap.size+1,1,none⟩ (.slice none 0 0)).setCell ⟨w.heap.size+1,2,none⟩ (.slice none 0 0)=WF at*;refine bE (v:= .tuple #[.agg #[.slice none 0 0,.slice none 0 0,.slice none 0 0],.int .i64 er]) (by simp[results,Tryz.results8,go_sem,t0,t1,t2]) rfl ⟨by rw[HER.out],hBB⟩
   ·have hkI:decide ((0:Int)<(l.length:Int))=false:=aY (by omega);obtain⟨y0,y1,y2⟩:=bA hX2;have z0:=hX2.frozen 0;have z1:=hX2.frozen 1;have z2:=hX2.frozen 2;have hRl:=hX2.lt;have hBf:=((hbw.setCell (p:=⟨w.heap.size+1,0,none⟩) (by show w.heap.size<=w.heap.size+1;omega) (.slice none 0 0)).setCell (p:=⟨w.heap.size+1,1,none⟩) (by show w.heap.size<=w.heap.size+1;omega) (.slice none 0 0)).setCell (p:=⟨w.heap.size+1,2,none⟩) (by show w.heap.size<=w.heap.size+1;omega) (.slice none 0 0);have hRf:=((hX2.put (j:=0) (by simp) (.slice none 0 0)).put (j:=1) (by simp) (.slice none 0 0)).put (j:=2) (by simp) (.slice none 0 0);have HF:=aA (aJ hBf hRf);clear hBf hRf hX2 hbw;go_wp2;obtain⟨hBB,hRow⟩:=HF.out;obtain⟨t0,t1,t2⟩:=bA hRow;generalize((w1.setCell ⟨w.heap.size+1,0,none⟩ (.slice none 0 0)).setCell ⟨w.heap.size+1,1,none⟩ (.slice none 0 0)).setCell ⟨w.heap.size+1,2,none⟩ (.slice none 0 0)=WF at*;refine bE (v:= .tuple #[.agg #[.slice none 0 0,.slice none 0 0,.slice none 0 0],.int .i64 er]) (by simp[results,Tryz.results8,go_sem,t0,t1,t2]) rfl ⟨by rw[HER.out],hBB⟩
 rw[hs]at HSF
 by_cases h3:300<l.length
 ·have t3:decide (300<(l.length:Int))=true:=cF (by omega);have HER:=aA (show eL mode srv l=1 by unfold eL;rw[if_neg (fun h=>h hs),if_pos h3]);clear hs hE h3;go_enter Tryz.func8,Tryz.ntmps8;go_wp2_with fail;refine(HSF.out _).mono ?_;rintro e w1 ⟨rfl,hb1⟩;have hX2:=HX.out.2.below hb1 HX.out.2.lt;have hbw:=aR HN0.out hb1 HN0.out.size;clear hb1 HSF HX HN0 x0 x1 hz0;go_wp2_with fail
  go_loopw [6,7] (fun e i wr=>e= .int .i64 1/\i= .int .i64 0/\w1=wr) (fun _ _ _=>0)
  case atStart=>exact⟨rfl,rfl,rfl⟩
  case round=>
   obtain⟨rfl,rfl,rfl⟩:=hrel
   by_cases hlt:0<l.length
   ·have hkI:decide ((0:Int)<(l.length:Int))=true:=cF (by omega);obtain⟨y0,y1,y2⟩:=bA hX2;have z0:=hX2.frozen 0;have z1:=hX2.frozen 1;have z2:=hX2.frozen 2;have hRl:=hX2.lt;have hBf:=((hbw.setCell (p:=⟨w.heap.size+1,0,none⟩) (by show w.heap.size<=w.heap.size+1;omega) (.slice none 0 0)).setCell (p:=⟨w.heap.size+1,1,none⟩) (by show w.heap.size<=w.heap.size+1;omega) (.slice none 0 0)).setCell (p:=⟨w.heap.size+1,2,none⟩) (by show w.heap.size<=w.heap.size+1;omega) (.slice none 0 0);have hRf:=((hX2.put (j:=0) (by simp) (.slice none 0 0)).put (j:=1) (by simp) (.slice none 0 0)).put (j:=2) (by simp) (.slice none 0 0);have HF:=aA (aJ hBf hRf);clear hBf hRf hX2 hbw;go_wp2;obtain⟨hBB,hRow⟩:=HF.out;obtain⟨t0,t1,t2⟩:=bA hRow;generalize((w1.setCell ⟨w.heap.size+1,0,none⟩ (.slice none 0 0)).setCell ⟨w.heap.size+1,1,none⟩ (.slice none 0 0)).setCell ⟨w.heap.size+1,2,none⟩ (.slice none 0 0)=WF at*;refine bE (v:= .tuple #[.agg #[.slice none 0 0,.slice none 0 0,.slice none 0 0],.int .i64 1]) (by simp[results,Tryz.results8,go_sem,t0,t1,t2]) rfl ⟨by rw[HER.out],hBB⟩
   ·have hkI:decide ((0:Int)<(l.length:Int))=false:=aY (by omega);obtain⟨y0,y1,y2⟩:=bA hX2;have z0:=hX2.frozen 0;have z1:=hX2.frozen 1;have z2:=hX2.frozen 2;have hRl:=hX2.lt;have hBf:=((hbw.setCell (p:=⟨w.heap.size+1,0,none⟩) (by show w.heap.size<=w.heap.size+1;omega) (.slice none 0 0)).setCell (p:=⟨w.heap.size+1,1,none⟩) (by show w.heap.size<=w.heap.size+1;omega) (.slice none 0 0)).setCell (p:=⟨w.heap.size+1,2,none⟩) (by show w.heap.size<=w.heap.size+1;omega) (.slice none 0 0);have hRf:=((hX2.put (j:=0) (by simp) (.slice none 0 0)).put (j:=1) (by simp) (.slice none 0 0)).put (j:=2) (by simp) (.slice none 0 0);have HF:=aA (aJ hBf hRf);clear hBf hRf hX2 hbw;go_wp2;obtain⟨hBB,hRow⟩:=HF.out;obtain⟨t0,t1,t2⟩:=bA hRow;generalize((w1.setCell ⟨w.heap.size+1,0,none⟩ (.slice none 0 0)).setCell ⟨w.heap.size+1,1,none⟩ (.slice none 0 0)).setCell ⟨w.heap.size+1,2,none⟩ (.slice none 0 0)=WF at*;refine bE (v:= .tuple #[.agg #[.slice none 0 0,.slice none 0 0,.slice none 0 0],.int .i64 1]) (by simp[results,Tryz.results8,go_sem,t0,t1,t2]) rfl ⟨by rw[HER.out],hBB⟩
 have t3:decide (300<(l.length:Int))=false:=aY (by omega);have HER:=aA (show eL mode srv l=eA l by unfold eL;rw[if_neg (fun h=>h hs),if_neg h3]);rw[HER.out]at hE;clear hs;go_enter Tryz.func8,Tryz.ntmps8;go_wp2_with fail;refine(HSF.out _).mono ?_;rintro e w1 ⟨rfl,hb1⟩;have hX2:=HX.out.2.below hb1 HX.out.2.lt;have hbw:=aR HN0.out hb1 HN0.out.size;have HX2:=aA (aJ hX2 hbw);have HL1:=aA (HL.out.step hb1);clear hb1 HSF HX HN0 x0 x1 hz0 hX2 hbw HL;go_wp2_with fail
 go_loopw [6,7] (fun e i wr=> ∃(k:Nat) (x:Int),k<=l.length/\i= .int .i64 k/\e= .int .i64 x/\Hid ((x=0/\eA (l.take k)=0\/x≠0/\eA l=x)/\Below w1.heap.size w1 wr)) (fun _ i _=>l.length-(intOf i).toNat)
 case atStart=>exact⟨0,0,by omega,rfl,rfl,Or.inl ⟨rfl,rfl⟩,aD _ _⟩
 case round=>
  obtain⟨k,x,hk,rfl,rfl,hR⟩:=hrel;rcases hR.out.1 with⟨rfl,h0⟩|⟨hx,hE2⟩
  ·by_cases hlt:k<l.length
   ·have bl:=hR.out.2;obtain⟨b,off,rfl,hb,l0,l1,l2⟩:=HL1.out.pt hlt;have d0:=(bl.cell (p:=⟨b,off+k*3,none⟩) hb).trans l0;have d1:=(bl.cell (p:=⟨b,off+k*3+1,none⟩) hb).trans l1;have d2:=(bl.cell (p:=⟨b,off+k*3+2,none⟩) hb).trans l2;have hbw:b<wr.heap.size:=bD hb bl.size;have hkI:(k:Int)<(l.length:Int):=(by omega);have HT:=aA (xAg hlt h0);have HO:=aA (fun h=>xAh hlt h0 h);have HBL:=aA bl;have hae: ∀a:Act,dZ a=if¬(a.kind=1\/a.kind=2)then 3 else if a.c<0\/6<=a.c then 2 else if 1000<a.data.size then 1 else 0:=fun _=>rfl
    rw[hae]at HT HO;generalize l[k]=x at*;obtain⟨kd,cl,da⟩:=x;simp only at d0 d1 d2 HT HO;clear l0 l1 l2 bl hR hae h0 hE
    by_cases h1:kd=1\/kd=2
    case neg=>
     have q1:(decide (1<=kd)&&decide (kd<=2))=false:=(by rw[Bool.and_eq_false_iff,decide_eq_false_iff_not,decide_eq_false_iff_not];omega);rw[if_pos h1]at HO;have HO2:=aA (HO.out (by decide));clear HO HT h1;go_wp2_with fail;refine(jH kd 1 2 _).mono ?_;rw[q1];rintro e w2 ⟨rfl,rfl⟩;go_wp2;go_roundw
     case rel=>exact⟨k+1,3,by omega,by go_num,rfl,Or.inr ⟨by decide,HO2.out⟩,HBL.out⟩
     case measure=>simp[intOf];omega
    have q1:(decide (1<=kd)&&decide (kd<=2))=true:=(by rw[eB,decide_eq_true_eq,decide_eq_true_eq];omega);rw[if_neg (fun h=>h h1)]at HO HT
    by_cases h2:cl<0\/6<=cl
    ·have q2:(decide (0<=cl)&&decide (cl<=5))=false:=(by rw[Bool.and_eq_false_iff,decide_eq_false_iff_not,decide_eq_false_iff_not];omega);rw[if_pos h2]at HO;have HO2:=aA (HO.out (by decide));clear HO HT h1 h2;go_wp2_with fail;refine(jH kd 1 2 _).mono ?_;rw[q1];rintro e w2 ⟨rfl,rfl⟩;go_wp2_with fail;refine(jH cl 0 5 _).mono ?_;rw[q2];rintro e w2 ⟨rfl,rfl⟩;go_wp2;go_roundw
     case rel=>exact⟨k+1,2,by omega,by go_num,rfl,Or.inr ⟨by decide,HO2.out⟩,HBL.out⟩
     case measure=>simp[intOf];omega
    have q2:(decide (0<=cl)&&decide (cl<=5))=true:=(by rw[eB,decide_eq_true_eq,decide_eq_true_eq];omega);rw[if_neg h2]at HO HT
    by_cases h3:1000<da.size
    ·have q3:decide (1000<(da.size:Int))=true:=cF (by omega);rw[if_pos h3]at HO;have HO2:=aA (HO.out (by decide));clear HO HT h1 h2 h3;go_wp2_with fail;refine(jH kd 1 2 _).mono ?_;rw[q1];rintro e w2 ⟨rfl,rfl⟩;go_wp2_with fail;refine(jH cl 0 5 _).mono ?_;rw[q2];rintro e w2 ⟨rfl,rfl⟩;go_wp2;go_roundw
     case rel=>exact⟨k+1,1,by omega,by go_num,rfl,Or.inr ⟨by decide,HO2.out⟩,HBL.out⟩
     case measure=>simp[intOf];omega
    ·have q3:decide (1000<(da.size:Int))=false:=aY (by omega);rw[if_neg h3]at HT;clear HO h1 h2 h3;go_wp2_with fail;refine(jH kd 1 2 _).mono ?_;rw[q1];rintro e w2 ⟨rfl,rfl⟩;go_wp2_with fail;refine(jH cl 0 5 _).mono ?_;rw[q2];rintro e w2 ⟨rfl,rfl⟩;go_wp2;go_roundw
     case rel=>exact⟨k+1,0,by omega,by go_num,rfl,Or.inl ⟨rfl,HT.out⟩,HBL.out⟩
     case measure=>simp[intOf];omega
   ·obtain rfl:k=l.length:=(by omega);rw[List.take_length]at h0;exact absurd h0 hE
  ·have t4:(x==0)=false:=bJ.2 hx;have t5:(x !=0)=true:=eP.2 hx;have hbl:=hR.out.2;have hX2:=HX2.out.1.below hbl HX2.out.1.lt;have hbw:=aR HX2.out.2 hbl HX2.out.2.size;replace HER:=aA (HER.out.trans hE2);clear hR hbl hx hE2 hE
   by_cases hlt:k<l.length
   ·have hkI:decide ((k:Int)<(l.length:Int))=true:=cF (by omega);clear HL1;obtain⟨y0,y1,y2⟩:=bA hX2;have z0:=hX2.frozen 0;have z1:=hX2.frozen 1;have z2:=hX2.frozen 2;have hRl:=hX2.lt;have hBf:=((hbw.setCell (p:=⟨w.heap.size+1,0,none⟩) (by show w.heap.size<=w.heap.size+1;omega) (.slice none 0 0)).setCell (p:=⟨w.heap.size+1,1,none⟩) (by show w.heap.size<=w.heap.size+1;omega) (.slice none 0 0)).setCell (p:=⟨w.heap.size+1,2,none⟩) (by show w.heap.size<=w.heap.size+1;omega) (.slice none 0 0);have hRf:=((hX2.put (j:=0) (by simp) (.slice none 0 0)).put (j:=1) (by simp) (.slice none 0 0)).put (j:=2) (by simp) (.slice none 0 0);have HF:=aA (aJ hBf hRf);clear hBf hRf hX2 hbw;go_wp2;obtain⟨hBB,hRow⟩:=HF.out;obtain⟨t0,t1,t2⟩:=bA hRow;generalize((wr.setCell ⟨w.heap.size+1,0,none⟩ (.slice none 0 0)).setCell ⟨w.heap.size+1,1,none⟩ (.slice none 0 0)).setCell ⟨w.heap.size+1,2,none⟩ (.slice none 0 0)=WF at*;refine bE (v:= .tuple #[.agg #[.slice none 0 0,.slice none 0 0,.slice none 0 0],.int .i64 x]) (by simp[results,Tryz.results8,go_sem,t0,t1,t2]) rfl ⟨by rw[HER.out],hBB⟩
   ·have hkI:decide ((k:Int)<(l.length:Int))=false:=aY (by omega);clear HL1;obtain⟨y0,y1,y2⟩:=bA hX2;have z0:=hX2.frozen 0;have z1:=hX2.frozen 1;have z2:=hX2.frozen 2;have hRl:=hX2.lt;have hBf:=((hbw.setCell (p:=⟨w.heap.size+1,0,none⟩) (by show w.heap.size<=w.heap.size+1;omega) (.slice none 0 0)).setCell (p:=⟨w.heap.size+1,1,none⟩) (by show w.heap.size<=w.heap.size+1;omega) (.slice none 0 0)).setCell (p:=⟨w.heap.size+1,2,none⟩) (by show w.heap.size<=w.heap.size+1;omega) (.slice none 0 0);have hRf:=((hX2.put (j:=0) (by simp) (.slice none 0 0)).put (j:=1) (by simp) (.slice none 0 0)).put (j:=2) (by simp) (.slice none 0 0);have HF:=aA (aJ hBf hRf);clear hBf hRf hX2 hbw;go_wp2;obtain⟨hBB,hRow⟩:=HF.out;obtain⟨t0,t1,t2⟩:=bA hRow;generalize((wr.setCell ⟨w.heap.size+1,0,none⟩ (.slice none 0 0)).setCell ⟨w.heap.size+1,1,none⟩ (.slice none 0 0)).setCell ⟨w.heap.size+1,2,none⟩ (.slice none 0 0)=WF at*;refine bE (v:= .tuple #[.agg #[.slice none 0 0,.slice none 0 0,.slice none 0 0],.int .i64 x]) (by simp[results,Tryz.results8,go_sem,t0,t1,t2]) rfl ⟨by rw[HER.out],hBB⟩
section
variable {W:Wd}{i:Nat}{k:Int}{key val:ByteArray}
theorem bA7 {C:Wd×cU->Prop}{s:Sess}(hi:i<W.ss.length)(he:W.ss[i]=s)(hs:nN s)(h1:1<=k)(h2:k<=11)
  (c1:s.st=2->k≠2->k≠3->C (W,cY jU)) (c2:k=1->s.st=0->C (⟨W.rows,W.ss.set i {s with st:=1,sav:=s.set}⟩,dX)) (c3:k=1->s.st≠2->s.st≠0->C (W,cY kG))
  (c4:k=2\/k=3->s.st=0->C (W,cY iP)) (c5:k=2->s.st=1->C (⟨cL W.rows s.wr,W.ss.set i {s with st:=0,sav:=[],wr:=[]}⟩,dX))
  (c6:k=2\/k=3->s.st≠0-> ¬(k=2/\s.st=1)->C (⟨W.rows,W.ss.set i {s with st:=0,set:=s.sav,sav:=[],wr:=[]}⟩,dX))
  (c7:k=4->s.st=0->C (⟨W.rows,W.ss.set i {s with set:=[],prep:=[]}⟩,dX)) (c8:k=4->s.st≠2->s.st≠0->C (W,cY kH)) (c9:k=5->s.st≠2->C (W,cY lB))
  (c10:k=6->s.st≠2->C (W,eT (aX s.set key))) (c11:k=7->s.st≠2-> ∀v,aX s.wr key=some v->C (W,eT (some v))) (c12:k=7->s.st≠2->aX s.wr key=none->C (W,eT (aX W.rows key)))
  (c13:k=9->s.st≠2->(∃v,aX s.set key=some v)\/(aX s.set key=none/\s.set.length<6)->C (⟨W.rows,W.ss.set i {s with set:=bI s.set key val}⟩,dX)) (c14:k=9->s.st≠2->aX s.set key=none->6<=s.set.length->C (W,cY eQ))
  (c15:k=11->s.st≠2->(∃v,aX s.prep key=some v)\/(aX s.prep key=none/\s.prep.length<6)->C (⟨W.rows,W.ss.set i {s with prep:=bI s.prep key val}⟩,dX)) (c16:k=11->s.st≠2->aX s.prep key=none->6<=s.prep.length->C (W,cY eQ))
  (c17:k=10->s.st≠2->eI W.ss i key=true->C (W,cY kJ)) (c18:k=10->s.st≠2->eI W.ss i key=false->aX (aW W) key=none->100<=(aW W).length->C (W,cY eQ))
  (c19:k=10->s.st=1->eI W.ss i key=false->(∃v,aX (aW W) key=some v)\/(aX (aW W) key=none/\(aW W).length<100)->C (⟨W.rows,W.ss.set i {s with wr:=bI s.wr key val}⟩,dX))
  (c20:k=10->s.st=0->eI W.ss i key=false->(∃v,aX (aW W) key=some v)\/(aX (aW W) key=none/\(aW W).length<100)->C (⟨bI W.rows key val,W.ss.set i s⟩,dX))
  (c21:k=8->s.st≠2->aX s.prep key=none->C (W,cY kI)) (c22:k=8->s.st≠2-> ∀t,aX s.prep key=some t->C (did1 W i (aU (aK t)) (aK (cutB t)) (cutB (cutB t)))):C (didM W i k key val):=by
 have C1:=aA c1;have C2:=aA c2;have C3:=aA c3;have C4:=aA c4;have C5:=aA c5;have C6:=aA c6;have C7:=aA c7;have C8:=aA c8;have C9:=aA c9;have C10:=aA c10;have C11:=aA c11;have C12:=aA c12;have C13:=aA c13;have C14:=aA c14;have C15:=aA c15;have C16:=aA c16;have C17:=aA c17;have C18:=aA c18;have C19:=aA c19;have C20:=aA c20;have C21:=aA c21;have C22:=aA c22;clear c21 c22 c1 c2 c3 c4 c5 c6 c7 c8 c9 c10 c11 c12 c13 c14 c15 c16 c17 c18 c19 c20;have hlo:=hs.lo;have hhi:=hs.hi;have hself:W.ss.set i s=W.ss:=by rw[<-he];exact List.set_getElem_self _
 have room: ∀(l:PL) (n:Nat),((∃v,aX l key=some v)\/(aX l key=none/\l.length<n))\/(aX l key=none/\n<=l.length):=fun l n=>by
  cases h:aX l key with
  |some v=>exact .inl (.inl ⟨v,rfl⟩)
  |none=>
   rcases Nat.lt_or_ge l.length n with h'|h'
   ·exact .inl (.inr ⟨rfl,h'⟩)
   ·exact .inr ⟨rfl,h'⟩
 have yes: ∀(l:PL) (n:Nat),((∃v,aX l key=some v)\/(aX l key=none/\l.length<n))-> ¬(aM l key=false/\n<=l.length):=fun l n h=>by
  rintro⟨h1,h2⟩;unfold aM at h1;rcases h with⟨v,hv⟩|⟨_,h⟩
  ·rw[hv]at h1;cases h1
  ·omega
 have nope: ∀(l:PL) (n:Nat),aX l key=none->n<=l.length->(aM l key=false/\n<=l.length):=fun l n h1 h2=>⟨by unfold aM;rw[h1];rfl,h2⟩
 unfold didM
 by_cases h8:k=8
 ·rw[if_pos h8];simp only[fY hi,he]
  split
  ·exact C1.out (by assumption) (by omega) (by omega)
  ·cases ha:aX s.prep key with
   |none=>exact C21.out h8 (by assumption) ha
   |some t=>exact C22.out h8 (by assumption) t ha
 rw[if_neg h8];unfold did1;simp only[fY hi,he]
 by_cases hf:s.st=2/\ ¬(k=2\/k=3)
 ·rw[if_pos hf];exact C1.out hf.1 (by omega) (by omega)
 rw[if_neg hf];obtain rfl|rfl|rfl|rfl|rfl|rfl|rfl|rfl|rfl|rfl:k=1\/k=2\/k=3\/k=4\/k=5\/k=6\/k=7\/k=9\/k=10\/k=11:=by omega
 ·rw[if_pos rfl];split
  ·exact C2.out rfl (by assumption)
  ·exact C3.out rfl (by omega) (by assumption)
 ·rw[if_neg (by decide),if_pos (by decide)];split
  ·exact C4.out (.inl rfl) (by assumption)
  ·split
   ·rename_i h;exact C5.out rfl h.2
   ·exact C6.out (.inl rfl) (by assumption) (by assumption)
 ·rw[if_neg (by decide),if_pos (by decide)];split
  ·exact C4.out (.inr rfl) (by assumption)
  ·rw[if_neg (fun h=>absurd h.1 (by decide))];exact C6.out (.inr rfl) (by assumption) (fun h=>absurd h.1 (by decide))
 ·rw[if_neg (by decide),if_neg (by decide),if_pos rfl];split
  ·exact C7.out rfl (by assumption)
  ·exact C8.out rfl (by omega) (by assumption)
 ·simp only[show((5:Int)=1)=False by decide,show((5:Int)=2)=False by decide,show((5:Int)=3)=False by decide,show((5:Int)=4)=False by decide,show((5:Int)=6)=False by decide,show((5:Int)=7)=False by decide,show((5:Int)=9)=False by decide,show((5:Int)=10)=False by decide,show((5:Int)=11)=False by decide,or_self,if_false];exact C9.out rfl (by omega)
 ·rw[if_neg (by decide),if_neg (by decide),if_neg (by decide),if_pos rfl];exact C10.out rfl (by omega)
 ·rw[if_neg (by decide),if_neg (by decide),if_neg (by decide),if_neg (by decide),if_pos rfl]
  cases ha:aX s.wr key with
  |some v=>exact C11.out rfl (by omega) v ha
  |none=>exact C12.out rfl (by omega) ha
 ·rw[if_neg (by decide),if_neg (by decide),if_neg (by decide),if_neg (by decide),if_neg (by decide),if_pos rfl];rcases room s.set 6 with h|h
  ·rw[if_neg (yes _ _ h)];exact C13.out rfl (by omega) h
  ·rw[if_pos (nope _ _ h.1 h.2)];exact C14.out rfl (by omega) h.1 h.2
 ·rw[if_neg (by decide),if_neg (by decide),if_neg (by decide),if_neg (by decide),if_neg (by decide),if_neg (by decide),if_pos rfl]
  cases hh:eI W.ss i key with
  |true=>rw[if_pos rfl];exact C17.out rfl (by omega) hh
  |false=>
   rw[if_neg (by decide)];rcases room (aW W) 100 with h|h
   ·rw[if_neg (yes _ _ h)]
    split
    ·exact C19.out rfl (by assumption) hh h
    ·have:=C20.out rfl (by omega) hh h;rwa [hself]at this
   ·rw[if_pos (nope _ _ h.1 h.2)];exact C18.out rfl (by omega) hh h.1 h.2
 ·rw[if_neg (by decide),if_neg (by decide),if_neg (by decide),if_neg (by decide),if_neg (by decide),if_neg (by decide),if_neg (by decide),if_pos rfl];rcases room s.prep 6 with h|h
  ·rw[if_neg (yes _ _ h)];exact C15.out rfl (by omega) h
  ·rw[if_pos (nope _ _ h.1 h.2)];exact C16.out rfl (by omega) h.1 h.2
end
theorem yJ {W:Wd}(h:bX W):(aW W).length*32<=140737488351232/\ ∀p∈aW W,p.1.size<=140737488351232/\p.2.size<=140737488351232:=by
 have key: ∀(l out:PL),(∀p∈out,p.1.size<=60/\p.2.size<=60)->(∀p∈l,p.1.size<=60)-> ∀p∈iN out l,p.1.size<=60/\p.2.size<=60:=by
  intro l
  induction l with
  |nil=>intro out h1 _;exact h1
  |cons q l ih=>
   intro out h1 h2;refine ih (bI out q.1 ⟨#[]⟩) (fun p hp=>?_) (fun p hp=>h2 p (iZ _ hp));rcases mP hp with rfl|hp
   ·exact⟨h2 q gJ,by show 0<=60;omega⟩
   ·exact h1 p hp
 have sz:=dN h;refine⟨by have:=h.all;omega,fun p hp=>?_⟩
 have := key (W.ss.flatMap (fun (s : Sess) => s.wr)) W.rows (fun p hp => by have := sz.rows.2 p hp; omega) (fun p hp => by
  obtain⟨s,hs,hp⟩:=List.mem_flatMap.1 hp;obtain⟨k,hk,rfl⟩:=List.getElem_of_mem hs;have:=(sz.li k 3 hk (by omega)).2 p hp
  omega) p hp
 omega
theorem bA8 (l R:PL):(cL R l).length<=R.length+l.length:=by
 induction l generalizing R with
 |nil=>simp[cL]
 |cons p l ih=>
  have:=ih (bI R p.1 p.2);have h2:=kY R p.1 p.2;have e:cL R (p::l)=cL (bI R p.1 p.2) l:=rfl;rw[e,fC];omega
theorem bA9 {R l:PL}{j:Nat}(h:j<l.length):cL R (l.take (j+1))=bI (cL R (l.take j)) l[j].1 l[j].2:=by
 rw[gO h];unfold cL;rw[List.foldl_append];rfl
theorem bAa {R l:PL}(hR:Sz60 R)(hl:Sz60 l)(j:Nat):(cL R (l.take j)).length*32<=140737488351232/\ ∀p∈cL R (l.take j),p.1.size<=140737488351232/\p.2.size<=140737488351232:=by
 refine⟨?_,fun p hp=>?_⟩
 ·have h1:=bA8 (l.take j) R;have h2:=hR.1;have h3:=hl.1;rw[gK]at h1;omega
 ·rcases Go.Proofs.YtpbaobmegomfpabGreatDoor.plusF_mem hp with h|h
  ·have:=hR.2 p h;omega
  ·have:=hl.2 p (List.mem_of_mem_take h);omega
structure bAb (Q:Nat->Prop)(w wr:World)(S cap:Nat)(W:Wd)(s:Sess)(key val:ByteArray)(v1 v2 v3 v4:Value)(j:Nat):Prop where
 ex: ∃A c,DidAt w wr (.slice A (cL W.rows (s.wr.take j)).length c) (.slice (some ⟨S,0,none⟩) W.ss.length cap) 2 key val s.st v1 v2 v3 v4/\Lst wr wr.heap.size (.slice A (cL W.rows (s.wr.take j)).length c) (cL W.rows (s.wr.take j))/\InP (nH Q w S) (.slice A (cL W.rows (s.wr.take j)).length c) (cL W.rows (s.wr.take j))
end Go.Proofs.YtpbaobmegomfpabGreatDoor
